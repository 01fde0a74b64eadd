import Derived.Test.YtnbdpcpgckfeeaaGreatDoorF9zz
import Derived.Test.YtnbdpcpgckfeeaaGreatDoorH1zz
namespace Go.Ev
open Go
section
variable{P:Program}{N:Nat}
theorem run_getLoop{w:World}{l:Nat}{r:Loop}(h:w.heap[l]? =some (.loop r)):(Instr.getLoop l).run P w= .ok r w:=by
 simp[Instr.getLoop,getObj,Sem.run,h]
theorem newO_pair{s s1:St}{o:Ob}{l:Nat}(h:newO s o (fun l s=>some (l,s))=some (l,s1)):s.nx<s.nx+1∧l=s.nx∧s1= .mk (s.hp.set o s.nx) (s.nx+1) s.gr:=by
 obtain⟨h1,h2⟩:=newO_some h
 cases h2
 exact⟨h1,rfl,rfl⟩
theorem endLoop_ok{E:En}{s s':St}{w:World}(h:Rel N E s w){l:Nat}{a a':Ac}{e:Ex}(hx:endLoop l a s= .ok e a' s'):
  a'=a∧∃jump w',(Instr.endLoop (E.ι l)).run P w= .ok jump w'∧Stp N E s w E s' w'∧((e= .normal∧jump=none)∨(∃id,e= .exit id∧jump=some (.exit id))∨(e= .ret∧jump=some .ret)):=by
 obtain⟨hp,nx,gr⟩:=s
 unfold endLoop at hx
 simp only at hx
 split at hx
 case h_2=>cases hx
 rename_i st pd fn tmps ps asx bd df n tm hl
 obtain⟨lp',h1,L⟩:=(h.ob l _ hl).2
 have hnc:∀c t f,Obj.loop lp'≠ .cells c t f:=fun _ _ _ e=>by cases e
 have main:st≠ .busy→leftO pd a (setO hp nx gr l (.loop ⟨.exhausted,pd,fn,tmps,ps,asx,bd,df⟩ n tm))= .ok e a' s'→a'=a∧∃jump w',(Instr.endLoop (E.ι l)).run P w= .ok jump w'∧Stp N E (.mk hp nx gr) w E s' w'∧((e= .normal∧jump=none)∨(∃id,e= .exit id∧jump=some (.exit id))∨(e= .ret∧jump=some .ret)):=by
  intro hst hx
  unfold leftO at hx
  split at hx
  ·cases hx
  ·rename_i s1 hs1
   have e1:=setO_some hs1
   subst e1
   have S:Stp N E (.mk hp nx gr) w E (.mk (hp.set (.loop ⟨.exhausted,pd,fn,tmps,ps,asx,bd,df⟩ n tm) l) nx gr) (World.row w (E.ι l) (.loop {lp' with state:=.exhausted})):=
    stp_setob h hl trivial rfl trivial rfl fun w' hw'=>⟨_,hw',⟨rfl,L.pending,L.fn,L.params,L.assign,L.body,L.lt,L.defers,L.size,L.tmps⟩⟩
   have hrun:(Instr.endLoop (E.ι l)).run P w= .ok pd (World.row w (E.ι l) (.loop {lp' with state:=.exhausted})):=by
    have hb:(lp'.state==LoopState.busy)=false:=by rw [L.state];cases st<;>first|rfl|exact absurd rfl hst
    simp only[Instr.endLoop,Sem.run_bind,run_getLoop h1,Result.andThen_ok,hb,Bool.false_eq_true,if_false,run_setObj h1 hnc,Sem.run_pure,L.pending]
   unfold leftBy at hx
   split at hx
   ·cases hx;exact⟨rfl,_,_,hrun,S,.inl ⟨rfl,rfl⟩⟩
   ·cases hx;exact⟨rfl,_,_,hrun,S,.inr (.inl ⟨_,rfl,rfl⟩)⟩
   ·cases hx;exact⟨rfl,_,_,hrun,S,.inr (.inr ⟨rfl,rfl⟩)⟩
   ·cases hx
 cases st with
 |busy=>cases hx
 |ready=>exact main (fun e=>by cases e) hx
 |done=>exact main (fun e=>by cases e) hx
 |exhausted=>exact main (fun e=>by cases e) hx
theorem rangeIn_ok{rec:Rec}(R:RecOk N P rec){fn:FuncId}{f:Operand}{ps:Array Tmp}{asx bd:Code}{E:En}{s s':St}{w w0:World}{a a':Ac}{act act0:Act}{e:Ex}(h:Rel N E s w)(ha:AcR E a act){d:Nat}(hd:d<E.nx)
  (hx:rangeIn P rec fn f ps asx bd d a s= .ok e a' s') {b:Frame} {k:List Item} {cs:List Frame} (hf:b.fn=fn) {mark:List Deferred} (hact:act={act0 with defers:=mark++act0.defers})
  (he:(Instr.enterLoop b.fn act0.tmps ps asx bd b.roundOf).run P w0= .ok (w.heap.size,mark) {w with heap:=w.heap.push (.loop {state:=.ready,pending:=none,fn:=b.fn,tmps:=act0.tmps,params:=ps,assign:=asx,body:=bd,defers:=E.ι d})}):
  ∃E' act' w',Stp N E s w E' s' w'∧AcR E' a' act'∧Left P (lone (b.atR act0 (.code (.rangeFunc f ps asx bd)::k)) cs w0) b k cs act' w' e:=by
 obtain⟨n,tm,df⟩:=a
 unfold rangeIn at hx
 simp only at hx
 split at hx
 case h_1=>cases hx
 rename_i l s1 hn
 obtain⟨h1,rfl,rfl⟩:=newO_pair hn
 obtain⟨hsz,hn6⟩:=ha.size n tm df rfl
 have htm:=ha.tmps n tm df rfl
 have hta:act.tmps=act0.tmps:=by rw [hact]
 have X:=En.push_ext E w.heap.size 0 0
 have S1:Stp N E s w (E.push w.heap.size 0 0) (.mk (s.hp.set (.loop ⟨.ready,none,fn, #[],ps,asx,bd,d⟩ n tm) s.nx) (s.nx+1) s.gr) {w with heap:=w.heap.push (.loop {state:=.ready,pending:=none,fn:=b.fn,tmps:=act0.tmps,params:=ps,assign:=asx,body:=bd,defers:=E.ι d})}:=by
  refine stp_new h h1 rfl trivial rfl rfl rfl rfl ⟨{state:=.ready,pending:=none,fn:=b.fn,tmps:=act0.tmps,params:=ps,assign:=asx,body:=bd,defers:=E.ι d},by rw [En.push_ι];simp,⟨rfl,rfl,hf,rfl,rfl,rfl,Nat.lt_succ_of_lt hd,?_,?_,?_⟩⟩
  ·rw [X.ι d hd]
  ·rw [←hta];exact hsz
  ·rw [←hta];exact htm.ext X
 have hfv:=opd_sound h htm f
 unfold rangeF at hx
 split at hx
 case h_2=>cases hx
 rename_i g x0 y0 hfo
 rw [hfo]at hfv
 obtain⟨x',y',ef,hx0,hy0⟩:=hfv.func_inv
 unfold rangeK at hx
 split at hx
 case h_2=>cases hx
 rename_i g2 args s2 hcv
 obtain⟨rfl,e2,kc⟩:=run_callFunc hcv
 cases e2
 split at hx
 case h_1=>cases hx
 rename_i v s3 hrec
 have hyl:VR (E.push w.heap.size 0 0) (.func (.yield s.nx) #[] #[]) (.func (.yield w.heap.size) #[] #[]):=by
  have:=VR.yld (E:=E.push w.heap.size 0 0) E.nx [] [] [] [] (Nat.lt_succ_self _) .nil .nil
  rw [En.push_ι]at this
  rw [h.nx]
  exact this
 rw [appO_eq]at hrec
 have hargs:VRs (E.push w.heap.size 0 0) (x0.toList++(.func (.yield s.nx) #[] #[]::y0.toList)) (x'++(.func (.yield w.heap.size) #[] #[]::y')):=(hx0.ext X).append (.cons _ _ _ _ hyl (hy0.ext X))
 obtain⟨E2,w2,v',fr,z1,z2,z3,z4,z5,z6,z7,fd,z8,z9⟩:=R.call S1.rel hargs hrec (b.atR act (.inRangeFunc w.heap.size::k)::cs)
 obtain⟨rfl,jump,w3,q1,q2,q3⟩:=endLoop_ok (P:=P) z1.rel hx
 refine⟨E2,act,w3,(S1.trans z1).trans q2,(ha.ext S1.ext).ext z1.ext,?_⟩
 have hιl:E2.ι s.nx=w.heap.size:=by
  rw [z1.ext.ι s.nx (by rw [h.nx];exact Nat.lt_succ_self _),h.nx,En.push_ι]
 rw [hιl]at q1
 have st1:step P (lone (b.atR act0 (.code (.rangeFunc f ps asx bd)::k)) cs w0)= .next (lone (Frame.enter P g ⟨x'++(.func (.yield w.heap.size) #[] #[]::y')⟩ .normal) (b.atR act (.inRangeFunc w.heap.size::k)::cs) {w with heap:=w.heap.push (.loop {state:=.ready,pending:=none,fn:=b.fn,tmps:=act0.tmps,params:=ps,assign:=asx,body:=bd,defers:=E.ι d})}):=by
  rw [hact]
  have ef0:act0.eval f= .func (.func g) ⟨x'⟩ ⟨y'⟩:=by
   have:act.eval f=act0.eval f:=by rw [hact];cases f<;>rfl
   rw [←this];exact ef
  refine stepR_rangeFunc (w₁':={w with heap:=w.heap.push (.loop {state:=.ready,pending:=none,fn:=b.fn,tmps:=act0.tmps,params:=ps,assign:=asx,body:=bd,defers:=E.ι d})}) he (d:=⟨.fn (.func g) ⟨y'⟩,⟨x'⟩++ #[.func (.yield w.heap.size) #[] #[]]⟩) ?_ ?_
  ·simp only[resolve,ef0,Deferred.ofValue,Sem.run_pure]
   simp[Act.eval]
  ·simp only[invoke,kc]
   congr 2
   apply Array.ext'
   simp
 have st2:=step_left (c:=b.atR act (.inRangeFunc w.heap.size::k)) (cs:=cs) z4 z5 z6 z7 z8 z9
 rw [finish_atR_inRangeFunc]at st2
 have st3:=stepR_endRangeFunc (b:=b) (a:=act) (k:=k) (cs:=cs) q1
 have all:Steps P (lone (b.atR act0 (.code (.rangeFunc f ps asx bd)::k)) cs w0) (lone (b.atR act ((jump.map Item.code).toList++k)) cs w3):=.head st1 (z3.trans (.head st2 (.one st3)))
 rcases q3 with⟨rfl,rfl⟩|⟨id,rfl,rfl⟩|⟨rfl,rfl⟩
 ·exact all
 ·exact⟨k,rfl,all⟩
 ·exact⟨k,all⟩
theorem range_ok{rec:Rec}(R:RecOk N P rec){fn:FuncId}{rd:Option Nat}(f:Operand)(ps:Array Tmp)(asx bd:Code):CodeOk N P fn rd (.rangeFunc f ps asx bd) (fun a s=>rangeC P rec fn rd f ps asx bd a s):=by
 intro E s s' w a a' act e h ha hh b k cs hb hf hra
 replace hh:rangeC P rec fn rd f ps asx bd a s= .ok e a' s':=hh
 obtain⟨hp,nx,gr⟩:=s
 obtain⟨n,tm,df⟩:=a
 cases rd with
 |some l=>
  unfold rangeC at hh
  simp only at hh
  split at hh
  case h_2=>cases hh
  rename_i lp n2 tm2 hl
  obtain⟨hlt,hro⟩:=hra l rfl
  obtain⟨lp',h1,L⟩:=(h.ob l _ hl).2
  refine rangeIn_ok R h ha L.lt hh hf (mark:=[]) (by cases act;rfl) ?_
  simp only[Instr.enterLoop,hro,Sem.run_bind,run_getLoop h1,Result.andThen_ok,Sem.run_pure,run_newObj,L.defers]
 |none=>
  unfold rangeC at hh
  simp only at hh
  split at hh
  case h_2=>cases hh
  rename_i r s1 hn
  obtain⟨h1,rfl,rfl⟩:=newO_pair hn
  have X:=En.push_ext E w.heap.size 0 0
  have S1:Stp N E (.mk hp r gr) w (E.push w.heap.size 0 0) (.mk ((St.mk hp r gr).hp.set (.dfr (some [])) (St.mk hp r gr).nx) ((St.mk hp r gr).nx+1) (St.mk hp r gr).gr) {w with heap:=w.heap.push (.deferred (some []))}:=
   stp_new h h1 rfl trivial rfl rfl rfl rfl ⟨some [],by rw [En.push_ι];simp,.some _ _ .nil⟩
  have hro:b.roundOf=none:=hb.1 rfl
  have hnx:(St.mk hp r gr).nx=E.nx:=h.nx
  have hιr:(E.push w.heap.size 0 0).ι E.nx=w.heap.size:=En.push_ι _ _ _ _
  have hd:(St.mk hp r gr).nx<(E.push w.heap.size 0 0).nx:=by rw [hnx];exact Nat.lt_succ_self _
  have ha2:AcR (E.push w.heap.size 0 0) (.mk n tm (⟨.collected (St.mk hp r gr).nx, #[]⟩::df)) {act with defers:=[⟨.collected w.heap.size, #[]⟩]++act.defers}:=by
   refine .mk' (ha.size n tm df rfl).1 (ha.size n tm df rfl).2 ((ha.tmps n tm df rfl).ext X) (.cons _ _ _ _ ?_ ((ha.defers n tm df rfl).ext X))
   have:=DfR.col (E:=E.push w.heap.size 0 0) (St.mk hp r gr).nx hd
   rw [hnx,hιr]at this
   rw [hnx]
   exact this
  obtain⟨E2,act2,w2,z1,z2,z3⟩:=rangeIn_ok R S1.rel ha2 hd hh (b:=b) (k:=k) (cs:=cs) (w0:=w) (act0:=act) hf (mark:=[⟨.collected w.heap.size, #[]⟩]) rfl (by
   simp only[Instr.enterLoop,hro,Sem.run_bind,Sem.run_pure,run_newObj,Result.andThen_ok]
   rw [hnx,hιr])
  exact⟨E2,act2,w2,S1.trans z1,z2,z3⟩
theorem code_ok{rec:Rec}(R:RecOk N P rec)(D:DrawOk N P rec)(fn:FuncId)(rd:Option Nat):∀c:Code,CodeOk N P fn rd c (code P rec fn rd c):=by
 intro c
 induction c with
 |skip=>intro E s s' w a a' act e h ha hh b k cs hb hf hra;cases hh;exact⟨E,act,w,.refl h,ha,.one stepR_skip⟩
 |region id ops dr=>exact region_ok R D id ops dr
 |seq x y ihx ihy=>exact code_seq ihx ihy
 |cond c x y ihx ihy=>exact code_cond ihx ihy
 |block id x ih=>exact code_block ih
 |loop x ih=>exact code_loop ih 4611686018427387904
 |rangeFunc f ps asx bd _ _=>exact range_ok R f ps asx bd
 |exit id=>intro E s s' w a a' act e h ha hh b k cs hb hf hra;cases hh;exact⟨E,act,w,.refl h,ha,k,rfl,.refl _ _⟩
 |scope x ih=>exact code_scope ih
 |label l=>intro E s s' w a a' act e h ha hh b k cs hb hf hra;cases hh;exact⟨E,act,w,.refl h,ha,.one stepR_label⟩
 |goto l=>intro E s s' w a a' act e h ha hh;cases hh
 |ret=>intro E s s' w a a' act e h ha hh b k cs hb hf hra;cases hh;exact⟨E,act,w,.refl h,ha,k,.refl _ _⟩
 |refuse why=>intro E s s' w a a' act e h ha hh;cases hh
end
end Go.Ev
namespace Go.Ev
open Go
def Sp.kd:Sp→Kd| .mk k _ _ _=>k
def Sp.ix:Sp→Nat| .mk _ i _ _=>i
def Sp.op:Sp→Oper| .mk _ _ o _=>o
def Sp.ms:Sp→Nat| .mk _ _ _ m=>m
theorem isActs_iff{k:Kd}:isActs k=true↔k= .acts:=by cases k<;>simp[isActs]
theorem masks_keep:∀(os:List Oper) (acc:List Nat),∃l,masks os acc=acc++l∧l.length=os.length
 |[],acc=>⟨[],by simp[masks],rfl⟩
 |o::os,acc=>by
  obtain⟨l,h1,h2⟩:=masks_keep os (acc++[o.after.toList.foldl (fun m e=>cond (Region.binds .any e) (Nat.lor (Nat.lor m (Nat.pow 2 e.on)) (acc.getD e.on 0)) m) 0])
  exact⟨_::l,by rw [masks,h1,List.append_assoc];rfl,by simp[h2]⟩
theorem fold_bit(acc:List Nat)(k:Nat):∀(es:List Edge) (m:Nat),Nat.testBit (es.foldl (fun m e=>cond (Region.binds .any e) (Nat.lor (Nat.lor m (Nat.pow 2 e.on)) (acc.getD e.on 0)) m) m) k=true→
  Nat.testBit m k=true∨∃e∈es,Region.binds .any e=true∧(k=e.on∨Nat.testBit (acc.getD e.on 0) k=true)
 |[],m,h=>.inl h
 |e::es,m,h=>by
  rcases fold_bit acc k es _ h with h1|⟨e',h1,h2⟩
  ·replace h1:Nat.testBit (cond (Region.binds .any e) (Nat.lor (Nat.lor m (Nat.pow 2 e.on)) (acc.getD e.on 0)) m) k=true:=h1
   cases hb:Region.binds .any e with
   |false=>rw [hb]at h1;exact .inl h1
   |true=>
    rw [hb]at h1
    have h1':Nat.testBit ((m|||2^e.on)|||acc.getD e.on 0) k=true:=h1
    rw [Nat.testBit_or,Nat.testBit_or,Nat.testBit_two_pow]at h1'
    simp only[Bool.or_eq_true,decide_eq_true_eq]at h1'
    rcases h1' with(h3|h3)|h3
    ·exact .inl h3
    ·exact .inr ⟨e,List.mem_cons_self,hb,.inl h3.symm⟩
    ·exact .inr ⟨e,List.mem_cons_self,hb,.inr h3⟩
  ·exact .inr ⟨e',List.mem_cons_of_mem _ h1,h2⟩
theorem masks_bit:∀(os:List Oper) (acc:List Nat) (j:Nat) (o:Oper) (k:Nat),os[j]? =some o→Nat.testBit ((masks os acc).getD (acc.length+j) 0) k=true→
  ∃e∈o.after.toList,Region.binds .any e=true∧(k=e.on∨Nat.testBit ((masks os acc).getD e.on 0) k=true)
 |[],_,_,_,_,h,_=>by simp at h
 |o::os,acc,0,o',k,h,hb=>by
  simp at h
  subst h
  obtain⟨l,h1,h2⟩:=masks_keep os (acc++[o.after.toList.foldl (fun m e=>cond (Region.binds .any e) (Nat.lor (Nat.lor m (Nat.pow 2 e.on)) (acc.getD e.on 0)) m) 0])
  have hm:masks (o::os) acc=acc++([o.after.toList.foldl (fun m e=>cond (Region.binds .any e) (Nat.lor (Nat.lor m (Nat.pow 2 e.on)) (acc.getD e.on 0)) m) 0]++l):=by
   rw [masks,h1,List.append_assoc]
  rw [hm]at hb ⊢
  have hg:(acc++([o.after.toList.foldl (fun m e=>cond (Region.binds .any e) (Nat.lor (Nat.lor m (Nat.pow 2 e.on)) (acc.getD e.on 0)) m) 0]++l)).getD (acc.length+0) 0=o.after.toList.foldl (fun m e=>cond (Region.binds .any e) (Nat.lor (Nat.lor m (Nat.pow 2 e.on)) (acc.getD e.on 0)) m) 0:=by
   simp[List.getD_eq_getElem?_getD]
  rw [hg]at hb
  rcases fold_bit acc k _ _ hb with h3|⟨e,h3,h4,h5⟩
  ·simp at h3
  ·refine⟨e,h3,h4,?_⟩
   rcases h5 with h5|h5
   ·exact .inl h5
   ·refine .inr ?_
    have hlt:e.on<acc.length:=by
     rcases Nat.lt_or_ge e.on acc.length with h|h
     ·exact h
     ·rw [List.getD_eq_getElem?_getD,List.getElem?_eq_none h]at h5;simp at h5
    rw [List.getD_eq_getElem?_getD,List.getElem?_append_left hlt,←List.getD_eq_getElem?_getD]
    exact h5
 |o::os,acc,j+1,o',k,h,hb=>by
  have h':os[j]? =some o':=by simpa using h
  rw [masks]at hb ⊢
  refine masks_bit os _ j o' k h' ?_
  rw [List.length_append,List.length_singleton,show acc.length+1+j=acc.length+(j+1)by omega]
  exact hb
theorem resolve_spec{P:Program}{ops:List Oper}{ms:List Nat}:∀{is:List Nat} {l:List Sp},resolveP P ops ms is=some l→∀x∈l,ops[x.ix]? =some x.op∧x.kd=kindOf P x.op.op∧x.ms=ms.getD x.ix 0
 |[],l,h,x,hx=>by cases h;cases hx
 |i::is,l,h,x,hx=>by
  unfold resolveP at h
  split at h
  ·rename_i o l' ho hl
   cases h
   rcases List.mem_cons.1 hx with rfl|hx
   ·exact⟨ho,rfl,rfl⟩
   ·exact resolve_spec hl x hx
  ·cases h
theorem dstOk_spec{ops:List Oper}:∀{os:List Oper} {i:Nat},dstOk ops os i=true→∀(j:Nat) (o:Oper) (t:Tmp),os[j]? =some o→o.dst=some t→kOf t ops 0=some (i+j)
 |[],i,_,j,o,t,h,_=>by simp at h
 |o::os,i,h,j,o',t,hj,ht=>by
  unfold dstOk at h
  cases j with
  |zero=>
   simp at hj
   subst hj
   rw [ht]at h
   obtain⟨h1,_⟩:=Bool.and_eq_true_iff.1 h
   unfold isI at h1
   split at h1
   ·rename_i k hk
    rw [hk,Nat.eq_of_beq_eq_true h1];rfl
   ·cases h1
  |succ j=>
   have hj':os[j]? =some o':=by simpa using hj
   have h2:dstOk ops os (i+1)=true:=by
    split at h
    ·exact(Bool.and_eq_true_iff.1 h).2
    ·exact h
   rw [dstOk_spec h2 j o' t hj' ht]
   congr 1;omega
theorem backOk_spec:∀{os:List Oper} {i:Nat},backOk os i=true→∀(j:Nat) (o:Oper) (e:Edge),os[j]? =some o→e∈o.after.toList→Region.binds .any e=true→e.on<i+j
 |[],i,_,j,o,e,h,_,_=>by simp at h
 |o::os,i,h,j,o',e,hj,he,hb=>by
  unfold backOk at h
  obtain⟨h1,h2⟩:=Bool.and_eq_true_iff.1 h
  cases j with
  |zero=>
   simp at hj
   subst hj
   have:=List.all_eq_true.1 h1 e he
   rw [hb]at this
   exact Nat.le_of_ble_eq_true this
  |succ j=>
   have:=backOk_spec h2 j o' e (by simpa using hj) he hb
   omega
def bits(l:List Sp)(d:Nat):Nat:=l.foldl (fun(d:Nat) (x:Sp)=>Nat.lor d (2^x.ix)) d
def sinceA(l:List Sp)(d:Nat):Nat:=l.foldl (fun(d:Nat) (x:Sp)=>cond (isActs x.kd) (2^x.ix) (Nat.lor d (2^x.ix))) d
theorem bits_iff(k:Nat):∀(l:List Sp) (d:Nat),Nat.testBit (bits l d) k=true↔Nat.testBit d k=true∨∃x∈l,x.ix=k
 |[],d=>by simp[bits]
 |x::l,d=>by
  show Nat.testBit (bits l (Nat.lor d (2^x.ix))) k=true↔_
  rw [bits_iff k l]
  have:Nat.testBit (Nat.lor d (2^x.ix)) k=(Nat.testBit d k||decide (x.ix=k)):=by
   show Nat.testBit (d|||2^x.ix) k=_
   rw [Nat.testBit_or,Nat.testBit_two_pow]
  rw [this]
  simp only[Bool.or_eq_true,decide_eq_true_eq,List.mem_cons,exists_eq_or_imp,or_assoc]
theorem since_bit(k:Nat):∀(l:List Sp) (d:Nat),Nat.testBit d k=true→(∀x∈l,x.kd≠ .acts)→Nat.testBit (sinceA l d) k=true
 |[],d,h,_=>h
 |x::l,d,h,hn=>by
  have hx:isActs x.kd=false:=by
   cases e:isActs x.kd with
   |false=>rfl
   |true=>exact absurd (isActs_iff.1 e) (hn x List.mem_cons_self)
  show Nat.testBit (sinceA l (cond (isActs x.kd) (2^x.ix) (Nat.lor d (2^x.ix)))) k=true
  refine since_bit k l _ ?_ fun y hy=>hn y (List.mem_cons_of_mem _ hy)
  rw [hx]
  show Nat.testBit (d|||2^x.ix) k=true
  rw [Nat.testBit_or,h];rfl
theorem chk_at{ops:List Oper}{ms:List Nat}{n:Nat}:∀(l1:List Sp) {l2:List Sp} {d e:Nat},chk ops ms n (l1++l2) d e=true→chk ops ms n l2 (bits l1 d) (sinceA l1 e)=true
 |[],_,_,_,h=>h
 | .mk k i o m::l1,l2,d,e,h=>by
  have h':=(Bool.and_eq_true_iff.1 (show (_&&chk ops ms n (l1++l2) (Nat.lor d (2^i)) (cond (isActs k) (2^i) (Nat.lor e (2^i))))=true from h)).2
  exact chk_at l1 h'
structure PlanOk(P:Program)(A:Array Oper)(ms:List Nat)(l:List Sp):Prop where
 op:∀(m:Nat) (x:Sp),l[m]? =some x→A[x.ix]? =some x.op∧x.kd=kindOf P x.op.op∧x.ms=ms.getD x.ix 0
 inj:∀(m m':Nat) (x x':Sp),l[m]? =some x→l[m']? =some x'→x.ix=x'.ix→m=m'
 all:∀i,i<A.size→∃(m:Nat) (x:Sp),l[m]? =some x∧x.ix=i
 since:∀(m m':Nat) (x x':Sp),l[m]? =some x→x.kd= .acts→m'<m→l[m']? =some x'→(∀(m2:Nat) (x2:Sp),m'<m2→m2<m→l[m2]? =some x2→x2.kd≠ .acts)→Nat.testBit x.ms x'.ix=true
 look:∀(m m':Nat) (x x':Sp) (t:Tmp),l[m]? =some x→l[m']? =some x'→t∈looks A.toList x.op→x'.op.dst=some t→(m'<m→Nat.testBit x.ms x'.ix=true)∧(m<m'→Nat.testBit x'.ms x.ix=true)
 dst:∀(i i':Nat) (o o':Oper) (t:Tmp),A[i]? =some o→A[i']? =some o'→o.dst=some t→o'.dst=some t→i=i'
 back:∀(i:Nat) (o:Oper) (e:Edge),A[i]? =some o→e∈o.after.toList→Region.binds .any e=true→e.on<i
 anc:∀(i k:Nat) (o:Oper),A[i]? =some o→Nat.testBit (ms.getD i 0) k=true→∃e∈o.after.toList,Region.binds .any e=true∧(k=e.on∨Nat.testBit (ms.getD e.on 0) k=true)
theorem split_at{α:Type}{l:List α}{m:Nat}{x:α}(h:l[m]? =some x):∃r,l=l.take m++x::r∧∀j,r[j]? =l[m+1+j]?:=by
 have hm:=getElem?_lt h
 refine⟨l.drop (m+1),?_,fun j=>by rw [List.getElem?_drop]⟩
 have e:x=l[m]:=by rw [List.getElem?_eq_getElem hm]at h;exact(Option.some.inj h).symm
 rw [e,List.getElem_cons_drop,List.take_append_drop]
theorem planOf_ok{P:Program}{A:Array Oper}{l:List Sp}(h:planOf P A.toList=some l):PlanOk P A (masks A.toList []) l:=by
 unfold planOf planWith at h
 split at h
 case h_2=>cases h
 rename_i l' hr
 cases hc:(dstOk A.toList A.toList 0&&backOk A.toList 0&&chk A.toList (masks A.toList []) A.toList.length l' 0 0)with
 |false=>rw [hc]at h;cases h
 |true=>
 rw [hc]at h
 have e0:l'=l:=by simpa using h
 subst e0
 obtain⟨hc1,hc3⟩:=Bool.and_eq_true_iff.1 hc
 obtain⟨hc1,hc2⟩:=Bool.and_eq_true_iff.1 hc1
 have opAt:∀(m:Nat) (x:Sp),l'[m]? =some x→A[x.ix]? =some x.op∧x.kd=kindOf P x.op.op∧x.ms=(masks A.toList []).getD x.ix 0:=by
  intro m x hx
  have:=resolve_spec hr x (List.mem_of_getElem? hx)
  rw [Array.getElem?_toList]at this
  exact this
 have told:∀(m:Nat) (x:Sp),l'[m]? =some x→Nat.testBit (bits (l'.take m) 0) x.ix=false∧(x.kd= .acts→Nat.land (sinceA (l'.take m) 0) x.ms=sinceA (l'.take m) 0)∧
   ∀t∈looks A.toList x.op,lookOk A.toList (masks A.toList []) x.ix x.ms (bits (l'.take m) 0) t=true:=by
  intro m x hx
  obtain⟨r,e,_⟩:=split_at hx
  rw [e]at hc3
  have hq:=chk_at _ hc3
  obtain⟨k,i,o,mm⟩:=x
  obtain⟨hq,_⟩:=Bool.and_eq_true_iff.1 (show (_&&chk A.toList (masks A.toList []) A.toList.length r _ _)=true from hq)
  obtain⟨hq,q3⟩:=Bool.and_eq_true_iff.1 hq
  obtain⟨q1,q2⟩:=Bool.and_eq_true_iff.1 hq
  refine⟨by simpa[Sp.ix]using q1,fun hk=>?_,fun t ht=>List.all_eq_true.1 q3 t ht⟩
  have hk':isActs k=true:=isActs_iff.2 hk
  rw [hk']at q2
  have q4:Nat.beq (Nat.land (sinceA (l'.take m) 0) mm) (sinceA (l'.take m) 0)=true:=by simpa using q2
  exact Nat.eq_of_beq_eq_true q4
 have mem_take:∀{m m':Nat} {x':Sp},m'<m→l'[m']? =some x'→x'∈l'.take m:=by
  intro m m' x' hlt hx'
  exact List.mem_of_getElem? (i:=m') (by rw [List.getElem?_take,if_pos hlt];exact hx')
 have inj:∀(m m':Nat) (x x':Sp),l'[m]? =some x→l'[m']? =some x'→x.ix=x'.ix→¬m'<m:=by
  intro m m' x x' hx hx' he hlt
  have h1:=(told m x hx).1
  have h2:Nat.testBit (bits (l'.take m) 0) x.ix=true:=(bits_iff _ _ _).2 (.inr ⟨x',mem_take hlt hx',he.symm⟩)
  rw [h1]at h2;cases h2
 have dstAt':∀(i:Nat) (o:Oper) (t:Tmp),A[i]? =some o→o.dst=some t→kOf t A.toList 0=some i:=by
  intro i o t hi ht
  have:=dstOk_spec hc1 i o t (by rw [Array.getElem?_toList];exact hi) ht
  rwa[Nat.zero_add]at this
 refine⟨opAt,fun m m' x x' hx hx' he=>?_,fun i hi=>?_,fun m m' x x' hx hk hlt hx' hno=>?_,fun m m' x x' t hx hx' ht hd=>?_,fun i i' o o' t hi hi' ht ht'=>?_,fun i o e hi he hb=>?_,fun i k o hi hb=>?_⟩
 ·have h1:=inj m m' x x' hx hx' he
  have h2:=inj m' m x' x hx' hx he.symm
  omega
 ·have hq:=chk_at l' (l2:=[]) (by rw [List.append_nil];exact hc3)
  have hq':((List.range A.toList.length).all fun i=>Nat.testBit (bits l' 0) i)=true:=hq
  have:=List.all_eq_true.1 hq' i (by rw [List.mem_range,Array.length_toList];exact hi)
  rcases(bits_iff _ _ _).1 this with h1|⟨x,h1,h2⟩
  ·simp at h1
  ·obtain⟨m,hm⟩:=List.getElem?_of_mem h1
   exact⟨m,x,hm,h2⟩
 ·have h1:=(told m x hx).2.1 hk
  have h2:Nat.testBit (sinceA (l'.take m) 0) x'.ix=true:=by
   obtain⟨r,e,hr2⟩:=split_at (show (l'.take m)[m']? =some x' by rw [List.getElem?_take,if_pos hlt];exact hx')
   rw [e]
   show Nat.testBit (List.foldl _ _ _) _=true
   rw [List.foldl_append]
   show Nat.testBit (sinceA r (cond (isActs x'.kd) (2^x'.ix) (Nat.lor _ (2^x'.ix)))) x'.ix=true
   refine since_bit _ r _ ?_ fun y hy=>?_
   ·cases isActs x'.kd with
    |true=>show Nat.testBit (2^x'.ix) x'.ix=true;rw [Nat.testBit_two_pow];simp
    |false=>
     show Nat.testBit (_|||2^x'.ix) x'.ix=true
     rw [Nat.testBit_or,Nat.testBit_two_pow];simp
   ·obtain⟨j,hj⟩:=List.getElem?_of_mem hy
    rw [hr2 j,List.getElem?_take]at hj
    split at hj
    ·rename_i hj2
     exact hno (m'+1+j) y (by omega) hj2 hj
    ·cases hj
  have h3:Nat.testBit (sinceA (l'.take m) 0&&&x.ms) x'.ix=true:=by
   rw [show sinceA (l'.take m) 0&&&x.ms=sinceA (l'.take m) 0 from h1];exact h2
  rw [Nat.testBit_and,h2]at h3
  simpa using h3
 ·have hk:=dstAt' x'.ix x'.op t (opAt m' x' hx').1 hd
  have h1:=(told m x hx).2.2 t ht
  unfold lookOk at h1
  rw [hk]at h1
  simp only at h1
  refine⟨fun hlt=>?_,fun hlt=>?_⟩
  ·have h2:Nat.testBit (bits (l'.take m) 0) x'.ix=true:=(bits_iff _ _ _).2 (.inr ⟨x',mem_take hlt hx',rfl⟩)
   rw [h2]at h1
   exact h1
  ·have h2:Nat.testBit (bits (l'.take m) 0) x'.ix=false:=by
    cases e:Nat.testBit (bits (l'.take m) 0) x'.ix with
    |false=>rfl
    |true=>
     rcases(bits_iff _ _ _).1 e with h3|⟨y,h3,h4⟩
     ·simp at h3
     ·obtain⟨j,hj⟩:=List.getElem?_of_mem h3
      rw [List.getElem?_take]at hj
      split at hj
      ·exact absurd (show j<m' by omega) (inj m' j x' y hx' hj h4.symm)
      ·cases hj
   rw [h2]at h1
   rcases Bool.or_eq_true_iff.1 h1 with h3|h3
   ·exact absurd hlt (inj m' m x' x hx' hx (Nat.eq_of_beq_eq_true h3))
   ·rw [(opAt m' x' hx').2.2];exact h3
 ·have h1:=dstAt' i o t hi ht
  have h2:=dstAt' i' o' t hi' ht'
  rw [h1]at h2
  exact Option.some.inj h2
 ·have:=backOk_spec hc2 i o e (by rw [Array.getElem?_toList];exact hi) he hb
  omega
 ·have:=masks_bit A.toList [] i o k (by rw [Array.getElem?_toList];exact hi) (by simpa using hb)
  exact this
end Go.Ev
namespace Go.Ev
open Go
def Ac.nn:Ac→Nat| .mk n _ _=>n
def Ac.tm:Ac→Tr Value| .mk _ t _=>t
def Ac.df:Ac→List Deferred| .mk _ _ d=>d
theorem Ac.eta(a:Ac):a= .mk a.nn a.tm a.df:=by cases a;rfl
theorem nxLe_iff{s s':St}:nxLe s s'=true↔s.nx≤s'.nx:=by
 obtain⟨h,n,g⟩:=s
 obtain⟨h',n',g'⟩:=s'
 exact⟨fun h=>Nat.le_of_ble_eq_true h,fun h=>Nat.ble_eq_true_of_le h⟩
structure Run(P:Program)(rec:Rec)(rd:Option Nat)(ops:List Oper)(l:List Sp)(a:Nat→Ac)(s:Nat→St)(pa:Nat→Past):Prop where
 step:∀(m:Nat) (x:Sp),l[m]? =some x→oper P rec rd ops x.op (a m) (s m)= .ok (a (m+1)) (s (m+1))∧(s m).nx≤(s (m+1)).nx
 act:∀(m:Nat) (x:Sp),l[m]? =some x→x.kd= .acts→pa (m+1)=(some x.ix,s (m+1))::pa m
 rd:∀(m:Nat) (x:Sp),l[m]? =some x→x.kd= .reads→stoodO P ops (pa m) x.op x.ms (a m) (a (m+1))=true
 still:∀(m:Nat) (x:Sp),l[m]? =some x→x.kd≠ .acts→pa (m+1)=pa m
theorem walk_run{P:Program}{rec:Rec}{rd:Option Nat}{ops:List Oper}:∀{l:List Sp} {p:Past} {a0 a1:Ac} {s0 s1:St},walk P rec rd ops l p a0 s0= .ok a1 s1→
  ∃a s pa,Run P rec rd ops l a s pa∧a 0=a0∧s 0=s0∧pa 0=p∧a l.length=a1∧s l.length=s1
 |[],p,a0,a1,s0,s1,h=>by
  cases h
  exact⟨fun _=>a0,fun _=>s0,fun _=>p,⟨fun m x hx=>by simp at hx,fun m x hx=>by simp at hx,fun m x hx=>by simp at hx,fun m x hx=>by simp at hx⟩,rfl,rfl,rfl,rfl,rfl⟩
 | .mk k i o mm::l,p,a0,a1,s0,s1,h=>by
  have h':thenO (oper P rec rd ops o a0 s0) (fun a' s'=>cond (nxLe s0 s') (walkK P ops k i o mm p a0 (walk P rec rd ops l) a' s') .no)= .ok a1 s1:=h
  cases ho:oper P rec rd ops o a0 s0 with
  |no=>rw [ho]at h';cases h'
  |ok a2 s2=>
   rw [ho]at h'
   have h2:cond (nxLe s0 s2) (walkK P ops k i o mm p a0 (walk P rec rd ops l) a2 s2) .no= .ok a1 s1:=h'
   cases hn:nxLe s0 s2 with
   |false=>rw [hn]at h2;cases h2
   |true=>
    rw [hn]at h2
    have h3:walkK P ops k i o mm p a0 (walk P rec rd ops l) a2 s2= .ok a1 s1:=h2
    obtain⟨p2,hw,hact,hstill,hrd⟩:∃p2,walk P rec rd ops l p2 a2 s2= .ok a1 s1∧(k= .acts→p2=(some i,s2)::p)∧(k≠ .acts→p2=p)∧(k= .reads→stoodO P ops p o mm a0 a2=true):=by
     unfold walkK at h3
     split at h3
     ·exact⟨_,h3,fun _=>rfl,fun h=>absurd rfl h,fun h=>by cases h⟩
     ·cases hs:stoodO P ops p o mm a0 a2 with
      |false=>rw [hs]at h3;cases h3
      |true=>rw [hs]at h3;exact⟨_,h3,fun h=>by(cases h),fun _=>rfl,fun _=>rfl⟩
     ·rename_i q1 q2
      exact⟨_,h3,fun h=>absurd h q1,fun _=>rfl,fun h=>absurd h q2⟩
    obtain⟨a,s,pa,W,e1,e2,e3,e4,e5⟩:=walk_run hw
    refine⟨fun m=>match m with|0=>a0|m+1=>a m,fun m=>match m with|0=>s0|m+1=>s m,fun m=>match m with|0=>p|m+1=>pa m,⟨fun m x hx=>?_,fun m x hx hk=>?_,fun m x hx hk=>?_,fun m x hx hk=>?_⟩,rfl,rfl,rfl,e4,e5⟩
    ·cases m with
     |zero=>
      simp at hx
      subst hx
      refine⟨?_,?_⟩
      ·show oper P rec rd ops o a0 s0= .ok (a 0) (s 0)
       rw [e1,e2];exact ho
      ·show s0.nx≤(s 0).nx
       rw [e2];exact nxLe_iff.1 hn
     |succ m=>exact W.step m x (by simpa using hx)
    ·cases m with
     |zero=>
      simp at hx
      subst hx
      show pa 0=(some i,s 0)::p
      rw [e3,e2];exact hact hk
     |succ m=>exact W.act m x (by simpa using hx) hk
    ·cases m with
     |zero=>
      simp at hx
      subst hx
      show stoodO P ops p o mm a0 (a 0)=true
      rw [e1];exact hrd hk
     |succ m=>exact W.rd m x (by simpa using hx) hk
    ·cases m with
     |zero=>
      simp at hx
      subst hx
      show pa 0=p
      rw [e3];exact hstill hk
     |succ m=>exact W.still m x (by simpa using hx) hk
section
variable{P:Program}{rec:Rec}{rd:Option Nat}{A:Array Oper}{l:List Sp}{a:Nat→Ac}{s:Nat→St}{pa:Nat→Past}{ms:List Nat}
theorem Run.size(W:Run P rec rd A.toList l a s pa)(hn:(a 0).nn≤4611686018427387904):∀m,m≤l.length→(a m).nn=(a 0).nn
 |0,_=>rfl
 |m+1,h=>by
  have ih:=W.size hn m (by omega)
  have hx:=List.getElem?_eq_getElem (show m<l.length by omega)
  have h1:=(W.step m _ hx).1
  rw [(a m).eta]at h1
  obtain⟨tm',df',e,_⟩:=oper_put (by rw [ih];exact hn) h1
  rw [e]
  exact ih
theorem Run.dst(W:Run P rec rd A.toList l a s pa)(hn:(a 0).nn≤4611686018427387904){m:Nat}{x:Sp}(hx:l[m]? =some x){t:Tmp}(ht:x.op.dst≠some t):(a (m+1)).tm.get t=(a m).tm.get t:=by
 have h1:=(W.step m _ hx).1
 have hm:=getElem?_lt hx
 rw [(a m).eta]at h1
 obtain⟨tm',df',e,h2,_⟩:=oper_put (by rw [W.size hn m (by omega)];exact hn) h1
 rw [e]
 exact h2 t ht
theorem Run.keep(W:Run P rec rd A.toList l a s pa)(hn:(a 0).nn≤4611686018427387904){t:Tmp}{m:Nat}:∀(d:Nat),m+d≤l.length→(∀(j:Nat) (x:Sp),m≤j→j<m+d→l[j]? =some x→x.op.dst≠some t)→(a (m+d)).tm.get t=(a m).tm.get t
 |0,_,_=>rfl
 |d+1,h,hd=>by
  have hx:=List.getElem?_eq_getElem (show m+d<l.length by omega)
  rw [show m+(d+1)=m+d+1 by omega,W.dst hn hx (hd _ _ (by omega) (by omega) hx)]
  exact W.keep hn d (by omega) fun j x h1 h2=>hd j x h1 (by omega)
theorem Run.nx(W:Run P rec rd A.toList l a s pa){m:Nat}:∀(d:Nat),m+d≤l.length→(s m).nx≤(s (m+d)).nx
 |0,_=>Nat.le_refl _
 |d+1,h=>Nat.le_trans (W.nx d (by omega)) (W.step (m+d) _ (List.getElem?_eq_getElem (show m+d<l.length by omega))).2
theorem Run.nx'(W:Run P rec rd A.toList l a s pa){m m':Nat}(h:m≤m')(h':m'≤l.length):(s m).nx≤(s m').nx:=by
 have:=W.nx (m:=m) (m'-m) (by omega)
 rwa[show m+(m'-m)=m' by omega]at this
theorem Run.own(W:Run P rec rd A.toList l a s pa)(K:PlanOk P A ms l)(hn:(a 0).nn≤4611686018427387904){m m':Nat}{x:Sp}(hx:l[m]? =some x){t:Tmp}(ht:x.op.dst=some t)(h1:m<m')(h2:m'≤l.length):(a m').tm.get t=(a l.length).tm.get t:=by
 have key:=W.keep hn (t:=t) (m:=m') (l.length-m') (by omega) fun j y hj hj2 hy hd=>by
  have:=K.inj m j x y hx hy (K.dst _ _ _ _ t (K.op m x hx).1 (K.op j y hy).1 ht hd)
  omega
 rw [show m'+(l.length-m')=l.length by omega]at key
 exact key.symm
theorem Run.old(W:Run P rec rd A.toList l a s pa)(hn:(a 0).nn≤4611686018427387904){m:Nat}{t:Tmp}(h2:m≤l.length)(hd:∀(j:Nat) (x:Sp),j<m→l[j]? =some x→x.op.dst≠some t):(a m).tm.get t=(a 0).tm.get t:=by
 have:=W.keep hn (t:=t) (m:=0) m (by omega) fun j x _ h=>hd j x (by omega)
 rwa[Nat.zero_add]at this
end
end Go.Ev
