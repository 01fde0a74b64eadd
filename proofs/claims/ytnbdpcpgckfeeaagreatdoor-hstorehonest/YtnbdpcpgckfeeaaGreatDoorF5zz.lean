import Derived.Test.YtnbdpcpgckfeeaaGreatDoorF2zz
namespace Go.Ev
open Go
def _root_.Go.Obj.cellsN:Obj→Nat
 | .cells c _ _=>c.size
 |_=>0
structure Mkd(E:En)(o:Ob)(o':Obj)(v v':Nat→Value)(sz:Nat):Prop where
 grp:o.grp=0
 rw:o.rw
 szo:sz=o'.cellsN
 ob:∀(E2:En) (A:Nat) (w2:World),Ext E E2→w2.heap[A]? =some o'→ObR (E2.push A 0 sz) E2.nx w2 o
 vr:∀(E2:En) (A:Nat),Ext E E2→VR (E2.push A 0 sz) (v E2.nx) (v' A)
theorem Mkd.row{E:En}{cs cs':List Value}{c:Array Value}{t:TypeId}{fr:Nat×Nat}{v v':Nat→Value}(hc:VRs E cs cs')(hp:∀(i:Nat) u,cs'[i]? =some u→c[i]? =some u)(ht:Thaw 0 fr c.size)
  (hv:∀(E2:En) (A:Nat),Ext E E2→VR (E2.push A 0 c.size) (v E2.nx) (v' A)):Mkd E (.row cs 0) (.cells c t fr) v v' c.size:=by
 refine⟨rfl,trivial,rfl,fun E2 A w2 X hw=>?_,hv⟩
 refine⟨c,t,fr,by rw [En.push_ι];exact hw,by rw [En.push_sz],ht,?_⟩
 rw [En.push_sh]
 intro i u hu
 obtain⟨u',h1,h2⟩:=hc.get hu
 exact⟨u',by rw [Nat.zero_add];exact hp i u' h1,(h2.ext X).ext (En.push_ext _ _ _ _)⟩
theorem thaw0{g:Nat}(n:Nat):Thaw g (0,0) n:=.inl rfl
theorem vr_pt(E2:En)(A sz:Nat):VR (E2.push A 0 sz) (.pointer (some ⟨E2.nx,0,none⟩)) (.pointer (some ⟨A,0,none⟩)):=by
 have:=VR.ptr (E:=E2.push A 0 sz) E2.nx 0 (Nat.lt_succ_self _)
 rw [En.push_ι,En.push_sh]at this
 exact this
theorem vr_slS(E2:En)(A sz n c:Nat):VR (E2.push A 0 sz) (.slice (some ⟨E2.nx,0,none⟩) n (sure c)) (.slice (some ⟨A,0,none⟩) n c):=by
 have:=VR.slS (E:=E2.push A 0 sz) E2.nx 0 n c (Nat.lt_succ_self _)
 rw [En.push_ι,En.push_sh]at this
 exact this
theorem vr_slM(E2:En)(A sz n c' es:Nat)(hn:n<2^64)(hc:n≤c')(hs:c'*es≤sz):VR (E2.push A 0 sz) (.slice (some ⟨E2.nx,0,none⟩) n (least n es)) (.slice (some ⟨A,0,none⟩) n c'):=by
 have:=VR.slM (E:=E2.push A 0 sz) E2.nx 0 n (least n es) c' (Nat.lt_succ_self _) (least_sure _ _) (by rw [capOf_least _ hn];exact hc) (by rw [esOf_least _ hn,En.push_sh,En.push_sz];omega)
 rw [En.push_ι,En.push_sh]at this
 exact this
section
variable{P:Program}{E:En}
theorem roomFor_some{P:Program}{e:TypeId}{m:Nat}{ti:TypeInfo}(h:roomFor P e m=true)(hti:P.info? e=some ti):(5*m+3072)*ti.bytes≤1125899906842624∧m≤4611686018427387904:=by
 unfold roomFor at h
 rw [hti]at h
 simp only[Bool.and_eq_true]at h
 exact⟨Nat.le_of_ble_eq_true h.1,Nat.le_of_ble_eq_true h.2⟩
theorem newPt_ok{s s':St}{cs:List Value}{x:Nx}(h:newPt s cs= .ok x s'):s.nx<s.nx+1∧x= .val (.pointer (some ⟨s.nx,0,none⟩))∧s'= .mk (s.hp.set (.row cs 0) s.nx) (s.nx+1) s.gr:=by
 unfold newPt at h
 cases e:newO s (.row cs 0) (fun b s=>some (Re.ok (.val (.pointer (some ⟨b,0,none⟩))) s))with
 |none=>rw [e]at h;cases h
 |some r=>
  rw [e]at h
  have hr:r= .ok x s':=h
  obtain⟨h1,h2⟩:=newO_some e
  rw [hr]at h2
  cases h2
  exact⟨h1,rfl,rfl⟩
theorem newSl_ok{s s':St}{cs:List Value}{n c:Nat}{x:Nx}(h:newSl s cs n c= .ok x s'):s.nx<s.nx+1∧x= .val (.slice (some ⟨s.nx,0,none⟩) n c)∧s'= .mk (s.hp.set (.row cs 0) s.nx) (s.nx+1) s.gr:=by
 unfold newSl at h
 cases e:newO s (.row cs 0) (fun b s=>some (okSl b n c s))with
 |none=>rw [e]at h;cases h
 |some r=>
  rw [e]at h
  have hr:r= .ok x s':=h
  obtain⟨h1,h2⟩:=newO_some e
  rw [hr]at h2
  have h3:=Option.some.inj h2
  unfold okSl at h3
  rw [fN_eq]at h3
  cases h3
  exact⟨h1,rfl,rfl⟩
theorem newLs_ok{s s':St}{cs:List Value}{n es:Nat}{x:Nx}(h:newLs s cs n es= .ok x s'):s.nx<s.nx+1∧n<2^64∧x= .val (.slice (some ⟨s.nx,0,none⟩) n (least n es))∧s'= .mk (s.hp.set (.row cs 0) s.nx) (s.nx+1) s.gr:=by
 unfold newLs at h
 cases e:newO s (.row cs 0) (fun b s=>some (okLs b n es s))with
 |none=>rw [e]at h;cases h
 |some r=>
  rw [e]at h
  have hr:r= .ok x s':=h
  obtain⟨h1,h2⟩:=newO_some e
  rw [hr]at h2
  have h3:=Option.some.inj h2
  unfold okLs at h3
  cases hn:Nat.blt n 18446744073709551616 with
  |false=>rw [hn]at h3;cases h3
  |true=>
   rw [hn]at h3
   simp only[cond,okSl,fN_eq]at h3
   cases h3
   exact⟨h1,Nat.le_of_ble_eq_true hn,rfl,rfl⟩
theorem rep_range(z:List Value)(n:Nat)(hz:z.length=n)(hn:0<n):∀k,((List.range (k*n)).map fun i=>(z.toArray)[i%z.toArray.size]!)=(List.replicate k z).flatten:=by
 intro k
 apply List.ext_getElem?
 intro i
 have hl:((List.replicate k z).flatten).length=k*n:=by simp[hz]
 have key:∀k i,i<k*n→((List.replicate k z).flatten)[i]? =z[i%n]?:=by
  intro k
  induction k with
  |zero=>intro i h;omega
  |succ k ih=>
   intro i h
   rw [List.replicate_succ,List.flatten_cons,List.getElem?_append,hz]
   by_cases c:i<n
   ·rw [if_pos c,Nat.mod_eq_of_lt c]
   ·rw [if_neg c]
    have:(k+1)*n=k*n+n:=by rw [Nat.add_mul];omega
    rw [ih (i-n) (by omega)]
    congr 1
    exact(Nat.mod_eq_sub_mod (by omega)).symm
 by_cases c:i<k*n
 ·rw [key k i c]
  have hm:i%n<z.length:=by rw [hz];exact Nat.mod_lt _ hn
  simp[c,hz]
  rw [List.getElem?_eq_getElem hm]
  simp
 ·rw [List.getElem?_eq_none (by simp;omega),List.getElem?_eq_none (by rw [hl];omega)]
theorem range_zero(z:List Value)(n k:Nat)(hz:z.length=n)(h:k*n=0):((Array.range (k*n)).map fun i=>(#[]:Array Value)[i%(#[]:Array Value).size]!)=⟨(List.replicate k z).flatten⟩:=by
 have:(List.replicate k z).flatten=[]:=by
  apply List.eq_nil_of_length_eq_zero
  simp[hz,h]
 rw [this,h]
 simp
theorem range_cells(z:List Value)(n k:Nat)(hz:z.length=n)(h:k*n≠0){c:Array Value}(hc:c.toList=z):((Array.range (k*n)).map fun i=>c[i%c.size]!)=⟨(List.replicate k z).flatten⟩:=by
 have hn:0<n:=Nat.pos_of_ne_zero fun e=>h (by rw [e];simp)
 have hvc:c=z.toArray:=by apply Array.ext';simpa using hc
 rw [←rep_range z n hz hn k,hvc]
 apply Array.ext'
 simp
theorem exec_makes{s s':St}{tm:Tr Value}{ρ:Operand→Value}(o:Oper)(hρ:Seen E tm ρ o.op)(hk:kindOf P o.op= .makes){x:Nx}(hx:exec P o.op tm s= .ok x s'):
  ∃(ob:Ob) (v:Nat→Value),x= .val (v s.nx)∧s.nx<s.nx+1∧s'= .mk (s.hp.set ob s.nx) (s.nx+1) s.gr∧∀w,∃w' o' v' sz,(execOp ρ o).run P w= .ok (.value (v' w.heap.size)) w'∧w'.heap=w.heap.push o'∧
   w'.os=w.os∧w'.tape=w.tape∧w'.output=w.output∧Mkd E ob o' v v' sz:=by
 obtain⟨d0,op,type,pos,aft,guard⟩:=o
 simp only at hk hρ hx
 have hm:∀x,x∈op.operands.toList→VR E (opd tm x) (ρ x):=hρ
 cases op with
 |alloc e=>
  have hx':xAlloc P e s= .ok x s':=hx
  unfold xAlloc at hx'
  split at hx'
  case h_2=>cases hx'
  rename_i z hz
  unfold xBox at hx'
  split at hx'
  case h_2=>cases hx'
  rename_i cs hcs
  obtain⟨h1,h2,h3⟩:=newPt_ok hx'
  obtain⟨v,hv,_,hzv,_⟩:=zeroCs_sound (P:=P) (E:=E) (t:=e) (z:=cs) (by unfold zeroCs;rw [hz];exact hcs)
  refine⟨_,fun b=>.pointer (some ⟨b,0,none⟩),h2,h1,h3,fun w=>⟨{w with heap:=w.heap.push (.cells v.cells e)},.cells v.cells e,fun A=>.pointer (some ⟨A,0,none⟩),v.cells.size,?_,rfl,rfl,rfl,rfl,?_⟩⟩
  ·simp[execOp,Instr.alloc,run_zeroValue w hv,newVar,newRow]
  ·exact Mkd.row hzv (fun i u hu=>by rw [Array.getElem?_toList]at hu;exact hu) (thaw0 _) fun E2 A X=>vr_pt E2 A _
 |box e a=>
  have hx':xBox (cellsL (opd tm a)) s= .ok x s':=hx
  unfold xBox at hx'
  split at hx'
  case h_2=>cases hx'
  rename_i cs hcs
  obtain⟨h1,h2,h3⟩:=newPt_ok hx'
  have hv:=cellsL_sound (hm a (by simp[Op.operands])) hcs
  refine⟨_,fun b=>.pointer (some ⟨b,0,none⟩),h2,h1,h3,fun w=>⟨{w with heap:=w.heap.push (.cells (ρ a).cells e)},.cells (ρ a).cells e,fun A=>.pointer (some ⟨A,0,none⟩),(ρ a).cells.size,?_,rfl,rfl,rfl,rfl,?_⟩⟩
  ·simp[execOp,Instr.box,newVar,newRow]
  ·exact Mkd.row hv (fun i u hu=>by rw [Array.getElem?_toList]at hu;exact hu) (thaw0 _) fun E2 A X=>vr_pt E2 A _
 |buildSlice t len ps=>
  have hx':xBuildSl P t len ps.toList tm s= .ok x s':=hx
  unfold xBuildSl at hx'
  split at hx'
  case h_2=>cases hx'
  rename_i e hu
  split at hx'
  case h_2=>cases hx'
  rename_i n z hs hz
  cases hc:(Nat.beq z.length n&&Nat.ble (Nat.mul len n) 16777216)with
  |false=>rw [hc]at hx';cases hx'
  |true=>
   rw [hc]at hx'
   simp only[Bool.and_eq_true]at hc
   have hzl:=Nat.eq_of_beq_eq_true hc.1
   have hle:len*n≤16777216:=Nat.le_of_ble_eq_true hc.2
   simp only[cond]at hx'
   split at hx'
   case h_2=>cases hx'
   rename_i cs hcs
   obtain⟨h1,h2,h3⟩:=newSl_ok hx'
   obtain⟨v,hv,hvv,hzv,hvz⟩:=zeroCs_sound (E:=E) hz
   rw [repO_eq]at hcs
   obtain⟨r',k1,k2,k3⟩:=fillP_sound ps.toList (fun y hy=>hm y (by simpa[Op.operands]using hy)) _ _ _ (VRs.rep hzv len) hcs
   rw [hvz]at k3 k2
   refine⟨_,fun b=>.slice (some ⟨b,0,none⟩) len (sure len),h2,h1,h3,fun w=>⟨{w with heap:=w.heap.push (.cells ⟨r'⟩ e)},.cells ⟨r'⟩ e,fun A=>.slice (some ⟨A,0,none⟩) len len,r'.length,?_,rfl,rfl,rfl,rfl,?_⟩⟩
   ·have hps:(ps.map fun(i,x)=>(i,ρ x)).toList=ps.toList.map fun x=>(x.1,ρ x.2):=by simp
    have k4:Instr.fill (fun i=>some (i*n,n)) ⟨(List.replicate len z).flatten⟩ (ps.toList.map fun x=>(x.1,ρ x.2))=some ⟨r'⟩:=k3
    simp only[execOp,Instr.buildSlice,Sem.run_bind,run_underlying hu,Result.andThen_ok,run_sizeOf w hs,show ¬(len*n>2^24)by omega,if_false,Sem.run_pure,hps]
    split
    ·rename_i h0
     simp only[Sem.run_bind,Sem.run_pure,Result.andThen_ok,range_zero z n len hzl h0,k4]
     simp[newRow]
    ·rename_i h0
     simp only[Sem.run_bind,Sem.run_pure,Result.andThen_ok,run_zeroValue w hv,range_cells z n len hzl h0 hvz,k4]
     simp[newRow]
   ·exact Mkd.row (c:=⟨r'⟩) k1 (fun i u hu=>by simpa using hu) (thaw0 _) fun E2 A X=>vr_slS E2 A _ len len
 |makeSlice t l c=>
  have hx':xMakeSl P t (opd tm l) (opd tm c) s= .ok x s':=hx
  unfold xMakeSl at hx'
  split at hx'
  case h_2=>cases hx'
  rename_i e ln cn hu hln hcn
  split at hx'
  case h_2=>cases hx'
  rename_i z hz
  cases hc:(Nat.ble ln cn&&roomFor P e cn&&sizedAs P e z)with
  |false=>rw [hc]at hx';cases hx'
  |true=>
   rw [hc]at hx'
   simp only[Bool.and_eq_true]at hc
   have hlc:ln≤cn:=Nat.le_of_ble_eq_true hc.1.1
   have hc6:=hc.1.2
   have hsz:=hc.2
   unfold sizedAs at hsz
   split at hsz
   case h_2=>cases hsz
   rename_i n hs
   simp only[Bool.and_eq_true]at hsz
   have hzl:=Nat.eq_of_beq_eq_true hsz.1.1
   have hn:0<n:=Nat.le_of_ble_eq_true hsz.1.2
   have hby:=hsz.2
   unfold bytesSmall at hby
   split at hby
   case h_2=>cases hby
   rename_i ti hti
   have hcm:cn≤4611686018427387904:=(roomFor_some hc6 hti).2
   obtain⟨h1,h2,h3⟩:=newSl_ok (show newSl s (repO z cn) ln (sure cn)= .ok x s' from hx')
   obtain⟨v,hv,hvv,hzv,hvz⟩:=zeroCs_sound (E:=E) hz
   rw [repO_eq]at h3
   obtain⟨k1,e1⟩:=natOf_some hln
   obtain⟨k2,e2⟩:=natOf_some hcn
   have hl':=hm l (by simp[Op.operands])
   have hc':=hm c (by simp[Op.operands])
   rw [e1]at hl'
   rw [e2]at hc'
   have el:=hl'.int_inv
   have ec:=hc'.int_inv
   have hvc:v.cells=z.toArray:=by apply Array.ext';simpa using hvz
   refine⟨_,fun b=>.slice (some ⟨b,0,none⟩) ln (sure cn),h2,h1,h3,fun w=>⟨{w with heap:=w.heap.push (.cells ⟨(List.replicate cn z).flatten⟩ e)},.cells ⟨(List.replicate cn z).flatten⟩ e,fun A=>.slice (some ⟨A,0,none⟩) ln cn,(List.replicate cn z).flatten.length,?_,rfl,rfl,rfl,rfl,?_⟩⟩
   ·have wl:IntKind.i64.wrap (Int.ofNat ln)=Int.ofNat ln:=wrapN_sound (k:=.i64) (n:=ln) (m:=ln) (by unfold wrapN;rw [show Nat.blt ln 9223372036854775808=true from Nat.ble_eq_true_of_le (by omega)];rfl)
    have wc:IntKind.i64.wrap (Int.ofNat cn)=Int.ofNat cn:=wrapN_sound (k:=.i64) (n:=cn) (m:=cn) (by unfold wrapN;rw [show Nat.blt cn 9223372036854775808=true from Nat.ble_eq_true_of_le (by omega)];rfl)
    have hbc:ti.bytes*cn≤281474976710656:=by
     have:=(roomFor_some hc6 hti).1
     have h3:(4*cn)*ti.bytes≤(5*cn+3072)*ti.bytes:=Nat.mul_le_mul_right _ (by omega)
     rw [Nat.mul_assoc,Nat.mul_comm cn]at h3
     omega
    have hti':(typeInfo e).run P w= .ok ti w:=by simp[typeInfo,hti]
    have l1:¬(Int.ofNat cn<0):=fun h=>by cases h
    have l2:¬((ti.bytes:Int)*Int.ofNat cn>2^48):=by
     intro h
     have h2:((ti.bytes*cn:Nat):Int)>2^48:=by rw [Int.natCast_mul];exact h
     omega
    have l3:¬(Int.ofNat ln<0):=fun h=>by cases h
    have l4:¬(Int.ofNat ln>Int.ofNat cn):=by
     intro h
     have:(cn:Int)<(ln:Int):=h
     omega
    have hlarge:(((decide (Int.ofNat cn<0)||decide ((ti.bytes:Int)*Int.ofNat cn>2^48))||decide (Int.ofNat ln<0))||decide (Int.ofNat ln>Int.ofNat cn))=false:=by
     rw [decide_eq_false l1,decide_eq_false l2,decide_eq_false l3,decide_eq_false l4];rfl
    simp only[execOp,Instr.makeSlice,Sem.run_bind,run_underlying hu,Result.andThen_ok,el,ec,asInt,asIntOf,Sem.run_pure,hti',wl,wc,hlarge,Bool.false_eq_true,if_false,run_askRoom,run_sizeOf w hs,show (Int.ofNat cn).toNat=cn from rfl,show (Int.ofNat ln).toNat=ln from rfl]
    split
    ·rename_i h0
     simp only[Sem.run_bind,Sem.run_pure,Result.andThen_ok,range_zero z n cn hzl h0]
     simp[newRow]
    ·rename_i h0
     simp only[Sem.run_bind,Sem.run_pure,Result.andThen_ok,run_zeroValue w hv,range_cells z n cn hzl h0 hvz]
     simp[newRow]
   ·exact Mkd.row (c:=⟨(List.replicate cn z).flatten⟩) (by have:=VRs.rep hzv cn;rw [hvz]at this;exact this) (fun i u hu=>by simpa using hu) (thaw0 _) fun E2 A X=>vr_slS E2 A _ ln cn
 |makeMap t r=>
  have hx':xMakeMap r s= .ok x s':=hx
  unfold xMakeMap at hx'
  split at hx'
  case h_2=>cases hx'
  cases e:newO s (.map [] 0) (fun b s=>some (Re.ok (.val (.map (some b))) s))with
  |none=>rw [e]at hx';cases hx'
  |some q=>
   rw [e]at hx'
   have hr:q= .ok x s':=hx'
   obtain⟨h1,h2⟩:=newO_some e
   rw [hr]at h2
   cases h2
   refine⟨_,fun b=>.map (some b),rfl,h1,rfl,fun w=>⟨{w with heap:=w.heap.push (.map #[] 0)},.map #[] 0,fun A=>.map (some A),0,?_,rfl,rfl,rfl,rfl,?_⟩⟩
   ·simp[execOp,Instr.makeMap]
   ·refine⟨rfl,trivial,rfl,fun E2 A w2 X hw=>⟨#[],by rw [En.push_ι];exact hw,.nil⟩,fun E2 A X=>?_⟩
    have:=VR.mp (E:=E2.push A 0 0) E2.nx (Nat.lt_succ_self _)
    rw [En.push_ι]at this
    exact this
 |convert src dst a=>
  have ha:=hm a (by simp[Op.operands])
  have hx':xConv P src dst (opd tm a) s= .ok x s':=hx
  have hsd:P.underlying src=some .string∧∃e,P.underlying dst=some (.slice e):=by
   simp only[kindOf]at hk
   split at hk
   ·cases hk
   ·rename_i e hs hd;exact⟨hs,e,hd⟩
   ·cases hk
   ·cases hk
   ·cases hk
  obtain⟨hs,e,hd⟩:=hsd
  unfold xConv at hx'
  split at hx'
  ·rename_i k n hv
   rw [hv]at ha
   exfalso
   have hp:pureRun P (convert src dst (.int k n))=none:=by
    cases hq:pureRun P (convert src dst (.int k n))with
    |none=>rfl
    |some v=>
     have:=pureRun_run hq (default:World)
     simp only[convert,Sem.run_bind,run_underlying hs,run_underlying hd,Result.andThen_ok]at this
     cases this
   have hno:intTo P src dst k n s (P.underlying dst)= .no:=by
    unfold intTo
    rw [hd]
    simp only
    unfold ofPure
    rw [hp]
   rw [hno]at hx'
   cases hx'
  ·rename_i t hv
   rw [hv]at ha
   have e1:=ha.str_inv
   rw [hs,hd]at hx'
   cases hx'
  ·simp only[hs,hd]at hx';cases hx'
  ·simp only[hs,hd]at hx';cases hx'
  ·cases hx'
 |call c=>
  obtain⟨callee,args,ts⟩:=c
  cases callee with
  |builtin b=>cases b with
   |len=>simp only[kindOf]at hk;split at hk<;>cases hk
   |_=>cases hk
  |value f=>cases hk
  |invoke r name=>cases hk
 |_=>cases hk
end
end Go.Ev
namespace Go.Ev
open Go
section
variable{P:Program}{E:En}
theorem cellsFrom_sound{N:Nat}{s:St}{w:World}(h:Rel N E s w){size n:Nat}{y y':Value}{cs:List Value}(hy:VR E y y')(hc:cellsFrom s size n y=some cs):
  ∃cs',VRs E cs cs'∧(Builtin.firstCells size n y').run P w= .ok ⟨cs'⟩ w:=by
 cases y with
 |slice q l c=>
  cases q with
  |none=>
   have hc':cond (Nat.beq n 0) (some []) none=some cs:=hc
   cases en:Nat.beq n 0 with
   |false=>rw [en]at hc';cases hc'
   |true=>
    rw [en]at hc'
    cases hc'
    obtain rfl:=plain_eq 1 _ _ rfl hy
    exact⟨[],.nil,rfl⟩
  |some a=>
   obtain⟨b,off,sp⟩:=a
   cases sp with
   |none=>
    obtain⟨_,c',rfl,_⟩:=hy.sl_inv
    obtain⟨r',k1,k2,k3⟩:=readAt_run (P:=P) h.obs (show readAt s b off (Nat.mul n size)=_ from hc)
    exact⟨r',k1,k3⟩
   |some z=>
    have hc':cond (Nat.beq n 0) (some []) none=some cs:=hc
    cases en:Nat.beq n 0 with
    |false=>rw [en]at hc';cases hc'
    |true=>
     rw [en]at hc'
     cases hc'
     have hn:n=0:=Nat.eq_of_beq_eq_true en
     subst hn
     obtain⟨a',c',rfl,ha⟩:=hy.slice_any
     cases a' with
     |none=>cases ha
     |some a'=>exact⟨[],.nil,by simp[Builtin.firstCells,loadCells,loadCellsFrom]⟩
 |string t=>
  have hc':cond (Nat.beq size 1&&Nat.ble n t.size) (some ((t.extract 0 n).data.toList.map fun b=>Value.int .u8 b.toNat)) none=some cs:=hc
  cases hq:(Nat.beq size 1&&Nat.ble n t.size)with
  |false=>rw [hq]at hc';cases hc'
  |true=>
  rw [hq]at hc'
  cases hc'
  obtain rfl:=hy.str_inv
  refine⟨_,VRs.self (p:=plain 1) (plain_VR E 1) _ (by rw [List.all_map];exact List.all_eq_true.2 fun _ _=>rfl),?_⟩
  simp only[Builtin.firstCells,Sem.run_pure]
  congr 1
  apply Array.ext'
  simp
 |_=>cases hc
theorem lenOfV_sound{y y':Value}{k:Nat}(hy:VR E y y')(h:lenOfV y=some k)(w:World):(Builtin.lenOf y').run P w= .ok k w:=by
 cases y with
 |slice q l c=>cases h;obtain⟨a',c',rfl,_⟩:=hy.slice_any;rfl
 |string t=>cases h;obtain rfl:=hy.str_inv;rfl
 |_=>cases h
inductive ActR(N:Nat)(P:Program)(E:En)(s:St)(w:World)(m:Sem Next):Nx→St→Prop
 |val (v v':Value) (E':En) (s':St) (w':World):Stp N E s w E' s' w'→VR E' v v'→m.run P w= .ok (.value v') w'→ActR N P E s w m (.val v) s'
 |skip (E':En) (s':St) (w':World):Stp N E s w E' s' w'→m.run P w= .ok .skip w'→ActR N P E s w m (.val undef) s'
 |enter (f:FuncId) (args args':List Value):VRs E args args'→m.run P w= .ok (.enter f ⟨args'⟩) w→ActR N P E s w m (.enter f args) s
 |round (l:Nat) (args args':List Value):l<E.nx→VRs E args args'→m.run P w=(Instr.yield (E.ι l) ⟨args'⟩).run P w→ActR N P E s w m (.round l args) s
 |defer (d d':Deferred):DfR E d d'→m.run P w= .ok (.defer d') w→ActR N P E s w m (.defer d) s
 |recover:m.run P w= .ok .recover w→ActR N P E s w m .recover s
theorem ofS_ok{o:Option St}{x:Nx}{s':St}(h:ofS o= .ok x s'):o=some s'∧x= .val undef:=by
 cases o with
 |none=>cases h
 |some s=>cases h;exact⟨rfl,rfl⟩
theorem act_store{N:Nat}{s s':St}{w:World}(h:Rel N E s w){t:TypeId}{a a' b b':Value}{x:Nx}(ha:VR E a a')(hb:VR E b b')(hx:xStore P t a (cellsL b) s= .ok x s'):
  ActR N P E s w (do Instr.storeAt t a' b';pure .skip) x s':=by
 unfold xStore at hx
 split at hx
 case h_2=>cases hx
 rename_i bk off cs hcs
 obtain⟨_,rfl⟩:=ha.ptr_inv
 split at hx
 case h_2=>cases hx
 rename_i n hn
 cases e:Nat.beq cs.length n with
 |false=>rw [e]at hx;cases hx
 |true=>
  rw [e]at hx
  obtain⟨h1,rfl⟩:=ofS_ok (show ofS (writeAt s bk off cs)= .ok x s' from hx)
  have hl:=Nat.eq_of_beq_eq_true e
  have hv:=cellsL_sound hb hcs
  obtain⟨w',k1,k2⟩:=stp_write P h h1 hv
  refine .skip E s' w' k2 ?_
  have hsz:b'.cells.size=n:=by rw [←Array.length_toList,←hv.length];exact hl
  simp only[Instr.storeAt,Instr.sureAddr,storeVar,Sem.run_bind,Sem.run_pure,Result.andThen_ok,run_sizeOf w hn,hsz,ne_eq,not_true_eq_false,if_false,k1]
theorem act_copy{N:Nat}{s s':St}{w:World}(h:Rel N E s w){ts:Array TypeId}{ty t:TypeId}{e:TypeId}{a a' b b':Value}{x:Nx}(h0:ts[0]? =some t)(hu:P.underlying t=some (.slice e))(ha:VR E a a')(hb:VR E b b')
  (hx:copyV P s e a b= .ok x s'):ActR N P E s w (do pure (.value (←Builtin.copy_ ts ty ⟨[a',b']⟩))) x s':=by
 unfold copyV at hx
 split at hx
 case h_2=>cases hx
 rename_i size base n c k hs hk
 rw [fN_eq]at hx
 split at hx
 case h_1=>cases hx
 rename_i new hnew
 obtain⟨new',hv,hrun⟩:=cellsFrom_sound (P:=P) h hb hnew
 have hlen:=lenOfV_sound (P:=P) hb hk w
 obtain⟨q',c',rfl,hq⟩:=ha.slice_any
 have fin:∀w',((match q' with
   |some a=>storeCells a new'
   |none=>pure ()):Sem Unit).run P w= .ok () w'→(do pure (Next.value (←Builtin.copy_ ts ty ⟨[.slice q' n c',b']⟩)):Sem Next).run P w= .ok (.value (.int .i64 (.ofNat (Nat.min k n)))) w':=by
  intro w' hw
  simp only[Builtin.copy_,Sem.run_bind,Sem.run_pure,Result.andThen_ok,h0,List.getElem?_toArray,List.getElem?_cons_zero,List.getElem?_cons_succ,run_underlying hu,hlen,run_sizeOf w hs,hrun]
  cases q' with
  |none=>cases hw;rfl
  |some q=>
   simp only at hw
   simp only[Sem.run_bind,hw,Result.andThen_ok,Sem.run_pure]
   rfl
 split at hx
 ·rename_i b0 off
  obtain⟨_,c2,e2,_⟩:=ha.sl_inv
  cases e2
  split at hx
  ·rename_i s1 hw1
   cases hx
   obtain⟨w',k1,k2⟩:=stp_write P h hw1 hv
   exact .val _ _ E s' w' k2 (.int _ _) (fin w' k1)
  ·cases hx
 ·rename_i hnb
  cases en:Nat.beq (Nat.min k n) 0 with
  |false=>rw [en]at hx;cases hx
  |true=>
   rw [en]at hx
   cases hx
   have hm:Nat.min k n=0:=Nat.eq_of_beq_eq_true en
   rw [hm]at fin hnew
   have hn0:new'=[]:=by
    have:new=[]:=by
     cases b with
     |slice q l c=>
      cases q with
      |none=>cases hnew;rfl
      |some a=>
       obtain⟨b1,o1,sp⟩:=a
       cases sp with
       |none=>
        obtain⟨hp,nx,gr⟩:=s
        have:readOb o1 (Nat.mul 0 size) (hp.get b1)=some new:=hnew
        rw [show Nat.mul 0 size=0 from Nat.zero_mul size]at this
        unfold readOb at this
        split at this<;>first|(cases this;rfl)|(cases this;done)
       |some z=>cases hnew;rfl
     |string t=>
      have hc':cond (Nat.beq size 1&&Nat.ble 0 t.size) (some ((t.extract 0 0).data.toList.map fun b=>Value.int .u8 b.toNat)) none=some new:=hnew
      cases hq:(Nat.beq size 1&&Nat.ble 0 t.size)with
      |false=>rw [hq]at hc';cases hc'
      |true=>rw [hq]at hc';cases hc';simp
     |_=>cases hnew
    subst this
    cases hv;rfl
   subst hn0
   exact .val _ _ E s w (.refl h) (.int _ _) (fin w (by cases q'<;>simp[storeCells]))
end
end Go.Ev
namespace Go.Ev
open Go
theorem growBy_le(n:Nat):∀(r c:Nat),c<n∨4*c≤5*n+3072→4*Builtin.growBy n r c≤5*n+3072
 |0,c,h=>by unfold Builtin.growBy;omega
 |r+1,c,h=>by
  unfold Builtin.growBy
  split
  ·omega
  ·exact growBy_le n r _ (.inr (by omega))
theorem nextcap_le{need old:Nat}(h:old<need):4*Builtin.nextslicecap need old≤5*need+3072:=by
 unfold Builtin.nextslicecap
 split
 ·omega
 ·split
  ·omega
  ·exact growBy_le need 4 old (.inl h)
def notInt:TypeDesc→Bool
 | .int _=>false
 |_=>true
section
variable{P:Program}{E:En}{ts:Array TypeId}{ty t u e:TypeId}{d:TypeDesc}{size k n c:Nat}{base:Option Addr}{y':Value}{new':List Value}{w:World}
theorem run_append_in{w':World}(h0:ts[0]? =some t)(hu:P.underlying t=some (.slice e))(h1:ts[1]? =some u)(hd:P.underlying u=some d)(hz:notInt d=true)(hs:sizeOfT P e=some size)
  (hl:∀w,(Builtin.lenOf y').run P w= .ok k w) (hn:(Builtin.firstCells size k y').run P w= .ok ⟨new'⟩ w) (hle:n+k≤c)
  (hw:((match base with
   |some a=>storeCells (a.add (n*size)) new'
   |none=>pure ()):Sem Unit).run P w= .ok () w'):
  (Builtin.append_ ts ty ⟨[.slice base n c,y']⟩).run P w= .ok (.slice base (n+k) c) w':=by
 cases d<;>first|(cases hz;done)|skip
 all_goals
  simp only[Builtin.append_,Sem.run_bind,Sem.run_pure,Result.andThen_ok,h0,h1,List.getElem?_toArray,List.getElem?_cons_zero,List.getElem?_cons_succ,run_underlying hu,run_underlying hd,run_sizeOf w hs,Bool.false_eq_true,if_false,hl w,Bool.not_false,if_true,hn,hle]
  cases base with
  |none=>cases hw;rfl
  |some a=>
   simp only at hw
   simp only[Sem.run_bind,hw,Result.andThen_ok,Sem.run_pure]
theorem run_append_new{old':List Value}{ti:TypeInfo}{z:Value}(h0:ts[0]? =some t)(hu:P.underlying t=some (.slice e))(h1:ts[1]? =some u)(hd:P.underlying u=some d)(hz:notInt d=true)(hs:sizeOfT P e=some size)
  (hl:∀w,(Builtin.lenOf y').run P w= .ok k w) (hn:(Builtin.firstCells size k y').run P {w with drawn:=w.drawn+1}= .ok ⟨new'⟩ {w with drawn:=w.drawn+1})
  (ho:(Builtin.firstCells size n (.slice base n c)).run P {w with drawn:=w.drawn+1}= .ok ⟨old'⟩ {w with drawn:=w.drawn+1})
  (hle:¬n+k≤c) (hsm:(5*(n+k)+3072)*ti.bytes≤1125899906842624) (hti:P.info? e=some ti) (hby:n+k≤4611686018427387904) (hzv:ti.zero=some z):
  ∃cp,n+k≤cp∧(Builtin.append_ ts ty ⟨[.slice base n c,y']⟩).run P w= .ok (.slice (some ⟨w.heap.size,0,none⟩) (n+k) cp) {w with drawn:=w.drawn+1,heap:=w.heap.push (.cells (⟨old'⟩++⟨new'⟩++Builtin.zeroCells z.cells (cp-(n+k))) e)}:=by
 have hmx:¬(((n+k:Nat):Int)>IntKind.i64.max):=by
  intro h
  have:IntKind.i64.max=9223372036854775807:=by decide
  rw [this]at h
  omega
 have hnx:¬(Builtin.nextslicecap (n+k) c*ti.bytes>2^48):=by
  have h1:=nextcap_le (show c<n+k by omega)
  have h2:(4*Builtin.nextslicecap (n+k) c)*ti.bytes≤(5*(n+k)+3072)*ti.bytes:=Nat.mul_le_mul_right _ h1
  rw [Nat.mul_assoc]at h2
  omega
 have hty:∀w:World,(typeInfo e).run P w= .ok ti w:=fun w=>by simp[typeInfo,hti]
 refine⟨(Question.appendCap (n+k) c e).cut (w.tape w.drawn (.appendCap (n+k) c e)),Nat.le_add_right _ _,?_⟩
 have hzr:∀w:World,(zeroValue e).run P w= .ok z w:=fun w=>by simp[zeroValue,typeInfo,hti,hzv]
 cases d<;>first|(cases hz;done)|skip
 all_goals
  simp only[Builtin.append_,Sem.run_bind,Sem.run_pure,Result.andThen_ok,h0,h1,List.getElem?_toArray,List.getElem?_cons_zero,List.getElem?_cons_succ,run_underlying hu,run_underlying hd,run_sizeOf w hs,Bool.false_eq_true,if_false,hl w,Bool.not_false,if_true,hle,hty,hmx,false_and,hnx,run_choose,Question.forced,run_askRoom,ho,hn,hzr,newRow,run_newObj]
end
end Go.Ev
