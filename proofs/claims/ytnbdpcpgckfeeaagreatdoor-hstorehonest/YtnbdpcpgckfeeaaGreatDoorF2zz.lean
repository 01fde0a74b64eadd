import Derived.Test.YtnbdpcpgckfeeaaGreatDoorF1zz
import Derived.Laws.BytesString
import Derived.Laws.LoneSync
namespace Go.Ev
open Go
theorem pureRun_bind{α β:Type}(P:Program)(f:α→Sem β):∀(m:Sem α),pureRun P (m>>=f)=(pureRun P m).bind fun a=>pureRun P (f a):=by
 intro m
 show pureRun P (m.bind f)=_
 induction m with
 |pure a=>rfl
 |program k ih=>exact ih P
 |load=>rfl
 |store=>rfl
 |new=>rfl
 |shape=>rfl
 |freeze=>rfl
 |frozen=>rfl
 |getObj=>rfl
 |setObj=>rfl
 |choose=>rfl
 |sys=>rfl
 |mark=>rfl
 |halt=>rfl
section
variable{P:Program}{E:En}
theorem EntRs.get:∀{es es':List MapEntry},EntRs E es es'→∀{i:Nat} {e:MapEntry},es[i]? =some e→∃e',es'[i]? =some e'∧EntR E e e'
 |_,_,.nil,i,e,h=>by simp at h
 |_,_,.cons e e' l l' he hl,i,u,h=>by
  cases i with
  |zero=>simp at h;subst h;exact⟨e',by simp,he⟩
  |succ i=>simp at h;obtain⟨w,h1,h2⟩:=hl.get h;exact⟨w,by simpa using h1,h2⟩
theorem EntRs.length:∀{es es':List MapEntry},EntRs E es es'→es.length=es'.length
 |_,_,.nil=>rfl
 |_,_,.cons _ _ _ _ _ h=>by simp[h.length]
def vAt(es:List MapEntry)(j:Nat):Value:=((es[j]?).map (·.val)).getD undef
def moved(es:List MapEntry)(i:Nat)(r:Option (Nat×Value)):Option (Nat×Value):=r.map fun p=>(p.1,vAt es (p.1-i))
theorem findNow_same(kind:TypeDesc)(k:Value):∀{es es':List MapEntry},EntRs E es es'→∀(i:Nat),(Instr.findNow kind k es' i=(Instr.findNow kind k es i).map (moved es' i))∧∀j v,Instr.findNow kind k es i=some (some (j,v))→i≤j
 |_,_,.nil,i=>⟨rfl,fun j v h=>by simp[Instr.findNow]at h⟩
 |_,_,.cons e e' l l' he hl,i=>by
  obtain⟨h1,h2⟩:=findNow_same kind k hl (i+1)
  simp only[Instr.findNow,he.key]
  split
  ·exact⟨by simp[moved,vAt],fun j v h=>by cases h;exact Nat.le_refl _⟩
  ·refine⟨?_,fun j v h=>by have:=h2 j v h;omega⟩
   rw [h1]
   cases hf:Instr.findNow kind k l (i+1)with
   |none=>rfl
   |some r=>cases r with
    |none=>rfl
    |some p=>
     obtain⟨j,v⟩:=p
     have:=h2 j v hf
     simp only[Option.map_some,moved,vAt]
     rw [show j-i=(j-(i+1))+1 by omega,List.getElem?_cons_succ]
  ·exact⟨rfl,fun j v h=>by cases h⟩
theorem findAsking_same(w:World)(kt:TypeId)(k:Value):∀{es es':List MapEntry},EntRs E es es'→∀(i:Nat) (r:Option (Nat×Value)),pureRun P (Instr.findAsking kt k es i)=some r→
  (Instr.findAsking kt k es' i).run P w= .ok (moved es' i r) w∧∀j v,r=some (j,v)→i≤j
 |_,_,.nil,i,r,h=>by cases h;exact⟨rfl,fun j v h=>by cases h⟩
 |_,_,.cons e e' l l' he hl,i,r,h=>by
  simp only[Instr.findAsking]at h ⊢
  rw [pureRun_bind]at h
  cases hq:pureRun P (Op.equal kt k e.key)with
  |none=>rw [hq]at h;cases h
  |some b=>
   rw [hq]at h
   have hrun:=pureRun_run hq w
   simp only[Sem.run_bind,he.key,hrun,Result.andThen_ok]
   cases b with
   |true=>
    have h':pureRun P (pure (some (i,e.val)):Sem _)=some r:=h
    cases h'
    exact⟨by simp[moved,vAt],fun j v h=>by cases h;exact Nat.le_refl _⟩
   |false=>
    obtain⟨h1,h2⟩:=findAsking_same w kt k hl (i+1) r h
    refine⟨?_,fun j v hr=>by have:=h2 j v hr;omega⟩
    simp only[Bool.false_eq_true,if_false,h1]
    cases r with
    |none=>rfl
    |some p=>
     obtain⟨j,v⟩:=p
     have:=h2 j v rfl
     simp only[moved,Option.map_some,vAt]
     rw [show j-i=(j-(i+1))+1 by omega,List.getElem?_cons_succ]
theorem findKey_same(w:World)(kt:TypeId)(k:Value){es es':List MapEntry}(he:EntRs E es es')(r:Option (Nat×Value))(h:pureRun P (Instr.findKey kt k es)=some r):
  (Instr.findKey kt k es').run P w= .ok (moved es' 0 r) w:=by
 unfold Instr.findKey at h ⊢
 rw [pureRun_bind]at h
 cases hu:P.underlying kt with
 |none=>
  have:pureRun P (underlying kt)=none:=by simp[underlying,pureRun_bind,program,pureRun,hu,stuck]
  rw [this]at h;cases h
 |some d=>
  have:pureRun P (underlying kt)=some d:=by
   unfold underlying
   rw [pureRun_bind]
   show (some P).bind _=_
   simp only[Option.bind_some,hu];rfl
  rw [this]at h
  simp only[Option.bind_some]at h
  simp only[Sem.run_bind,run_underlying hu,Result.andThen_ok]
  rw [(findNow_same d k he 0).1]
  cases hf:Instr.findNow d k es 0 with
  |none=>
   rw [hf]at h
   exact(findAsking_same w kt k he 0 r h).1
  |some q=>
   rw [hf]at h
   have h':pureRun P (pure q:Sem _)=some r:=h
   cases h'
   rfl
theorem findK_sound(w:World){emp:Bool}{key:TypeId}{k k':Value}{es es':List MapEntry}{r:Option Nat}(hk:VR E k k')(he:EntRs E es es')(h:findK P emp key k es=some r):
  k'=k∧plain 5 k=true∧(Instr.checkKey emp 10000 key k').run P w= .ok () w∧(Instr.findKey key k' es').run P w= .ok (r.map fun i=>(i,vAt es' i)) w:=by
 unfold findK at h
 cases hp:plain 5 k with
 |false=>rw [hp]at h;cases h
 |true=>
  rw [hp]at h
  obtain rfl:=plain_eq 5 _ _ hp hk
  simp only[cond]at h
  split at h
  ·rename_i u h1 h2
   cases h
   exact⟨rfl,rfl,pureRun_run h1 w,findKey_same w key _ he _ h2⟩
  ·rename_i u i v h1 h2
   rw [fN_eq]at h
   cases h
   exact⟨rfl,rfl,pureRun_run h1 w,findKey_same w key _ he _ h2⟩
  ·cases h
theorem entriesOf_sound{s:St}{w:World}(h:Obs E s w){v v':Value}{es:List MapEntry}(hv:VR E v v')(hes:entriesOf s v=some es):
  ∃es',EntRs E es es'∧(v'= .map none∧es'=[]∨∃r clock,v'= .map (some r)∧w.heap[r]? =some (.map ⟨es'⟩ clock)):=by
 obtain⟨hp,nx,gr⟩:=s
 unfold entriesOf at hes
 split at hes
 ·cases hes
  obtain rfl:=plain_eq 1 _ _ rfl hv
  exact⟨[],.nil,.inl ⟨rfl,rfl⟩⟩
 ·rename_i r hp' nx' gr' e
  cases e
  split at hes
  ·rename_i es1 clock hr
   cases hes
   obtain⟨es',h1,h2⟩:=(h.ob r _ hr).2
   cases hv
   exact⟨es'.toList,h2,.inr ⟨_,clock,rfl,h1⟩⟩
  ·cases hes
 ·cases hes
theorem run_getObj_map{w:World}{r:Nat}{es:Array MapEntry}{clock:Nat}(h:w.heap[r]? =some (.map es clock)):(getObj r).run P w= .ok (.map es clock) w:=by
 simp only[getObj,Sem.run,h]
theorem okLook_ok{v:Value}{b ok:Bool}{s s':St}{x:Nx}(h:okLook v b ok s= .ok x s'):s'=s∧x= .val (if ok then .tuple ⟨[v,.bool b]⟩else v):=by
 unfold okLook at h
 cases ok<;>cases h<;>exact⟨rfl,rfl⟩
theorem xLookup_sound{s s':St}{w:World}(h:Obs E s w)(t:TypeId){v v' k k':Value}{ok:Bool}{x:Nx}(hv:VR E v v')(hk:VR E k k')(hx:xLookup P t v k ok s= .ok x s'):
  s'=s∧∃u u',x= .val u∧VR E u u'∧(Instr.lookup t v' k' ok).run P w= .ok u' w:=by
 unfold xLookup at hx
 split at hx
 case h_2=>cases hx
 rename_i key e es hu hes
 obtain⟨es',he,hcase⟩:=entriesOf_sound h hv hes
 have hem:(⟨es'⟩:Array MapEntry).isEmpty=es.isEmpty:=by cases he<;>rfl
 have look:∀(r:Option Nat),findK P es.isEmpty key k es=some r→(Instr.lookup t v' k' ok).run P w=((match r.map fun i=>(i,vAt es' i)with
   |some (_,v)=>pure (v,true)
   |none=>do pure (←zeroValue e,false):Sem (Value×Bool)).run P w).andThen fun p w'=>.ok (if ok then .tuple #[p.1,.bool p.2]else p.1) w':=by
  intro r hr
  obtain⟨rfl,_,h1,h2⟩:=findK_sound w hk he hr
  rw [←hem]at h1
  unfold Instr.lookup
  rcases hcase with⟨rfl,rfl⟩|⟨r0,clock,rfl,hr0⟩
  ·simp only[Sem.run_bind,run_underlying hu,Result.andThen_ok,Sem.run_pure]
   rw [show (#[]:Array MapEntry)=⟨[]⟩from rfl,h1]
   simp only[Result.andThen_ok,h2]
   cases r with
   |none=>simp;cases Sem.run P (zeroValue e) w<;>simp
   |some i=>simp
  ·simp only[Sem.run_bind,run_underlying hu,Result.andThen_ok,Sem.run_pure,run_getObj_map hr0,h1,h2]
   cases r with
   |none=>simp;cases Sem.run P (zeroValue e) w<;>simp
   |some i=>simp
 cases hf:findK P es.isEmpty key k es with
 |none=>rw [hf]at hx;cases hx
 |some r=>
  rw [hf]at hx
  cases r with
  |none=>
   simp only at hx
   split at hx
   ·rename_i z hz
    cases hp:plain 5 z with
    |false=>rw [hp]at hx;cases hx
    |true=>
     rw [hp]at hx
     obtain⟨rfl,rfl⟩:=okLook_ok hx
     have hzz:=plain_VR E 5 z hp
     refine⟨rfl,_,if ok then .tuple ⟨[z,.bool false]⟩else z,rfl,?_,?_⟩
     ·cases ok
      ·exact hzz
      ·exact .tup _ _ (.cons _ _ _ _ hzz (.cons _ _ _ _ (.bool _) .nil))
     ·rw [look none hf]
      simp[run_zeroValue w hz]
   ·cases hx
  |some i=>
   simp only at hx
   split at hx
   ·rename_i u hu'
    obtain⟨rfl,rfl⟩:=okLook_ok hx
    unfold entV at hu'
    split at hu'
    ·rename_i e1 he1
     cases hu'
     obtain⟨e',k1,k2⟩:=he.get he1
     have hva:vAt es' i=e'.val:=by simp[vAt,k1]
     refine⟨rfl,_,if ok then .tuple ⟨[e'.val,.bool true]⟩else e'.val,rfl,?_,?_⟩
     ·cases ok
      ·exact k2.val
      ·exact .tup _ _ (.cons _ _ _ _ k2.val (.cons _ _ _ _ (.bool _) .nil))
     ·rw [look (some i) hf]
      simp[hva]
    ·cases hu'
   ·cases hx
theorem fold_push:∀(ns:List Int) (r:ByteArray),(ns.foldl (fun r n=>r.push (UInt8.ofNat n.toNat)) r).data.toList=r.data.toList++ns.map fun n=>UInt8.ofNat n.toNat
 |[],r=>by simp
 |n::ns,r=>by
  rw [List.foldl_cons,fold_push ns]
  simp[ByteArray.push]
theorem bytesOf_some:∀{cs:List Value} {bs:List UInt8},bytesOf cs=some bs→∃ns:List Nat,cs=ns.map (fun n=>.int .u8 (.ofNat n))∧bs=ns.map UInt8.ofNat
 |[],bs,h=>by cases h;exact⟨[],rfl,rfl⟩
 |v::vs,bs,h=>by
  have key:∀n,v= .int .u8 (.ofNat n)→∃ns:List Nat,v::vs=ns.map (fun n=>.int .u8 (.ofNat n))∧bs=ns.map UInt8.ofNat:=by
   intro n e
   subst e
   have h':(match bytesOf vs with
    |some bs=>some (UInt8.ofNat n::bs)
    |none=>none)=some bs:=h
   split at h'
   ·rename_i bs' hb
    cases h'
    obtain⟨ns,h1,h2⟩:=bytesOf_some hb
    exact⟨n::ns,by rw [h1];rfl,by rw [h2];rfl⟩
   ·cases h'
  cases v with
  |int k n=>cases k with
   |u8=>cases n with
    |ofNat n=>exact key n rfl
    |negSucc n=>cases h
   |_=>cases h
  |_=>cases h
theorem VRs.ints_eq:∀{ns:List Nat} {l':List Value},VRs E (ns.map fun n=>.int .u8 (.ofNat n)) l'→l'=ns.map fun n=>.int .u8 (.ofNat n)
 |[],_,h=>by cases h;rfl
 |n::ns,_,h=>by
  cases h with
  |cons _ v' _ l' hv hl=>rw [hv.int_inv,VRs.ints_eq hl];rfl
theorem toStr_sound{s s':St}{w:World}(h:Obs E s w){e:TypeId}{q:Option Addr}{n c:Nat}{v':Value}{x:Nx}(hv:VR E (.slice q n c) v')(hx:toStr P e q n c s= .ok x s'):
  s'=s∧P.underlying e=some (.int .u8)∧∃t,x= .val (.string t)∧(Conv.bytesToString v').run P w= .ok (.string t) w:=by
 unfold toStr at hx
 cases hu:isU8 (P.underlying e)with
 |false=>rw [hu]at hx;cases hx
 |true=>
  rw [hu]at hx
  have hu':P.underlying e=some (.int .u8):=by
   unfold isU8 at hu
   split at hu
   ·assumption
   ·cases hu
  simp only[cond]at hx
  split at hx
  case h_2=>cases hx
  rename_i cs hcs
  unfold okStr at hx
  split at hx
  case h_2=>cases hx
  rename_i bs hbs
  cases hx
  obtain⟨ns,rfl,rfl⟩:=bytesOf_some hbs
  refine⟨rfl,hu',_,rfl,?_⟩
  have fin:∀a c',(loadCells a n).run P w= .ok (ns.map (fun n=>Value.int .u8 (.ofNat n))).toArray w→(Conv.bytesToString (.slice (some a) n c')).run P w= .ok (.string ⟨⟨ns.map UInt8.ofNat⟩⟩) w:=by
   intro a c' hl
   rw [run_bytesToString w a n c' (ns.map Int.ofNat) (by rw [hl];simp)]
   congr 2
   have:=fold_push (ns.map Int.ofNat) ByteArray.empty
   rw [show (List.foldl (fun r n=>r.push (UInt8.ofNat n.toNat)) ByteArray.empty (ns.map Int.ofNat))=⟨⟨(List.foldl (fun r n=>r.push (UInt8.ofNat n.toNat)) ByteArray.empty (ns.map Int.ofNat)).data.toList⟩⟩from rfl,this]
   rw [show (ns.map Int.ofNat).map (fun n=>UInt8.ofNat n.toNat)=ns.map UInt8.ofNat by rw [List.map_map];rfl]
   rfl
  have nil0:∀{l:List Value},some l=some (ns.map fun n=>Value.int .u8 (.ofNat n))→l=[]→ns=[]:=by
   intro l e1 e2
   subst e2
   have:=Option.some.inj e1
   cases ns with
   |nil=>rfl
   |cons a b=>cases this
  cases q with
  |none=>
   have hcs':cond (Nat.beq n 0) (some []) none=some (ns.map fun n=>Value.int .u8 (.ofNat n)):=hcs
   cases en:Nat.beq n 0 with
   |false=>rw [en]at hcs';cases hcs'
   |true=>
    rw [en]at hcs'
    obtain rfl:=nil0 hcs' rfl
    obtain rfl:=plain_eq 1 _ _ rfl hv
    rfl
  |some a=>
   obtain⟨b,off,sp⟩:=a
   cases sp with
   |none=>
    obtain⟨_,c',rfl,_⟩:=hv.sl_inv
    obtain⟨r',k1,k2,k3⟩:=readAt_run (P:=P) h (show readAt s b off (Nat.mul n 1)=_ from hcs)
    have:=k1.ints_eq
    subst this
    refine fin _ _ ?_
    rw [show Nat.mul n 1=n from Nat.mul_one n]at k3
    exact k3
   |some z=>
    have hcs':cond (Nat.beq n 0) (some []) none=some (ns.map fun n=>Value.int .u8 (.ofNat n)):=hcs
    cases en:Nat.beq n 0 with
    |false=>rw [en]at hcs';cases hcs'
    |true=>
     rw [en]at hcs'
     have hn:n=0:=Nat.eq_of_beq_eq_true en
     subst hn
     obtain rfl:=nil0 hcs' rfl
     obtain⟨a',c',rfl,ha⟩:=hv.slice_any
     cases a' with
     |none=>cases ha
     |some a'=>exact fin _ _ (by simp[loadCells,loadCellsFrom])
theorem readAt1_cell{s:St}{w:World}(h:Obs E s w){b off:Nat}{v:Value}(hr:readAt1 s b off=some v):∃v',VR E v v'∧w.cell? ⟨E.ι b,E.sh b+off,none⟩=some v':=by
 obtain⟨hp,nx,gr⟩:=s
 have hr':readOb1 off (hp.get b)=some v:=hr
 have main:∀(cs:List Value) (c:Array Value) (t:TypeId) (fr:Nat×Nat),w.heap[E.ι b]? =some (.cells c t fr)→CellsR E (E.sh b) cs c→headO (dropL off cs)=some v→∃v',VR E v v'∧w.cell? ⟨E.ι b,E.sh b+off,none⟩=some v':=by
  intro cs c t fr hc hcr hh
  rw [dropL_eq,headO_eq,List.getElem?_drop]at hh
  obtain⟨v',k1,k2⟩:=hcr _ _ hh
  refine⟨v',k2,?_⟩
  simp only[World.cell?,hc]
  exact k1
 unfold readOb1 at hr'
 split at hr'
 ·rename_i cs g hb
  obtain⟨c,t,fr,h1,_,_,h4⟩:=(h.ob b _ hb).2
  exact main cs c t fr h1 h4 hr'
 ·rename_i cs hb
  obtain⟨c,t,fr,h1,h4⟩:=(h.ob b _ hb).2
  exact main cs c t fr h1 h4 hr'
 ·cases hr'
theorem readAt_cell(P:Program){s:St}{w:World}(h:Obs E s w){b off n:Nat}{r:List Value}(hr:readAt s b off n=some r):
  ∃r',VRs E r r'∧∀j v',r'[j]? =some v'→w.cell? ⟨E.ι b,E.sh b+off+j,none⟩=some v':=by
 obtain⟨hp,nx,gr⟩:=s
 have hr':readOb off n (hp.get b)=some r:=hr
 unfold readOb at hr'
 split at hr'
 ·rename_i cs g hb
  obtain⟨c,t,fr,h1,_,_,h4⟩:=(h.ob b _ hb).2
  obtain⟨r',k1,_,_,k3⟩:=cells_read (P:=P) h1 h4 hr'
  exact⟨r',k1,fun j v' hv=>by simp only[World.cell?,h1];exact k3 j v' hv⟩
 ·rename_i cs hb
  obtain⟨c,t,fr,h1,h4⟩:=(h.ob b _ hb).2
  obtain⟨r',k1,_,_,k3⟩:=cells_read (P:=P) h1 h4 hr'
  exact⟨r',k1,fun j v' hv=>by simp only[World.cell?,h1];exact k3 j v' hv⟩
 ·cases hr'
theorem exec_reads{s s':St}{w:World}(h:Obs E s w){tm:Tr Value}{ρ:Operand→Value}(o:Oper)(hρ:Seen E tm ρ o.op)(hk:kindOf P o.op= .reads){x:Nx}(hx:exec P o.op tm s= .ok x s'):
  s'=s∧∃v v',x= .val v∧VR E v v'∧(execOp ρ o).run P w= .ok (.value v') w:=by
 obtain⟨d0,op,type,pos,aft,guard⟩:=o
 simp only at hk hρ hx
 have hm:∀x,x∈op.operands.toList→VR E (opd tm x) (ρ x):=hρ
 cases op with
 |load t a=>
  have hx':xLoad P t (opd tm a) s= .ok x s':=hx
  have ha:=hm a (by simp[Op.operands])
  unfold xLoad at hx'
  split at hx'
  case h_2=>cases hx'
  rename_i b off hb
  rw [hb]at ha
  obtain⟨_,ha'⟩:=ha.ptr_inv
  cases hl:loadT P s t b off with
  |none=>rw [hl]at hx';cases hx'
  |some v=>
   rw [hl]at hx'
   cases hx'
   refine⟨rfl,v,?_⟩
   unfold loadT loadG at hl
   split at hl
   ·rename_i hag
    split at hl
    ·rename_i n hn
     split at hl
     ·rename_i cs hcs
      cases hl
      obtain⟨r',k1,k2,k3⟩:=readAt_run (P:=P) h hcs
      refine⟨.agg ⟨r'⟩,rfl,.agg _ _ k1,?_⟩
      simp only[execOp,ha',Instr.loadAt,Instr.sureAddr,loadVar,Sem.run_bind,Sem.run_pure,Result.andThen_ok,run_isAgg w hag,run_sizeOf w hn,k3,if_true]
     ·cases hl
    ·cases hl
   ·rename_i hag
    obtain⟨v',k1,k2⟩:=readAt1_run (P:=P) h hl
    refine⟨v',rfl,k1,?_⟩
    simp only[execOp,ha',Instr.loadAt,Instr.sureAddr,loadVar,Sem.run_bind,Sem.run_pure,Result.andThen_ok,run_isAgg w hag,Bool.false_eq_true,if_false,k2]
   ·cases hl
 |lookup t m k ok=>
  obtain⟨h1,u,u',h2,h3,h4⟩:=xLookup_sound h t (hm m (by simp[Op.operands])) (hm k (by simp[Op.operands])) (show xLookup P t (opd tm m) (opd tm k) ok s= .ok x s' from hx)
  exact⟨h1,u,u',h2,h3,by simp only[execOp,Sem.run_bind,h4,Result.andThen_ok,Sem.run_pure]⟩
 |convert src dst a=>
  have ha:=hm a (by simp[Op.operands])
  have hx':xConv P src dst (opd tm a) s= .ok x s':=hx
  cases hs:P.underlying src with
  |none=>simp only[kindOf,hs]at hk;cases hk
  |some d1=>
   cases hd:P.underlying dst with
   |none=>simp only[kindOf,hs,hd]at hk;cases d1<;>cases hk
   |some d2=>
    have:((∃e,d1= .slice e)∧d2= .string)∨((∃t,d1= .pointer t)∧d2= .unsafePointer):=by
     simp only[kindOf,hs,hd]at hk
     cases d1<;>cases d2<;>first|(cases hk;done)|exact .inl ⟨⟨_,rfl⟩,rfl⟩|exact .inr ⟨⟨_,rfl⟩,rfl⟩
    rcases this with⟨⟨e,rfl⟩,rfl⟩|⟨⟨t,rfl⟩,rfl⟩
    case inr=>
     unfold xConv at hx'
     split at hx'
     ·rename_i k n hv
      rw [hv]at ha
      have e1:=ha.int_inv
      rcases intTo_sound P (E:=E) src dst k n with hno|⟨v,v',h1,h2,h3⟩
      ·rw [show intTo P src dst k n s (P.underlying dst)= .no from hno s]at hx';cases hx'
      ·rw [show intTo P src dst k n s (P.underlying dst)= .ok (.val v) s from h1 s]at hx'
       cases hx'
       exact⟨rfl,v,v',rfl,h2,by simp only[execOp,e1,Sem.run_bind,h3 w,Result.andThen_ok,Sem.run_pure]⟩
     ·simp only[hs,hd]at hx';cases hx'
     ·simp only[hs,hd]at hx';cases hx'
     ·rename_i q hv
      simp only[hs,hd]at hx'
      cases q with
      |none=>cases hx'
      |some q=>
       obtain⟨b,off,sp⟩:=q
       cases sp with
       |some z=>cases hx'
       |none=>
        have hx2:cond (filled (sizeOfT P t)) (toRaw b off (readAt1 s b off) s) .no= .ok x s':=hx'
        cases hfl:filled (sizeOfT P t)with
        |false=>rw [hfl]at hx2;cases hx2
        |true=>
         rw [hfl]at hx2
         have hx3:toRaw b off (readAt1 s b off) s= .ok x s':=hx2
         unfold toRaw at hx3
         split at hx3
         case h_2=>cases hx3
         rename_i u hu
         cases hx3
         obtain⟨u',_,hc⟩:=readAt1_cell h hu
         rw [hv]at ha
         obtain⟨hb,e1⟩:=ha.ptr_inv
         refine⟨rfl,_,_,rfl,.ptr b off hb,?_⟩
         have hsz:(P.info? t).map (fun i=>decide (i.size=0))=some false:=by
          unfold filled sizeOfT at hfl
          split at hfl
          case h_2=>cases hfl
          rename_i n hn
          split at hn
          case h_2=>cases hn
          rename_i i hi
          cases hn
          rw [hi]
          have:0<i.size:=Nat.le_of_ble_eq_true hfl
          simp;omega
         simp only[execOp,e1,Sem.run_bind,run_convert_to_unsafe hs hd hsz hc,Result.andThen_ok,Sem.run_pure]
     ·cases hx'
    unfold xConv at hx'
    split at hx'
    ·rename_i k n hv
     rw [hv]at ha
     have e1:=ha.int_inv
     rcases intTo_sound P (E:=E) src dst k n with hno|⟨v,v',h1,h2,h3⟩
     ·rw [show intTo P src dst k n s (P.underlying dst)= .no from hno s]at hx';cases hx'
     ·rw [show intTo P src dst k n s (P.underlying dst)= .ok (.val v) s from h1 s]at hx'
      cases hx'
      exact⟨rfl,v,v',rfl,h2,by simp only[execOp,e1,Sem.run_bind,h3 w,Result.andThen_ok,Sem.run_pure]⟩
    ·simp only[hs,hd]at hx';cases hx'
    ·rename_i q n c hv
     rw [hs,hd]at hx'
     simp only at hx'
     rw [hv]at ha
     obtain⟨h1,h2,t,h3,h4⟩:=toStr_sound h ha hx'
     refine⟨h1,.string t,.string t,h3,.str t,?_⟩
     obtain⟨a',c',e',_⟩:=ha.slice_any
     rw [e']at h4
     simp only[execOp,convert,Sem.run_bind,run_underlying hs,run_underlying hd,Result.andThen_ok,e',run_underlying h2,h4,Sem.run_pure]
    ·simp only[hs,hd]at hx';cases hx'
    ·cases hx'
 |call c=>
  obtain⟨callee,args,ts⟩:=c
  have hargs:(args.map ρ)=⟨args.toList.map ρ⟩:=by apply Array.ext';simp
  cases callee with
  |builtin b=>
   cases b with
   |len=>
    have hh:∃t k e,ts[0]? =some t∧P.underlying t=some (.map k e):=by
     simp only[kindOf]at hk
     cases h0:ts[0]? with
     |none=>rw [h0]at hk;cases hk
     |some t=>
      rw [h0]at hk
      simp only[Option.bind_some]at hk
      split at hk
      ·rename_i k e hu;exact⟨t,k,e,rfl,hu⟩
      ·cases hk
    obtain⟨t,k,e,h0,hu⟩:=hh
    have hhd:headT P ts.toList=some (.map k e):=by
     obtain⟨l⟩:=ts
     cases l with
     |nil=>simp at h0
     |cons a l=>simp at h0;subst h0;exact hu
    have hx':xLen P ts.toList (opds tm args.toList) s= .ok x s':=hx
    have hv:=opds_sound args.toList fun z hz=>hm z (by simp only[Op.operands,Call.operands,Array.toList_append,List.mem_append];exact .inr hz)
    have hrun:(execOp ρ ⟨d0,.call ⟨.builtin .len,args,ts⟩,type,pos,aft,guard⟩)=(do pure (.value (←Builtin.len_ ts type ⟨args.toList.map ρ⟩))):=by rw [←hargs];rfl
    generalize opds tm args.toList=av at hx' hv
    unfold xLen at hx'
    rw [hhd]at hx'
    cases av with
    |nil=>cases hx'
    |cons v rest=>
     cases rest with
     |cons=>cases v with
      |map q=>cases q<;>cases hx'
      |_=>cases hx'
     |nil=>
      obtain⟨v',e3,hv'⟩:=hv.one_inv
      cases v with
      |map q=>
       cases q with
       |none=>
        cases hx'
        obtain rfl:=plain_eq 1 _ _ rfl hv'
        exact⟨rfl,_,_,rfl,.int _ _,by rw [hrun,e3];simp[Builtin.len_,h0,run_underlying hu,goInt]⟩
       |some r=>
        have hx2:(match entriesOf s (.map (some r))with
         |some es=>okN .i64 es.length s
         |none=>.no)= .ok x s':=hx'
        split at hx2
        ·rename_i es hes
         rw [okN_eq]at hx2
         cases hx2
         obtain⟨es',he,hcase⟩:=entriesOf_sound h hv' hes
         refine⟨rfl,_,_,rfl,.int _ _,?_⟩
         rcases hcase with⟨rfl,_⟩|⟨r',clock,rfl,hr⟩
         ·cases hv'
         ·rw [hrun,e3]
          simp[Builtin.len_,h0,run_underlying hu,goInt,run_getObj_map hr,he.length]
        ·cases hx2
      |_=>cases hx'
   |_=>cases hk
  |value f=>cases hk
  |invoke r name=>cases hk
 |_=>cases hk
end
end Go.Ev
