import Derived.Test.YtnbdpcpgckfeeaaGreatDoorX1zz
namespace Go.Ev
open Go
theorem stp_setob{N:Nat}{E:En}{s:St}{w:World}(h:Rel N E s w){b:Nat}{o o2:Ob}{o2':Obj}(hb:s.hp.get b=some o)(hr:o.rw)(hg:o.grp=0)(hr2:o2.rw)(hg2:o2.grp=0)
  (hob:∀w':World,w'.heap[E.ι b]? =some o2'→ObR E b w' o2):Stp N E s w E (.mk (s.hp.set o2 b) s.nx s.gr) (World.row w (E.ι b) o2'):=by
 have hd:o≠ .dead:=fun e=>by subst e;exact hr
 have hιb:E.ι b<w.heap.size:=(h.ob b o hb).2.lt hd
 have hh:∀B,(World.row w (E.ι b) o2').heap[B]? =if B=E.ι b then some o2' else w.heap[B]?:=fun B=>row_heap _ _ _ _ hιb
 have hhs:(World.row w (E.ι b) o2').heap.size=w.heap.size:=by simp[World.row]
 have gets:∀k,(s.hp.set o2 b).get k=if k=b then some o2 else s.hp.get k:=fun k=>Tr.get_set _ _ _ (by have:=h.lt b o hb;omega) k
 have hd2:o2≠ .dead:=fun e=>by subst e;exact hr2
 have alone:∀m q,s.hp.get m=some q→q≠ .dead→m≠b→E.ι m≠E.ι b:=fun m q hm hq hmb e=>(h.dis b o m q hb hm hr hq (fun e=>hmb e.symm) e.symm).1 hg
 have now:∀m q,(s.hp.set o2 b).get m=some q→(m=b∧q=o2)∨(m≠b∧s.hp.get m=some q):=by
  intro m q hm
  rw [gets]at hm
  split at hm
  ·rename_i e;cases hm;exact .inl ⟨e,rfl⟩
  ·rename_i e;exact .inr ⟨e,hm⟩
 refine⟨.refl E,⟨h.nx,h.lo,h.hi,h.base,by rw [hhs];exact h.flr,fun m q hm=>?_,fun m q hm hq=>?_,fun m q m' q' hm hm' hq hqd hne he=>?_,fun m q hm hq=>?_,fun m q hm hqd hq=>?_⟩,rfl,rfl,rfl,by rw [hhs];exact Nat.le_refl _,fun B hB hn=>?_,fun m q hm hq=>?_⟩
 ·rcases now m q hm with⟨rfl,rfl⟩|⟨hmb,hm⟩
  ·exact⟨(h.ob m o hb).1,hob _ (by rw [hh,if_pos rfl])⟩
  ·obtain⟨h1,h2⟩:=h.ob m q hm
   refine⟨h1,?_⟩
   by_cases hqd:q= .dead
   ·subst hqd;trivial
   ·exact h2.keep (.refl E) h1 (by rw [hh,if_neg (alone m q hm hqd hmb)])
 ·rcases now m q hm with⟨rfl,rfl⟩|⟨hmb,hm⟩
  ·exact h.flo m o hb hr
  ·exact h.flo m q hm hq
 ·rcases now m q hm with⟨e1,e2⟩|⟨hmb,hm2⟩
  ·rcases now m' q' hm' with⟨e3,e4⟩|⟨hmb',hm2'⟩
   ·exact absurd (e1.trans e3.symm) hne
   ·exact absurd (he.symm.trans (by rw [e1])) (alone m' q' hm2' hqd hmb')
  ·rcases now m' q' hm' with⟨e3,e4⟩|⟨hmb',hm2'⟩
   ·exact absurd (he.trans (by rw [e3])) (alone m q hm2 (fun e=>by subst e;exact hq) hmb)
   ·exact h.dis m q m' q' hm2 hm2' hq hqd hne he
 ·rcases now m q hm with⟨rfl,rfl⟩|⟨hmb,hm⟩
  ·exact absurd hg2 hq
  ·exact h.grp m q hm hq
 ·rcases now m q hm with⟨rfl,rfl⟩|⟨hmb,hm⟩
  ·exact absurd hr2 hq
  ·exact h.ro m q hm hqd hq
 ·rw [hh,if_neg (fun e=>hn b o hb hr e.symm)]
 ·rcases now m q hm with⟨rfl,rfl⟩|⟨hmb,hm⟩
  ·exact .inr ⟨m,o,hb,hr,rfl⟩
  ·exact .inr ⟨m,q,hm,hq,rfl⟩
section
variable{P:Program}{E:En}
theorem run_setObj{w:World}{r:Nat}{o o':Obj}(h:w.heap[r]? =some o)(hn:∀c t f,o≠ .cells c t f):(setObj r o').run P w= .ok () (World.row w r o'):=by
 simp only[setObj,Sem.run,h]
 cases o<;>first|rfl|(exact absurd rfl (hn _ _ _))
theorem EntRs.append{E:En}:∀{l l' m m':List MapEntry},EntRs E l l'→EntRs E m m'→EntRs E (l++m) (l'++m')
 |_,_,_,_,.nil,k=>k
 |_,_,_,_,.cons e e' _ _ h hl,k=>.cons e e' _ _ h (hl.append k)
theorem EntRs.modify{E:En}{f g:MapEntry→MapEntry}(hfg:∀e e',EntR E e e'→EntR E (f e) (g e')):∀(i:Nat) {l l':List MapEntry},EntRs E l l'→EntRs E (l.modify i f) (l'.modify i g)
 |_,_,_,.nil=>by simp[List.modify_nil];exact .nil
 |0,_,_,.cons e e' _ _ h hl=>by simpa[List.modify_zero_cons]using EntRs.cons _ _ _ _ (hfg e e' h) hl
 |i+1,_,_,.cons e e' _ _ h hl=>by simpa[List.modify_succ_cons]using EntRs.cons _ _ _ _ h (EntRs.modify hfg i hl)
theorem act_mapUp{N:Nat}{s s':St}{w:World}(h:Rel N E s w){t:TypeId}{m m' k k' v v':Value}{x:Nx}(hm:VR E m m')(hk:VR E k k')(hv:VR E v v')(hx:xMapUp P t m k v s= .ok x s'):
  ActR N P E s w (do Instr.mapUpdate t m' k' v';pure .skip) x s':=by
 obtain⟨hp,nx,gr⟩:=s
 unfold xMapUp at hx
 split at hx
 case h_2=>cases hx
 rename_i key e r hp' nx' gr' hu heq
 cases heq
 split at hx
 case h_2=>cases hx
 rename_i es clock hr
 cases hm
 rename_i hrn
 obtain⟨es',h1,h2⟩:=(h.ob r _ hr).2
 obtain⟨l'⟩:=es'
 have hnc:∀c t f,Obj.map ⟨l'⟩ clock≠ .cells c t f:=fun _ _ _ e=>by cases e
 split at hx
 ·rename_i hf
  rw [fN_eq]at hx
  obtain⟨hs,rfl⟩:=ofS_ok hx
  have es:=setO_some hs
  subst es
  obtain⟨rfl,hpk,k1,k2⟩:=findK_sound w hk h2 hf
  refine .skip E _ _ (stp_setob h (o2':=.map ⟨l'++[⟨k',v',clock⟩]⟩ (clock+1)) hr trivial rfl trivial rfl fun w' hw'=>⟨_,hw',?_⟩) ?_
  ·exact h2.append (.cons _ _ _ _ ⟨rfl,hv,rfl⟩ .nil)
  ·simp only[Instr.mapUpdate,Sem.run_bind,run_underlying hu,Result.andThen_ok,run_getObj_map h1,k1,k2,Option.map_none,run_setObj h1 hnc,Sem.run_pure]
   simp
 ·rename_i i hf
  split at hx
  case h_2=>cases hx
  rename_i k2' hst
  obtain⟨hs,rfl⟩:=ofS_ok hx
  have es1:=setO_some hs
  subst es1
  obtain⟨rfl,hpk,k1,k2⟩:=findK_sound w hk h2 hf
  unfold staysK at hst
  split at hst
  case h_2=>cases hst
  rename_i e0 he0
  split at hst
  case h_2=>cases hst
  rename_i k3 hk3
  cases hp3:plain 5 k3 with
  |false=>rw [hp3]at hst;cases hst
  |true=>
   rw [hp3]at hst
   cases hst
   obtain⟨e1,z1,z2⟩:=h2.get he0
   refine .skip E _ _ (stp_setob h (o2':=.map ⟨l'.modify i fun e=>{e with key:=k2',val:=v'}⟩ clock) hr trivial rfl trivial rfl fun w' hw'=>⟨_,hw',?_⟩) ?_
   ·exact EntRs.modify (f:=fun e=>⟨k2',v,e.born⟩) (g:=fun e=>{e with key:=k2',val:=v'}) (fun e e' he=>⟨rfl,hv,he.born⟩) i h2
   ·have z3:(⟨l'⟩:Array MapEntry)[i]? =some e1:=by simpa using z1
    have hkr:=pureRun_run hk3 w
    rw [←z2.key]at hkr
    simp only[Instr.mapUpdate,Sem.run_bind,run_underlying hu,Result.andThen_ok,run_getObj_map h1,k1,k2,Option.map_some,z3,Option.getD_some,hkr,run_setObj h1 hnc,Sem.run_pure]
    congr 2
    simp
 ·cases hx
theorem okEnt_ok{v:Value}{born:Nat}{o:Option St}{x:Nx}{s':St}(h:okEnt v born o= .ok x s'):o=some s'∧x= .val (.tuple ⟨[v,.int .i64 (.ofNat born)]⟩):=by
 unfold okEnt at h
 split at h
 ·rw [fN_eq]at h;cases h;exact⟨rfl,rfl⟩
 ·cases h
theorem act_mapEntry{N:Nat}{s s':St}{w:World}(h:Rel N E s w){t:TypeId}{m m' k k':Value}{x:Nx}(hm:VR E m m')(hk:VR E k k')(hx:xMapEntry P t m k s= .ok x s'):
  ActR N P E s w (do pure (.value (←Instr.mapEntry t m' k'))) x s':=by
 obtain⟨hp,nx,gr⟩:=s
 unfold xMapEntry at hx
 split at hx
 case h_2=>cases hx
 rename_i key e r hp' nx' gr' hu heq
 cases heq
 split at hx
 case h_2=>cases hx
 rename_i es clock hr
 cases hm
 rename_i hrn
 obtain⟨es',h1,h2⟩:=(h.ob r _ hr).2
 obtain⟨l'⟩:=es'
 have hnc:∀c t f,Obj.map ⟨l'⟩ clock≠ .cells c t f:=fun _ _ _ e=>by cases e
 split at hx
 ·rename_i hf
  split at hx
  case h_2=>cases hx
  rename_i z hz
  cases hpz:plain 5 z with
  |false=>rw [hpz]at hx;cases hx
  |true=>
   rw [hpz]at hx
   simp only[cond]at hx
   rw [fN_eq]at hx
   obtain⟨hs,rfl⟩:=okEnt_ok hx
   have es1:=setO_some hs
   subst es1
   obtain⟨rfl,hpk,k1,k2⟩:=findK_sound w hk h2 hf
   have hzz:=plain_VR E 5 z hpz
   refine .val _ (.tuple ⟨[z,.int .i64 (.ofNat clock)]⟩) E _ _ (stp_setob h (o2':=.map ⟨l'++[⟨k',z,clock⟩]⟩ (clock+1)) hr trivial rfl trivial rfl fun w' hw'=>⟨_,hw',?_⟩) ?_ ?_
   ·exact h2.append (.cons _ _ _ _ ⟨rfl,hzz,rfl⟩ .nil)
   ·exact .tup _ _ (.cons _ _ _ _ hzz (.cons _ _ _ _ (.int .i64 _) .nil))
   ·simp only[Instr.mapEntry,Sem.run_bind,run_underlying hu,Result.andThen_ok,run_getObj_map h1,k1,k2,Option.map_none,run_zeroValue w hz,run_setObj h1 hnc,Sem.run_pure]
    simp[goInt]
 ·rename_i i hf
  unfold entAt at hx
  split at hx
  case h_2=>cases hx
  rename_i e0 k2' he0 hst
  obtain⟨hs,rfl⟩:=okEnt_ok hx
  have es1:=setO_some hs
  subst es1
  obtain⟨rfl,hpk,k1,k2⟩:=findK_sound w hk h2 hf
  unfold staysK at hst
  rw [he0]at hst
  simp only at hst
  split at hst
  case h_2=>cases hst
  rename_i k3 hk3
  cases hp3:plain 5 k3 with
  |false=>rw [hp3]at hst;cases hst
  |true=>
   rw [hp3]at hst
   cases hst
   obtain⟨e1,z1,z2⟩:=h2.get he0
   have z3:(⟨l'⟩:Array MapEntry)[i]? =some e1:=by simpa using z1
   have hva:vAt l' i=e1.val:=by unfold vAt;rw [z1];rfl
   refine .val _ (.tuple ⟨[e1.val,.int .i64 (.ofNat e0.born)]⟩) E _ _ (stp_setob h (o2':=.map ⟨l'.modify i fun e=>{e with key:=k2'}⟩ clock) hr trivial rfl trivial rfl fun w' hw'=>⟨_,hw',?_⟩) ?_ ?_
   ·exact EntRs.modify (f:=fun e=>⟨k2',e.val,e.born⟩) (g:=fun e=>{e with key:=k2'}) (fun e e' he=>⟨rfl,he.val,he.born⟩) i h2
   ·exact .tup _ _ (.cons _ _ _ _ z2.val (.cons _ _ _ _ (.int .i64 _) .nil))
   ·have hkr:=pureRun_run hk3 w
    rw [←z2.key]at hkr
    simp only[Instr.mapEntry,Sem.run_bind,run_underlying hu,Result.andThen_ok,run_getObj_map h1,k1,k2,Option.map_some,z3,Option.getD_some,hkr,run_setObj h1 hnc,Sem.run_pure,hva,z2.born]
    congr 2
    simp
 ·cases hx
theorem EntRs.findIdx{E:En}(b:Nat):∀{l l':List MapEntry},EntRs E l l'→l'.findIdx? (fun e=>((e.born:Nat):Int)==((b:Nat):Int))=l.findIdx? (fun e=>Nat.beq e.born b)
 |_,_,.nil=>rfl
 |_,_,.cons e e' _ _ h hl=>by
  have hb:(((e'.born:Nat):Int)==((b:Nat):Int))=Nat.beq e.born b:=by
   rw [h.born]
   cases q:Nat.beq e.born b with
   |true=>rw [Nat.eq_of_beq_eq_true q];exact beq_self_eq_true _
   |false=>
    have:=Nat.ne_of_beq_eq_false q
    exact beq_eq_false_iff_ne.2 (fun e=>this (Int.ofNat.inj e))
  rw [List.findIdx?_cons,List.findIdx?_cons,hb,EntRs.findIdx b hl]
theorem act_entryStore{N:Nat}{s s':St}{w:World}(h:Rel N E s w){t:TypeId}{m m' st st' v v':Value}{x:Nx}(hm:VR E m m')(hst:VR E st st')(hv:VR E v v')(hx:xEntryStore m st v s= .ok x s'):
  ActR N P E s w (do Instr.entryStore t m' st' v';pure .skip) x s':=by
 obtain⟨hp,nx,gr⟩:=s
 unfold xEntryStore at hx
 split at hx
 case h_2=>cases hx
 rename_i r ik b hp' nx' gr' heq
 cases heq
 split at hx
 case h_2=>cases hx
 rename_i es clock hr
 cases hm
 rename_i hrn
 obtain rfl:=hst.int_inv
 obtain⟨es',h1,h2⟩:=(h.ob r _ hr).2
 obtain⟨l'⟩:=es'
 have hnc:∀c t f,Obj.map ⟨l'⟩ clock≠ .cells c t f:=fun _ _ _ e=>by cases e
 split at hx
 case h_2=>cases hx
 rename_i i hi
 obtain⟨hs,rfl⟩:=ofS_ok hx
 have es1:=setO_some hs
 subst es1
 have hi':(⟨l'⟩:Array MapEntry).findIdx? (fun e=>((e.born:Nat):Int)==((b:Nat):Int))=some i:=by
  rw [show (⟨l'⟩:Array MapEntry)=l'.toArray from rfl,List.findIdx?_toArray,h2.findIdx b]
  exact hi
 refine .skip E _ _ (stp_setob h (o2':=.map ⟨l'.modify i fun e=>{e with val:=v'}⟩ clock) hr trivial rfl trivial rfl fun w' hw'=>⟨_,hw',?_⟩) ?_
 ·exact EntRs.modify (f:=fun e=>⟨e.key,v,e.born⟩) (g:=fun e=>{e with val:=v'}) (fun e e' he=>⟨he.key,hv,he.born⟩) i h2
 ·have ha:(asInt (.int ik (.ofNat b))).run P w= .ok (.ofNat b) w:=rfl
  simp only[Instr.entryStore,Sem.run_bind,Result.andThen_ok,run_getObj_map h1,ha]
  rw [show (Int.ofNat b)=((b:Nat):Int)from rfl,hi']
  simp only[run_setObj h1 hnc,Result.andThen_ok,Sem.run_pure]
  congr 2
  simp
theorem EntRs.filter{E:En}{f g:MapEntry→Bool}(hfg:∀e e',EntR E e e'→g e'=f e):∀{l l':List MapEntry},EntRs E l l'→EntRs E (l.filter f) (l'.filter g)
 |_,_,.nil=>.nil
 |_,_,.cons e e' _ _ h hl=>by
  rw [List.filter_cons,List.filter_cons,hfg e e' h]
  split
  ·exact .cons _ _ _ _ h (EntRs.filter hfg hl)
  ·exact EntRs.filter hfg hl
theorem EntRs.all{E:En}{f g:MapEntry→Bool}(hfg:∀e e',EntR E e e'→g e'=f e):∀{l l':List MapEntry},EntRs E l l'→l'.all g=l.all f∧l'.isEmpty=l.isEmpty
 |_,_,.nil=>⟨rfl,rfl⟩
 |_,_,.cons e e' _ _ h hl=>by
  rw [List.all_cons,List.all_cons,hfg e e' h,(EntRs.all hfg hl).1]
  exact⟨rfl,rfl⟩
theorem run_getObj_obj{w:World}{r:Nat}{m:Option Nat}{a c:Nat}{b:Array Nat}(h:w.heap[r]? =some (.mapIter m a b c)):(getObj r).run P w= .ok (.mapIter m a b c) w:=by
 simp only[getObj,Sem.run,h]
theorem act_range{N:Nat}{s s':St}{w:World}(h:Rel N E s w){t:TypeId}{m m':Value}{x:Nx}(hm:VR E m m')(hx:xRange P t m s= .ok x s'):
  ActR N P E s w (do pure (.value (←Instr.range t m'))) x s':=by
 have fin:∀{q:Option Nat} {since last:Nat},(∀r,q=some r→r<E.nx)→(do pure (.value (←Instr.range t m')):Sem Next).run P w= .ok (.value (.pointer (some ⟨w.heap.size,0,none⟩))) {w with heap:=w.heap.push (.mapIter (q.map E.ι) since #[] last)}→
   ofR (newO s (.iter q since [] last) fun b s=>some (.ok (.val (.pointer (some ⟨b,0,none⟩))) s))= .ok x s'→ActR N P E s w (do pure (.value (←Instr.range t m'))) x s':=by
  intro q since last hq hrun hx
  cases e:newO s (.iter q since [] last) (fun b s=>some (Re.ok (.val (.pointer (some ⟨b,0,none⟩))) s))with
  |none=>rw [e]at hx;cases hx
  |some r=>
   rw [e]at hx
   have hr:r= .ok x s':=hx
   obtain⟨h1,h2⟩:=newO_some e
   rw [hr]at h2
   cases h2
   refine .val _ _ (E.push w.heap.size 0 0) _ {w with heap:=w.heap.push (.mapIter (q.map E.ι) since #[] last)} (stp_new (o':=.mapIter (q.map E.ι) since #[] last) h h1 rfl trivial rfl rfl rfl rfl ?_) ?_ hrun
   ·have X:=En.push_ext E w.heap.size 0 0
    refine⟨?_,En.push_sh ..,fun r hr=>Nat.lt_of_lt_of_le (hq r hr) X.nx⟩
    rw [En.push_ι]
    have:({w with heap:=w.heap.push (.mapIter (q.map E.ι) since #[] last)}:World).heap[w.heap.size]? =some (.mapIter (q.map E.ι) since #[] last):=by simp
    rw [this]
    cases q with
    |none=>rfl
    |some r=>rw [Option.map_some,Option.map_some,X.ι r (hq r rfl)]
   ·rw [h.nx];exact vr_pt E w.heap.size _
 unfold xRange at hx
 split at hx
 ·rename_i hu
  cases hm
  refine fin (fun r hr=>by cases hr) ?_ hx
  simp[Instr.range,run_underlying hu]
 ·rename_i k e r hp nx gr hu
  cases hm
  rename_i hrn
  split at hx
  case h_2=>cases hx
  rename_i es clock hr
  obtain⟨es',h1,h2⟩:=(h.ob r _ hr).2
  refine fin (fun r' hr'=>by cases hr';exact hrn) ?_ hx
  simp[Instr.range,run_underlying hu,run_getObj_map h1]
 ·cases hx
theorem ofT_ok{v:Value}{o:Option St}{x:Nx}{s':St}(h:ofT v o= .ok x s'):o=some s'∧x= .val v:=by
 unfold ofT at h
 split at h
 ·cases h;exact⟨rfl,rfl⟩
 ·cases h
theorem act_next{N:Nat}{s s':St}{w:World}(h:Rel N E s w){t:TypeId}{b:Bool}{m m':Value}{x:Nx}(hm:VR E m m')(hx:xNext m b s= .ok x s'):
  ActR N P E s w (do pure (.value (←Instr.next m' b t))) x s':=by
 unfold xNext at hx
 split at hx
 case h_2=>cases hx
 rename_i bk hp nx gr
 obtain⟨hbn,rfl⟩:=hm.ptr_inv
 split at hx
 ·rename_i z1 z2 z3 hit
  cases hx
  obtain⟨h1,h2,h3⟩:=(h.ob bk _ hit).2
  refine .val _ _ E _ w (Stp.refl h) (.tup _ _ (.cons _ _ _ _ (.bool false) .nil)) ?_
  rw [h2]
  simp[Instr.next,run_getObj_obj h1]
 ·rename_i r since seen last hit
  obtain⟨h1,h2,h3⟩:=(h.ob bk _ hit).2
  have hrn:=h3 r rfl
  split at hx
  case h_2=>cases hx
  rename_i es clock hr
  obtain⟨es',k1,k2⟩:=(h.ob r _ hr).2
  obtain⟨l'⟩:=es'
  simp only at k2
  cases hc:(!seen.isEmpty&&!es.isEmpty&&es.all (fun e=>Nat.ble last e.born))with
  |true=>rw [hc]at hx;cases hx
  |false=>
   rw [hc]at hx
   have hx:nextE hp nx gr bk r since seen clock (es.filter fun e=>!seen.contains e.born)= .ok x s':=hx
   obtain⟨a1,a2⟩:=k2.all (f:=fun e=>Nat.ble last e.born) (g:=fun e=>decide (e.born≥last)) (fun e e' he=>by
    rw [he.born,Bool.eq_iff_iff,decide_eq_true_iff]
    exact⟨fun h=>Nat.ble_eq_true_of_le h,fun h=>Nat.le_of_ble_eq_true h⟩)
   have hc':(!(⟨seen⟩:Array Nat).isEmpty&&!(⟨l'⟩:Array MapEntry).isEmpty&&(⟨l'⟩:Array MapEntry).all (fun e=>decide (e.born≥last)))=false:=by
    rw [←hc,←a1,←a2]
    simp
   have kf:=k2.filter (f:=fun e=>!seen.contains e.born) (g:=fun e=>!(⟨seen⟩:Array Nat).contains e.born) (fun e e' he=>by rw [he.born];simp)
   have hfl:(⟨l'⟩:Array MapEntry).filter (fun e=>!(⟨seen⟩:Array Nat).contains e.born)=⟨l'.filter (fun e=>!(⟨seen⟩:Array Nat).contains e.born)⟩:=by apply Array.ext';simp
   obtain⟨left,hleft⟩:∃left,left=l'.filter (fun e=>!(⟨seen⟩:Array Nat).contains e.born):=⟨_,rfl⟩
   rw [←hleft]at kf hfl
   unfold nextE at hx
   split at hx
   ·rename_i hnil
    rw [hnil]at kf
    cases kf
    cases hx
    refine .val _ _ E _ w (Stp.refl h) (.tup _ _ (.cons _ _ _ _ (.bool false) .nil)) ?_
    rw [h2]
    simp only[Instr.next,Sem.run_bind,Nat.add_zero,run_getObj_obj h1,Result.andThen_ok,Option.map_some,run_getObj_map k1,hc',Bool.false_eq_true,if_false,hfl]
    simp[Question.forced]
   ·rename_i e hone
    rw [hone]at kf
    cases kf with
    |cons _ e' _ _ he hn=>
     cases hn
     cases hb:(Nat.blt e.born since&&plain 5 e.key)with
     |false=>rw [hb]at hx;cases hx
     |true=>
      rw [hb]at hx
      obtain⟨b1,b2⟩:=Bool.and_eq_true_iff.1 hb
      obtain⟨hs,rfl⟩:=ofT_ok (show ofT (.tuple ⟨[.bool true,e.key,e.val]⟩) (setO hp nx gr bk (.iter (some r) since (seen++[e.born]) clock))= .ok x s' from hx)
      have es1:=setO_some hs
      subst es1
      have hlt:e'.born<since:=by rw [he.born];exact Nat.le_of_ble_eq_true b1
      have hnc:∀c t f,Obj.mapIter (some (E.ι r)) since ⟨seen⟩ last≠ .cells c t f:=fun _ _ _ e=>by cases e
      refine .val _ (.tuple #[.bool true,e'.key,e'.val]) E _ _ (stp_setob h (o2':=.mapIter (some (E.ι r)) since ⟨seen++[e.born]⟩ clock) hit trivial rfl trivial rfl fun w' hw'=>⟨hw',h2,h3⟩) (.tup _ _ (.cons _ _ _ _ (.bool true) (.cons _ _ _ _ ?_ (.cons _ _ _ _ he.val .nil)))) ?_
      ·rw [he.key];exact plain_VR E 5 _ b2
      ·rw [h2]
       have hold:(#[e']:Array MapEntry).filter (fun e=>decide (e.born<since))= #[e']:=by simp[hlt]
       have hnew:(#[e']:Array MapEntry).filter (fun e=>decide (e.born≥since))= #[]:=by simp[hlt]
       have hfl':(⟨l'⟩:Array MapEntry).filter (fun e=>!(⟨seen⟩:Array Nat).contains e.born)= #[e']:=hfl
       simp only[Instr.next,Sem.run_bind,Nat.add_zero,run_getObj_obj h1,Result.andThen_ok,Option.map_some,run_getObj_map k1,hc',Bool.false_eq_true,if_false,hfl',hold,hnew]
       simp[Question.forced,run_setObj h1 hnc,he.born]
   ·cases hx
 ·cases hx
theorem EntRs.find{E:En}{f g:MapEntry→Bool}(hfg:∀e e',EntR E e e'→g e'=f e):∀{l l':List MapEntry},EntRs E l l'→∀{e},l.find? f=some e→∃e',l'.find? g=some e'∧EntR E e e'
 |_,_,.nil,e,h=>by cases h
 |_,_,.cons a a' _ _ h hl,e,hf=>by
  rw [List.find?_cons]at hf ⊢
  rw [hfg a a' h]
  split at hf
  ·cases hf;exact⟨a',rfl,h⟩
  ·exact EntRs.find hfg hl hf
theorem act_entry{N:Nat}{s s':St}{w:World}(h:Rel N E s w){m m':Value}{x:Nx}(hm:VR E m m')(hx:xEntry m s= .ok x s'):
  ActR N P E s w (do pure (.value (←Instr.entry m'))) x s':=by
 unfold xEntry at hx
 split at hx
 case h_2=>cases hx
 rename_i bk hp nx gr
 obtain⟨hbn,rfl⟩:=hm.ptr_inv
 split at hx
 case h_2=>cases hx
 rename_i r since seen last hit
 obtain⟨h1,h2,h3⟩:=(h.ob bk _ hit).2
 split at hx
 case h_2=>cases hx
 rename_i stamp es clock hst hr
 obtain⟨es',k1,k2⟩:=(h.ob r _ hr).2
 obtain⟨l'⟩:=es'
 simp only at k2
 cases hc:Nat.beq clock last with
 |false=>rw [hc]at hx;cases hx
 |true=>
  rw [hc]at hx
  have hcl:=Nat.eq_of_beq_eq_true hc
  have hx:entE (es.find? (fun e=>Nat.beq e.born stamp)) (.mk hp nx gr)= .ok x s':=hx
  unfold entE at hx
  split at hx
  case h_2=>cases hx
  rename_i e he
  cases hp5:plain 5 e.key with
  |false=>rw [hp5]at hx;cases hx
  |true=>
   rw [hp5]at hx
   cases hx
   obtain⟨e',f1,f2⟩:=k2.find (f:=fun e=>Nat.beq e.born stamp) (g:=fun e=>e.born==stamp) (fun e e' he=>by
    rw [he.born,Bool.eq_iff_iff,beq_iff_eq]
    exact⟨fun h=>by rw [h];exact Nat.beq_refl _,fun h=>Nat.eq_of_beq_eq_true h⟩) he
   refine .val _ (.tuple #[e'.key,e'.val]) E _ w (Stp.refl h) (.tup _ _ (.cons _ _ _ _ ?_ (.cons _ _ _ _ f2.val .nil))) ?_
   ·rw [f2.key];exact plain_VR E 5 _ hp5
   ·rw [h2]
    have hb:(⟨seen⟩:Array Nat).back? =some stamp:=by rw [←hst];simp[Array.back?,List.getLast?_eq_getElem?]
    have hf:(⟨l'⟩:Array MapEntry).find? (fun e=>e.born==stamp)=some e':=by rw [←f1];simp
    have hne:(clock !=last)=false:=by rw [hcl];simp
    simp only[Instr.entry,Sem.run_bind,Nat.add_zero,run_getObj_obj h1,Result.andThen_ok,Option.map_some,hb,run_getObj_map k1,hne,Bool.false_eq_true,if_false,hf,Sem.run_pure]
theorem EntRs.eraseIdx{E:En}:∀(i:Nat) {l l':List MapEntry},EntRs E l l'→EntRs E (l.eraseIdx i) (l'.eraseIdx i)
 |_,_,_,.nil=>by simp[List.eraseIdx];exact .nil
 |0,_,_,.cons e e' _ _ h hl=>by simpa[List.eraseIdx]using hl
 |i+1,_,_,.cons e e' _ _ h hl=>by simpa[List.eraseIdx]using EntRs.cons _ _ _ _ h (EntRs.eraseIdx i hl)
theorem act_delete{N:Nat}{s s':St}{w:World}(h:Rel N E s w){ts:Array TypeId}{ty:TypeId}{args args':List Value}{x:Nx}(ha:VRs E args args')(hx:xDelete P ts.toList args s= .ok x s'):
  ActR N P E s w (do pure (.value (←Builtin.delete_ ts ty ⟨args'⟩))) x s':=by
 obtain⟨hp,nx,gr⟩:=s
 unfold xDelete at hx
 split at hx
 case h_2=>cases hx
 rename_i key e r k hp' nx' gr' hu heq
 cases heq
 obtain⟨t,ht,hut⟩:=headT_some hu
 cases ha with
 |cons _ m' _ l' hm hl=>
 obtain⟨k',rfl,hk⟩:=hl.one_inv
 split at hx
 case h_2=>cases hx
 rename_i es clock hr
 cases hm
 rename_i hrn
 obtain⟨es',h1,h2⟩:=(h.ob r _ hr).2
 obtain⟨l'⟩:=es'
 have hem:(⟨l'⟩:Array MapEntry).isEmpty=es.isEmpty:=by cases h2<;>rfl
 have hnc:∀c t f,Obj.map ⟨l'⟩ clock≠ .cells c t f:=fun _ _ _ e=>by cases e
 unfold erased at hx
 split at hx
 ·rename_i hf
  obtain⟨hs,rfl⟩:=ofS_ok hx
  have es1:=setO_some hs
  subst es1
  obtain⟨rfl,hpk,k1,k2⟩:=findK_sound w hk h2 hf
  refine .val undef undef E _ _ (stp_setob h (o2':=.map ⟨l'⟩ clock) hr trivial rfl trivial rfl fun w' hw'=>⟨_,hw',h2⟩) .undef ?_
  rw [←hem]at k1
  have q0:(⟨[.map (some (E.ι r)),k']⟩:Array Value)[0]? =some (.map (some (E.ι r))):=rfl
  have q1:(⟨[.map (some (E.ι r)),k']⟩:Array Value)[1]? =some k':=rfl
  simp only[Builtin.delete_,ht,q0,q1,Sem.run_bind,run_underlying hut,Result.andThen_ok,run_getObj_map h1,k1,k2,Option.map_none,run_setObj h1 hnc,Sem.run_pure]
  rfl
 ·rename_i i hf
  obtain⟨hs,rfl⟩:=ofS_ok hx
  have es1:=setO_some hs
  subst es1
  obtain⟨rfl,hpk,k1,k2⟩:=findK_sound w hk h2 hf
  refine .val undef undef E _ _ (stp_setob h (o2':=.map ⟨l'.eraseIdx i⟩ clock) hr trivial rfl trivial rfl fun w' hw'=>⟨_,hw',h2.eraseIdx i⟩) .undef ?_
  rw [←hem]at k1
  have q0:(⟨[.map (some (E.ι r)),k']⟩:Array Value)[0]? =some (.map (some (E.ι r))):=rfl
  have q1:(⟨[.map (some (E.ι r)),k']⟩:Array Value)[1]? =some k':=rfl
  have q2:(⟨l'⟩:Array MapEntry).eraseIdxIfInBounds i=⟨l'.eraseIdx i⟩:=by
   apply Array.ext'
   simp
  simp only[Builtin.delete_,ht,q0,q1,Sem.run_bind,run_underlying hut,Result.andThen_ok,run_getObj_map h1,k1,k2,Option.map_some,q2,run_setObj h1 hnc,Sem.run_pure]
  rfl
 ·cases hx
theorem act_clear{N:Nat}{s s':St}{w:World}(h:Rel N E s w){ts:Array TypeId}{ty:TypeId}{args args':List Value}{x:Nx}(ha:VRs E args args')(hx:xClear P ts.toList args s= .ok x s'):
  ActR N P E s w (do pure (.value (←Builtin.clear_ ts ty ⟨args'⟩))) x s':=by
 obtain⟨hp,nx,gr⟩:=s
 unfold xClear at hx
 split at hx
 ·rename_i e q n c hu
  obtain⟨t,ht,hut⟩:=headT_some hu
  obtain⟨m',rfl,hm⟩:=ha.one_inv
  obtain⟨q',c',rfl,hq⟩:=hm.slice_any
  have q0:(⟨[.slice q' n c']⟩:Array Value)[0]? =some (.slice q' n c'):=rfl
  cases hn:Nat.beq n 0 with
  |true=>
   rw [hn]at hx
   cases hx
   have:n=0:=Nat.eq_of_beq_eq_true hn
   subst this
   refine .val undef undef E _ _ (.refl h) .undef ?_
   simp only[Builtin.clear_,ht,q0,Sem.run_bind,run_underlying hut,Result.andThen_ok,Sem.run_pure]
   cases q'<;>rfl
  |false=>
   rw [hn]at hx
   have hx':clearB P e q n (.mk hp nx gr)= .ok x s':=hx
   unfold clearB at hx'
   split at hx'
   case h_2=>cases hx'
   rename_i b off z hz
   obtain⟨_,c2,e2,_⟩:=hm.sl_inv
   cases e2
   cases hzl:Nat.blt 0 z.length with
   |false=>rw [hzl]at hx';cases hx'
   |true=>
    rw [hzl]at hx'
    obtain⟨hs,rfl⟩:=ofS_ok hx'
    obtain⟨v,hv,_,hzv,hvz⟩:=zeroCs_sound (E:=E) hz
    rw [repO_eq]at hs
    obtain⟨w',k1,k2⟩:=stp_write P h hs (VRs.rep hzv n)
    have hz0:0<z.length:=Nat.le_of_ble_eq_true hzl
    have hn0:n≠0:=Nat.ne_of_beq_eq_false hn
    have hcs:v.cells.size=z.length:=by rw [←Array.length_toList,hvz]
    have hzc:(Builtin.zeroCells v.cells n).toList=(List.replicate n v.cells.toList).flatten:=by
     unfold Builtin.zeroCells
     rw [hcs,show (Array.range (n*z.length)).map (fun i=>v.cells[i%z.length]!)=(Array.range (n*z.length)).map (fun i=>v.cells[i%v.cells.size]!)by rw [hcs],range_cells z z.length n rfl (Nat.mul_ne_zero hn0 (by omega)) hvz,hvz]
    refine .val undef undef E _ _ k2 .undef ?_
    obtain⟨m,rfl⟩:∃m,n=m+1:=⟨n-1,by omega⟩
    simp only[Builtin.clear_,ht,q0,Sem.run_bind,run_underlying hut,Result.andThen_ok,run_zeroValue w hv,hzc,k1,Sem.run_pure]
    rfl
 ·rename_i hu
  cases hx
  obtain⟨t,ht,hut⟩:=headT_some hu
  obtain⟨m',rfl,hm⟩:=ha.one_inv
  cases hm
  refine .val undef undef E _ _ (.refl h) .undef ?_
  have q0:(⟨[.map none]⟩:Array Value)[0]? =some (.map none):=rfl
  simp only[Builtin.clear_,ht,q0,Sem.run_bind,run_underlying hut,Result.andThen_ok,Sem.run_pure]
  rfl
 ·rename_i key e r hp' nx' gr' hu heq
  cases heq
  obtain⟨t,ht,hut⟩:=headT_some hu
  obtain⟨m',rfl,hm⟩:=ha.one_inv
  cases hm
  split at hx
  case h_2=>cases hx
  rename_i es clock hr
  obtain⟨hs,rfl⟩:=ofS_ok hx
  have es1:=setO_some hs
  subst es1
  obtain⟨es',h1,h2⟩:=(h.ob r _ hr).2
  have hnc:∀c t f,Obj.map es' clock≠ .cells c t f:=fun _ _ _ e=>by cases e
  refine .val undef undef E _ _ (stp_setob h (o2':=.map #[] clock) hr trivial rfl trivial rfl fun w' hw'=>⟨_,hw',.nil⟩) .undef ?_
  have q0:(⟨[.map (some (E.ι r))]⟩:Array Value)[0]? =some (.map (some (E.ι r))):=rfl
  simp only[Builtin.clear_,ht,q0,Sem.run_bind,run_underlying hut,Result.andThen_ok,run_getObj_map h1,run_setObj h1 hnc,Sem.run_pure]
  rfl
 ·cases hx
theorem stp_own{N:Nat}{s:St}{w:World}(h:Rel N E s w){b:Nat}{cs:List Value}(hb:s.hp.get b=some (.row cs 0))(h0:0<b)(hg:s.gr.get b=none):
  Stp N E s w E (.mk (s.hp.set (.row cs b) b) s.nx (s.gr.set [b] b)) w:=by
 have gets:∀k,(s.hp.set (.row cs b) b).get k=if k=b then some (.row cs b)else s.hp.get k:=fun k=>Tr.get_set _ _ _ (Nat.lt_succ_self _) k
 have getg:∀k,(s.gr.set [b] b).get k=if k=b then some [b]else s.gr.get k:=fun k=>Tr.get_set _ _ _ (Nat.lt_succ_self _) k
 have was:∀m q,(s.hp.set (.row cs b) b).get m=some q→(m=b∧q= .row cs b)∨(m≠b∧s.hp.get m=some q):=fun m q hm=>by
  rw [gets]at hm
  split at hm
  ·rename_i e;cases hm;exact .inl ⟨e,rfl⟩
  ·rename_i e;exact .inr ⟨e,hm⟩
 have alone:∀m q,s.hp.get m=some q→m≠b→q≠ .dead→E.ι m≠E.ι b:=fun m q hm hne hd e=>
  (h.dis b _ m q hb hm trivial hd (fun e=>hne e.symm) e.symm).1 rfl
 refine⟨.refl E,⟨h.nx,h.lo,h.hi,h.base,h.flr,fun m q hm=>?_,fun m q hm hr=>?_,fun m q m' q' hm hm' hr hd hne he=>?_,fun m q hm hq=>?_,fun m q hm hd hr=>?_⟩,rfl,rfl,rfl,Nat.le_refl _,fun _ _ _=>rfl,fun m q hm hq=>?_⟩
 ·rcases was m q hm with⟨rfl,rfl⟩|⟨_,hm⟩
  ·obtain⟨h1,c,t,fr,h2,h3,h4,h5⟩:=h.ob m _ hb
   exact⟨h1,c,t,fr,h2,h3,h4.up (by omega),h5⟩
  ·exact h.ob m q hm
 ·rcases was m q hm with⟨rfl,rfl⟩|⟨_,hm⟩
  ·exact h.flo m _ hb trivial
  ·exact h.flo m q hm hr
 ·rcases was m q hm with⟨rfl,rfl⟩|⟨hn,hm1⟩
  ·rcases was m' q' hm' with⟨rfl,rfl⟩|⟨hn',hm2⟩
   ·exact absurd rfl hne
   ·exact absurd he.symm (alone m' q' hm2 hn' hd)
  ·rcases was m' q' hm' with⟨rfl,rfl⟩|⟨hn',hm2⟩
   ·exact absurd he (alone m q hm1 hn fun e=>by subst e;exact hr)
   ·exact h.dis m q m' q' hm1 hm2 hr hd hne he
 ·rcases was m q hm with⟨rfl,rfl⟩|⟨_,hm⟩
  ·exact⟨[m],by show (s.gr.set [m] m).get m=_;rw [getg,if_pos rfl],List.mem_singleton.2 rfl⟩
  ·obtain⟨ms,h1,h2⟩:=h.grp m q hm hq
   refine⟨ms,?_,h2⟩
   show (s.gr.set [b] b).get _=_
   rw [getg,if_neg fun e=>by rw [e,hg]at h1;cases h1]
   exact h1
 ·rcases was m q hm with⟨rfl,rfl⟩|⟨_,hm⟩
  ·exact absurd trivial hr
  ·exact h.ro m q hm hd hr
 ·rcases was m q hm with⟨rfl,rfl⟩|⟨_,hm⟩
  ·exact .inr ⟨m,_,hb,trivial,rfl⟩
  ·exact .inr ⟨m,q,hm,hq,rfl⟩
theorem stp_frozen{N:Nat}{s:St}{w:World}(h:Rel N E s w){b:Nat}{cs:List Value}{g:Nat}(hb:s.hp.get b=some (.row cs g))(hg0:g≠0)(o:Nat):
  ∃w',(markStringish ⟨E.ι b,o,none⟩).run P w= .ok () w'∧Stp N E s w E s w':=by
 obtain⟨hbn,c,t,fr,h1,h2,h3,h4⟩:=h.ob b _ hb
 have hιb:E.ι b<w.heap.size:=(h.ob b _ hb).2.lt (fun e=>by cases e)
 obtain⟨fr',hfr⟩:∃fr':Nat×Nat,fr'=if fr.1==fr.2 then(c.size,c.size+1)else(min fr.1 c.size,max fr.2 (c.size+1)):=⟨_,rfl⟩
 have hth:Thaw g fr' c.size:=by
  rw [hfr]
  rcases h3 with h3|⟨h3,_⟩
  ·rw [h3];simp;exact .inr ⟨Nat.le_refl _,hg0⟩
  ·split
   ·exact .inr ⟨Nat.le_refl _,hg0⟩
   ·exact .inr ⟨by show c.size≤min fr.1 c.size;omega,hg0⟩
 have hfz:w.freeze ⟨E.ι b,c.size,none⟩ 1=World.row w (E.ι b) (.cells c t fr'):=by
  unfold World.freeze World.row
  rw [if_neg (by decide)]
  congr 1
  apply Array.ext_getElem?
  intro k
  simp only[Array.getElem?_modify,Array.getElem?_setIfInBounds]
  by_cases e:E.ι b=k
  ·subst e
   have e2:w.heap[E.ι b]= .cells c t fr:=by rw [Array.getElem?_eq_getElem hιb]at h1;exact Option.some.inj h1
   rw [if_pos rfl,if_pos rfl,if_pos hιb,h1,hfr]
   rfl
  ·simp[e]
 refine⟨World.row w (E.ι b) (.cells c t fr'),?_,?_⟩
 ·have hsh:w.shape? (E.ι b)=some (t,c.size):=by simp[World.shape?,h1]
  simp only[markStringish,Sem.run_bind,run_shape,Result.andThen_ok,hsh,run_freeze,hfz]
 ·have hh:∀B,(World.row w (E.ι b) (.cells c t fr')).heap[B]? =if B=E.ι b then some (.cells c t fr')else w.heap[B]?:=fun B=>row_heap _ _ _ _ hιb
  have hhs:(World.row w (E.ι b) (.cells c t fr')).heap.size=w.heap.size:=by simp[World.row]
  refine⟨.refl E,⟨h.nx,h.lo,h.hi,h.base,by rw [hhs];exact h.flr,fun m q hm=>?_,h.flo,h.dis,h.grp,h.ro⟩,rfl,rfl,rfl,by rw [hhs];exact Nat.le_refl _,fun B hB hn=>by rw [hh,if_neg (fun e=>hn b _ hb trivial e.symm)],fun m q hm hq=>.inr ⟨m,q,hm,hq,rfl⟩⟩
  obtain⟨z1,z2⟩:=h.ob m q hm
  refine⟨z1,?_⟩
  by_cases e:E.ι m=E.ι b
  ·cases q with
   |row cs1 g1=>
    obtain⟨c1,t1,fr1,y1,y2,y3,y4⟩:=z2
    rw [e,h1]at y1
    cases y1
    have hgg:g1=g:=by
     by_cases em:m=b
     ·subst em;rw [hb]at hm;cases hm;rfl
     ·exact(h.dis b _ m _ hb hm trivial (fun e=>by cases e) (fun e=>em e.symm) e.symm).2.1
    exact⟨c,t,fr',by rw [hh,e,if_pos rfl],y2,by rw [hgg];exact hth,y4⟩
   |ro cs1=>
    obtain⟨c1,t1,fr1,y1,y4⟩:=z2
    rw [e,h1]at y1
    cases y1
    exact⟨c,t,fr',by rw [hh,e,if_pos rfl],y4⟩
   |map es cl=>obtain⟨_,y1,_⟩:=z2;rw [e,h1]at y1;cases y1
   |loop l n tm=>obtain⟨_,y1,_⟩:=z2;rw [e,h1]at y1;cases y1
   |dfr c=>obtain⟨_,y1,_⟩:=z2;rw [e,h1]at y1;cases y1
   |iter=>obtain⟨y1,_⟩:=z2;rw [e,h1]at y1;cases y1
   |dead=>trivial
  ·by_cases hqd:q= .dead
   ·subst hqd;trivial
   ·exact z2.keep (.refl E) z1 (by rw [hh,if_neg e])
theorem run_callFunc{f:FuncId}{args:List Value}{s s':St}{x:Nx}(h:callV P f args s= .ok x s'):s'=s∧x= .enter f args∧∀(args':Array Value) (w:World),(callFunc f args').run P w= .ok (.enter f args') w:=by
 unfold callV at h
 split at h
 case h_2=>cases h
 rename_i fn hf
 cases hb:(fn.body.isSome&&!(fn.name== "runtime.NumGoroutine"))with
 |false=>rw [hb]at h;cases h
 |true=>
  rw [hb]at h
  cases h
  obtain⟨h1,h2⟩:=Bool.and_eq_true_iff.1 hb
  refine⟨rfl,rfl,fun args' w=>?_⟩
  have h3:(fn.name== "runtime.NumGoroutine")=false:=by simpa using h2
  have h4:fn.body.isNone=false:=by cases hq:fn.body with
   |none=>rw [hq]at h1;cases h1
   |some c=>rfl
  simp only[callFunc,Sem.run_bind,run_program,Result.andThen_ok,hf,h3,Bool.false_eq_true,if_false,h4,Sem.run_pure]
theorem ActR.congr{N:Nat}{s s':St}{w:World}{m m':Sem Next}{x:Nx}(A:ActR N P E s w m' x s')(e:m.run P w=m'.run P w):ActR N P E s w m x s':=by
 cases A with
 |val v v2 E' _ w' q1 q2 q3=>exact .val v v2 E' _ w' q1 q2 (e.trans q3)
 |skip E' _ w' q1 q3=>exact .skip E' _ w' q1 (e.trans q3)
 |enter f args args' q1 q3=>exact .enter f args args' q1 (e.trans q3)
 |round l args args' q0 q1 q3=>exact .round l args args' q0 q1 (e.trans q3)
 |defer d d' q1 q3=>exact .defer d d' q1 (e.trans q3)
 |recover q3=>exact .recover (e.trans q3)
theorem callE_act{N:Nat}{s s':St}{w:World}(h:Rel N E s w){f:FuncId}{args args':List Value}{x:Nx}(ha:VRs E args args')(hx:callE P f args s= .ok x s'):ActR N P E s w (callFunc f ⟨args'⟩) x s':=by
 unfold callE at hx
 split at hx
 case h_2=>cases hx
 rename_i fn hf
 split at hx
 ·obtain⟨rfl,rfl,k⟩:=run_callFunc hx
  exact .enter f _ args' ha (k _ w)
 ·rename_i hb
  cases ho:(fn.origin== "")with
  |false=>rw [ho]at hx;cases hx
  |true=>
   rw [ho]at hx
   exact ext_act h hf (by rw [hb];rfl) (eq_of_beq ho) ha hx
theorem run_method{t:TypeId}{name:String}{f:FuncId}(h:methodOf P t name=some f)(v:Value)(n:Nat)(w:World):(method (n+1) t v name).run P w= .ok (f,v) w:=by
 unfold methodOf at h
 split at h
 case h_2=>cases h
 rename_i i hi
 split at h
 case h_2=>cases h
 rename_i m hm
 cases hp:m.path.isEmpty with
 |false=>rw [hp]at h;cases h
 |true=>
  rw [hp]at h
  simp only[cond]at h
  split at h
  case h_2=>cases h
  rename_i g hg
  split at h
  case h_2=>cases h
  rename_i e he
  cases h
  have hpl:m.path.toList=[]:=by
   have:m.path= #[]:=by simpa using hp
   rw [this]
  have hty:(typeInfo t).run P w= .ok i w:=by simp[typeInfo,hi]
  simp only[method,Sem.run_bind,hty,Result.andThen_ok,hm,hpl,follow,Sem.run_pure,hg,receiverAt,run_underlying he,Place.get]
theorem xInvoke_act{N:Nat}{s s':St}{w:World}{name:String}{r r':Value}{args args':List Value}{x:Nx}(hr:VR E r r')(ha:VRs E args args')(hx:xInvoke P name r args s= .ok x s'):
  ActR N P E s w (callMethod r' name ⟨args'⟩) x s':=by
 unfold xInvoke at hx
 split at hx
 case h_2=>cases hx
 rename_i t v
 obtain⟨u,rfl,hu⟩:=hr.iface_inv
 split at hx
 case h_2=>cases hx
 rename_i f hf
 obtain⟨rfl,rfl,k⟩:=run_callFunc hx
 refine .enter f _ (u::args') (.cons _ _ _ _ hu ha) ?_
 have hm:=run_method hf u (P.types.size+99) w
 simp only[callMethod,Sem.run_bind,run_program,Result.andThen_ok]
 rw [show P.types.size+Made.depth=P.types.size+99+1 from rfl,hm]
 simp only[Result.andThen_ok,k]
 congr 2
 apply Array.ext'
 simp
theorem exec_acts{N:Nat}{s s':St}{w:World}(h:Rel N E s w){tm:Tr Value}{ρ:Operand→Value}(o:Oper)(hρ:Seen E tm ρ o.op)(hk:kindOf P o.op= .acts){x:Nx}(hx:exec P o.op tm s= .ok x s'):
  ActR N P E s w (execOp ρ o) x s':=by
 obtain⟨d0,op,type,pos,aft,guard⟩:=o
 simp only at hk hρ hx
 have hm:∀x,x∈op.operands.toList→VR E (opd tm x) (ρ x):=hρ
 cases op with
 |store t a b=>exact act_store h (hm a (by simp[Op.operands])) (hm b (by simp[Op.operands])) hx
 |mapUpdate t m k v=>exact act_mapUp h (hm m (by simp[Op.operands])) (hm k (by simp[Op.operands])) (hm v (by simp[Op.operands])) hx
 |insert t m k v=>exact act_mapUp h (hm m (by simp[Op.operands])) (hm k (by simp[Op.operands])) (hm v (by simp[Op.operands])) hx
 |defer c=>
  obtain⟨callee,args,ts⟩:=c
  have hargs:(args.map ρ)=⟨args.toList.map ρ⟩:=by apply Array.ext';simp
  cases callee with
  |value f=>
   have ha:=opds_sound args.toList fun z hz=>hm z (by simp only[Op.operands,Call.operands,Array.toList_append,List.mem_append];exact .inr hz)
   have hf:=hm f (by simp[Op.operands,Call.operands])
   have hx':xDefer ⟨.value f,args,ts⟩ tm s= .ok x s':=hx
   unfold xDefer at hx'
   simp only at hx'
   split at hx'
   case h_2=>cases hx'
   rename_i g x0 y0 hfo
   rw [hfo]at hf
   obtain⟨x',y',ef,hx0,hy0⟩:=hf.func_inv
   cases hx'
   rw [appO_eq]
   refine .defer _ ⟨.fn (.func g) ⟨y'⟩,⟨x'++args.toList.map ρ⟩⟩ ?_ ?_
   ·obtain⟨y1⟩:=y0
    exact .fn g _ _ _ _ hy0 (hx0.append ha)
   ·simp only[execOp,resolve,ef,Deferred.ofValue,hargs,Sem.run_bind,Sem.run_pure,Result.andThen_ok]
    congr 3
    apply Array.ext'
    simp
  |builtin b=>cases hx
  |invoke r name=>cases hx
 |call c=>
  obtain⟨callee,args,ts⟩:=c
  have hargs:(args.map ρ)=⟨args.toList.map ρ⟩:=by apply Array.ext';simp
  have ha:=opds_sound args.toList fun z hz=>hm z (by simp only[Op.operands,Call.operands,Array.toList_append,List.mem_append];exact .inr hz)
  cases callee with
  |value f=>
   have hf:=hm f (by simp[Op.operands,Call.operands])
   have hx':xCallV P (opd tm f) (opds tm args.toList) s= .ok x s':=hx
   unfold xCallV at hx'
   split at hx'
   ·rename_i g x0 y0 hfo
    rw [hfo]at hf
    obtain⟨x',y',ef,hx0,hy0⟩:=hf.func_inv
    rw [appO_eq,appO_eq]at hx'
    refine(callE_act h (hx0.append (ha.append hy0)) hx').congr ?_
    simp only[execOp,resolve,ef,Deferred.ofValue,hargs,Sem.run_bind,Sem.run_pure,Result.andThen_ok,invoke]
    congr 2
    apply Array.ext'
    simp
   ·rename_i l x0 y0 hfo
    rw [hfo]at hf
    obtain⟨hl,x',y',ef,hx0,hy0⟩:=hf.yld_inv
    cases hx'
    rw [appO_eq]
    refine .round l _ (x'++args.toList.map ρ) hl (hx0.append ha) ?_
    simp only[execOp,resolve,ef,Deferred.ofValue,hargs,Sem.run_bind,Sem.run_pure,Result.andThen_ok,invoke]
    rw [show ((⟨x'⟩:Array Value)++⟨args.toList.map ρ⟩)=⟨x'++args.toList.map ρ⟩by apply Array.ext';simp]
   ·rename_i name x0 y0 hfo
    rw [hfo]at hf
    obtain⟨x',y',ef,hx0,hy0⟩:=hf.meth_inv
    obtain⟨xl⟩:=x0
    simp only at hx'
    cases xl with
    |nil=>cases hx'
    |cons v rest=>
     cases hx0 with
     |cons _ v' _ rest' hv hrest=>
      have hx2:xInvoke P name v (appO rest (opds tm args.toList)) s= .ok x s':=hx'
      rw [appO_eq]at hx2
      have A:=xInvoke_act (N:=N) (w:=w) hv (hrest.append ha) hx2
      have e:(execOp ρ ⟨d0,.call ⟨.value f,args,ts⟩,type,pos,aft,guard⟩).run P w=(callMethod v' name ⟨rest'++args.toList.map ρ⟩).run P w:=by
       simp only[execOp,resolve,ef,Deferred.ofValue,hargs,Sem.run_bind,Sem.run_pure,Result.andThen_ok,invoke]
       rw [show ((⟨v'::rest'⟩:Array Value)++⟨args.toList.map ρ⟩)=⟨v'::(rest'++args.toList.map ρ)⟩by apply Array.ext';simp]
       rw [show (⟨v'::(rest'++args.toList.map ρ)⟩:Array Value)[0]? =some v' by simp]
       simp only
       rw [show (⟨v'::(rest'++args.toList.map ρ)⟩:Array Value).extract 1 (⟨v'::(rest'++args.toList.map ρ)⟩:Array Value).size=⟨rest'++args.toList.map ρ⟩by apply Array.ext';simp[List.take_of_length_le]]
      cases A with
      |val v v2 E' _ w' q1 q2 q3=>exact .val v v2 E' _ w' q1 q2 (e.trans q3)
      |skip E' _ w' q1 q3=>exact .skip E' _ w' q1 (e.trans q3)
      |enter f args args' q1 q3=>exact .enter f args args' q1 (e.trans q3)
      |round l args args' q0 q1 q3=>exact .round l args args' q0 q1 (e.trans q3)
      |defer d d' q1 q3=>exact .defer d d' q1 (e.trans q3)
      |recover q3=>exact .recover (e.trans q3)
   ·cases hx'
  |invoke r name=>
   have hr:=hm r (by simp[Op.operands,Call.operands])
   have A:=xInvoke_act (N:=N) (w:=w) hr ha (show xInvoke P name (opd tm r) (opds tm args.toList) s= .ok x s' from hx)
   have e:(execOp ρ ⟨d0,.call ⟨.invoke r name,args,ts⟩,type,pos,aft,guard⟩).run P w=(callMethod (ρ r) name ⟨args.toList.map ρ⟩).run P w:=by
    simp only[execOp,resolve,hargs,Sem.run_bind,Sem.run_pure,Result.andThen_ok,invoke]
    rw [show (#[ρ r]++(⟨args.toList.map ρ⟩:Array Value))=⟨ρ r::args.toList.map ρ⟩by apply Array.ext';simp]
    rw [show (⟨ρ r::args.toList.map ρ⟩:Array Value)[0]? =some (ρ r)by simp]
    simp only
    rw [show (⟨ρ r::args.toList.map ρ⟩:Array Value).extract 1 (⟨ρ r::args.toList.map ρ⟩:Array Value).size=⟨args.toList.map ρ⟩by apply Array.ext';simp[List.take_of_length_le]]
   cases A with
   |val v v2 E' _ w' q1 q2 q3=>exact .val v v2 E' _ w' q1 q2 (e.trans q3)
   |skip E' _ w' q1 q3=>exact .skip E' _ w' q1 (e.trans q3)
   |enter f args args' q1 q3=>exact .enter f args args' q1 (e.trans q3)
   |round l args args' q0 q1 q3=>exact .round l args args' q0 q1 (e.trans q3)
   |defer d d' q1 q3=>exact .defer d d' q1 (e.trans q3)
   |recover q3=>exact .recover (e.trans q3)
  |builtin b=>
   cases b with
   |recover=>cases hx;exact .recover rfl
   |append=>
    have hx':xAppend P ts.toList (opds tm args.toList) s= .ok x s':=hx
    have hrun:execOp ρ ⟨d0,.call ⟨.builtin .append,args,ts⟩,type,pos,aft,guard⟩=(do pure (.value (←Builtin.append_ ts type ⟨args.toList.map ρ⟩))):=by rw [←hargs];rfl
    generalize opds tm args.toList=av at hx' ha
    obtain⟨tl⟩:=ts
    unfold xAppend at hx'
    split at hx'
    case h_2=>cases hx'
    rename_i t u tl' a b htl
    have htl':tl=t::u::tl':=htl
    subst htl'
    split at hx'
    ·rename_i e ik hu hd
     rw [hrun]
     generalize args.toList.map ρ=al at ha
     cases ha with
     |cons _ a' _ _ haa hrest=>
      obtain⟨b',rfl,hbb⟩:=hrest.one_inv
      exact act_appendZ h (by simp) hu (by simp) hd haa hbb hx'
    ·rename_i e d hni hu hd
     rw [hrun]
     generalize args.toList.map ρ=al at ha
     cases ha with
     |cons _ a' _ _ haa hrest=>
      obtain⟨b',rfl,hbb⟩:=hrest.one_inv
      refine act_append h (by simp) hu (by simp) hd ?_ haa hbb hx'
      cases d<;>first|rfl|(exfalso;exact hni _ rfl)|(exfalso;exact hni _ _ rfl rfl)
    ·cases hx'
   |copy=>
    have hx':xCopy P ts.toList (opds tm args.toList) s= .ok x s':=hx
    have hrun:execOp ρ ⟨d0,.call ⟨.builtin .copy,args,ts⟩,type,pos,aft,guard⟩=(do pure (.value (←Builtin.copy_ ts type ⟨args.toList.map ρ⟩))):=by rw [←hargs];rfl
    generalize opds tm args.toList=av at hx' ha
    obtain⟨tl⟩:=ts
    unfold xCopy at hx'
    split at hx'
    case h_2=>cases hx'
    rename_i t tl' a b htl
    have htl':tl=t::tl':=htl
    subst htl'
    split at hx'
    ·rename_i e hu
     rw [hrun]
     generalize args.toList.map ρ=al at ha
     cases ha with
     |cons _ a' _ _ haa hrest=>
      obtain⟨b',rfl,hbb⟩:=hrest.one_inv
      exact act_copy h (by simp) hu haa hbb hx'
    ·cases hx'
   |delete=>
    have hrun:execOp ρ ⟨d0,.call ⟨.builtin .delete,args,ts⟩,type,pos,aft,guard⟩=(do pure (.value (←Builtin.delete_ ts type ⟨args.toList.map ρ⟩))):=by rw [←hargs];rfl
    rw [hrun]
    exact act_delete h ha hx
   |clear=>
    have hrun:execOp ρ ⟨d0,.call ⟨.builtin .clear,args,ts⟩,type,pos,aft,guard⟩=(do pure (.value (←Builtin.clear_ ts type ⟨args.toList.map ρ⟩))):=by rw [←hargs];rfl
    rw [hrun]
    exact act_clear h ha hx
   |len=>simp only[kindOf]at hk;split at hk<;>cases hk
   |cap=>cases hk
   |min=>cases hk
   |max=>cases hk
   |_=>cases hx
 |convert src dst a=>
  have ha:=hm a (by simp[Op.operands])
  have hsd:∃e0 e,P.underlying src=some (.slice e0)∧P.underlying dst=some (.slice e):=by
   simp only[kindOf]at hk
   split at hk
   ·cases hk
   ·cases hk
   ·rename_i e0 e hs hd;exact⟨e0,e,hs,hd⟩
   ·cases hk
   ·cases hk
  obtain⟨e0,e,hs,hd⟩:=hsd
  have hx':xConv P src dst (opd tm a) s= .ok x s':=hx
  unfold xConv at hx'
  split at hx'
  ·rename_i k n hv
   rw [hv]at ha
   have e1:=ha.int_inv
   rcases intTo_sound P (E:=E) src dst k n with hno|⟨v,v',h1,h2,h3⟩
   ·rw [show intTo P src dst k n s (P.underlying dst)= .no from hno s]at hx';cases hx'
   ·rw [show intTo P src dst k n s (P.underlying dst)= .ok (.val v) s from h1 s]at hx'
    cases hx'
    exact .val v v' E _ w (.refl h) h2 (by simp only[execOp,e1,Sem.run_bind,h3 w,Result.andThen_ok,Sem.run_pure])
  ·rw [hs,hd]at hx';cases hx'
  ·rename_i q n c hv
   rw [hv]at ha
   rw [hs,hd]at hx'
   have hx2:cond (Nat.beq src dst&&isU8 (P.underlying e)) (asBytes q n c s) .no= .ok x s':=hx'
   cases hq:(Nat.beq src dst&&isU8 (P.underlying e))with
   |false=>rw [hq]at hx2;cases hx2
   |true=>
    rw [hq]at hx2
    obtain⟨hq1,hq2⟩:=Bool.and_eq_true_iff.1 hq
    have hu8:P.underlying e=some (.int .u8):=by
     unfold isU8 at hq2
     split at hq2
     ·assumption
     ·cases hq2
    have heq:src=dst:=Nat.eq_of_beq_eq_true hq1
    have hx3:asBytes q n c s= .ok x s':=hx2
    obtain⟨hp,nx,gr⟩:=s
    unfold asBytes at hx3
    split at hx3
    case h_2=>cases hx3
    rename_i b off hp' nx' gr' e5
    cases e5
    split at hx3
    case h_2=>cases hx3
    rename_i cs g hrow
    have hstp:∃w',(markStringish ⟨E.ι b,E.sh b+off,none⟩).run P w= .ok () w'∧Stp N E (.mk hp nx gr) w E s' w'∧x= .val (.slice (some ⟨b,off,none⟩) n c):=by
     cases hgb:Nat.beq g 0 with
     |true=>
      rw [hgb]at hx3
      obtain rfl:=Nat.eq_of_beq_eq_true hgb
      have hx4:(match setO hp nx gr b (.row cs b)with
       |some s=>match cond (Nat.blt 0 b&&Option.isNone (gr.get b)) (setG s b [b]) none with
        |some s=>Re.ok (.val (.slice (some ⟨b,off,none⟩) n c)) s
        |none=>.no
       |none=>.no)= .ok x s':=hx3
      split at hx4
      case h_2=>cases hx4
      rename_i s1 hs1
      split at hx4
      case h_2=>cases hx4
      rename_i s2 hs2
      cases hx4
      have e1:=setO_some hs1
      subst e1
      cases hq3:(Nat.blt 0 b&&Option.isNone (gr.get b))with
      |false=>rw [hq3]at hs2;cases hs2
      |true=>
       rw [hq3]at hs2
       obtain⟨hq4,hq5⟩:=Bool.and_eq_true_iff.1 hq3
       have e2:=setG_some (s:=.mk (hp.set (.row cs b) b) nx gr) (g:=b) (ms:=[b]) hs2
       subst e2
       have st:=stp_own h hrow (Nat.le_of_ble_eq_true hq4) (Option.isNone_iff_eq_none.1 hq5)
       obtain⟨w',k1,k2⟩:=stp_frozen (P:=P) st.rel (b:=b) (cs:=cs) (g:=b) (by show (hp.set _ b).get b=_;rw [Tr.get_set _ _ _ (Nat.lt_succ_self _),if_pos rfl]) (by have:=Nat.le_of_ble_eq_true hq4;omega) (E.sh b+off)
       exact⟨w',k1,st.trans k2,rfl⟩
     |false=>
      rw [hgb]at hx3
      cases hx3
      obtain⟨w',k1,k2⟩:=stp_frozen (P:=P) h hrow (fun e=>by subst e;cases hgb) (E.sh b+off)
      exact⟨w',k1,k2,rfl⟩
    obtain⟨w',k1,k2,rfl⟩:=hstp
    obtain⟨_,c',e6,_⟩:=ha.sl_inv
    refine .val _ _ E _ w' k2 ha ?_
    have hbeq:(src==dst)=true:=by rw [heq];exact beq_self_eq_true dst
    simp only[execOp,convert,Sem.run_bind,run_underlying hs,run_underlying hd,Result.andThen_ok,e6,hbeq,run_underlying hu8,k1,Sem.run_pure]
  ·simp only[hs,hd]at hx';cases hx'
  ·cases hx'
 |ready=>cases hx
 |waits=>cases hx
 |makeChan=>cases hx
 |mapEntry t m k=>exact act_mapEntry h (hm m (by simp[Op.operands])) (hm k (by simp[Op.operands])) hx
 |entryStore t m st v=>exact act_entryStore h (hm m (by simp[Op.operands])) (hm st (by simp[Op.operands])) (hm v (by simp[Op.operands])) hx
 |range t m=>exact act_range h (hm m (by simp[Op.operands])) hx
 |next m b=>exact act_next h (hm m (by simp[Op.operands])) hx
 |entry m=>exact act_entry h (hm m (by simp[Op.operands])) hx
 |go=>cases hx
 |panic=>cases hx
 |send=>cases hx
 |recv=>cases hx
 |select=>cases hx
 |_=>cases hk
end
end Go.Ev
