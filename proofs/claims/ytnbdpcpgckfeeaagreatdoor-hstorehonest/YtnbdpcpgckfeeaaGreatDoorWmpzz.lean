import Derived.Test.YtnbdpcpgckfeeaaGreatDoorKjzz
namespace Go.Sy
open Go Go.Ev
def hsh(h:List Nat):Value:=.agg ⟨h.map nB⟩
structure HT(P:Program)(k e:TypeId):Prop where
 arr:P.underlying k=some (.array 32 e)
 u8:P.underlying e=some (.int .u8)
 sz:sizeOfT P e=some 1
section
variable{P:Program}{k e:TypeId}
theorem pr_part(H:HT P k e){cs:Array Value}{i:Nat}{v:Value}(h:cs[i]? =some v):pureRun P (part e cs i)=some v:=by
 have a:pureRun P (isAgg e)=some false:=by
  unfold isAgg
  rw [pureRun_bind,pureRun_und H.u8];rfl
 unfold part
 rw [pureRun_bind,a]
 simp only[Bool.false_eq_true,if_false]
 rw [h];rfl
theorem pr_chk1(H:HT P k e){em:Bool}{n a:Nat}:pureRun P (Instr.checkKey em (n+1) e (nB a))=some ():=by
 rw [Instr.checkKey,pureRun_bind,pureRun_und H.u8];rfl
theorem pr_check(H:HT P k e){em:Bool}{n:Nat}{h:List Nat}(hl:h.length=32):pureRun P (Instr.checkKey em (n+2) k (hsh h))=some ():=by
 rw [Instr.checkKey,pureRun_bind,pureRun_und H.arr]
 simp only[hsh]
 simp only[Std.Legacy.Range.forIn_eq_forIn_range',Std.Legacy.Range.size,Nat.sub_zero,Nat.add_one_sub_one,Nat.div_one]
 have hi:∀i∈List.range' 0 32,i<h.length:=fun i hi=>by rw [hl];simpa using hi
 generalize List.range' 0 32=is at hi
 induction is with
 |nil=>rfl
 |cons j is ih=>
  have hj:=hi j (by simp)
  rw [List.forIn_cons]
  simp only[pureRun_bind,pureRun_size H.sz,Nat.mul_one]
  rw [pr_part H (v:=nB h[j]) (by simp[hj])]
  simp only[pr_chk1 H]
  have r:=ih fun i h=>hi i (by simp[h])
  rw [pureRun_bind]at r
  exact r
theorem pr_eq1(H:HT P k e){d a b:Nat}:pureRun P (Op.equalIn (d+1) e (nB a) (nB b))=some (decide (a=b)):=by
 rw [Op.equalIn,pureRun_bind,pureRun_und H.u8]
 show some ((a:Int)==(b:Int))=_
 congr 1
 by_cases h:a=b
 ·subst h;simp
 ·have:¬((a:Int)=(b:Int)):=by omega
  simp[h,this]
theorem pr_eq(H:HT P k e){h g:List Nat}(hl:h.length=32)(gl:g.length=32):pureRun P (Op.equal k (hsh h) (hsh g))=some (decide (h=g)):=by
 unfold Op.equal Op.maxDepth
 show pureRun P (Op.equalIn (9998+1+1) k (hsh h) (hsh g))=_
 rw [Op.equalIn,pureRun_bind,pureRun_und H.arr]
 simp only[hsh]
 simp only[Std.Legacy.Range.forIn_eq_forIn_range',Std.Legacy.Range.size,Nat.sub_zero,Nat.add_one_sub_one,Nat.div_one,pureRun_bind,pureRun_size H.sz,Nat.mul_one]
 have key:∀is:List Nat,(∀i∈is,i<32)→pureRun P (forIn is ((none,()):Option Bool×Unit) fun i _=>do
     let a ←part e {toList:=List.map nB h} i
     let b ←part e {toList:=List.map nB g} i
     let c ←Op.equalIn (9998+1) e a b
     if(!c)=true then pure (ForInStep.done (some false,()))
      else pure (ForInStep.yield (none,())))=some (if ∀i∈is,h[i]? =g[i]? then(none,())else(some false,())):=fun is=>by
  induction is with
  |nil=>intro _;simp only[List.not_mem_nil,false_imp_iff,implies_true,if_true];rfl
  |cons j is ih=>
   intro hi
   have hj:=hi j (by simp)
   have r:=ih fun i h=>hi i (by simp[h])
   rw [List.forIn_cons]
   simp only[pureRun_bind]
   rw [pr_part H (v:=nB (h[j]'(by omega))) (by simp[hl,hj]),pr_part H (v:=nB (g[j]'(by omega))) (by simp[gl,hj])]
   simp only[pr_eq1 H]
   have e1:h[j]? =some (h[j]'(by omega)):=List.getElem?_eq_getElem _
   have e2:g[j]? =some (g[j]'(by omega)):=List.getElem?_eq_getElem _
   by_cases hg:h[j]'(by omega)=g[j]'(by omega)
   ·rw [decide_eq_true hg]
    have iff:(∀i∈j::is,h[i]? =g[i]?)↔(∀i∈is,h[i]? =g[i]?):=by
     rw [List.forall_mem_cons]
     exact⟨fun x=>x.2,fun x=>⟨by rw [e1,e2,hg],x⟩⟩
    simp only[iff]
    exact r
   ·rw [decide_eq_false hg,show (if ∀i∈j::is,h[i]? =g[i]? then((none,()):Option Bool×Unit)else(some false,()))=(some false,())from if_neg (fun x=>hg (by have:=x j (by simp);rw [e1,e2]at this;exact Option.some.inj this))]
    rfl
 have kk:=key (List.range' 0 32) (fun i hi=>by simpa using hi)
 rw [kk]
 by_cases hg:h=g
 ·subst hg;simp only[implies_true,if_true,decide_true];rfl
 ·rw [if_neg (fun x=>hg (List.ext_getElem? fun i=>by
   by_cases hi:i<32
   ·exact x i (by simpa using hi)
   ·rw [List.getElem?_eq_none (by omega),List.getElem?_eq_none (by omega)])),decide_eq_false hg]
  rfl
def fnd(h:List Nat):List (List Nat×Value×Nat)→Option Nat
 |[]=>none
 |x::l=>if h=x.1 then some 0 else(fnd h l).map (· +1)
def ents(l:List (List Nat×Value×Nat)):List MapEntry:=l.map fun x=>⟨hsh x.1,x.2.1,x.2.2⟩
theorem pr_ask(H:HT P k e){h:List Nat}(hl:h.length=32):∀(l:List (List Nat×Value×Nat)) (_:∀x∈l,x.1.length=32) (i:Nat),
  pureRun P (Instr.findAsking k (hsh h) (ents l) i)=some ((fnd h l).bind fun j=>l[j]?.map fun x=>(i+j,x.2.1))
 |[],_,_=>rfl
 |x::l,hx,i=>by
  show pureRun P (Instr.findAsking k (hsh h) (⟨hsh x.1,x.2.1,x.2.2⟩::ents l) i)=_
  rw [Instr.findAsking,pureRun_bind,pr_eq H hl (hx x List.mem_cons_self)]
  by_cases g:h=x.1
  ·simp only[decide_eq_true g,fnd,if_pos g];rfl
  ·simp only[decide_eq_false g,fnd,if_neg g,Bool.false_eq_true,if_false]
   rw [pr_ask H hl l (fun y hy=>hx y (List.mem_cons_of_mem _ hy)) (i+1)]
   cases fnd h l with
   |none=>rfl
   |some j=>simp only[Option.map_some,Option.bind_some,List.getElem?_cons_succ];rw [show i+1+j=i+(j+1)by omega]
theorem fnd_lt{h:List Nat}:∀{l:List (List Nat×Value×Nat)} {j:Nat},fnd h l=some j→j<l.length∧∃v b,l[j]? =some (h,v,b)
 |x::l,j,hj=>by
  unfold fnd at hj
  split at hj
  ·rename_i g;cases hj;exact⟨by simp,x.2.1,x.2.2,by rw [g];rfl⟩
  ·cases hf:fnd h l with
   |none=>rw [hf]at hj;cases hj
   |some i=>
    rw [hf]at hj;cases hj
    obtain⟨a,v,b,c⟩:=fnd_lt hf
    exact⟨by simp;omega,v,b,by simpa using c⟩
theorem plain_h{h:List Nat}:plain 5 (hsh h)=true:=by
 show (h.map nB).all (plain 4)=true
 exact List.all_eq_true.2 fun v hv=>by obtain⟨a,_,rfl⟩:=List.mem_map.1 hv;rfl
theorem fndK(H:HT P k e){em:Bool}{h:List Nat}(hl:h.length=32){l:List (List Nat×Value×Nat)}(hx:∀x∈l,x.1.length=32):findK P em k (hsh h) (ents l)=some (fnd h l):=by
 have a:pureRun P (Instr.findKey k (hsh h) (ents l))=some ((fnd h l).bind fun j=>l[j]?.map fun x=>(j,x.2.1)):=by
  unfold Instr.findKey
  rw [pureRun_bind,pureRun_und H.arr]
  cases l with
  |nil=>rfl
  |cons x l=>
   have:=pr_ask H hl (x::l) hx 0
   simp only[Nat.zero_add]at this
   exact this
 unfold findK
 rw [plain_h,cond_true,a]
 have c:pureRun P (Instr.checkKey em 10000 k (hsh h))=some ():=pr_check (n:=9998) H hl
 rw [c]
 cases hf:fnd h l with
 |none=>rfl
 |some j=>
  obtain⟨h1,v,b,h2⟩:=fnd_lt hf
  simp only[Option.bind_some,h2,Option.map_some]
  exact fN_eq j _
end
abbrev MpE:=List (List Nat×Value)
structure MpI(l:List (List Nat×Value×Nat))(c:Nat):Prop where
 lt:∀x∈l,x.2.2<c
 nb:(l.map (·.2.2)).Nodup
 nk:(l.map (·.1)).Nodup
 by':∀x∈l,∀y∈x.1,y<256
def Mp(s:St)(r:Nat)(M:MpE):Prop:= ∃l c,s.hp.get r=some (.map (ents l) c)∧l.map (fun x=>(x.1,x.2.1))=M∧(∀x∈l,x.1.length=32)∧MpI l c
theorem fnd_not{h:List Nat}:∀{l:List (List Nat×Value×Nat)},fnd h l=none→h∉l.map (·.1)
 |[],_,e=>by cases e
 |x::l,hj,e=>by
  unfold fnd at hj
  split at hj
  ·cases hj
  ·rename_i g
   rcases List.mem_cons.1 e with e|e
   ·exact g e
   ·exact fnd_not (by cases hf:fnd h l with|none=>rfl|some i=>rw [hf]at hj;cases hj) e
theorem MpI.nil:MpI [] 0:=⟨(fun _ h=>by cases h),.nil,.nil,(fun _ h=>by cases h)⟩
theorem MpI.add{l:List (List Nat×Value×Nat)}{c:Nat}{h:List Nat}{v:Value}(i:MpI l c)(hf:fnd h l=none)(hb:∀y∈h,y<256):MpI (l++[(h,v,c)]) (c+1):=by
 refine⟨fun y hy=>?_,?_,?_,fun y hy=>?_⟩
 ·rcases List.mem_append.1 hy with a|a
  ·exact Nat.lt_succ_of_lt (i.lt y a)
  ·simp at a;subst a;exact Nat.lt_succ_self _
 ·rw [List.map_append]
  refine List.nodup_append.2 ⟨i.nb,by simp,fun a ha b hb e=>?_⟩
  simp at hb
  obtain⟨y,hy,rfl⟩:=List.mem_map.1 ha
  have:=i.lt y hy
  omega
 ·rw [List.map_append]
  refine List.nodup_append.2 ⟨i.nk,by simp,fun a ha b hb e=>?_⟩
  simp at hb
  subst hb
  subst e
  exact fnd_not hf ha
 ·rcases List.mem_append.1 hy with a|a
  ·exact i.by' y a
  ·simp at a;subst a;exact hb
theorem MpI.mod{l:List (List Nat×Value×Nat)}{c j b:Nat}{h:List Nat}{u v:Value}(i:MpI l c)(hj:l[j]? =some (h,u,b)):MpI (l.modify j fun x=>(h,v,x.2.2)) c:=by
 have e1:(l.modify j fun x=>(h,v,x.2.2)).map (·.2.2)=l.map (·.2.2):=by
  refine List.ext_getElem? fun k=>?_
  rw [List.getElem?_map,List.getElem?_map,List.getElem?_modify]
  by_cases e:j=k
  ·subst e;rw [hj];simp
  ·simp[e]
 have e2:(l.modify j fun x=>(h,v,x.2.2)).map (·.1)=l.map (·.1):=by
  refine List.ext_getElem? fun k=>?_
  rw [List.getElem?_map,List.getElem?_map,List.getElem?_modify]
  by_cases e:j=k
  ·subst e;rw [hj];simp
  ·simp[e]
 refine⟨fun y hy=>?_,by rw [e1];exact i.nb,by rw [e2];exact i.nk,fun y hy=>?_⟩
 ·have:y.2.2∈(l.modify j fun x=>(h,v,x.2.2)).map (·.2.2):=List.mem_map.2 ⟨y,hy,rfl⟩
  rw [e1]at this
  obtain⟨z,hz,e⟩:=List.mem_map.1 this
  rw [←e];exact i.lt z hz
 ·have:y.1∈(l.modify j fun x=>(h,v,x.2.2)).map (·.1):=List.mem_map.2 ⟨y,hy,rfl⟩
  rw [e2]at this
  obtain⟨z,hz,e⟩:=List.mem_map.1 this
  rw [←e];exact i.by' z hz
theorem MpI.del{l:List (List Nat×Value×Nat)}{c j:Nat}(i:MpI l c):MpI (l.eraseIdx j) c:=
 ⟨fun y hy=>i.lt y (List.mem_of_mem_eraseIdx hy),i.nb.sublist ((List.eraseIdx_sublist _ _).map _),i.nk.sublist ((List.eraseIdx_sublist _ _).map _),fun y hy=>i.by' y (List.mem_of_mem_eraseIdx hy)⟩
def mget(h:List Nat):MpE→Option Value
 |[]=>none
 |x::l=>if h=x.1 then some x.2 else mget h l
def mput(h:List Nat)(v:Value):MpE→MpE
 |[]=>[(h,v)]
 |x::l=>if h=x.1 then(h,v)::l else x::mput h v l
def mdel(h:List Nat):MpE→MpE
 |[]=>[]
 |x::l=>if h=x.1 then l else x::mdel h l
theorem fnd_get{h:List Nat}:∀{l:List (List Nat×Value×Nat)},mget h (l.map fun x=>(x.1,x.2.1))=(fnd h l).bind fun j=>l[j]?.map fun x=>x.2.1
 |[]=>rfl
 |x::l=>by
  have ih:=fnd_get (h:=h) (l:=l)
  simp only[List.map_cons,mget,fnd]
  split
  ·rfl
  ·rw [ih]
   cases fnd h l with
   |none=>rfl
   |some j=>simp
theorem fnd_put{h:List Nat}{v:Value}:∀{l:List (List Nat×Value×Nat)} {j:Nat},fnd h l=some j→setV (hsh h) v j (ents l)=ents (l.modify j fun x=>(h,v,x.2.2))∧(l.modify j fun x=>(h,v,x.2.2)).map (fun x=>(x.1,x.2.1))=mput h v (l.map fun x=>(x.1,x.2.1))
 |x::l,j,hj=>by
  unfold fnd at hj
  split at hj
  ·rename_i g;cases hj
   exact⟨rfl,by show (h,v)::l.map _=mput h v ((x.1,x.2.1)::l.map _);rw [mput,if_pos g]⟩
  ·rename_i g
   cases hf:fnd h l with
   |none=>rw [hf]at hj;cases hj
   |some i=>
    rw [hf]at hj;cases hj
    obtain⟨a,b⟩:=fnd_put (v:=v) hf
    refine⟨?_,?_⟩
    ·show _::setV (hsh h) v i (ents l)=_::ents _
     rw [a];rfl
    ·show (x.1,x.2.1)::(l.modify i _).map _=mput h v ((x.1,x.2.1)::l.map _)
     rw [b,mput,if_neg g]
theorem fnd_none{h:List Nat}{v:Value}:∀{l:List (List Nat×Value×Nat)},fnd h l=none→mput h v (l.map fun x=>(x.1,x.2.1))=l.map (fun x=>(x.1,x.2.1))++[(h,v)]∧mdel h (l.map fun x=>(x.1,x.2.1))=l.map fun x=>(x.1,x.2.1)
 |[],_=>⟨rfl,rfl⟩
 |x::l,hj=>by
  unfold fnd at hj
  split at hj
  ·cases hj
  ·rename_i g
   obtain⟨a,b⟩:=fnd_none (v:=v) (l:=l) (by cases hf:fnd h l with|none=>rfl|some i=>rw [hf]at hj;cases hj)
   refine⟨?_,?_⟩
   ·show mput h v ((x.1,x.2.1)::l.map _)=_
    rw [mput,if_neg g,a];rfl
   ·show mdel h ((x.1,x.2.1)::l.map _)=_
    rw [mdel,if_neg g,b];rfl
theorem fnd_del{h:List Nat}:∀{l:List (List Nat×Value×Nat)} {j:Nat},fnd h l=some j→(ents l).eraseIdx j=ents (l.eraseIdx j)∧(l.eraseIdx j).map (fun x=>(x.1,x.2.1))=mdel h (l.map fun x=>(x.1,x.2.1))
 |x::l,j,hj=>by
  unfold fnd at hj
  split at hj
  ·rename_i g;cases hj
   exact⟨rfl,by show l.map _=mdel h ((x.1,x.2.1)::l.map _);rw [mdel,if_pos g]⟩
  ·rename_i g
   cases hf:fnd h l with
   |none=>rw [hf]at hj;cases hj
   |some i=>
    rw [hf]at hj;cases hj
    obtain⟨a,b⟩:=fnd_del hf
    refine⟨?_,?_⟩
    ·show _::(ents l).eraseIdx i=_::ents _
     rw [a]
    ·show (x.1,x.2.1)::(l.eraseIdx i).map _=mdel h ((x.1,x.2.1)::l.map _)
     rw [b,mdel,if_neg g]
theorem mget_put{h g:List Nat}{v:Value}:∀{M:MpE},mget g (mput h v M)=if g=h then some v else mget g M
 |[]=>by simp only[mput,mget]
 |x::l=>by
  have ih:=mget_put (h:=h) (g:=g) (v:=v) (M:=l)
  simp only[mput]
  split
  ·rename_i e;simp only[mget];split
   ·rfl
   ·rename_i n;rw [if_neg (by rw [←e];exact n)]
  ·rename_i e;simp only[mget,ih]
   split
   ·rename_i q;rw [if_neg (fun a=>e (by rw [←a,q]))]
   ·rfl
theorem Kp.map{s:St}{r:Nat}{es es':List MapEntry}{c c':Nat}(h:s.hp.get r=some (.map es c)):Kp (fun γ=>γ=r) s (.mk (s.hp.set (.map es' c') r) s.nx s.gr):=by
 have hg:∀m,(St.mk (s.hp.set (.map es' c') r) s.nx s.gr).hp.get m=if m=r then some (.map es' c')else s.hp.get m:=fun m=>get_set' _ s.hp r m
 refine⟨Nat.le_refl _,fun w=>⟨fun b o hb=>?_,fun g ms m o hgr hm hb=>?_,fun b cs hb=>?_,fun b cs g hb hg0=>?_,fun b cs g hb=>?_,w.glt,w.mlt,w.one⟩,fun w b o hb hc=>?_⟩
 ·rw [hg]at hb
  split at hb
  ·rename_i e;cases hb;subst e;exact w.lt b (.map es c) h
  ·exact w.lt b o hb
 ·rw [hg]at hb
  split at hb
  ·rename_i e;subst e
   rcases w.mem g ms m _ hgr hm h with a|⟨_,a⟩<;>cases a
  ·exact w.mem g ms m o hgr hm hb
 ·rw [hg]at hb
  split at hb
  ·cases hb
  ·exact w.zero b cs hb
 ·rw [hg]at hb
  split at hb
  ·cases hb
  ·exact w.tag b cs g hb hg0
 ·rw [hg]at hb
  split at hb
  ·cases hb
  ·exact w.pos b cs g hb
 ·rw [hg,if_neg (fun e=>by subst e;rw [h]at hb;cases hb;exact hc rfl)];exact hb
theorem Mp.kp{C:Nat→Prop}{s s':St}{r:Nat}{M:MpE}(h:Mp s r M)(w:Wf s)(k:Kp C s s')(hr:¬C r):Mp s' r M:=
 let ⟨l,c,a,b⟩:=h;⟨l,c,k.kp w r _ a hr,b⟩
theorem Mp.lt{s:St}{r:Nat}{M:MpE}(h:Mp s r M)(w:Wf s):r<s.nx:=let ⟨_,_,a,_⟩:=h;(w.lt r _ a).1
theorem Mp.keys{s:St}{r:Nat}{M:MpE}(h:Mp s r M):∀x∈M,x.1.length=32:=by
 obtain⟨l,c,a,rfl,e,_⟩:=h
 intro x hx
 obtain⟨y,hy,rfl⟩:=List.mem_map.1 hx
 exact e y hy
section
variable{X:Fx}{env:Env}{s:St}
theorem bits_h{h:List Nat}:Instr.sameBits 10000 (hsh h) (hsh h)=true:=by
 show ((h.map nB).toArray.size==(h.map nB).toArray.size&&(((h.map nB).zip (h.map nB)).all fun(x,y)=>Instr.sameBits 9999 x y))=true
 rw [Bool.and_eq_true]
 refine⟨by simp,List.all_eq_true.2 fun p hp=>?_⟩
 obtain⟨i,hi,rfl⟩:=List.getElem_of_mem hp
 simp only[List.getElem_zip,List.getElem_map]
 show (IntKind.u8==IntKind.u8&&_==_)=true
 simp
theorem Xv.look{t t0 n0 key e elt r:Nat}{z0:Option (List Value)}{x y:Operand}{ok:Bool}{h:List Nat}{M:MpE}{z:Value}(ht:tk X.B.T t=some ⟨t0,n0,.mp key elt,z0⟩)(H:HT X.P key e)(hz:zeroOf X.P elt=some z)(hp:plain 5 z=true)
  (hx:ev env x=some (.map (some r))) (hy:ev env y=some (hsh h)) (hl:h.length=32) (hm:Mp s r M):
  Xv X (.lookup t x y ok) env s (cond ok (.tuple ⟨[(mget h M).getD z,.bool (mget h M).isSome]⟩) ((mget h M).getD z)) s:=fun tm hf=>by
 obtain⟨l,c,h1,rfl,h3,h4⟩:=hm
 have hu:X.P.underlying t=some (.map key elt):=X.B.un ht
 show xLookup X.P t (opd tm x) (opd tm y) ok s=_
 rw [ev_opd hf hx,ev_opd hf hy]
 have he:entriesOf s (.map (some r))=some (ents l):=by
  obtain⟨hp,nx,gr⟩:=s
  show (match hp.get r with|some (.map es _)=>some es|_=>none)=_
  rw [show hp.get r=_ from h1]
 unfold xLookup
 rw [hu,he]
 simp only
 rw [fndK H hl h3,fnd_get]
 cases hf:fnd h l with
 |none=>
  simp only[hz,hp,cond_true,Option.bind_none,Option.getD_none,Option.isSome_none,okLook]
  cases ok<;>rfl
 |some j=>
  obtain⟨q1,v,b,q2⟩:=fnd_lt hf
  have q3:entV j (ents l)=some v:=by
   unfold entV ents
   rw [List.getElem?_map,q2];rfl
  simp only[q3,Option.bind_some,q2,Option.map_some,Option.getD_some,Option.isSome_some,okLook]
  cases ok<;>rfl
theorem Xv.lenM{x:Operand}{t n t0 key elt r:Nat}{z:Option (List Value)}{M:MpE}(ht:tk X.B.T t=some ⟨t0,n,.mp key elt,z⟩)(hx:ev env x=some (.map (some r)))(hm:Mp s r M):
  Xv X (.call ⟨.builtin .len, #[x], #[t]⟩) env s (nI M.length) s:=fun tm hf=>by
 obtain⟨l,c,h1,rfl,h3,h4⟩:=hm
 show xLen X.P [t] (opds tm [x]) s=_
 rw [evs_opds hf (xs:=[x]) (vs:=[.map (some r)]) (by unfold evs;rw [hx];rfl)]
 have hu:X.P.underlying t=some (.map key elt):=X.B.un ht
 have he:entriesOf s (.map (some r))=some (ents l):=by
  obtain⟨hp,nx,gr⟩:=s
  show (match hp.get r with|some (.map es _)=>some es|_=>none)=_
  rw [show hp.get r=_ from h1]
 unfold xLen headT
 simp only[hu,he]
 unfold okN;rw [fN_eq]
 simp[ents,nI]
theorem Xv.put{t t0 n0 key e elt r:Nat}{z0:Option (List Value)}{x y q:Operand}{h:List Nat}{M:MpE}{v:Value}(ht:tk X.B.T t=some ⟨t0,n0,.mp key elt,z0⟩)(H:HT X.P key e)
  (hx:ev env x=some (.map (some r))) (hy:ev env y=some (hsh h)) (hq:ev env q=some v) (hl:h.length=32) (hb:∀y∈h,y<256) (hm:Mp s r M):
  ∃s',Xv X (.mapUpdate t x y q) env s undef s'∧Mp s' r (mput h v M)∧s'.nx=s.nx∧Kp (fun c=>c=r) s s':=by
 obtain⟨l,c,h1,rfl,h3,h4⟩:=hm
 have hu:X.P.underlying t=some (.map key elt):=X.B.un ht
 have base:∀tm,Fits env tm→exec X.P (.mapUpdate t x y q) tm s=xMapUp X.P t (.map (some r)) (hsh h) v s:=fun tm hf=>by
  show xMapUp X.P t (opd tm x) (opd tm y) (opd tm q) s=_
  rw [ev_opd hf hx,ev_opd hf hy,ev_opd hf hq]
 obtain⟨hp,nx,gr⟩:=s
 cases hf:fnd h l with
 |none=>
  refine⟨.mk (hp.set (.map (ents l++[⟨hsh h,v,c⟩]) (c+1)) r) nx gr,fun tm hft=>?_,⟨l++[(h,v,c)],c+1,?_,?_,?_,?_⟩,rfl,Kp.map h1⟩
  ·rw [base tm hft]
   unfold xMapUp
   simp only[hu,show hp.get r=_ from h1,fndK H hl h3,hf]
   rw [fN_eq,setO_ok];rfl
  ·show (hp.set _ r).get r=_
   rw [get_set',if_pos rfl];simp[ents]
  ·rw [(fnd_none (v:=v) hf).1];simp
  ·intro y hy
   rcases List.mem_append.1 hy with a|a
   ·exact h3 y a
   ·simp at a;subst a;exact hl
  ·exact h4.add hf hb
 |some j=>
  obtain⟨q1,u,b,q2⟩:=fnd_lt hf
  obtain⟨p1,p2⟩:=fnd_put (v:=v) hf
  refine⟨.mk (hp.set (.map (setV (hsh h) v j (ents l)) c) r) nx gr,fun tm hft=>?_,⟨l.modify j fun x=>(h,v,x.2.2),c,?_,p2,?_,?_⟩,rfl,Kp.map h1⟩
  ·rw [base tm hft]
   have st:staysK X.P (hsh h) j (ents l)=some (hsh h):=by
    have:(ents l)[j]? =some ⟨hsh h,u,b⟩:=by unfold ents;rw [List.getElem?_map,q2];rfl
    unfold staysK
    rw [this]
    simp only[Instr.keyThatStays,bits_h,if_true]
    show cond (plain 5 (hsh h)) _ _=_
    rw [plain_h];rfl
   unfold xMapUp
   simp only[hu,show hp.get r=_ from h1,fndK H hl h3,hf,st]
   rw [setO_ok];rfl
  ·show (hp.set _ r).get r=_
   rw [get_set',if_pos rfl,p1]
  ·intro y hy
   obtain⟨i,hi,rfl⟩:=List.getElem_of_mem hy
   rw [List.getElem_modify]
   split
   ·exact hl
   ·exact h3 _ (List.getElem_mem _)
  ·exact h4.mod q2
theorem Xv.mkM{t:Nat}:∃s',Xv X (.makeMap t none) env s (.map (some s.nx)) s'∧Mp s' s.nx []∧s'.nx=s.nx+1∧Kn s s':=by
 refine⟨.mk (s.hp.set (.map [] 0) s.nx) (s.nx+1) s.gr,fun tm hf=>?_,⟨[],0,?_,rfl,by simp,MpI.nil⟩,rfl,Kn.new (fun _ _ h=>by cases h)⟩
 ·show ofR (newO s (.map [] 0) fun b s=>some (.ok (.val (.map (some b))) s))=_
  rw [newO_ok];rfl
 ·show (s.hp.set _ s.nx).get s.nx=_
  rw [get_set',if_pos rfl];rfl
end
section
variable{X:Fx}{env:Env}{df:List Deferred}{s:St}{Q:Post}{all os:List Oper}{d:Option Nat}{ty:TypeId}{pos:String}{af:Array Edge}{g:Option (Nat×Bool)}
theorem Wd.put{i m:Nat}{L:List Sp}{past:Past}{t t0 n0 key e elt r:Nat}{z0:Option (List Value)}{x y q:Operand}{h:List Nat}{M:MpE}{v:Value}(hg:wantsE all env g=some true)(hd:dOk X d=true)(ht:tk X.B.T t=some ⟨t0,n0,.mp key elt,z0⟩)(H:HT X.P key e)
  (hx:ev env x=some (.map (some r))) (hy:ev env y=some (hsh h)) (hq:ev env q=some v) (hl:h.length=32) (hb:∀y∈h,y<256) (hm:Mp s r M)
  (K:∀s',Mp s' r (mput h v M)→s'.nx=s.nx→Kp (fun c=>c=r) s s'→Wd X all L ((some i,s')::past) (up d undef env) df s' Q):Wd X all (.mk .acts i ⟨d,.mapUpdate t x y q,ty,pos,af,g⟩ m::L) past env df s Q:=by
 obtain⟨s',a,b,c,e⟩:=Xv.put (X:=X) ht H hx hy hq hl hb hm
 exact Wd.act hg a hd (Nat.le_of_eq c.symm) (K s' b c e)
end
end Go.Sy
