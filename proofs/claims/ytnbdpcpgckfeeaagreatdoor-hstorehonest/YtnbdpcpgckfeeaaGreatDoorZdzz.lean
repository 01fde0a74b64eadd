import Derived.Test.YtnbdpcpgckfeeaaGreatDoorZbzz
namespace Go.Sy
open Go Go.Ev
theorem Mp.nodup{s:St}{r:Nat}{M:MpE}(h:Mp s r M):(M.map (·.1)).Nodup:=by
 obtain⟨l,c,_,rfl,_,i⟩:=h
 rw [List.map_map];exact i.nk
theorem mget_notin{h:List Nat}:∀{M:MpE},h∉M.map (·.1)→mget h M=none
 |[],_=>rfl
 |x::M,g=>by
  unfold mget
  rw [if_neg fun e=>g (by rw [e];simp),mget_notin fun e=>g (by rw [List.map_cons];exact List.mem_cons_of_mem _ e)]
theorem mget_del{h g:List Nat}:∀{M:MpE},(M.map (·.1)).Nodup→mget g (mdel h M)=if g=h then none else mget g M
 |[],_=>by simp[mdel,mget]
 |x::M,n=>by
  obtain⟨n1,n2⟩:=List.nodup_cons.1 (by simpa using n:(x.1::M.map (·.1)).Nodup)
  unfold mdel
  split
  ·rename_i e
   split
   ·rename_i e';rw [e',e];exact mget_notin n1
   ·rename_i e';exact(show mget g (x::M)=mget g M from if_neg fun e2=>e' (e2.trans e.symm)).symm
  ·rename_i e
   show (if g=x.1 then _ else mget g (mdel h M))=if g=h then none else if g=x.1 then _ else _
   rw [mget_del n2]
   split
   ·rename_i e2;rw [if_neg fun e3=>e (e3.symm.trans e2)]
   ·rfl
def evO(env:Env):Option Operand→Option (Option Value)
 |none=>some none
 |some y=>match ev env y with
  |some v=>some (some v)
  |none=>none
theorem evO_ok{env:Env}{tm:Tr Value}(hf:Fits env tm){y:Option Operand}{v:Option Value}(h:evO env y=some v):opdO tm y=v:=by
 cases y with
 |none=>cases h;rfl
 |some y=>
  cases hu:ev env y with
  |none=>rw [evO,hu]at h;cases h
  |some u=>rw [evO,hu]at h;cases h;show some (opd tm y)=_;rw [ev_opd hf hu]
theorem appd_ok{P:Program}{s:St}{e size:Nat}(hs:sizeOfT P e=some size)(hz:zeroFit P e size=true){b n c γ:Nat}{l:List Value}(hr:Rw s b l γ){y:Value}{k:Nat}{new:List Value}
  (hk:lenOfV y=some k) (hy:cellsFrom s size k y=some new) (hl:new.length=k*size) (h1:∀v∈new,Ev.one v=true) (hle:roomFor P e (n+k)=true) (hc:n+k≤capOf c) (hll:(n+k)*size≤l.length):
  ∃s',appendV P s e (.slice (some ⟨b,0,none⟩) n c) y= .ok (.val (.slice (some ⟨b,0,none⟩) (n+k) c)) s'∧Rw s' b (lov l (n*size) new) γ∧s'.nx=s.nx∧Kp (fun x=>x=γ) s s':=by
 obtain⟨g,hr1,rfl⟩:=hr
 rw [Nat.add_mul]at hll
 obtain⟨s',a1,a2,a3,a4⟩:=writeAt_ok hr1 (vs:=new) (off:=n*size) (by omega) h1
 refine⟨s',?_,⟨g,a2,rfl⟩,a3,a4⟩
 have e0:appendV P s e (.slice (some ⟨b,0,none⟩) n c) y=appendN P s e size (some ⟨b,0,none⟩) n c (n+k) new:=by
  unfold appendV
  simp only[hs,hk,hy,fN_eq]
  rfl
 rw [e0]
 unfold appendN
 rw [hle,hz]
 show appendB s size b 0 n c (n+k) new=_
 unfold appendB
 rw [show Nat.ble (n+k) (capOf c)=true from Nat.ble_eq_true_of_le hc]
 show (match writeAt s b (0+n*size) new with|some s=>Re.ok (.val (.slice (some ⟨b,0,none⟩) (n+k) c)) s|none=>.no)=_
 rw [Nat.zero_add,a1]
section
variable{X:Fx}{env:Env}{df:List Deferred}{s:St}{Q:Post}{all os:List Oper}{d:Option Nat}{ty:TypeId}{pos:String}{af:Array Edge}{g:Option (Nat×Bool)}
theorem Xv.slE{t t0 n0 e t1 size:Nat}{z0 z:Option (List Value)}{ke:Sh}{x:Operand}{y1 y2 y3:Option Operand}{b o n c:Nat}{v1 v2 v3:Option Value}{v:Value}(ht:tk X.B.T t=some ⟨t0,n0,.sl e,z0⟩)(he:tk X.B.T e=some ⟨t1,size,ke,z⟩)(hx:ev env x=some (.slice (some ⟨b,o,none⟩) n c))(h1:evO env y1=some v1)(h2:evO env y2=some v2)(h3:evO env y3=some v3)(hv:sliceRow size b o n c v1 v2 v3=some v):
  Xv X (.slice t x y1 y2 y3) env s v s:=fun tm hf=>by
 show xSlice X.P t (opd tm x) (opdO tm y1) (opdO tm y2) (opdO tm y3) s=_
 rw [ev_opd hf hx,evO_ok hf h1,evO_ok hf h2,evO_ok hf h3]
 unfold xSlice
 simp only[show X.P.underlying t=_ from X.B.un ht,show sizeOfT X.P e=_ from X.B.sz he]
 rw [hv];rfl
theorem Xv.appd{x y:Operand}{t u e n0 nu size:Nat}{z0 zu:Option (List Value)}{z:List Value}{t0 t1 tu:Nat}{ke ku:Sh}(ht:tk X.B.T t=some ⟨t0,n0,.sl e,z0⟩)(he:tk X.B.T e=some ⟨t1,size,ke,some z⟩)(hu:tk X.B.T u=some ⟨tu,nu,ku,zu⟩)(hn:notI ku=true)
  {b n c:Nat} {v:Value} {γ k:Nat} {l new:List Value} (hx:ev env x=some (.slice (some ⟨b,0,none⟩) n c)) (hy:ev env y=some v) (hr:Rw s b l γ) (hk:lenOfV v=some k) (hv:cellsFrom s size k v=some new) (hl:new.length=k*size) (h1:∀v∈new,Ev.one v=true) {y0:Nat} (hV:lkV X.B.V e=some y0) (hro:(5*(n+k)+3072)*y0≤1125899906842624) (hb:n+k≤4611686018427387904) (hc:n+k≤capOf c) (hll:(n+k)*size≤l.length):
  ∃s',Xv X (.call ⟨.builtin .append, #[x,y], #[t,u]⟩) env s (.slice (some ⟨b,0,none⟩) (n+k) c) s'∧Rw s' b (lov l (n*size) new) γ∧s'.nx=s.nx∧Kp (fun x=>x=γ) s s':=by
 obtain⟨s',a,b1,c1,d1⟩:=appd_ok (P:=X.P) (X.B.sz he) (X.B.zr he).2.2.2 hr hk hv hl h1 (X.B.room hV hro hb) hc hll
 refine⟨s',fun tm hf=>?_,b1,c1,d1⟩
 show xAppend X.P [t,u] (opds tm [x,y]) s=_
 rw [evs_opds hf (xs:=[x,y]) (vs:=[.slice (some ⟨b,0,none⟩) n c,v]) (by unfold evs evs evs;rw [hx,hy])]
 obtain⟨td,hu1,hu2⟩:=und_notI (X.B.un hu) hn
 have ht1:X.P.underlying t=some (.slice e):=X.B.un ht
 unfold xAppend
 simp only[ht1,show X.P.underlying u=some td from hu1]
 cases td<;>first|exact a|exact absurd rfl (hu2 _)
theorem Wd.appd{i m:Nat}{L:List Sp}{past:Past}{x y:Operand}{t u e n0 nu size:Nat}{z0 zu:Option (List Value)}{z:List Value}{t0 t1 tu:Nat}{ke ku:Sh}(hgd:wantsE all env g=some true)(ht:tk X.B.T t=some ⟨t0,n0,.sl e,z0⟩)(he:tk X.B.T e=some ⟨t1,size,ke,some z⟩)(hu:tk X.B.T u=some ⟨tu,nu,ku,zu⟩)(hn:notI ku=true)(hd:dOk X d=true)
  {b n c:Nat} {v:Value} {γ k:Nat} {l new:List Value} (hx:ev env x=some (.slice (some ⟨b,0,none⟩) n c)) (hy:ev env y=some v) (hr:Rw s b l γ) (hk:lenOfV v=some k) (hv:cellsFrom s size k v=some new) (hl:new.length=k*size) (h1:∀v∈new,Ev.one v=true) {y0:Nat} (hV:lkV X.B.V e=some y0) (hro:(5*(n+k)+3072)*y0≤1125899906842624) (hb:n+k≤4611686018427387904) (hc:n+k≤capOf c) (hll:(n+k)*size≤l.length)
  (K:∀s',Rw s' b (lov l (n*size) new) γ→s'.nx=s.nx→Kp (fun x=>x=γ) s s'→Wd X all L ((some i,s')::past) (up d (.slice (some ⟨b,0,none⟩) (n+k) c) env) df s' Q):Wd X all (.mk .acts i ⟨d,.call ⟨.builtin .append, #[x,y], #[t,u]⟩,ty,pos,af,g⟩ m::L) past env df s Q:=by
 obtain⟨s',a,b1,c1,d1⟩:=Xv.appd (X:=X) (env:=env) ht he hu hn hx hy hr hk hv hl h1 hV hro hb hc hll
 exact Wd.act hgd a hd (Nat.le_of_eq c1.symm) (K s' b1 c1 d1)
theorem Xv.clrS{x:Operand}{t t0 n0 e t1 size:Nat}{z0:Option (List Value)}{z:List Value}{ke:Sh}{b o c γ:Nat}{l:List Value}(ht:tk X.B.T t=some ⟨t0,n0,.sl e,z0⟩)(he:tk X.B.T e=some ⟨t1,size,ke,some z⟩)(h0:Nat.blt 0 size=true)(hx:ev env x=some (.slice (some ⟨b,o,none⟩) 1 c))(h1:∀v∈z,Ev.one v=true)(hr:Rw s b l γ)(hl:o+size≤l.length):
  ∃s',Xv X (.call ⟨.builtin .clear, #[x], #[t]⟩) env s undef s'∧Rw s' b (lov l o z) γ∧s'.nx=s.nx∧Kp (fun x=>x=γ) s s':=by
 have hu:X.P.underlying t=some (.slice e):=X.B.un ht
 obtain⟨z1,z2,_⟩:=X.B.zr he
 obtain⟨g,hr1,rfl⟩:=hr
 obtain⟨s',a1,a2,a3,a4⟩:=writeAt_ok hr1 (vs:=z) (off:=o) (by omega) h1
 refine⟨s',fun tm hft=>?_,⟨g,a2,rfl⟩,a3,a4⟩
 show xClear X.P [t] (opds tm [x]) _=_
 rw [evs_opds hft (xs:=[x]) (vs:=[.slice (some ⟨b,o,none⟩) 1 c]) (by unfold evs;rw [hx];rfl)]
 unfold xClear headT
 simp only[hu]
 show cond (Nat.beq 1 0) _ (clearB X.P e (some ⟨b,o,none⟩) 1 s)=_
 show clearB X.P e (some ⟨b,o,none⟩) 1 s=_
 unfold clearB
 simp only[z1,z2]
 rw [show Nat.blt 0 size=true from h0]
 show ofS (writeAt s b o (appO z []))=_
 rw [appO_eq,List.append_nil,a1];rfl
theorem Wo.clrS{x:Operand}{t t0 n0 e t1 size:Nat}{z0:Option (List Value)}{z:List Value}{ke:Sh}{b o c γ:Nat}{l:List Value}(hg:wantsE all env g=some true)(hd:dOk X d=true)(ht:tk X.B.T t=some ⟨t0,n0,.sl e,z0⟩)(he:tk X.B.T e=some ⟨t1,size,ke,some z⟩)(h0:Nat.blt 0 size=true)(hx:ev env x=some (.slice (some ⟨b,o,none⟩) 1 c))(h1:∀v∈z,Ev.one v=true)(hr:Rw s b l γ)(hl:o+size≤l.length)
  (K:∀s',Rw s' b (lov l o z) γ→s'.nx=s.nx→Kp (fun x=>x=γ) s s'→Wo X all os (up d undef env) df s' Q):Wo X all (⟨d,.call ⟨.builtin .clear, #[x], #[t]⟩,ty,pos,af,g⟩::os) env df s Q:=by
 obtain⟨s',a,b,c,e⟩:=Xv.clrS (X:=X) (env:=env) ht he h0 hx h1 hr hl
 exact Wo.val hg a hd (K s' b c e)
theorem Wo.clr{x:Operand}{t n0 t0 key elt r:Nat}{z:Option (List Value)}{M:MpE}(hg:wantsE all env g=some true)(hd:dOk X d=true)(ht:tk X.B.T t=some ⟨t0,n0,.mp key elt,z⟩)(hx:ev env x=some (.map (some r)))(hm:Mp s r M)
  (K:∀s',Mp s' r []→s'.nx=s.nx→Kp (fun c=>c=r) s s'→Wo X all os (up d undef env) df s' Q):Wo X all (⟨d,.call ⟨.builtin .clear, #[x], #[t]⟩,ty,pos,af,g⟩::os) env df s Q:=by
 obtain⟨s',a,b,c,e⟩:=Xv.clr (X:=X) (env:=env) ht hx hm
 exact Wo.val hg a hd (K s' b c e)
theorem Wd.del{i m:Nat}{L:List Sp}{past:Past}{x y:Operand}{t u n0 t0 key e elt r:Nat}{z:Option (List Value)}{h:List Nat}{M:MpE}(hg:wantsE all env g=some true)(hd:dOk X d=true)(ht:tk X.B.T t=some ⟨t0,n0,.mp key elt,z⟩)(H:HT X.P key e)(hx:ev env x=some (.map (some r)))(hy:ev env y=some (hsh h))(hl:h.length=32)(hm:Mp s r M)
  (K:∀s',Mp s' r (mdel h M)→s'.nx=s.nx→Kp (fun c=>c=r) s s'→Wd X all L ((some i,s')::past) (up d undef env) df s' Q):Wd X all (.mk .acts i ⟨d,.call ⟨.builtin .delete, #[x,y], #[t,u]⟩,ty,pos,af,g⟩ m::L) past env df s Q:=by
 obtain⟨s',a,b,c,e⟩:=Xv.delM (X:=X) (env:=env) (u:=u) ht H hx hy hl hm
 exact Wd.act hg a hd (Nat.le_of_eq c.symm) (K s' b c e)
end
def Od(s:St)(q:Option Addr)(n c size:Nat)(cs:List Value)(γ:Nat):Prop:= ∃N l,Gw s q N c size l γ∧n≤N∧N≤2^39∧l.take (n*size)=cs
theorem Od.nil{s:St}{size γ:Nat}:Od s none 0 0 size [] γ:=⟨0,[],.nil,Nat.le_refl _,Nat.zero_le _,List.take_nil⟩
theorem Od.len{s:St}{q:Option Addr}{n c size γ:Nat}{cs:List Value}(h:Od s q n c size cs γ):cs.length=n*size:=by
 obtain⟨N,l,g,a,_,rfl⟩:=h
 rw [List.length_take,g.len,Nat.min_eq_left (Nat.mul_le_mul_right _ a)]
theorem Od.at{s:St}{q:Option Addr}{n c size γ:Nat}{cs:List Value}(h:Od s q n c size cs γ):At s q cs:=by
 obtain⟨N,l,g,a,_,rfl⟩:=h
 exact g.sl.take.at
theorem Od.keep{C:Nat→Prop}{s t:St}{q:Option Addr}{n c size γ:Nat}{cs:List Value}(h:Od s q n c size cs γ)(w:Wf s)(k:Kp C s t)(hc:q≠none→¬C γ):Od t q n c size cs γ:=by
 obtain⟨N,l,g,a,a2,e⟩:=h
 exact⟨N,l,g.keep w k hc,a,a2,e⟩
theorem lov_take{l vs:List Value}{o m:Nat}(h:m≤o)(ho:o≤l.length):(lov l o vs).take m=l.take m:=by
 unfold lov
 rw [List.take_append_of_le_length (by rw [List.length_take];omega),List.take_take,Nat.min_eq_left h]
end Go.Sy
namespace Go.Proofs.YtnbdpcpgckfeeaaGreatDoor
open Go Go.Ev Go.Sy
set_option maxRecDepth 100000
variable{s t:St}{q r:Option Addr}{c d n N b γ:Nat}{A H:List Nat}{l:List Value}
theorem cap_ls{size:Nat}(hc:c=least N size∨c=Ev.sure N)(hN:N<2^40):capOf c=N∧((capSure c=false∧esOf c=size)∨(capSure c=true∧c=Ev.sure N)):=by
 rcases hc with rfl|rfl
 ·obtain⟨a,b,c⟩:=cap_least (n:=N) (es:=size) (by omega);exact⟨a,.inl ⟨b,c⟩⟩
 ·exact⟨cap_sure.1,.inr ⟨cap_sure.2,rfl⟩⟩
theorem hdel_ok(hr:Rw s b l γ)(hl:l.length=N*32)(hN:N<2^40)(h1:1≤n)(hn:n≤N)(hc:c=least N 32∨c=Ev.sure N)(ho:∀v∈(l.take (n*32)).drop 32,Ev.one v=true):
  Cl B (.call 62 [.slice (some ⟨b,0,none⟩) n c,nI 0,nI 1]) s fun v s'=>v= .slice (some ⟨b,0,none⟩) (n-1) c∧(∃l',Rw s' b l' γ∧l'.length=N*32∧l'.take ((n-1)*32)=(l.take (n*32)).drop 32)∧s'.nx=s.nx∧Kp (fun x=>x=γ) s s':=by
 have mk:∀o m d:Nat,mkSl b o m d=some (.slice (some ⟨b,o,none⟩) m d):=fun o m d=>by unfold mkSl;simp only[fN_eq]
 obtain⟨cN,cS⟩:=cap_ls hc hN
 have bl:∀{a b:Nat},a≤b→Nat.ble a b=true:=fun h=>Nat.ble_eq_true_of_le h
 have bn:∀{a b:Nat},a≠b→Nat.beq a b=false:=fun h=>by rw [beq_dec,decide_eq_false h]
 have s3:∃v,sliceRow 32 b 0 n c (some (nI 0)) (some (nI 1)) (some (nI n))=some v:=by
  show ∃v,slice3 32 b 0 c 0 1 n=some v
  unfold slice3
  rw [bl (Nat.zero_le 1),bl h1,cN,bl hn,bn (by omega)]
  simp only[Bool.and_self,cond_true,cond_false,mk]
  exact⟨_,rfl⟩
 obtain⟨v3,hs3⟩:=s3
 have hsA:sliceRow 32 b 0 n c none (some (nI 0)) none=some (.slice (some ⟨b,0,none⟩) 0 c):=by
  show slice2 32 b 0 c 0 0=_
  unfold slice2
  rw [cN,bl (Nat.le_refl 0),bl (Nat.zero_le N),bn (show N≠0 by omega)]
  rcases cS with⟨e,_⟩|⟨e,e2⟩
  ·rw [e];exact mk 0 0 c
  ·rw [e]
   show mkSl b (0+0*32) (0-0) (Ev.sure (N-0))=_
   rw [mk,e2];rfl
 have hlen:((l.take (n*32)).drop 32).length=(n-1)*32:=by
  rw [List.length_drop,List.length_take,hl];omega
 obtain⟨vB,hsB,hkB,hcB⟩:∃v,sliceRow 32 b 0 n c (some (nI 1)) none none=some v∧lenOfV v=some (n-1)∧cellsFrom s 32 (n-1) v=some ((l.take (n*32)).drop 32):=by
  show ∃v,slice2 32 b 0 c 1 n=some v∧_
  have rd:∀d,cellsFrom s 32 (n-1) (.slice (some ⟨b,0+1*32,none⟩) (n-1) d)=some ((l.take (n*32)).drop 32):=fun d=>by
   obtain⟨g,hg,_⟩:=hr
   show readAt s b (0+1*32) ((n-1)*32)=_
   rw [readAt_of (l:=l) (.inr ⟨g,hg⟩) (by rw [List.length_drop,hl];omega),List.drop_take]
   congr 2;omega
  by_cases hN1:N=1
  ·have hn1:n=1:=by omega
   subst hn1
   subst hN1
   unfold slice2
   rw [cN]
   rcases cS with⟨e,_⟩|⟨e,e2⟩
   ·rw [e]
    refine⟨.slice (some ⟨b,0,some 0⟩) 0 0,rfl,rfl,?_⟩
    rw [List.eq_nil_of_length_eq_zero hlen];rfl
   ·rw [e]
    refine⟨.slice (some ⟨b,0,none⟩) 0 (Ev.sure 0),(show mkSl b 0 0 (Ev.sure 0)=_ from mk _ _ _),rfl,?_⟩
    obtain⟨g,hg,_⟩:=hr
    show readAt s b 0 0=_
    rw [readAt_of (l:=l) (.inr ⟨g,hg⟩) (Nat.zero_le _),List.take_zero,List.eq_nil_of_length_eq_zero hlen]
  ·unfold slice2
   rw [cN,bl h1,bl hn]
   rcases cS with⟨e,e2⟩|⟨e,e2⟩
   ·rw [e,e2,show Nat.blt 1 N=true from Nat.ble_eq_true_of_le (by omega)]
    exact⟨_,(show mkSl b (0+1*32) (n-1) (least (N-1) 32)=_ from mk _ _ _),rfl,rd _⟩
   ·rw [e,bn hN1]
    exact⟨_,(show mkSl b (0+1*32) (n-1) (Ev.sure (N-1))=_ from mk _ _ _),rfl,rd _⟩
 obtain⟨dC,hsC⟩:∃d,sliceRow 32 b 0 (n-1) c (some (nI (n-1))) (some (nI n)) none=some (.slice (some ⟨b,(n-1)*32,none⟩) 1 d):=by
  show ∃d,slice2 32 b 0 c (n-1) n=_
  unfold slice2
  rw [cN,bl (Nat.sub_le n 1),bl hn]
  rcases cS with⟨e,e2⟩|⟨e,e2⟩
  ·rw [e]
   by_cases h0:n-1=0
   ·refine⟨c,?_⟩
    rw [h0,show n=1 by omega];exact(show mkSl b 0 1 c=_ from mk _ _ _)
   ·rw [bn h0,e2,show Nat.blt (n-1) N=true from Nat.ble_eq_true_of_le (by omega)]
    refine⟨least (N-(n-1)) 32,(show mkSl b (0+(n-1)*32) (n-(n-1)) (least (N-(n-1)) 32)=_ from mk _ _ _).trans ?_⟩
    rw [show n-(n-1)=1 by omega,Nat.zero_add]
  ·rw [e,bn (show N≠n-1 by omega)]
   refine⟨Ev.sure (N-(n-1)),(show mkSl b (0+(n-1)*32) (n-(n-1)) (Ev.sure (N-(n-1)))=_ from mk _ _ _).trans ?_⟩
   rw [show n-(n-1)=1 by omega,Nat.zero_add]
 have h2:n≤N:=hn
 refine Cl.enter Tryz.f62 fn62 rfl rfl rfl ?_
 refine run1 ?_
 refine Wo.val rfl (Xv.slE rfl rfl rfl rfl rfl rfl hs3) rfl (run1 ?_)
 refine W.dr [(0,.none,0),(1,.none,0),(2,.none,3),(3,.none,0),(4,.none,0),(5,.none,24),(6,.acts,63),(7,.none,127)] (by kernel_rfl) rfl (run1 ?_)
 refine Wd.val rfl (Xv.slE rfl rfl rfl rfl rfl rfl hsA) rfl (Nat.le_refl _) (run1 ?_)
 refine Wd.val rfl (Xv.slE rfl rfl rfl rfl rfl rfl hsB) rfl (Nat.le_refl _) (run1 ?_)
 refine Wd.appd (l:=l) (n:=0) (k:=n-1) rfl rfl rfl rfl rfl rfl rfl rfl hr hkB hcB hlen ho rfl (by omega) (by omega) (by rw [cN];omega) (by show (0+(n-1))*32≤l.length;omega) fun s1 r1 n1 k1=>?_
 rw [Nat.zero_add]
 refine run1 ?_
 refine Wo.val rfl (Xv.slE rfl rfl rfl rfl rfl rfl hsC) rfl (run1 ?_)
 have l1:(lov l (0*32) ((l.take (n*32)).drop 32)).length=N*32:=by rw [lov_length (by omega),hl]
 refine Wo.clrS (z:=zh.map nB) rfl rfl rfl rfl rfl rfl one_nB r1 (show (n-1)*32+32≤_ by rw [l1];omega) fun s2 r2 n2 k2=>run1 ?_
 refine Lv.ret rfl ⟨rfl,⟨_,r2,?_,?_⟩,n2.trans n1,k1.trans k2⟩
 ·rw [lov_length (by rw [l1];show _+32≤_;omega),l1]
 ·rw [lov_take (Nat.le_refl _) (by rw [l1];omega)]
  unfold lov
  rw [Nat.zero_mul,List.take_zero,List.nil_append,List.take_append_of_le_length (by omega),List.take_of_length_le (by omega)]
def hsc(D b m:Nat)(o:Value)(rc rb:Nat):List Value:=[.pointer (some ⟨D,0,none⟩),.pointer (some ⟨b,0,none⟩),nI m,o,.map (some rc),.map (some rb)]
structure HsX(s:St)(P D b m:Nat)(K:List (List Nat))(MC:MpE)(Bl:List Nat→Option (List Nat))(γ γo rc rb:Nat)(qo:Option Addr)(co:Nat)(C F:Nat→Prop):Prop where
 row:Rw s P (hsc D b m (.slice qo K.length co) rc rb) γ
 ord:Od s qo K.length co 32 (K.flatMap (·.map nB)) γo
 mc:Mp s rc MC
 bad:Mp s rb []
 get:∀k,match mget k MC with
  |none=>k∉K
  |some v=>k∈K∧∃A q c γb,Bl k=some A∧v= .slice q A.length c∧Sl s q (A.map nB) γb∧F γb∧¬C γb
 keys:∀k∈K,k.length=32∧∀y∈k,y<256
 nod:K.Nodup
 le:K.length≤m
 col:∀c,C c↔c=γ∨c=rc∨c=rb∨(qo≠none∧c=γo)
 sub:∀c,C c→F c
 old:∀c,F c→c<s.nx
 ne:γ≠rc∧γ≠rb∧rc≠rb∧(qo≠none→γo≠γ∧γo≠rc∧γo≠rb)
def Hsv(s:St)(P D b m:Nat)(K:List (List Nat))(Bl:List Nat→Option (List Nat))(C F:Nat→Prop):Prop:= ∃γ γo rc rb qo co MC,HsX s P D b m K MC Bl γ γo rc rb qo co C F
theorem HsX.kp{E C F:Nat→Prop}{P D b m γ γo rc rb co:Nat}{K:List (List Nat)}{MC:MpE}{Bl:List Nat→Option (List Nat)}{qo:Option Addr}(h:HsX s P D b m K MC Bl γ γo rc rb qo co C F)(w:Wf s)(k:Kp E s t)(hE:∀c,F c→¬E c):HsX t P D b m K MC Bl γ γo rc rb qo co C F:=by
 have hC:∀c,C c→¬E c:=fun c h'=>hE c (h.sub c h')
 refine⟨h.row.kp w k (hC _ ((h.col _).2 (.inl rfl))),h.ord.keep w k (fun e=>hC _ ((h.col _).2 (.inr (.inr (.inr ⟨e,rfl⟩))))),h.mc.kp w k (hC _ ((h.col _).2 (.inr (.inl rfl)))),h.bad.kp w k (hC _ ((h.col _).2 (.inr (.inr (.inl rfl))))),fun key=>?_,h.keys,h.nod,h.le,h.col,h.sub,fun c hc=>Nat.lt_of_lt_of_le (h.old c hc) k.le,h.ne⟩
 have g:=h.get key
 revert g
 cases mget key MC with
 |none=>exact id
 |some v=>rintro⟨a,A,q,c,γb,b,d,e,f,g⟩;exact⟨a,A,q,c,γb,b,d,e.kp w k (hE _ f),f,g⟩
theorem Hsv.kp{E C F:Nat→Prop}{P D b m:Nat}{K:List (List Nat)}{Bl:List Nat→Option (List Nat)}(h:Hsv s P D b m K Bl C F)(w:Wf s)(k:Kp E s t)(hE:∀c,F c→¬E c):Hsv t P D b m K Bl C F:=
 let ⟨γ,γo,rc,rb,qo,co,MC,h⟩:=h;⟨γ,γo,rc,rb,qo,co,MC,h.kp w k hE⟩
theorem Hsv.mono{C F:Nat→Prop}{P D b m:Nat}{K:List (List Nat)}{Bl Bl':List Nat→Option (List Nat)}(h:Hsv s P D b m K Bl C F)(hB:∀k A,Bl k=some A→Bl' k=some A):Hsv s P D b m K Bl' C F:=by
 obtain⟨γ,γo,rc,rb,qo,co,MC,h⟩:=h
 refine⟨γ,γo,rc,rb,qo,co,MC,h.row,h.ord,h.mc,h.bad,fun key=>?_,h.keys,h.nod,h.le,h.col,h.sub,h.old,h.ne⟩
 have g:=h.get key
 revert g
 cases mget key MC with
 |none=>exact id
 |some v=>rintro⟨a,A,q,c,γb,b,d⟩;exact⟨a,A,q,c,γb,hB _ _ b,d⟩
theorem newCache_ok{m:Nat}(w:Wf s):Cl B (.call 29 [nI m]) s fun u s'=> ∃rc,u= .agg ⟨[nI m,.slice none 0 0,.map (some rc)]⟩∧Mp s' rc []∧s.nx≤rc∧rc<s'.nx∧Kn s s':=by
 refine Cl.enter Tryz.f29 fn29 rfl rfl rfl ?_
 refine run1 ?_
 refine mk_gen (s:=s) (cs:=[nI 0,.slice none 0 0,.map none]) (M:=fun s'=>Wo _ _ _ _ _ s' _) fun s1 r1 n1 k1=>?_
 have w1:=k1.wf w
 refine run1 ?_
 refine Wo.mkM rfl rfl fun s2 M2 n2 k2=>run1 ?_
 refine Wo.st (vs:=[nI m,.slice none 0 0,.map (some s1.nx)]) rfl rfl rfl rfl rfl rfl rfl (by intro v hv;simp only[List.mem_cons,List.not_mem_nil,or_false]at hv;rcases hv with rfl|rfl|rfl<;>rfl) (r1.kp w1 k2 id) (by show 0+3≤3;decide) fun s3 r3 n3 k3=>?_
 change Rw s3 _ [nI m,.slice none 0 0,.map (some s1.nx)] _ at r3
 refine run1 ?_
 have hcl:=cell_at (B:=B) (t:= 79) rfl rfl r3 rfl rfl
 have e1:=k1.le
 have e2:=k2.le
 refine Lv.ret (vs:=[.agg ⟨[nI m,.slice none 0 0,.map (some s1.nx)]⟩]) ?_ ⟨s1.nx,rfl,M2.kp (k2.wf w1) k3 (by omega),e1,by omega,(k1.call k2).app k3 (Nat.le_refl _)⟩
 show (match cell1 B.P (.pointer (some ⟨s.nx,0,none⟩)) 79 s3,some []with|some v,some vs=>some (v::vs)|_,_=>none)=_
 rw [hcl]
theorem hnew_ok{D b m:Nat}(w:Wf s)(hm:m≤256):Cl B (.call 11 [.pointer (some ⟨D,0,none⟩),.pointer (some ⟨b,0,none⟩),nI m]) s fun u s'=> ∃P C F,u= .tuple ⟨[.pointer (some ⟨P,0,none⟩),nI 0]⟩∧Hsv s' P D b m [] (fun _=>none) C F∧(∀c,F c→s.nx≤c)∧Kn s s':=by
 refine Cl.enter Tryz.f11 fn11 rfl rfl rfl ?_
 have z0:¬m<0:=Nat.not_lt_zero m
 have z1:¬256<m:=by omega
 refine run1 ?_
 refine Wo.val rfl (Xv.pEq rfl rfl rfl) rfl (run1 ?_)
 refine Wo.val rfl (Xv.pEq rfl rfl rfl) rfl (run1 ?_)
 refine Wo.call rfl (Xc.call ok29 rfl) rfl ((newCache_ok w).mono ?_)
 rintro u s1 ⟨rc,rfl,M1,lo1,hi1,k1⟩
 have w1:=k1.wf w
 refine run1 ?_
 refine Wo.mkM rfl rfl fun s2 M2 n2 k2=>run1 ?_
 refine mk_gen (s:=s2) (cs:=hsc D b m (.slice none 0 0) rc s1.nx) (M:=fun s'=>Lv _ _ _ _ _ _ s') fun s3 r3 n3 k3=>?_
 have w2:=k2.wf w1
 have e1:=k1.le
 have e2:=k2.le
 have M13:=(M1.kp w1 k2 id).kp w2 k3 id
 have M23:=M2.kp w2 k3 id
 refine Lv.ret rfl ⟨s2.nx,fun c=>c=s2.nx∨c=rc∨c=s1.nx,fun c=>c=s2.nx∨c=rc∨c=s1.nx,rfl,⟨s2.nx,0,rc,s1.nx,none,0,[],r3,.nil,M13,M23,fun k=>List.not_mem_nil,fun k h=>absurd h List.not_mem_nil,.nil,Nat.zero_le _,fun c=>⟨fun h=>?_,fun h=>?_⟩,fun _=>id,fun c h=>?_,⟨by omega,by omega,by omega,fun h=>absurd rfl h⟩⟩,fun c h=>?_,(k1.call k2).call k3⟩
 ·rcases h with h|h|h
  ·exact .inl h
  ·exact .inr (.inl h)
  ·exact .inr (.inr (.inl h))
 ·rcases h with h|h|h|⟨h,_⟩
  ·exact .inl h
  ·exact .inr (.inl h)
  ·exact .inr (.inr h)
  ·exact absurd rfl h
 ·rcases h with h|h|h<;>omega
 ·rcases h with h|h|h<;>omega
end Go.Proofs.YtnbdpcpgckfeeaaGreatDoor
