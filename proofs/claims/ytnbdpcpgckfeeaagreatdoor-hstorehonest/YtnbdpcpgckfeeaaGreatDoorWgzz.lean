import Derived.Test.YtnbdpcpgckfeeaaGreatDoorWmpzz
namespace Go.Sy
open Go Go.Ev
structure Cap(n c size:Nat):Prop where
 le:n≤capOf c
 es:0<n→capSure c=false→esOf c=size
theorem Cap.sure{n m size:Nat}(h:n≤m):Cap n (sure m) size:=⟨by rw [cap_sure.1];exact h,fun _ e=>by rw [cap_sure.2]at e;cases e⟩
theorem Cap.least{n m size:Nat}(h:n≤m)(hm:m<18446744073709551616):Cap n (least m size) size:=⟨by rw [(cap_least hm).1];exact h,fun _ _=>(cap_least hm).2.2⟩
theorem capSure_eq{c:Nat}(h:capSure c=true):c=Go.Ev.sure (capOf c):=by
 unfold capOf
 rw [h]
 have e:c%2=1:=Nat.eq_of_beq_eq_true h
 show c=2*(c/2)+1
 omega
theorem cap_lt{c:Nat}(h:capSure c=false):capOf c<18446744073709551616:=by
 unfold capOf
 rw [h]
 exact Nat.mod_lt _ (by decide)
theorem Sl.take{s:St}{q:Option Addr}{cs:List Value}{γ n:Nat}(h:Sl s q cs γ):Sl s q (cs.take n) γ:=by
 rcases h with⟨rfl,h⟩|⟨b,o,ob,l,h1,h2,h3,h4,h5,h6⟩
 ·exact .inl ⟨by simp,h⟩
 ·refine .inr ⟨b,o,ob,l,h1,h2,h3,h4,by rw [List.length_take];omega,?_⟩
  conv=>rhs;rw [←h6]
  rw [List.take_take,List.length_take]
theorem Sl.drop{s:St}{b o:Nat}{cs:List Value}{γ n:Nat}(h:Sl s (some ⟨b,o,none⟩) cs γ)(hn:n≤cs.length):Sl s (some ⟨b,o+n,none⟩) (cs.drop n) γ:=by
 rcases h with⟨rfl,h⟩|⟨b',o',ob,l,h1,h2,h3,h4,h5,h6⟩
 ·rcases h with h|⟨_,_,_,h⟩<;>cases h
 ·cases h1
  have h5':=h5
  rw [List.length_drop]at h5'
  refine .inr ⟨b,o+n,ob,l,rfl,h2,h3,h4,by rw [List.length_drop,List.length_drop];omega,?_⟩
  conv=>rhs;rw [←h6]
  rw [List.drop_take,List.drop_drop,List.length_drop]
theorem Sl.pos{s:St}{q:Option Addr}{cs:List Value}{γ:Nat}(h:Sl s q cs γ)(hc:cs≠[]):∃b o,q=some ⟨b,o,none⟩:=by
 rcases h with⟨rfl,_⟩|⟨b,o,_,_,h1,_⟩
 ·exact absurd rfl hc
 ·exact⟨b,o,h1⟩
theorem mkSl_eq(b o m d:Nat):mkSl b o m d=some (.slice (some ⟨b,o,none⟩) m d):=by unfold mkSl;simp only[fN_eq]
section
variable{X:Fx}{env:Env}{s:St}
theorem Xv.slH{t t0 n0 e t1 size:Nat}{z0 z:Option (List Value)}{ke:Sh}{x y:Operand}{k:IntKind}{b o n c h:Nat}(ht:tk X.B.T t=some ⟨t0,n0,.sl e,z0⟩)(he:tk X.B.T e=some ⟨t1,size,ke,z⟩)(hx:ev env x=some (.slice (some ⟨b,o,none⟩) n c))(hy:ev env y=some (.int k (.ofNat h)))(hc:Cap n c size)(hh:h≤n):
  Xv X (.slice t x none (some y) none) env s (.slice (some ⟨b,o,none⟩) h c) s:=Xv.sl0 ht he hx hy (Nat.le_trans hh hc.le) capSure_eq
theorem Xv.slL{t t0 n0 e t1 size:Nat}{z0 z:Option (List Value)}{ke:Sh}{x y:Operand}{k:IntKind}{b o n c l γ:Nat}{cs:List Value}(ht:tk X.B.T t=some ⟨t0,n0,.sl e,z0⟩)(he:tk X.B.T e=some ⟨t1,size,ke,z⟩)(hx:ev env x=some (.slice (some ⟨b,o,none⟩) n c))(hy:ev env y=some (.int k (.ofNat l)))(hs:Sl s (some ⟨b,o,none⟩) cs γ)(hl:cs.length=n*size)(hc:Cap n c size)(hh:l≤n):
  ∃q' c',Xv X (.slice t x (some y) none none) env s (.slice q' (n-l) c') s∧Sl s q' (cs.drop (l*size)) γ∧Cap (n-l) c' size:=by
 have hd:Sl s (some ⟨b,o+l*size,none⟩) (cs.drop (l*size)) γ:=hs.drop (by rw [hl];exact Nat.mul_le_mul_right _ hh)
 have base:∀tm,Fits env tm→exec X.P (.slice t x (some y) none none) tm s=ofO (slice2 size b o c l n) s:=fun tm hf=>by
  show xSlice X.P t (opd tm x) (some (opd tm y)) none none s=_
  rw [ev_opd hf hx,ev_opd hf hy]
  unfold xSlice
  simp only[show X.P.underlying t=_ from X.B.un ht,show sizeOfT X.P e=_ from X.B.sz he]
  rfl
 have b1:Nat.ble l n=true:=Nat.ble_eq_true_of_le hh
 have b2:Nat.ble n (capOf c)=true:=Nat.ble_eq_true_of_le hc.le
 have hle:=hc.le
 cases hsu:capSure c with
 |true=>
  by_cases e:capOf c=l
  ·have hln:l=n:=by omega
   subst hln
   refine⟨some ⟨b,o,none⟩,Go.Ev.sure (l-l),fun tm hf=>?_,?_,Cap.sure (Nat.le_refl _)⟩
   ·rw [base tm hf];unfold slice2
    rw [b1,b2,hsu,show Nat.beq (capOf c) l=true by rw [e];exact Nat.beq_refl _]
    show ofO (mkSl b o (l-l) (Go.Ev.sure (capOf c-l))) s=_
    rw [mkSl_eq,e];rfl
   ·rw [List.drop_eq_nil_of_le (by omega)]
    have:=hs.take (n:=0)
    rwa[List.take_zero]at this
  ·refine⟨some ⟨b,o+l*size,none⟩,Go.Ev.sure (capOf c-l),fun tm hf=>?_,hd,Cap.sure (by omega)⟩
   rw [base tm hf];unfold slice2
   rw [b1,b2,hsu,show Nat.beq (capOf c) l=false by rw [beq_dec];exact decide_eq_false e]
   show ofO (mkSl b (o+l*size) (n-l) (Go.Ev.sure (capOf c-l))) s=_
   rw [mkSl_eq];rfl
 |false=>
  have hlt:=cap_lt hsu
  by_cases e0:l=0
  ·subst e0
   refine⟨some ⟨b,o,none⟩,c,fun tm hf=>?_,by rw [Nat.zero_mul,List.drop_zero];exact hs,hc⟩
   rw [base tm hf];unfold slice2
   rw [b1,b2,hsu]
   show ofO (mkSl b o n c) s=_
   rw [mkSl_eq];rfl
  ·have e1:Nat.beq l 0=false:=by rw [beq_dec];exact decide_eq_false e0
   by_cases e2:l<capOf c
   ·refine⟨some ⟨b,o+l*size,none⟩,Go.Ev.least (capOf c-l) size,fun tm hf=>?_,hd,Cap.least (by omega) (by omega)⟩
    rw [base tm hf];unfold slice2
    rw [b1,b2,hsu,e1,show Nat.blt l (capOf c)=true from Nat.ble_eq_true_of_le e2,hc.es (by omega) hsu,Nat.beq_refl]
    show ofO (mkSl b (o+l*size) (n-l) (Go.Ev.least (capOf c-l) size)) s=_
    rw [mkSl_eq];rfl
   ·have hln:l=n:=by omega
    subst hln
    refine⟨some ⟨b,0,some 0⟩,0,fun tm hf=>?_,.inl ⟨List.drop_eq_nil_of_le (by omega),.inr ⟨b,0,0,rfl⟩⟩,?_⟩
    ·rw [base tm hf];unfold slice2
     rw [b1,b2,hsu,e1,show Nat.blt l (capOf c)=false by rw [blt_dec];exact decide_eq_false e2,Nat.sub_self]
     rfl
    ·rw [Nat.sub_self];exact⟨Nat.zero_le _,fun h=>absurd h (Nat.lt_irrefl _)⟩
theorem Xv.slP{t t0 n0 n e t1 size:Nat}{z0 z:Option (List Value)}{ke:Sh}{x:Operand}{b o:Nat}(ht:tk X.B.T t=some ⟨t0,n0,.ar n e,z0⟩)(he:tk X.B.T e=some ⟨t1,size,ke,z⟩)(hx:ev env x=some (.pointer (some ⟨b,o,none⟩)))(h0:0<n):
  Xv X (.slice t x none none none) env s (.slice (some ⟨b,o,none⟩) n (sure n)) s∧
  (∀{y:Operand} {k:IntKind} {l:Nat},ev env y=some (.int k (.ofNat l))→l<n→Xv X (.slice t x (some y) none none) env s (.slice (some ⟨b,o+l*size,none⟩) (n-l) (sure (n-l))) s)∧
  (∀{y:Operand} {k:IntKind} {h:Nat},ev env y=some (.int k (.ofNat h))→h≤n→Xv X (.slice t x none (some y) none) env s (.slice (some ⟨b,o,none⟩) h (sure n)) s):=by
 have hu:X.P.underlying t=some (.array n e):=X.B.un ht
 have hs:sizeOfT X.P e=some size:=X.B.sz he
 have key:∀l h,l≤h→h≤n→l<n→slice2 size b o (sure n) l h=some (.slice (some ⟨b,o+l*size,none⟩) (h-l) (sure (n-l))):=fun l h a1 a2 a3=>by
  unfold slice2
  rw [cap_sure.1,cap_sure.2,show Nat.ble l h=true from Nat.ble_eq_true_of_le a1,show Nat.ble h n=true from Nat.ble_eq_true_of_le a2,show Nat.beq n l=false by rw [beq_dec];exact decide_eq_false (by omega)]
  show mkSl b (o+l*size) (h-l) (sure (n-l))=_
  rw [mkSl_eq]
 refine⟨fun tm hf=>?_,fun{y k l} hy hl tm hf=>?_,fun{y k h} hy hh tm hf=>?_⟩
 ·show xSlice X.P t (opd tm x) none none none s=_
  rw [ev_opd hf hx]
  unfold xSlice
  simp only[hu,hs]
  show ofO (slice2 size b o (sure n) 0 n) s=_
  rw [key 0 n (by omega) (by omega) h0,Nat.zero_mul];rfl
 ·show xSlice X.P t (opd tm x) (some (opd tm y)) none none s=_
  rw [ev_opd hf hx,ev_opd hf hy]
  unfold xSlice
  simp only[hu,hs]
  show ofO (slice2 size b o (sure n) l n) s=_
  rw [key l n (by omega) (by omega) hl];rfl
 ·show xSlice X.P t (opd tm x) none (some (opd tm y)) none s=_
  rw [ev_opd hf hx,ev_opd hf hy]
  unfold xSlice
  simp only[hu,hs]
  show ofO (slice2 size b o (sure n) 0 h) s=_
  rw [key 0 h (by omega) hh h0,Nat.zero_mul];rfl
theorem Xv.cpy{t t0 n0 e t1 size u:Nat}{z0 z:Option (List Value)}{ke:Sh}{x y:Operand}{b o n c γ:Nat}{q:Option Addr}{k c':Nat}{l cs:List Value}(ht:tk X.B.T t=some ⟨t0,n0,.sl e,z0⟩)(he:tk X.B.T e=some ⟨t1,size,ke,z⟩)(h0:0<size)(hx:ev env x=some (.slice (some ⟨b,o,none⟩) n c))(hy:ev env y=some (.slice q k c'))(hr:Rw s b l γ)(ha:At s q cs)(hl:cs.length=k*size)(h1:∀v∈cs,Ev.one v=true)(hn:o+n*size≤l.length):
  ∃s',Xv X (.call ⟨.builtin .copy, #[x,y], #[t,u]⟩) env s (nI (min k n)) s'∧Rw s' b (lov l o (cs.take (min k n*size))) γ∧s'.nx=s.nx∧Kp (fun c=>c=γ) s s':=by
 obtain⟨g,hr1,rfl⟩:=hr
 have hm:min k n*size≤k*size:=Nat.mul_le_mul_right _ (Nat.min_le_left _ _)
 have hm2:min k n*size≤n*size:=Nat.mul_le_mul_right _ (Nat.min_le_right _ _)
 obtain⟨s',a1,a2,a3,a4⟩:=writeAt_ok hr1 (vs:=cs.take (min k n*size)) (off:=o) (by rw [List.length_take];omega) (fun v hv=>h1 v (List.mem_of_mem_take hv))
 refine⟨s',fun tm hf=>?_,⟨g,a2,rfl⟩,a3,a4⟩
 show xCopy X.P [t,u] (opds tm [x,y]) s=_
 rw [evs_opds hf (xs:=[x,y]) (vs:=[.slice (some ⟨b,o,none⟩) n c,.slice q k c']) (by unfold evs;rw [hx];simp only[evs,hy])]
 unfold xCopy
 simp only[show X.P.underlying t=_ from X.B.un ht]
 unfold copyV
 simp only[show sizeOfT X.P e=_ from X.B.sz he,lenOfV]
 rw [fN_eq]
 have hc:cellsFrom s size (min k n) (.slice q k c')=some (cs.take (min k n*size)):=by
  have:=cells_at (k:=min k n) (c:=c') (ha.take (n:=min k n*size) (by omega)) (by rw [List.length_take];omega) h0
  rcases q with _|⟨qb,qo,_|p⟩<;>exact this
 rw [show Nat.min k n=min k n from rfl,hc]
 simp only[a1]
end
section
variable{X:Fx}{env:Env}{df:List Deferred}{s:St}{Q:Post}{all os:List Oper}{d:Option Nat}{ty:TypeId}{pos:String}{af:Array Edge}{gd:Option (Nat×Bool)}
theorem Wo.cpy{t t0 n0 e t1 size u:Nat}{z0 z:Option (List Value)}{ke:Sh}{x y:Operand}{b o n c γ:Nat}{q:Option Addr}{k c':Nat}{l cs:List Value}(hg:wantsE all env gd=some true)(hd:dOk X d=true)(ht:tk X.B.T t=some ⟨t0,n0,.sl e,z0⟩)(he:tk X.B.T e=some ⟨t1,size,ke,z⟩)(h0:Nat.blt 0 size=true)(hx:ev env x=some (.slice (some ⟨b,o,none⟩) n c))(hy:ev env y=some (.slice q k c'))(hr:Rw s b l γ)(ha:At s q cs)(hl:cs.length=k*size)(h1:∀v∈cs,Ev.one v=true)(hn:o+n*size≤l.length)
  (K:∀s',Rw s' b (lov l o (cs.take (min k n*size))) γ→s'.nx=s.nx→Kp (fun c=>c=γ) s s'→Wo X all os (up d (nI (min k n)) env) df s' Q):Wo X all (⟨d,.call ⟨.builtin .copy, #[x,y], #[t,u]⟩,ty,pos,af,gd⟩::os) env df s Q:=by
 obtain⟨s',a,b,c,e⟩:=Xv.cpy (X:=X) (u:=u) ht he (Nat.le_of_ble_eq_true h0) hx hy hr ha hl h1 hn
 exact Wo.val hg a hd (K s' b c e)
theorem Wo.slL{t t0 n0 e t1 size:Nat}{z0 z:Option (List Value)}{ke:Sh}{x y:Operand}{k:IntKind}{b o n c l γ:Nat}{cs:List Value}(hg:wantsE all env gd=some true)(hd:dOk X d=true)(ht:tk X.B.T t=some ⟨t0,n0,.sl e,z0⟩)(he:tk X.B.T e=some ⟨t1,size,ke,z⟩)(hx:ev env x=some (.slice (some ⟨b,o,none⟩) n c))(hy:ev env y=some (.int k (.ofNat l)))(hs:Sl s (some ⟨b,o,none⟩) cs γ)(hl:cs.length=n*size)(hc:Cap n c size)(hh:l≤n)
  (K:∀q' c',Sl s q' (cs.drop (l*size)) γ→Cap (n-l) c' size→Wo X all os (up d (.slice q' (n-l) c') env) df s Q):Wo X all (⟨d,.slice t x (some y) none none,ty,pos,af,gd⟩::os) env df s Q:=by
 obtain⟨q',c',h1,h2,h3⟩:=Xv.slL (X:=X) ht he hx hy hs hl hc hh
 exact Wo.val hg h1 hd (K q' c' h2 h3)
end
end Go.Sy
namespace Go.Sy
open Go Go.Ev
theorem Cl.hook{B:Bx}{f:FuncId}{g:List Value→St→Rv}{args:List Value}{s s':St}{v:Value}{Q:Value→St→Prop}(hh:B.hook f=some g)(hg:g args s= .ok v s')(hQ:Q v s'):Cl B (.call f args) s Q:=by
 refine⟨v,s',⟨1,fun m hm=>?_⟩,hQ⟩
 obtain⟨m,rfl⟩:∃k,m=k+1:=⟨m-1,by omega⟩
 show (match B.hook f with|some h=>orElse (h args s) (Ev.enter B.P (run B.P B.hook m) f args) s|none=>Ev.enter B.P (run B.P B.hook m) f args s)=_
 rw [hh]
 show orElse (g args s) _ s=_
 rw [hg];rfl
theorem Cl.enterN{B:Bx}{f:FuncId}(fn:Func){g:List Value→St→Rv}{c:Code}{args:List Value}{s:St}{Q:Value→St→Prop}(hf:B.P.funcs[f]? =some fn)(hk:B.hook f=some g)(hg:g args s= .no)(hb:fn.body=some c)(hn:entOk fn args.length=true)
  (h:W ⟨B,f,none,fn.ntmps⟩ c (argsE args 0) [] s (Lv B fn.results.toList Q)):Cl B (.call f args) s Q:=by
 obtain⟨v,s',⟨n,h1⟩,h2⟩:=Cl.late fn hf hb hn h
 refine⟨v,s',⟨n+1,fun m hm=>?_⟩,h2⟩
 obtain⟨m,rfl⟩:∃k,m=k+1:=⟨m-1,by omega⟩
 have h3:=h1 (m+1) (by omega)
 show (match B.hook f with|some h=>orElse (h args s) (Ev.enter B.P (run B.P B.hook m) f args) s|none=>Ev.enter B.P (run B.P B.hook m) f args s)=_
 rw [hk]
 show orElse (g args s) _ s=_
 rw [hg]
 exact h3
section
variable{X:Fx}{env:Env}{s:St}
theorem Xv.iaP{t e n size n0:Nat}{z z':Option (List Value)}{t0 t1:Nat}{k':Sh}{x y:Operand}{b o i:Nat}{k:IntKind}(ht:tk X.B.T t=some ⟨t0,n0,.ar n e,z⟩)(he:tk X.B.T e=some ⟨t1,size,k',z'⟩)
  (hx:ev env x=some (.pointer (some ⟨b,o,none⟩))) (hy:ev env y=some (.int k (.ofNat i))) (hi:i<n):Xv X (.indexAddr t x y) env s (.pointer (some ⟨b,o+i*size,none⟩)) s:=fun tm hf=>by
 have hu:X.P.underlying t=some (.array n e):=X.B.un ht
 have hs:sizeOfT X.P e=some size:=X.B.sz he
 show xIndexAddr X.P t (opd tm x) (natOf (opd tm y)) s=_
 rw [ev_opd hf hx,ev_opd hf hy]
 unfold xIndexAddr
 simp only[natOf,hu]
 unfold atI
 rw [hs]
 simp only[show Nat.blt i n=true from Nat.ble_eq_true_of_le hi,cond_true]
 unfold okPt;rw [fN_eq];rfl
theorem cell_at{B:Bx}{t n t0:Nat}{k:Sh}{z:Option (List Value)}{b γ:Nat}{cs:List Value}(ht:tk B.T t=some ⟨t0,n,k,z⟩)(hk:k.one=false)(h:Rw s b cs γ)(hn:cs.length=n)(h0:Nat.blt 0 n=true):cell1 B.P (.pointer (some ⟨b,0,none⟩)) t s=some (.agg ⟨cs⟩):=by
 have h0':0<n:=Nat.le_of_ble_eq_true h0
 have ha:At s (some ⟨b,0,none⟩) cs:=by
  have:=(h.sl (o:=0) (n:=cs.length) (by omega)).at
  rwa[List.drop_zero,List.take_length]at this
 have hr:readAt s b 0 n=some cs:=by
  have:=ha.ldn (i:=0) (n:=n) (by omega) h0'
  rw [List.drop_zero,←hn,List.take_length]at this
  rw [←hn];exact this
 show loadG B.P s t b 0 (isAggT B.P t)=_
 rw [B.ag ht,hk]
 show (match sizeOfT B.P t with|some n=>(match readAt s b 0 n with|some cs=>some (Value.agg ⟨cs⟩)|none=>none)|none=>none)=_
 rw [show sizeOfT B.P t=_ from B.sz ht]
 show (match readAt s b 0 n with|some cs=>some (Value.agg ⟨cs⟩)|none=>none)=_
 rw [hr]
theorem mk_gen{cs:List Value}{M:St→Prop}(h:∀s',Rw s' s.nx cs s.nx→s'.nx=s.nx+1→Kn s s'→M s'):M (mkRow s cs):=h _ mkRow_rw rfl mkRow_kn
theorem mkO{X:Fx}{all os:List Oper}{env:Env}{df:List Deferred}{Q:Post}{s:St}{cs:List Value}(h:∀s',Rw s' s.nx cs s.nx→s'.nx=s.nx+1→Kn s s'→Wo X all os env df s' Q):Wo X all os env df (mkRow s cs) Q:=h _ mkRow_rw rfl mkRow_kn
theorem Xv.ixA{t e n n0 size:Nat}{z z':Option (List Value)}{t0 t1:Nat}{k':Sh}{x y:Operand}{cs:List Value}{i:Nat}{k:IntKind}{v:Value}(ht:tk X.B.T t=some ⟨t0,n0,.ar n e,z⟩)(he:tk X.B.T e=some ⟨t1,size,k',z'⟩)(hk:k'.one=true)
  (hx:ev env x=some (.agg ⟨cs⟩)) (hy:ev env y=some (.int k (.ofNat i))) (hi:i<n) (hv:cs[i*size]? =some v):Xv X (.index t x y) env s v s:=fun tm hf=>by
 have hu:X.P.underlying t=some (.array n e):=X.B.un ht
 have hs:sizeOfT X.P e=some size:=X.B.sz he
 show xIndex X.P t (opd tm x) (opd tm y) s=_
 rw [ev_opd hf hx,ev_opd hf hy]
 unfold xIndex
 simp only[hu,natOf,hs,show Nat.blt i n=true from Nat.ble_eq_true_of_le hi,cond_true]
 unfold partT
 rw [X.B.ag he,hk]
 show ofO (headO (dropL (i*size) cs)) s=_
 rw [dropL_eq]
 obtain⟨h1,h2⟩:=List.getElem?_eq_some_iff.1 hv
 rw [List.drop_eq_getElem_cons h1,h2];rfl
theorem Xv.ixN{t e n n0 size:Nat}{z z':Option (List Value)}{t0 t1:Nat}{k':Sh}{x y:Operand}{cs:List Value}{i:Nat}{k:IntKind}(ht:tk X.B.T t=some ⟨t0,n0,.ar n e,z⟩)(he:tk X.B.T e=some ⟨t1,size,k',z'⟩)(hk:k'.one=false)
  (hx:ev env x=some (.agg ⟨cs⟩)) (hy:ev env y=some (.int k (.ofNat i))) (hi:i<n) (hv:i*size+size≤cs.length):Xv X (.index t x y) env s (.agg ⟨(cs.drop (i*size)).take size⟩) s:=fun tm hf=>by
 have hu:X.P.underlying t=some (.array n e):=X.B.un ht
 have hs:sizeOfT X.P e=some size:=X.B.sz he
 show xIndex X.P t (opd tm x) (opd tm y) s=_
 rw [ev_opd hf hx,ev_opd hf hy]
 unfold xIndex
 simp only[hu,natOf,hs,show Nat.blt i n=true from Nat.ble_eq_true_of_le hi,cond_true]
 unfold partT
 rw [X.B.ag he,hk]
 show ofO (match sizeOfT X.P e with|some n=>(match takeO n (dropL (i*size) cs)with|some cs=>some (.agg ⟨cs⟩)|none=>none)|none=>none) s=_
 rw [hs]
 show ofO (match takeO size (dropL (i*size) cs)with|some cs=>some (.agg ⟨cs⟩)|none=>none) s=_
 rw [dropL_eq,takeO_some.2 ⟨by rw [List.length_drop];omega,rfl⟩];rfl
theorem pr_guard{P:Program}{op:BinOp}{t:TypeId}{x y:Operand}{a b:Array Value}(ho:op= .eql∨op= .neq)(hG:P.eqGuardType P.depth t=false):pureRun P (eqGuard op t x y (.agg a) (.agg b))=some ():=by
 have e:pureRun P program=some P:=rfl
 rcases ho with rfl|rfl
 ·unfold eqGuard
  rw [if_neg (by decide)]
  simp only[pureRun_bind,e,hG]
  rfl
 ·unfold eqGuard
  rw [if_neg (by decide)]
  simp only[pureRun_bind,e,hG]
  rfl
theorem Xv.eqH{t e:Nat}{t':TypeId}{x y:Operand}{h g:List Nat}(H:HT X.P t e)(hG:X.P.eqGuardType X.P.depth t=false)(hx:ev env x=some (hsh h))(hy:ev env y=some (hsh g))(hl:h.length=32)(gl:g.length=32):Xv X (.binOp .eql t x y t') env s (.bool (decide (h=g))) s:=fun tm hf=>by
 show xBin X.P .eql t x y (opd tm x) (opd tm y) s=_
 rw [ev_opd hf hx,ev_opd hf hy]
 show eqA X.P .eql t x y (hsh h) (hsh g) s=_
 unfold eqA
 rw [show eqNil (X.P.underlying t) (hsh h) (hsh g)=none by rw [H.arr];rfl,plain_h,plain_h]
 show ofPure X.P (do eqGuard .eql t x y (hsh h) (hsh g);binOp .eql t (hsh h) (hsh g)) s=_
 unfold ofPure
 rw [pureRun_bind,show pureRun X.P (eqGuard .eql t x y (hsh h) (hsh g))=some ()from pr_guard (.inl rfl) hG]
 show (match pureRun X.P (do pure (Value.bool (←Op.equal t (hsh h) (hsh g))))with|some v=>ofV v s|none=>.no)=_
 rw [pureRun_bind,pr_eq H hl gl]
 show okB (decide (h=g)) s=_
 generalize decide (h=g)=b
 cases b<;>rfl
theorem Xv.neH{t e:Nat}{t':TypeId}{x y:Operand}{h g:List Nat}(H:HT X.P t e)(hG:X.P.eqGuardType X.P.depth t=false)(hx:ev env x=some (hsh h))(hy:ev env y=some (hsh g))(hl:h.length=32)(gl:g.length=32):Xv X (.binOp .neq t x y t') env s (.bool (decide (h≠g))) s:=fun tm hf=>by
 show xBin X.P .neq t x y (opd tm x) (opd tm y) s=_
 rw [ev_opd hf hx,ev_opd hf hy]
 show eqA X.P .neq t x y (hsh h) (hsh g) s=_
 unfold eqA
 rw [show eqNil (X.P.underlying t) (hsh h) (hsh g)=none by rw [H.arr];rfl,plain_h,plain_h]
 show ofPure X.P (do eqGuard .neq t x y (hsh h) (hsh g);binOp .neq t (hsh h) (hsh g)) s=_
 unfold ofPure
 rw [pureRun_bind,show pureRun X.P (eqGuard .neq t x y (hsh h) (hsh g))=some ()from pr_guard (.inr rfl) hG]
 show (match pureRun X.P (do pure (Value.bool (!(←Op.equal t (hsh h) (hsh g)))))with|some v=>ofV v s|none=>.no)=_
 rw [pureRun_bind,pr_eq H hl gl]
 show okB (!decide (h=g)) s=_
 rw [←decide_not]
 show okB (decide (h≠g)) s=_
 generalize decide (h≠g)=b
 cases b<;>rfl
theorem Xv.eqB{t t0 n:Nat}{z:Option (List Value)}{t':TypeId}{x y:Operand}{a b:Bool}(ht:tk X.B.T t=some ⟨t0,n,.bl,z⟩)(hx:ev env x=some (.bool a))(hy:ev env y=some (.bool b)):Xv X (.binOp .eql t x y t') env s (.bool (a==b)) s:=fun tm hf=>by
 have hu:X.P.underlying t=some .bool:=X.B.un ht
 show xBin X.P .eql t x y (opd tm x) (opd tm y) s=_
 rw [ev_opd hf hx,ev_opd hf hy]
 show eqA X.P .eql t x y (.bool a) (.bool b) s=_
 unfold eqA
 rw [show eqNil (X.P.underlying t) (.bool a) (.bool b)=none by rw [hu];rfl]
 show ofPure X.P (do eqGuard .eql t x y (.bool a) (.bool b);binOp .eql t (.bool a) (.bool b)) s=_
 unfold ofPure
 rw [pureRun_bind,show pureRun X.P (eqGuard .eql t x y (.bool a) (.bool b))=some ()from rfl]
 show (match pureRun X.P (do pure (Value.bool (←Op.equal t (.bool a) (.bool b))))with|some v=>ofV v s|none=>.no)=_
 have e:pureRun X.P (Op.equal t (.bool a) (.bool b))=some (a==b):=by
  unfold Op.equal Op.maxDepth
  show pureRun X.P (Op.equalIn (9999+1) t (.bool a) (.bool b))=_
  rw [Op.equalIn,pureRun_bind,pureRun_und hu]
  rfl
 rw [pureRun_bind,e]
 show okB (a==b) s=_
 generalize (a==b)=b
 cases b<;>rfl
theorem Xv.subW{t t':TypeId}{x y:Operand}{a b z:Int}(hx:ev env x=some (.int .i64 a))(hy:ev env y=some (.int .i64 b))(ha:a<9223372036854775808)(hz:IntKind.wrap .i64 (a-b)=z):Xv X (.binOp .sub t x y t') env s (.int .i64 z) s:=fun tm hf=>by
 show xBin X.P .sub t x y (opd tm x) (opd tm y) s=_
 rw [ev_opd hf hx,ev_opd hf hy]
 have e:pureRun X.P (binOp .sub t (.int .i64 a) (.int .i64 b))=some (.int .i64 z):=by
  show some (Value.int .i64 (IntKind.wrap .i64 (a-b)))=_
  rw [hz]
 have o:ofPure X.P (binOp .sub t (.int .i64 a) (.int .i64 b)) s= .ok (.val (.int .i64 z)) s:=by
  unfold ofPure
  rw [e]
  show fI z (fun n=>Re.ok (.val (.int .i64 n)) s)=_
  rw [fI_eq]
 show ints X.P .sub t .i64 .i64 a b s=_
 unfold ints
 split
 ·rename_i m n
  by_cases h:n≤m
  ·have hr:arN .sub .i64 m n=some (m-n):=by
    have h3:((m:Nat):Int)<9223372036854775808:=ha
    show cond (Nat.ble n m) (wrapN .i64 (m-n)) _=_
    rw [Nat.ble_eq_true_of_le h]
    exact wrapI (by omega)
   have hz':z=Int.ofNat (m-n):=by
    rw [←hz]
    have e1:(Int.ofNat m-Int.ofNat n:Int)=((m-n:Nat):Int):=by show ((m:Int)-(n:Int))=_;omega
    rw [e1]
    have h3:((m:Nat):Int)<9223372036854775808:=ha
    show (if(true&&decide ((((m-n:Nat):Int)%18446744073709551616:Int)≥9223372036854775808))=true then((m-n:Nat):Int)%18446744073709551616-18446744073709551616 else((m-n:Nat):Int)%18446744073709551616)=_
    rw [if_neg (by simp;omega)]
    show _=((m-n:Nat):Int)
    omega
   show cond true (match arN .sub .i64 m n with|some n=>okN .i64 n s|none=>_) .no=_
   rw [hr,hz']
   show okN .i64 (m-n) s=_
   unfold okN;rw [fN_eq]
  ·have hr:arN .sub .i64 m n=none:=by
    show cond (Nat.ble n m) _ (cond (Nat.beq 0 0) none _)=_
    rw [show Nat.ble n m=false by cases hq:Nat.ble n m with|false=>rfl|true=>exact absurd (Nat.le_of_ble_eq_true hq) h];rfl
   show cond true (match arN .sub .i64 m n with|some n=>okN .i64 n s|none=>match cmN .sub m n with|some r=>okB r s|none=>ofPure X.P (binOp .sub t (.int .i64 (.ofNat m)) (.int .i64 (.ofNat n))) s) .no=_
   rw [hr]
   exact o
 ·exact o
end
section
variable{s:St}{b γ:Nat}{l:List Value}
theorem Rw.ats(h:Rw s b l γ):At s (some ⟨b,0,none⟩) l:=by
 have:=(h.sl (o:=0) (n:=l.length) (by omega)).at
 rwa[List.drop_zero,List.take_length]at this
theorem Rw.f1{v:Value}{i:Nat}(h:Rw s b l γ)(hv:l[i]? =some v):ldq s (qadd (some ⟨b,0,none⟩) i)=some v:=by
 obtain⟨h1,h2⟩:=List.getElem?_eq_some_iff.1 hv
 rw [h.ats.ld h1,h2]
theorem Rw.fn{i n:Nat}(h:Rw s b l γ)(hn:i+n≤l.length)(h0:0<n):ldn s (qadd (some ⟨b,0,none⟩) i) n=some ((l.drop i).take n):=h.ats.ldn hn h0
theorem good_b{b o:Nat}:good (some ⟨b,o,none⟩):=⟨b,o,rfl⟩
theorem eqV4i{k:IntKind}{n:Int}:eqV 4 (.int k n) (.int k n)=true:=by
 have:=eqV_int (k:=k) (n:=n)
 exact this
theorem eqV_agg{cs:List Value}(h:∀v∈cs,eqV 4 v v=true):eqV 5 (.agg ⟨cs⟩) (.agg ⟨cs⟩)=true:=by
 show eqL (eqV 4) cs cs=true
 induction cs with
 |nil=>rfl
 |cons v cs ih=>
  show cond (eqV 4 v v) (eqL (eqV 4) cs cs) false=true
  rw [h v (by simp),ih fun u hu=>h u (by simp[hu])];rfl
theorem eqV_b{A:List Nat}:∀v∈A.map nB,eqV 4 v v=true:=fun v hv=>by
 obtain⟨a,_,rfl⟩:=List.mem_map.1 hv
 exact eqV4i
theorem eqV_h{A:List Nat}:eqV 5 (.agg ⟨A.map nB⟩) (.agg ⟨A.map nB⟩)=true:=eqV_agg eqV_b
theorem lov_app{a b c vs:List Value}{o:Nat}(ho:o=a.length)(hv:vs.length=b.length):lov (a++(b++c)) o vs=a++(vs++c):=by
 subst ho
 unfold lov
 rw [List.take_left,←List.drop_drop,List.drop_left,hv,List.drop_left]
theorem lov_all{l vs:List Value}(h:vs.length=l.length):lov l 0 vs=vs:=by unfold lov;rw [List.take_zero,List.nil_append,Nat.zero_add,h,List.drop_length,List.append_nil]
theorem fill_cons{env:Env}{pl:Nat→Option (Nat×Nat)}{i off n:Nat}{x:Operand}{v:Value}{vs cs r:List Value}{ps:List (Nat×Operand)}(hp:pl i=some (off,n))(hx:ev env x=some v)(hc:cellsL v=some vs)(hn:vs.length=n)(h1:∀v∈vs,Ev.one v=true)(hl:off+n≤cs.length)(h:fillE pl env ps (lov cs off vs)=some r):fillE pl env ((i,x)::ps) cs=some r:=by
 subst hn
 unfold fillE
 rw [hp,hx]
 simp only[hc,Nat.beq_refl,cond_true]
 rw [splice_ok hl h1]
 exact h
theorem Xv.buildE{X:Fx}{env:Env}{s:St}{t t0 n0:Nat}{fs:List (Nat×Nat)}{z cs:List Value}{ps:Array (Nat×Operand)}(ht:tk X.B.T t=some ⟨t0,n0,.st fs,some z⟩)(hp0:fillE (placeT X.B.T fs) env ps.toList z=some cs):Xv X (.build t ps) env s (.agg ⟨cs⟩) s:=by
 refine Xv.build ht ?_
 unfold fillN
 rw [hp0]
 exact norm_eq cs
end
theorem Rw.all{s:St}{b γ n:Nat}{l:List Value}(h:Rw s b l γ)(hn:l.length=n)(h0:0<n):ldn s (some ⟨b,0,none⟩) n=some l:=by
 have:=h.fn (i:=0) (n:=n) (by omega) h0
 rwa[List.drop_zero,List.take_of_length_le (by omega)]at this
section
variable{X:Fx}{env:Env}{df:List Deferred}{s:St}{Q:Post}{all:List Oper}{d:Option Nat}{ty:TypeId}{pos:String}{af:Array Edge}{gd:Option (Nat×Bool)}{i m:Nat}{L:List Sp}{past:Past}
end
end Go.Sy
