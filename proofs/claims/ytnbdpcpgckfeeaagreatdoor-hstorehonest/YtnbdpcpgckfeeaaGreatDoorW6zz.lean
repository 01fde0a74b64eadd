import Derived.Test.YtnbdpcpgckfeeaaGreatDoorW4zz
namespace Go.Sy
open Go Go.Ev
def cellsOb:Ob→Option (List Value)
 | .row l _=>some l
 | .ro l=>some l
 |_=>none
def Sl(s:St)(q:Option Addr)(cs:List Value)(γ:Nat):Prop:=
 (cs=[]∧(q=none∨∃b o p,q=some ⟨b,o,some p⟩))∨∃b o ob l,q=some ⟨b,o,none⟩∧s.hp.get b=some ob∧cellsOb ob=some l∧colr b ob=γ∧cs.length≤(l.drop o).length∧(l.drop o).take cs.length=cs
theorem cellsOb_some{ob:Ob}{l:List Value}(h:cellsOb ob=some l):ob= .ro l∨∃g,ob= .row l g:=by
 cases ob<;>simp only[cellsOb]at h<;>first|(cases h;first|exact .inl rfl|exact .inr ⟨_,rfl⟩)|cases h
theorem Sl.at{s:St}{q:Option Addr}{cs:List Value}{γ:Nat}(h:Sl s q cs γ):At s q cs:=by
 rcases h with h|⟨b,o,ob,l,rfl,h1,h2,_,h3,h4⟩
 ·exact .inl h
 ·refine .inr ⟨b,o,rfl,?_⟩
  rw [readAt_of (l:=l) ?_ h3,h4]
  rcases cellsOb_some h2 with rfl|⟨g,rfl⟩
  ·exact .inl h1
  ·exact .inr ⟨g,h1⟩
theorem At.sl{s:St}{q:Option Addr}{cs:List Value}(h:At s q cs):∃γ,Sl s q cs γ∧(Wf s→γ<s.nx):=by
 rcases h with h|⟨b,o,rfl,h⟩
 ·exact⟨0,.inl h,fun w=>w.one⟩
 ·obtain⟨l,h1,h2,h3⟩:=readAt_some h
  rcases h1 with h1|⟨g,h1⟩
  ·exact⟨_,.inr ⟨b,o,_,l,rfl,h1,rfl,rfl,h2,h3.symm⟩,fun w=>(w.lt _ _ h1).2⟩
  ·exact⟨_,.inr ⟨b,o,_,l,rfl,h1,rfl,rfl,h2,h3.symm⟩,fun w=>(w.lt _ _ h1).2⟩
theorem Sl.kp{C:Nat→Prop}{s s':St}{q:Option Addr}{cs:List Value}{γ:Nat}(h:Sl s q cs γ)(w:Wf s)(k:Kp C s s')(hc:¬C γ):Sl s' q cs γ:=by
 rcases h with h|⟨b,o,ob,l,rfl,h1,h2,h5,h3,h4⟩
 ·exact .inl h
 ·exact .inr ⟨b,o,ob,l,rfl,k.kp w b ob h1 (h5▸hc),h2,h5,h3,h4⟩
theorem At.kn{s s':St}{q:Option Addr}{cs:List Value}(h:At s q cs)(w:Wf s)(k:Kn s s'):At s' q cs:=let ⟨_,h,_⟩:=h.sl;(h.kp w k id).at
theorem cells_at{s:St}{q:Option Addr}{cs:List Value}{k size c:Nat}(h:At s q cs)(hl:cs.length=k*size)(hs:0<size):cellsFrom s size k (.slice q k c)=some cs:=by
 have hk:cs=[]→k=0:=fun e=>by
  subst e
  rcases Nat.mul_eq_zero.1 (show k*size=0 from hl.symm)with e|e
  ·exact e
  ·omega
 rcases h with⟨rfl,rfl|⟨b,o,p,rfl⟩⟩|⟨b,o,rfl,h⟩
 ·rw [hk rfl];rfl
 ·rw [hk rfl];rfl
 ·show readAt s b o (k*size)=_
  rw [←hl];exact h
theorem Gw.sl{s:St}{q:Option Addr}{n c size:Nat}{cs:List Value}{γ:Nat}(h:Gw s q n c size cs γ):Sl s q cs γ:=by
 rcases h.at' with⟨rfl,rfl,_⟩|⟨b,g,rfl,h1,h2,_⟩
 ·refine .inl ⟨List.eq_nil_of_length_eq_zero (by have:=h.len;simpa using this),.inl rfl⟩
 ·exact .inr ⟨b,0,_,_,rfl,h1,rfl,h2,by rw [List.drop_zero];omega,by rw [List.drop_zero,List.take_length]⟩
theorem Gw.kp{C:Nat→Prop}{s s':St}{q:Option Addr}{n c size:Nat}{cs:List Value}{γ:Nat}(h:Gw s q n c size cs γ)(w:Wf s)(k:Kp C s s')(hc:¬C γ):Gw s' q n c size cs γ:=
 ⟨h.len,h.at'.imp id fun⟨b,g,h0,h1,h2,h3⟩=>⟨b,g,h0,k.kp w b _ h1 (by show ¬C (grpOf g b);rw [h2];exact hc),h2,h3⟩⟩
theorem Gw.rw{s:St}{q:Option Addr}{n c size:Nat}{cs:List Value}{γ:Nat}(h:Gw s q n c size cs γ)(hn:0<n):∃b,q=some ⟨b,0,none⟩∧(∃g,s.hp.get b=some (.row cs g)∧grpOf g b=γ)∧(c=least n size∨c=sure n):=by
 rcases h.at' with⟨_,h,_⟩|⟨b,g,h1,h2,h3,h4⟩
 ·omega
 ·exact⟨b,h1,⟨g,h2,h3⟩,h4⟩
theorem Gw.nil{s:St}{size γ:Nat}:Gw s none 0 0 size [] γ:=⟨by simp,.inl ⟨rfl,rfl,rfl⟩⟩
def notI(d:Sh):Bool:=match d with
 | .it _=>false
 |_=>true
theorem und_notI{P:Program}{u:Nat}{d:Sh}(h:shOk P u d)(hd:notI d=true):∃td,P.underlying u=some td∧∀k,td≠ .int k:=by
 cases d<;>first
  |(cases hd;done)
  |exact⟨_,h,fun k e=>by cases e⟩
  |(obtain⟨_,h,_⟩:=h;exact⟨_,h,fun k e=>by cases e⟩)
  |(obtain⟨_,h⟩:=h;exact⟨_,h,fun k e=>by cases e⟩)
  |(obtain⟨_,_,_,h⟩:=h;exact⟨_,h,fun k e=>by cases e⟩)
theorem someOne_ok{l:List Value}(h:l≠[])(h1:∀v∈l,Ev.one v=true):someOne l=true:=by
 cases l with
 |nil=>exact absurd rfl h
 |cons v vs=>
  show (one v&&vs.all one)=true
  rw [h1 v List.mem_cons_self,List.all_eq_true.2 fun x hx=>h1 x (List.mem_cons_of_mem _ hx)];rfl
theorem app_ok{P:Program}{s:St}(w:Wf s){e size:Nat}(hs:sizeOfT P e=some size)(hz:zeroFit P e size=true)(h0:0<size){q:Option Addr}{n c γ:Nat}{cs:List Value}(hg:Gw s q n c size cs γ){y:Value}{k:Nat}{new:List Value}
  (hk:lenOfV y=some k) (hy:cellsFrom s size k y=some new) (hl:new.length=k*size) (h1:∀v∈new,Ev.one v=true) (hle:roomFor P e (n+k)=true) (hb:n+k≤4611686018427387904):
  ∃q' c' γ' s',appendV P s e (.slice q n c) y= .ok (.val (.slice q' (n+k) c')) s'∧Gw s' q' (n+k) c' size (cs++new) γ'∧Kp (fun x=>x=γ) s s'∧(γ'=γ∨γ'=s.nx∧Kn s s')∧ /- precise -/ (q = none ∨ c = sure n → 0 < k → γ' = s.nx ∧ Kn s s') := by
 have hlen:(cs++new).length=(n+k)*size:=by rw [List.length_append,hg.len,hl,Nat.add_mul]
 have e0:appendV P s e (.slice q n c) y=appendN P s e size q n c (n+k) new:=by
  unfold appendV
  simp only[hs,hk,hy,fN_eq]
  rfl
 rw [e0]
 unfold appendN
 rw [hle,hz]
 rcases hg.at' with⟨rfl,rfl,rfl⟩|⟨b,g,rfl,hr,hc,hcap⟩
 ·have hcs:cs=[]:=List.eq_nil_of_length_eq_zero (by have:=hg.len;simpa using this)
  subst hcs
  by_cases hk0:k=0
  ·subst hk0
   have hn:new=[]:=List.eq_nil_of_length_eq_zero (by rw [hl,Nat.zero_mul])
   subst hn
   exact⟨none,0,γ,s,rfl,⟨by simp,.inl ⟨rfl,rfl,rfl⟩⟩,.refl,.inl rfl,fun _ h=>by omega⟩
  ·refine⟨some ⟨s.nx,0,none⟩,least (0+k) size,s.nx,_,?_,⟨hlen,.inr ⟨s.nx,0,rfl,by rw [List.nil_append];exact newRow_get,rfl,.inl rfl⟩⟩,newRow_kn.mono fun _ h=>h.elim,.inr ⟨rfl,newRow_kn⟩,fun _ _=>⟨rfl,newRow_kn⟩⟩
   show cond (Nat.beq (0+k) 0) _ (newLs s new (0+k) size)=_
   rw [show Nat.beq (0+k) 0=false by rw [Nat.zero_add];cases k with|zero=>exact absurd rfl hk0|succ k=>rfl]
   exact newLs_at (by omega)
 ·show ∃q' c' γ' s',appendB s size b 0 n c (n+k) new=_∧_
  have hcn:capOf c=n:=by
   rcases hcap with rfl|rfl
   ·exact(cap_least (by omega)).1
   ·exact cap_sure.1
  unfold appendB
  rw [hcn]
  by_cases hk0:k=0
  ·subst hk0
   have hn:new=[]:=List.eq_nil_of_length_eq_zero (by rw [hl,Nat.zero_mul])
   subst hn
   rw [show Nat.ble (n+0) n=true from Nat.ble_eq_true_of_le (Nat.le_refl _)]
   exact⟨some ⟨b,0,none⟩,c,γ,s,rfl,⟨hlen,.inr ⟨b,g,rfl,by rw [List.append_nil];exact hr,hc,hcap⟩⟩,.refl,.inl rfl,fun _ h=>by omega⟩
  ·rw [show Nat.ble (n+k) n=false by
    cases e:Nat.ble (n+k) n with
    |false=>rfl
    |true=>have:=Nat.le_of_ble_eq_true e;omega]
   have hrd:readAt s b 0 (n*size)=some cs:=by
    rw [readAt_of (l:=cs) (.inr ⟨g,hr⟩) (by rw [List.drop_zero,hg.len];omega),List.drop_zero,←hg.len,List.take_length]
   show ∃q' c' γ' s',(match readAt s b 0 (n*size)with
    |none=>Re.no
    |some old=>cond (capSure c) (newLs s (appO old new) (n+k) size)
     (cond (Nat.beq 0 0&&Nat.beq (esOf c) size&&someOne new) (match s with
      | .mk hp nx gr=>match hp.get b with
       |some (.row _ g)=>extend (.mk hp nx gr) b g (n+k) size (n*size) old new
       |_=>.no) .no))=_∧_
   rw [hrd]
   show ∃q' c' γ' s',cond (capSure c) (newLs s (appO cs new) (n+k) size) _=_∧_
   rw [appO_eq]
   rcases hcap with rfl|rfl
   ·rw [(cap_least (by omega)).2.1]
    have hne:new≠[]:=fun e=>by
     subst e
     rcases Nat.mul_eq_zero.1 (show k*size=0 from hl.symm)with e|e<;>omega
    show ∃q' c' γ' s',cond (Nat.beq 0 0&&Nat.beq (esOf (least n size)) size&&someOne new) _ _=_∧_
    rw [(cap_least (by omega)).2.2,Nat.beq_refl,Nat.beq_refl,someOne_ok hne h1]
    obtain⟨s',k1,k2,_,k4,_⟩:=extend_ok (need:=n+k) (es:=size) (new:=new) (rest:=[]) w (by rw [List.append_nil];exact hr) (by omega)
    refine⟨some ⟨s.nx,0,none⟩,least (n+k) size,γ,s',?_,⟨hlen,.inr ⟨s.nx,grpOf g b,rfl,k2,?_,.inl rfl⟩⟩,hc▸k4,.inl rfl,fun h _=>?_⟩
    ·obtain⟨hp,nx,gr⟩:=s
     have hr':hp.get b=some (.row cs g):=hr
     show (match hp.get b with
       |some (.row _ g)=>extend (.mk hp nx gr) b g (n+k) size (n*size) cs new
       |_=>Re.no)=_
     rw [hr',←hg.len];exact k1
    ·rw [←hc]
     by_cases e:g=0
     ·subst e;show grpOf b s.nx=b;exact grpOf_pos (by have:=w.pos b _ _ hr;omega)
     ·rw [grpOf_pos e,grpOf_pos e]
    ·rcases h with h|h
     ·cases h
     ·have h1:=(cap_least (n:=n) (es:=size) (by omega)).2.1
      rw [h,cap_sure.2]at h1;cases h1
   ·rw [cap_sure.2]
    exact⟨some ⟨s.nx,0,none⟩,least (n+k) size,s.nx,_,newLs_at (by omega),⟨hlen,.inr ⟨s.nx,0,rfl,newRow_get,rfl,.inl rfl⟩⟩,newRow_kn.mono fun _ h=>h.elim,.inr ⟨rfl,newRow_kn⟩,fun _ _=>⟨rfl,newRow_kn⟩⟩
section
variable{X:Fx}{env:Env}{df:List Deferred}{s:St}{Q:Post}{all os:List Oper}{d:Option Nat}{ty:TypeId}{pos:String}{af:Array Edge}{g:Option (Nat×Bool)}
theorem Xv.app{x y:Operand}{t u e n0 nu size:Nat}{z0 zu:Option (List Value)}{z:List Value}{t0 t1 tu:Nat}{ke ku:Sh}(ht:tk X.B.T t=some ⟨t0,n0,.sl e,z0⟩)(he:tk X.B.T e=some ⟨t1,size,ke,some z⟩)(hu:tk X.B.T u=some ⟨tu,nu,ku,zu⟩)(hn:notI ku=true)(h0:Nat.blt 0 size=true)
  {q:Option Addr} {n c:Nat} {v:Value} {γ k:Nat} {cs new:List Value} (hx:ev env x=some (.slice q n c)) (hy:ev env y=some v) (w:Wf s) (hg:Gw s q n c size cs γ) (hk:lenOfV v=some k) (hv:cellsFrom s size k v=some new) (hl:new.length=k*size) (h1:∀v∈new,Ev.one v=true) {y0:Nat} (hV:lkV X.B.V e=some y0) (hr:(5*(n+k)+3072)*y0≤1125899906842624) (hb:n+k≤4611686018427387904):
  ∃q' c' γ' s',Xv X (.call ⟨.builtin .append, #[x,y], #[t,u]⟩) env s (.slice q' (n+k) c') s'∧Gw s' q' (n+k) c' size (cs++new) γ'∧Kp (fun x=>x=γ) s s'∧(γ'=γ∨γ'=s.nx∧Kn s s')∧(q=none∨c=sure n→0<k→γ'=s.nx∧Kn s s'):=by
 obtain⟨q',c',γ',s',a,b,c1,d1,d2⟩:=app_ok w (X.B.sz he) (X.B.zr he).2.2.2 (Nat.le_of_ble_eq_true h0) hg hk hv hl h1 (X.B.room hV hr hb) hb
 refine⟨q',c',γ',s',fun tm hf=>?_,b,c1,d1,d2⟩
 show xAppend X.P [t,u] (opds tm [x,y]) s=_
 rw [evs_opds hf (xs:=[x,y]) (vs:=[.slice q n c,v]) (by unfold evs evs evs;rw [hx,hy])]
 obtain⟨td,hu1,hu2⟩:=und_notI (X.B.un hu) hn
 have ht1:X.P.underlying t=some (.slice e):=X.B.un ht
 unfold xAppend
 simp only[ht1,show X.P.underlying u=some td from hu1]
 cases td<;>first|exact a|exact absurd rfl (hu2 _)
theorem Wo.app{x y:Operand}{t u e n0 nu size:Nat}{z0 zu:Option (List Value)}{z:List Value}{t0 t1 tu:Nat}{ke ku:Sh}(hgd:wantsE all env g=some true)(ht:tk X.B.T t=some ⟨t0,n0,.sl e,z0⟩)(he:tk X.B.T e=some ⟨t1,size,ke,some z⟩)(hu:tk X.B.T u=some ⟨tu,nu,ku,zu⟩)(hn:notI ku=true)(h0:Nat.blt 0 size=true)(hd:dOk X d=true)
  {q:Option Addr} {n c:Nat} {v:Value} {γ k:Nat} {cs new:List Value} (hx:ev env x=some (.slice q n c)) (hy:ev env y=some v) (w:Wf s) (hg:Gw s q n c size cs γ) (hk:lenOfV v=some k) (hv:cellsFrom s size k v=some new) (hl:new.length=k*size) (h1:∀v∈new,Ev.one v=true) {y0:Nat} (hV:lkV X.B.V e=some y0) (hr:(5*(n+k)+3072)*y0≤1125899906842624) (hb:n+k≤4611686018427387904)
  (K:∀q' c' γ' s',Gw s' q' (n+k) c' size (cs++new) γ'→Kp (fun x=>x=γ) s s'→(γ'=γ∨γ'=s.nx∧Kn s s')→Wo X all os (up d (.slice q' (n+k) c') env) df s' Q):
  Wo X all (⟨d,.call ⟨.builtin .append, #[x,y], #[t,u]⟩,ty,pos,af,g⟩::os) env df s Q:=by
 obtain⟨q',c',γ',s',a,b,c1,d1,_⟩:=Xv.app (X:=X) (env:=env) ht he hu hn h0 hx hy w hg hk hv hl h1 hV hr hb
 exact Wo.val hgd a hd (K q' c' γ' s' b c1 d1)
end
end Go.Sy
namespace Go.Sy
open Go Go.Ev
def Rw(s:St)(b:Nat)(l:List Value)(γ:Nat):Prop:= ∃g,s.hp.get b=some (.row l g)∧grpOf g b=γ
theorem Rw.kp{C:Nat→Prop}{s s':St}{b γ:Nat}{l:List Value}(h:Rw s b l γ)(w:Wf s)(k:Kp C s s')(hc:¬C γ):Rw s' b l γ:=
 let ⟨g,h1,h2⟩:=h;⟨g,k.kp w b _ h1 (by show ¬C (grpOf g b);rw [h2];exact hc),h2⟩
theorem Rw.sl{s:St}{b γ:Nat}{l:List Value}(h:Rw s b l γ){o n:Nat}(ho:o+n≤l.length):Sl s (some ⟨b,o,none⟩) ((l.drop o).take n) γ:=by
 obtain⟨g,h1,h2⟩:=h
 have hl:((l.drop o).take n).length=n:=by rw [List.length_take,List.length_drop];omega
 exact .inr ⟨b,o,_,l,rfl,h1,rfl,h2,by rw [hl,List.length_drop];omega,by rw [hl]⟩
theorem Rw.lt{s:St}{b γ:Nat}{l:List Value}(h:Rw s b l γ)(w:Wf s):b<s.nx∧γ<s.nx:=let ⟨_g,h1,h2⟩:=h;⟨(w.lt b _ h1).1,h2▸(w.lt b _ h1).2⟩
theorem Rw.new{s:St}{cs:List Value}:Rw (.mk (s.hp.set (.row cs 0) s.nx) (s.nx+1) s.gr) s.nx cs s.nx:=⟨0,newRow_get,rfl⟩
theorem good_qadd{q:Option Addr}{k:Nat}(h:good q):good (qadd q k):=by obtain⟨b,o,rfl⟩:=h;exact⟨b,o+k,rfl⟩
def ldn(s:St)(q:Option Addr)(n:Nat):Option (List Value):=match q with
 |some ⟨b,o,none⟩=>readAt s b o n
 |_=>none
theorem At.ldn{s:St}{q:Option Addr}{cs:List Value}{i n:Nat}(h:At s q cs)(hi:i+n≤cs.length)(hn:0<n):ldn s (qadd q i) n=some ((cs.drop i).take n):=by
 rcases h with⟨rfl,_⟩|⟨b,o,rfl,h⟩
 ·simp at hi;omega
 ·obtain⟨l,h1,h2,h3⟩:=readAt_some h
  show readAt s b (o+i) n=_
  rw [List.length_drop]at h2
  rw [readAt_of h1 (by rw [List.length_drop];omega),←List.drop_drop]
  conv=>rhs;rw [h3]
  rw [List.drop_take,List.take_take,Nat.min_eq_left (by omega)]
section
variable{X:Fx}{env:Env}{df:List Deferred}{s:St}{Q:Post}{all os:List Oper}{d:Option Nat}{ty:TypeId}{pos:String}{af:Array Edge}{g:Option (Nat×Bool)}
theorem Xv.ext{x:Operand}{i:Nat}{vs:List Value}{v:Value}(hx:ev env x=some (.tuple ⟨vs⟩))(hv:vs[i]? =some v):Xv X (.extract x i) env s v s:=fun tm hf=>by
 show xExtract (opd tm x) i s=_
 rw [ev_opd hf hx]
 show ofO (headO (dropL i vs)) s=_
 rw [headO_eq,dropL_eq,List.getElem?_drop,Nat.add_zero,hv];rfl
theorem fld_at{P:Program}{t:Nat}{fs:List (Nat×Nat)}(h:shOk P t (.st fs)){f off ft:Nat}(hf:fs[f]? =some (off,ft)):∃fl fd,P.underlying t=some (.struct fl)∧fl[f]? =some fd∧fd.offset=off∧fd.type=ft:=by
 obtain⟨fl,h1,rfl,_⟩:=h
 rw [List.getElem?_map,Array.getElem?_toList]at hf
 cases hq:fl[f]? with
 |none=>rw [hq]at hf;cases hf
 |some fd=>rw [hq]at hf;cases hf;exact⟨fl,fd,h1,hq,rfl,rfl⟩
theorem Xv.fld{t t0 n0 f off ft t1 n:Nat}{fs:List (Nat×Nat)}{z0 z:Option (List Value)}{k:Sh}{x:Operand}{cs:List Value}{v:Value}(ht:tk X.B.T t=some ⟨t0,n0,.st fs,z0⟩)(hfs:fs[f]? =some (off,ft))(hft:tk X.B.T ft=some ⟨t1,n,k,z⟩)(hk:k.one=true)
  (hx:ev env x=some (.agg ⟨cs⟩)) (hv:cs[off]? =some v):Xv X (.field t x f) env s v s:=fun tm hf=>by
 obtain⟨fl,fd,h1,h2,rfl,rfl⟩:=fld_at (X.B.un ht) hfs
 show xField X.P t f (opd tm x) s=_
 rw [ev_opd hf hx]
 unfold xField
 simp only[show X.P.underlying t=_ from h1,h2]
 unfold partT
 rw [show isAggT X.P fd.type=_ from X.B.ag hft,hk]
 show ofO (headO (dropL fd.offset cs)) s=_
 rw [headO_eq,dropL_eq,List.getElem?_drop,Nat.add_zero,hv];rfl
theorem Xv.fldN{t t0 n0 f off ft t1 n:Nat}{fs:List (Nat×Nat)}{z0 z:Option (List Value)}{k:Sh}{x:Operand}{cs:List Value}(ht:tk X.B.T t=some ⟨t0,n0,.st fs,z0⟩)(hfs:fs[f]? =some (off,ft))(hft:tk X.B.T ft=some ⟨t1,n,k,z⟩)(hk:k.one=false)
  (hx:ev env x=some (.agg ⟨cs⟩)) (hl:off+n≤cs.length):Xv X (.field t x f) env s (.agg ⟨(cs.drop off).take n⟩) s:=fun tm hf=>by
 obtain⟨fl,fd,h1,h2,rfl,rfl⟩:=fld_at (X.B.un ht) hfs
 show xField X.P t f (opd tm x) s=_
 rw [ev_opd hf hx]
 unfold xField
 simp only[show X.P.underlying t=_ from h1,h2]
 unfold partT
 rw [show isAggT X.P fd.type=_ from X.B.ag hft,hk]
 show ofO (match sizeOfT X.P fd.type with|some n=>(match takeO n (dropL fd.offset cs)with|some cs=>some (.agg ⟨cs⟩)|none=>none)|none=>none) s=_
 rw [show sizeOfT X.P fd.type=_ from X.B.sz hft]
 show ofO (match takeO n (dropL fd.offset cs)with|some cs=>some (.agg ⟨cs⟩)|none=>none) s=_
 rw [dropL_eq,takeO_some.2 ⟨by rw [List.length_drop];omega,rfl⟩];rfl
theorem Xv.fa{t t0 n0 f off ft t1 n:Nat}{fs:List (Nat×Nat)}{z0 z:Option (List Value)}{k:Sh}{x:Operand}{q:Option Addr}(ht:tk X.B.T t=some ⟨t0,n0,.st fs,z0⟩)(hfs:fs[f]? =some (off,ft))(hft:tk X.B.T ft=some ⟨t1,n,k,z⟩)(hn:Nat.blt 0 n=true)
  (hx:ev env x=some (.pointer q)) (hq:good q):Xv X (.fieldAddr t x f) env s (.pointer (qadd q off)) s:=fun tm hf=>by
 obtain⟨fl,fd,h1,h2,rfl,rfl⟩:=fld_at (X.B.un ht) hfs
 obtain⟨b,o,rfl⟩:=hq
 show xFieldAddr X.P t f (opd tm x) s=_
 rw [ev_opd hf hx]
 unfold xFieldAddr
 simp only[show X.P.underlying t=_ from h1,h2,show sizeOfT X.P fd.type=_ from X.B.sz hft,filled,hn,cond]
 unfold okPt;rw [fN_eq];rfl
theorem Xv.ldN{t n:Nat}{k:Sh}{z:Option (List Value)}{t0:Nat}{x:Operand}{q:Option Addr}{cs:List Value}(ht:tk X.B.T t=some ⟨t0,n,k,z⟩)(hk:k.one=false)(hx:ev env x=some (.pointer q))(hv:ldn s q n=some cs):Xv X (.load t x) env s (.agg ⟨cs⟩) s:=fun tm hf=>by
 show xLoad X.P t (opd tm x) s=_
 rw [ev_opd hf hx]
 unfold ldn at hv
 split at hv
 case h_2=>cases hv
 rename_i b o
 show ofO (loadG X.P s t b o (isAggT X.P t)) s=_
 rw [X.B.ag ht,hk]
 show ofO (match sizeOfT X.P t with|some n=>(match readAt s b o n with|some cs=>some (.agg ⟨cs⟩)|none=>none)|none=>none) s=_
 rw [show sizeOfT X.P t=_ from X.B.sz ht]
 show ofO (match readAt s b o n with|some cs=>some (.agg ⟨cs⟩)|none=>none) s=_
 rw [hv];rfl
theorem Xv.st{t n:Nat}{k:Sh}{z:Option (List Value)}{t0:Nat}{x y:Operand}{b o γ:Nat}{v:Value}{vs l:List Value}(ht:tk X.B.T t=some ⟨t0,n,k,z⟩)(hx:ev env x=some (.pointer (some ⟨b,o,none⟩)))(hy:ev env y=some v)(hc:cellsL v=some vs)(hn:vs.length=n)(h1:∀v∈vs,Ev.one v=true)(hr:Rw s b l γ)(hl:o+n≤l.length):
  ∃s',Xv X (.store t x y) env s undef s'∧Rw s' b (lov l o vs) γ∧s'.nx=s.nx∧Kp (fun c=>c=γ) s s':=by
 obtain⟨g,hr1,rfl⟩:=hr
 obtain⟨s',a1,a2,a3,a4⟩:=writeAt_ok hr1 (vs:=vs) (off:=o) (by omega) h1
 refine⟨s',fun tm hf=>?_,⟨g,a2,rfl⟩,a3,a4⟩
 show xStore X.P t (opd tm x) (cellsL (opd tm y)) s=_
 rw [ev_opd hf hx,ev_opd hf hy,hc]
 unfold xStore
 simp only[show sizeOfT X.P t=_ from X.B.sz ht]
 rw [show Nat.beq vs.length n=true by rw [hn];exact Nat.beq_refl _,a1];rfl
theorem Wo.st{t n:Nat}{k:Sh}{z:Option (List Value)}{t0:Nat}{x y:Operand}{b o γ:Nat}{v:Value}{vs l:List Value}(hg:wantsE all env g=some true)(ht:tk X.B.T t=some ⟨t0,n,k,z⟩)(hd:dOk X d=true)(hx:ev env x=some (.pointer (some ⟨b,o,none⟩)))(hy:ev env y=some v)(hc:cellsL v=some vs)(hn:vs.length=n)(h1:∀v∈vs,Ev.one v=true)(hr:Rw s b l γ)(hl:o+n≤l.length)
  (K:∀s',Rw s' b (lov l o vs) γ→s'.nx=s.nx→Kp (fun c=>c=γ) s s'→Wo X all os (up d undef env) df s' Q):Wo X all (⟨d,.store t x y,ty,pos,af,g⟩::os) env df s Q:=by
 obtain⟨s',a,b,c,e⟩:=Xv.st (X:=X) ht hx hy hc hn h1 hr hl
 exact Wo.val hg a hd (K s' b c e)
theorem Wd.st{i m:Nat}{L:List Sp}{past:Past}{t n:Nat}{k:Sh}{z:Option (List Value)}{t0:Nat}{x y:Operand}{b o γ:Nat}{v:Value}{vs l:List Value}(hg:wantsE all env g=some true)(ht:tk X.B.T t=some ⟨t0,n,k,z⟩)(hd:dOk X d=true)(hx:ev env x=some (.pointer (some ⟨b,o,none⟩)))(hy:ev env y=some v)(hc:cellsL v=some vs)(hn:vs.length=n)(h1:∀v∈vs,Ev.one v=true)(hr:Rw s b l γ)(hl:o+n≤l.length)
  (K:∀s',Rw s' b (lov l o vs) γ→s'.nx=s.nx→Kp (fun c=>c=γ) s s'→Wd X all L ((some i,s')::past) (up d undef env) df s' Q):Wd X all (.mk .acts i ⟨d,.store t x y,ty,pos,af,g⟩ m::L) past env df s Q:=by
 obtain⟨s',a,b,c,e⟩:=Xv.st (X:=X) ht hx hy hc hn h1 hr hl
 exact Wd.act hg a hd (Nat.le_of_eq c.symm) (K s' b c e)
theorem Xv.sl0{t t0 n0 e t1 size:Nat}{z0 z:Option (List Value)}{ke:Sh}{x y:Operand}{b o l c h:Nat}{k:IntKind}(ht:tk X.B.T t=some ⟨t0,n0,.sl e,z0⟩)(he:tk X.B.T e=some ⟨t1,size,ke,z⟩)(hx:ev env x=some (.slice (some ⟨b,o,none⟩) l c))(hy:ev env y=some (.int k (.ofNat h)))(hh:h≤capOf c)
  (hc:capSure c=true→c=sure (capOf c)):Xv X (.slice t x none (some y) none) env s (.slice (some ⟨b,o,none⟩) h c) s:=fun tm hf=>by
 show xSlice X.P t (opd tm x) none (some (opd tm y)) none s=_
 rw [ev_opd hf hx,ev_opd hf hy]
 unfold xSlice
 simp only[show X.P.underlying t=_ from X.B.un ht,show sizeOfT X.P e=_ from X.B.sz he]
 show ofO (slice2 size b o c 0 h) s=_
 unfold slice2
 rw [show Nat.ble 0 h=true from Nat.ble_eq_true_of_le (Nat.zero_le _),show Nat.ble h (capOf c)=true from Nat.ble_eq_true_of_le hh]
 show ofO (cond (capSure c) _ _) s=_
 cases hs:capSure c with
 |true=>
  show ofO (cond (Nat.beq (capOf c) 0) (mkSl b o (h-0) (sure (capOf c-0))) (mkSl b (o+0*size) (h-0) (sure (capOf c-0)))) s=_
  rw [Nat.zero_mul,Nat.add_zero,Nat.sub_zero,Nat.sub_zero,←hc hs]
  have:∀β:Bool,cond β (mkSl b o h c) (mkSl b o h c)=some (.slice (some ⟨b,o,none⟩) h c):=fun β=>by cases β<;>(unfold mkSl;simp only[fN_eq,cond])
  rw [this];rfl
 |false=>
  show ofO (mkSl b o h c) s=_
  unfold mkSl;simp only[fN_eq];rfl
theorem newPt_at{s:St}{cs:List Value}:newPt s cs= .ok (.val (.pointer (some ⟨s.nx,0,none⟩))) (.mk (s.hp.set (.row cs 0) s.nx) (s.nx+1) s.gr):=by
 unfold newPt;rw [newO_ok];rfl
theorem newSl_at{s:St}{cs:List Value}{n c:Nat}:newSl s cs n c= .ok (.val (.slice (some ⟨s.nx,0,none⟩) n c)) (.mk (s.hp.set (.row cs 0) s.nx) (s.nx+1) s.gr):=by
 unfold newSl;rw [newO_ok];show okSl _ _ _ _=_;unfold okSl;rw [fN_eq]
def mkRow(s:St)(cs:List Value):St:=.mk (s.hp.set (.row cs 0) s.nx) (s.nx+1) s.gr
theorem Xv.box{t:TypeId}{x:Operand}{v:Value}{cs:List Value}(hx:ev env x=some v)(hc:cellsL v=some cs):Xv X (.box t x) env s (.pointer (some ⟨s.nx,0,none⟩)) (mkRow s cs):=fun tm hf=>by
 show xBox (cellsL (opd tm x)) s=_
 rw [ev_opd hf hx,hc];exact newPt_at
theorem Xv.alloc{t t0 n:Nat}{k:Sh}{z:List Value}(ht:tk X.B.T t=some ⟨t0,n,k,some z⟩):Xv X (.alloc t) env s (.pointer (some ⟨s.nx,0,none⟩)) (mkRow s z):=fun tm _=>by
 have h:=(X.B.zr ht).1
 show xAlloc X.P t s=_
 unfold zeroCs at h
 unfold xAlloc
 split at h
 ·rename_i v hv;simp only[show zeroOf X.P t=some v from hv,h];exact newPt_at
 ·cases h
def fillE(pl:Nat→Option (Nat×Nat))(env:Env):List (Nat×Operand)→List Value→Option (List Value)
 |[],cs=>some cs
 |(i,x)::ps,cs=>match pl i,ev env x with
  |some (off,n),some v=>match cellsL v with
   |some vs=>cond (Nat.beq vs.length n) (match Ev.splice vs off cs with
    |some cs=>fillE pl env ps cs
    |none=>none) none
   |none=>none
  |_,_=>none
theorem fillE_ok{pl pl':Nat→Option (Nat×Nat)}(hp:∀i r,pl i=some r→pl' i=some r){tm:Tr Value}(hf:Fits env tm):∀{ps:List (Nat×Operand)} {cs r:List Value},fillE pl env ps cs=some r→fillP pl' tm ps cs=some r
 |[],_,_,h=>h
 |(i,x)::ps,cs,r,h=>by
  unfold fillE at h
  split at h
  case h_2=>cases h
  rename_i off n v h1 h2
  split at h
  case h_2=>cases h
  rename_i vs h3
  unfold fillP
  rw [hp i _ h1]
  simp only[ev_opd hf h2,h3]
  cases hb:Nat.beq vs.length n with
  |false=>rw [hb]at h;cases h
  |true=>
   rw [hb]at h
   show (match Ev.splice vs off cs with|some cs=>fillP pl' tm ps cs|none=>none)=_
   simp only[cond]at h
   split at h
   ·exact fillE_ok hp hf h
   ·cases h
def norm:List Value→Option (List Value)
 |[]=>some []
 |x::xs=>match norm xs with
  |some ys=>some (x::ys)
  |none=>none
theorem norm_eq:∀l:List Value,norm l=some l
 |[]=>rfl
 |x::xs=>by unfold norm;rw [norm_eq xs]
def fillN(pl:Nat→Option (Nat×Nat))(env:Env)(ps:List (Nat×Operand))(cs:List Value):Option (List Value):=match fillE pl env ps cs with
 |some l=>norm l
 |none=>none
theorem fillN_eq{pl:Nat→Option (Nat×Nat)}{ps:List (Nat×Operand)}{cs r:List Value}(h:fillN pl env ps cs=some r):fillE pl env ps cs=some r:=by
 unfold fillN at h
 split at h
 ·rename_i l hl;rw [norm_eq]at h;rw [hl,h]
 ·cases h
def placeT(T:List TE)(fs:List (Nat×Nat))(i:Nat):Option (Nat×Nat):=match fs[i]? with
 |some (off,ft)=>match tk T ft with
  |some e=>some (off,e.n)
  |none=>none
 |none=>none
theorem Xv.build{t t0 n0:Nat}{fs:List (Nat×Nat)}{z cs:List Value}{ps:Array (Nat×Operand)}(ht:tk X.B.T t=some ⟨t0,n0,.st fs,some z⟩)(hp0:fillN (placeT X.B.T fs) env ps.toList z=some cs):Xv X (.build t ps) env s (.agg ⟨cs⟩) s:=fun tm hf=>by
 have hp:=fillN_eq hp0
 obtain⟨h1,_,_,_⟩:=X.B.zr ht
 obtain⟨fl,h2,h3,h4⟩:=X.B.un ht
 show xBuild X.P t ps.toList tm s=_
 unfold xBuild
 simp only[show zeroCs X.P t=some z from h1,show X.P.underlying t=_ from h2,show sized X.P fl.toList=true from h4,cond]
 rw [fillE_ok (pl':=places X.P fl.toList) (fun i r hr=>?_) hf hp]; · rfl
 unfold placeT at hr
 split at hr
 case h_2=>cases hr
 rename_i off ft hfs
 split at hr
 case h_2=>cases hr
 rename_i e he
 cases hr
 obtain⟨fl',fd,k1,k2,rfl,rfl⟩:=fld_at (X.B.un ht) hfs
 have hfl:fl'=fl:=by have:=k1.symm.trans h2;injection this with this;injection this
 subst hfl
 unfold places
 rw [Array.getElem?_toList,k2]
 simp only[show sizeOfT X.P fd.type=some e.n by obtain⟨e1,e2⟩:=X.B.te he;rw [←e2];exact e1.size]
theorem Xv.bsl{t t0 n0 e t1 size len:Nat}{z0:Option (List Value)}{z cs:List Value}{ke:Sh}{ps:Array (Nat×Operand)}(ht:tk X.B.T t=some ⟨t0,n0,.sl e,z0⟩)(he:tk X.B.T e=some ⟨t1,size,ke,some z⟩)(hl:Nat.ble (Nat.mul len size) 16777216=true)(hp0:fillN (fun i=>some (Nat.mul i size,size)) env ps.toList (List.replicate len z).flatten=some cs):
  Xv X (.buildSlice t len ps) env s (.slice (some ⟨s.nx,0,none⟩) len (sure len)) (mkRow s cs):=fun tm hf=>by
 have hp:=fillN_eq hp0
 obtain⟨h1,h2,_,_⟩:=X.B.zr he
 show xBuildSl X.P t len ps.toList tm s=_
 unfold xBuildSl
 simp only[show X.P.underlying t=_ from X.B.un ht,show sizeOfT X.P e=_ from X.B.sz he,show zeroCs X.P e=some z from h1]
 rw [show Nat.beq z.length size=true by rw [h2];exact Nat.beq_refl _,hl]
 show (match fillP _ tm ps.toList (repO z len)with|some cs=>newSl s cs len (sure len)|none=>Re.no)=_
 rw [repO_eq,fillE_ok (fun _ _ h=>h) hf hp]
 exact newSl_at
theorem Xv.cv{src dst t0 n t1 n1:Nat}{k j:IntKind}{z z1:Option (List Value)}{x:Operand}{m r:Nat}(ht:tk X.B.T dst=some ⟨t0,n,.it j,z⟩)(hs:tk X.B.T src=some ⟨t1,n1,.it k,z1⟩)(hx:ev env x=some (.int k (.ofNat m)))(hr:wrapN j m=some r):Xv X (.convert src dst x) env s (.int j (.ofNat r)) s:=fun tm hf=>by
 show xConv X.P src dst (opd tm x) s=_
 rw [ev_opd hf hx]
 have hd:X.P.underlying dst=some (.int j):=X.B.un ht
 have h2:X.P.underlying src=some (.int k):=X.B.un hs
 show intTo X.P src dst k (.ofNat m) s (X.P.underlying dst)=_
 rw [hd]
 unfold intTo
 simp only[h2,Option.isSome,cond,hr]
 unfold okN;rw [fN_eq]
end
end Go.Sy
