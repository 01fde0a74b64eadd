import Derived.Test.YtnbdpcpgckfeeaaGreatDoorZkzz
namespace Go.Sy
open Go Go.Ev
theorem Wd.slLo{X:Fx}{env:Env}{df:List Deferred}{s:St}{Q:Post}{all:List Oper}{d:Option Nat}{ty:TypeId}{pos:String}{af:Array Edge}{g:Option (Nat×Bool)}{i m:Nat}{L:List Sp}{past:Past}{t t0 n0 e t1 size:Nat}{z0 z:Option (List Value)}{ke:Sh}{x y:Operand}{k:IntKind}{q:Option Addr}{n c γ l:Nat}{cs:List Value}(hgd:wantsE all env g=some true)(ht:tk X.B.T t=some ⟨t0,n0,.sl e,z0⟩)(he:tk X.B.T e=some ⟨t1,size,ke,z⟩)(hd:dOk X d=true)(hx:ev env x=some (.slice q n c))(hy:ev env y=some (.int k (.ofNat l)))(hg:Gw s q n c size cs γ)(hh:l≤n)(hn:n<2^60)
  (K:∀q' c',At s q' (cs.drop (l*size))→Wd X all L past (up d (.slice q' (n-l) c') env) df s Q):Wd X all (.mk .none i ⟨d,.slice t x (some y) none none,ty,pos,af,g⟩ m::L) past env df s Q:=by
 obtain⟨q',c',h1,h2,h3⟩:=Xv.slLo (X:=X) (env:=env) ht he hx hy hg hh hn
 exact Wd.val hgd h1 hd (Nat.le_refl _) (K q' c' h2)
theorem drop32:∀{K:List (List Nat)} {j:Nat},(∀x∈K,x.length=32)→(K.flatMap (·.map nB)).drop (j*32)=(K.drop j).flatMap (·.map nB)
 |[],j,_=>by simp
 |x::K,0,_=>by simp
 |x::K,j+1,h=>by
  rw [List.flatMap_cons,show (j+1)*32=(x.map nB).length+j*32 by rw [List.length_map,h x (by simp)];omega,←List.drop_drop,List.drop_left,List.drop_succ_cons]
  exact drop32 fun y hy=>h y (by simp[hy])
end Go.Sy
namespace Go.Proofs.YtnbdpcpgckfeeaaGreatDoor
open Go Go.Ev Go.Sy
set_option maxRecDepth 100000
def QOk:Prop:= ∀{s:St} {D b P P' m m' u nb:Nat} {Bl Nt:List Nat→Option (List Nat)} {K K':List (List Nat)} {F:Nat→Prop},Wf s→Sy s D b P P' m m' u nb Bl Nt K K' F→Cl B (.call 19 [.pointer (some ⟨P,0,none⟩)]) s fun v s'=>v= .slice none 0 0∧Kn s s'
variable{s:St}
set_option maxHeartbeats 4000000 in
theorem law_ok{q0:Option Addr}{c0:Nat}{room:Int}{xs:List (Value×List Nat)}(hQ:QOk)(w0:Wf s)(hT:TabAt s)(hq:At s q0 (xs.map (·.1)))(hlen:xs.length<2^47)(hx:∀x∈xs,Agh s x.1 x.2):
  Cl B (.call 3 [.slice q0 xs.length c0,.int .i64 room]) s fun v _=>v= .bool true:=by
 have hTn:∀{t:St},Kp (fun c=>s.nx≤c) s t→TabAt t:=fun k=>hT.kpN w0 k
 refine Cl.enter Tryz.f3 fn3 rfl rfl rfl ?_
 refine run1 ?_
 refine W.out (α:=St×List (Value×List Nat)×Option Addr×Nat×Nat) (fun p=>[(1,.int .i64 room),(5,.slice p.2.2.1 p.2.1.length p.2.2.2.1)]) (fun p=>p.1) (fun p=>Kn s p.1∧p.2.1.length≤30∧Gw p.1 p.2.2.1 p.2.1.length p.2.2.2.1 1 (p.2.1.map (·.1)) p.2.2.2.2∧s.nx≤p.2.2.2.2∧∀x∈p.2.1,x∈xs∧1≤x.2.length∧x.2.length≤1024) ?_ ?_
 ·refine W.loop (α:=Nat×St×List (Value×List Nat)×Option Addr×Nat×Nat) (fun p=>[(0,.slice q0 xs.length c0),(1,.int .i64 room),(5,.slice p.2.2.2.1 p.2.2.1.length p.2.2.2.2.1),(6,nI p.1)]) (fun _=>[]) (fun p=>p.2.1)
   (fun p=>p.1≤xs.length∧Kn s p.2.1∧p.2.2.1.length≤30∧Gw p.2.1 p.2.2.2.1 p.2.2.1.length p.2.2.2.2.1 1 (p.2.2.1.map (·.1)) p.2.2.2.2.2∧s.nx≤p.2.2.2.2.2∧∀x∈p.2.2.1,x∈xs∧1≤x.2.length∧x.2.length≤1024) (fun p=>xs.length-p.1) (0,s,[],none,0,s.nx) ?_ (.cons rfl (.cons rfl (.cons rfl (.cons rfl .nil)))) rfl rfl (by show xs.length-0<_;omega) ?_
  ·exact⟨Nat.zero_le _,.refl,Nat.zero_le _,.nil,Nat.le_refl _,fun _ h=>absurd h List.not_mem_nil⟩
  rintro⟨i,t,ys,q5,c5,γ5⟩ ⟨i1,kt,i2,G5,lo5,hys⟩
  dsimp only at i1 kt i2 G5 lo5 hys
  have wt:=kt.wf w0
  show W _ _ [(0,.slice q0 xs.length c0),(1,.int .i64 room),(5,.slice q5 ys.length c5),(6,nI i)] [] t _
  by_cases hi:i<xs.length
  ·by_cases h30:ys.length<30
   ·obtain⟨x,hxi⟩:∃x,xs[i]? =some x:=⟨xs[i],List.getElem?_eq_getElem hi⟩
    have ax:=hx x (List.mem_of_getElem? hxi)
    obtain⟨qx,cx,δx,ex,Sx,ltx,capx⟩:=ax.sl
    obtain⟨g0,l0⟩:=at_cell (hq.kn w0 kt) (show (xs.map (·.1))[i]? =some (.slice qx x.2.length cx)by rw [List.getElem?_map,hxi,←ex];rfl)
    have hAx:=(Sx.kp w0 kt id).at
    have bl:=ax.lt
    refine run1 ?_
    refine Wo.meet0 (α:=Bool) (fun f=>[(0,.slice q0 xs.length c0),(1,.int .i64 room),(5,.slice q5 ys.length c5),(6,nI i),(7,.bool f)]) (fun _=>t) (fun f=>f=true→1≤x.2.length∧x.2.length≤1024) ?_ ?_
    ·by_cases a1:1≤x.2.length
     ·refine run1 ?_
      exact meet.n (decide (x.2.length≤1024)) (fun h=>⟨a1,of_decide_eq_true h⟩) (.cons rfl (.cons rfl (.cons rfl (.cons rfl (.cons rfl .nil))))) rfl
     ·refine run1 ?_
      exact meet.n false (fun h=>by cases h) (.cons rfl (.cons rfl (.cons rfl (.cons rfl (.cons rfl .nil))))) rfl
    rintro f0 hf0
    refine run1 ?_
    refine W.loop (α:=Nat×Bool) (fun p=>[(0,.slice q0 xs.length c0),(1,.int .i64 room),(5,.slice q5 ys.length c5),(6,nI i),(7,.bool p.2),(8,nI p.1)]) (fun _=>[]) (fun _=>t) (fun p=>p.1≤ys.length∧(p.2=true→1≤x.2.length∧x.2.length≤1024)) (fun p=>ys.length-p.1) (0,f0) ⟨Nat.zero_le _,hf0⟩ (.cons rfl (.cons rfl (.cons rfl (.cons rfl (.cons rfl (.cons rfl .nil)))))) rfl rfl (by show ys.length-0<_;omega) ?_
    rintro⟨j,f⟩ ⟨j1,hf⟩
    dsimp only at j1 hf
    show W _ _ [(0,.slice q0 xs.length c0),(1,.int .i64 room),(5,.slice q5 ys.length c5),(6,nI i),(7,.bool f),(8,nI j)] [] t _
    by_cases hj:j<ys.length
    ·obtain⟨y,hyj⟩:∃y,ys[j]? =some y:=⟨ys[j],List.getElem?_eq_getElem hj⟩
     have ay:=hx y (hys y (List.mem_of_getElem? hyj)).1
     obtain⟨qy,cy,δy,ey,Sy',lty,_⟩:=ay.sl
     have bly:=ay.lt
     obtain⟨g5,l5⟩:=at_cell G5.sl.at (show (ys.map (·.1))[j]? =some (.slice qy y.2.length cy)by rw [List.getElem?_map,hyj,←ey];rfl)
     refine run1 ?_
     refine W.dr [(0,.none,0),(1,.none,1),(2,.none,3),(3,.none,3),(4,.none,15),(5,.reads,31),(6,.none,3),(7,.none,3),(8,.none,195),(9,.reads,451),(10,.acts,1023),(11,.none,2047),(12,.none,4095),(13,.none,8191)] (by kernel_rfl) rfl ?_
     cases f with
     |true=>
      refine run1 ?_
      refine Wd.call rfl (Xc.call ok4 rfl) rfl ((same_ok ((Sy'.kp w0 kt id).at) hAx (by omega) (by omega)).mono ?_)
      rintro v s' ⟨rfl,e'⟩;rw [e'];clear e' s'
      refine⟨Nat.le_refl _,run1 ?_⟩
      exact rnd.n (j+1,decide ¬y.2=x.2) ⟨by omega,fun _=>hf rfl⟩ (by show ys.length-(j+1)<ys.length-j;omega) (.cons rfl (.cons rfl (.cons rfl (.cons rfl (.cons rfl (.cons rfl .nil)))))) rfl rfl
     |false=>
      refine run1 ?_
      exact rnd.n (j+1,false) ⟨by omega,fun h=>by cases h⟩ (by show ys.length-(j+1)<ys.length-j;omega) (.cons rfl (.cons rfl (.cons rfl (.cons rfl (.cons rfl (.cons rfl .nil)))))) rfl rfl
    ·obtain rfl:j=ys.length:=by omega
     cases f with
     |true=>
      obtain⟨f1,f2⟩:=hf rfl
      refine run1 ?_
      refine mk_gen (s:=t) (cs:=[.slice qx x.2.length cx]) (M:=fun s'=>Wo _ _ _ _ _ s' _) fun t1 r1 n1 k1=>?_
      have w1:=k1.wf wt
      refine Wo.app2 (k:=1) rfl rfl rfl rfl rfl rfl rfl rfl rfl w1 (G5.kp wt k1 id) rfl (cells_at (k:=1) (size:=1) r1.ats rfl (by decide)) rfl (by intro v hv;rw [List.mem_singleton.1 hv];rfl) rfl (by omega) (by omega) ?_
      intro q' c' γ' t2 G2 k2 hγ
      have e1:=k1.le
      have et:=kt.le
      obtain⟨zs,hzs⟩:∃zs,zs=ys++[x]:=⟨_,rfl⟩
      have el:ys.length+1=zs.length:=by rw [hzs,List.length_append];rfl
      have em:ys.map (·.1)++[.slice qx x.2.length cx]=zs.map (·.1):=by rw [hzs,List.map_append,←ex];rfl
      rw [el,em]at G2
      rw [el]
      refine run1 ?_
      refine rnd.n (i+1,t2,zs,q',c',γ') ⟨hi,(kt.call k1).app (k2.mono fun c e=>e.2) lo5,by show zs.length≤30;omega,G2,?_,fun z hz=>?_⟩ (by show xs.length-(i+1)<xs.length-i;omega) (.cons rfl (.cons rfl (.cons rfl (.cons rfl .nil)))) rfl rfl
      ·show s.nx≤γ'
       rcases hγ with⟨_,e⟩|e<;>omega
      ·change z∈zs at hz
       rw [hzs]at hz
       rcases List.mem_append.1 hz with e|e
       ·exact hys z e
       ·rw [List.mem_singleton.1 e];exact⟨List.mem_of_getElem? hxi,f1,f2⟩
     |false=>
      refine run1 ?_
      exact rnd.n (i+1,t,ys,q5,c5,γ5) ⟨hi,kt,i2,G5,lo5,hys⟩ (by show xs.length-(i+1)<xs.length-i;omega) (.cons rfl (.cons rfl (.cons rfl (.cons rfl .nil)))) rfl rfl
   ·refine run1 ?_
    exact outx.x (t,ys,q5,c5,γ5) ⟨kt,i2,G5,lo5,hys⟩ (.cons rfl (.cons rfl .nil)) rfl
  ·refine run1 ?_
   exact outx.x (t,ys,q5,c5,γ5) ⟨kt,i2,G5,lo5,hys⟩ (.cons rfl (.cons rfl .nil)) rfl
 rintro⟨s1,ys,q5,c5,γ5⟩ ⟨k1,i2,G5,lo5,hys⟩
 dsimp only at k1 i2 G5 lo5 hys
 show W _ _ [(1,.int .i64 room),(5,.slice q5 ys.length c5)] [] s1 _
 obtain⟨zs,hz1,hz2,hz⟩:∃zs:Zs,zs.map (·.1)=ys.map (·.1)∧zs.length=ys.length∧∀z∈zs,shaOf z.2.1=z.2.2∧Agh s z.1 z.2.1∧1≤z.2.1.length∧z.2.1.length≤1024:=by
  obtain⟨hf,hhf⟩:∃hf:List Nat→List Nat,∀A,hf A=shaOf A:=⟨shaOf,fun _=>rfl⟩
  refine⟨ys.map fun y=>(y.1,y.2,hf y.2),by rw [List.map_map];rfl,List.length_map _,fun z hz=>?_⟩
  obtain⟨y,hy,rfl⟩:=List.mem_map.1 hz
  exact⟨(hhf y.2).symm,hx y (hys y hy).1,(hys y hy).2⟩
 rw [←hz1,←hz2]at G5
 rw [←hz2]at i2 ⊢
 clear hys hz1 hz2 ys
 have hz32:∀z∈zs,z.2.2.length=32∧∀y∈z.2.2,y<256:=fun z h=>⟨(hz z h).1▸shaL,(hz z h).1▸shaB⟩
 have kidz:∀{t:St},Kp (fun c=>s.nx≤c) s t→∀{i:Nat} {z:Value×List Nat×List Nat},zs[i]? =some z→At t q5 (zs.map (·.1))→∃q c δ,good q5∧ldq t (qadd q5 (i*1))=some (.slice q z.2.1.length c)∧Sl t q (z.2.1.map nB) δ∧δ<s.nx∧Cap z.2.1.length c 1:=fun{t} k {i z} hi ha=>by
  obtain⟨q,c,δ,e,S,lt,cap⟩:=(hz z (List.mem_of_getElem? hi)).2.1.sl
  obtain⟨g,l⟩:=at_cell ha (show (zs.map (·.1))[i]? =some (.slice q z.2.1.length c)by rw [List.getElem?_map,hi,←e];rfl)
  exact⟨q,c,δ,g,l,S.kp w0 k (by omega),lt,cap⟩
 have w1:=k1.wf w0
 have e1:=k1.le
 refine run1 ?_
 refine W.loop (α:=Nat×St) (fun p=>[(1,.int .i64 room),(5,.slice q5 zs.length c5),(9,nI p.1)]) (fun _=>[]) (fun p=>p.2) (fun p=>p.1≤zs.length∧Kn s1 p.2∧∀a b x y,b<a→a<p.1→zs[a]? =some x→zs[b]? =some y→x.2.2≠y.2.2) (fun p=>zs.length-p.1) (0,s1) ⟨Nat.zero_le _,.refl,fun _ _ _ _ _ h=>absurd h (Nat.not_lt_zero _)⟩ (.cons rfl (.cons rfl (.cons rfl .nil))) rfl rfl (by show zs.length-0<_;omega) ?_
 rintro⟨i,t⟩ ⟨i1,kt,hne⟩
 dsimp only at i1 kt hne
 show W _ _ [(1,.int .i64 room),(5,.slice q5 zs.length c5),(9,nI i)] [] t _
 have wt:=kt.wf w1
 by_cases hi:i<zs.length
 ·obtain⟨x,hxi⟩:∃x,zs[i]? =some x:=⟨zs[i],List.getElem?_eq_getElem hi⟩
  obtain⟨ex,ax,ax1,ax2⟩:=hz x (List.mem_of_getElem? hxi)
  have lx:=(hz32 x (List.mem_of_getElem? hxi)).1
  refine run1 ?_
  refine W.loop (α:=Nat×St) (fun p=>[(1,.int .i64 room),(5,.slice q5 zs.length c5),(9,nI i),(10,nI p.1)]) (fun _=>[]) (fun p=>p.2) (fun p=>p.1≤i∧Kn s1 p.2∧∀b y,b<p.1→zs[b]? =some y→x.2.2≠y.2.2) (fun p=>i-p.1) (0,t) ⟨Nat.zero_le _,kt,fun _ _ h=>absurd h (Nat.not_lt_zero _)⟩ (.cons rfl (.cons rfl (.cons rfl (.cons rfl .nil)))) rfl rfl (by show i-0<_;omega) ?_
  rintro⟨j,u⟩ ⟨j1,ku,hnj⟩
  dsimp only at j1 ku hnj
  show W _ _ [(1,.int .i64 room),(5,.slice q5 zs.length c5),(9,nI i),(10,nI j)] [] u _
  have wu:=ku.wf w1
  by_cases hj:j<i
  ·obtain⟨y,hyj⟩:∃y,zs[j]? =some y:=⟨zs[j],List.getElem?_eq_getElem (by omega)⟩
   obtain⟨ey,ay,ay1,ay2⟩:=hz y (List.mem_of_getElem? hyj)
   have ly:=(hz32 y (List.mem_of_getElem? hyj)).1
   have ku0:Kp (fun c=>s.nx≤c) s u:=(k1.call ku).mono fun _ e=>e.elim
   have hat:At u q5 (zs.map (·.1)):=G5.sl.at.kn w1 ku
   obtain⟨qx,cx,δx,g5,l5i,Sx,_,_⟩:=kidz ku0 hxi hat
   obtain⟨qy,cy,δy,_,l5j,Sy',_,_⟩:=kidz ku0 hyj hat
   have c1:=rhash_ok (c:=cx) wu (hTn ku0) Sx.at ax.by' (by omega)
   rw [ex]at c1
   have hjl:j<zs.length:=by omega
   refine run1 ?_
   refine W.dr [(0,.none,0),(1,.none,0),(2,.none,3),(3,.reads,7),(4,.acts,15),(5,.none,0),(6,.none,0),(7,.none,96),(8,.reads,224),(9,.acts,511),(10,.none,1023)] (by kernel_rfl) rfl (run1 ?_)
   refine Wd.call rfl (Xc.call ok5 rfl) rfl (c1.mono ?_)
   rintro v u1 ⟨rfl,k1u⟩
   have wu1:=k1u.wf wu
   have l5j1:=ldq_kn l5j wu k1u
   have c2:=rhash_ok (c:=cy) wu1 (hTn (ku0.trans (k1u.mono fun _ e=>e.elim))) (Sy'.kp wu k1u id).at ay.by' (by omega)
   rw [ey]at c2
   refine⟨k1u.le,run1 ?_⟩
   refine Wd.call rfl (Xc.call ok5 rfl) rfl (c2.mono ?_)
   rintro v u2 ⟨rfl,k2u⟩
   refine⟨k2u.le,run1 ?_⟩
   refine Wd.val rfl (Xv.eqH Hdm rfl rfl rfl lx ly) rfl (Nat.le_refl _) ?_
   by_cases heq:x.2.2=y.2.2
   ·rw [decide_eq_true heq]
    refine run1 ?_
    exact Lv.ret rfl rfl
   ·rw [decide_eq_false heq]
    refine run1 ?_
    refine rnd.n (j+1,u2) ⟨hj,ku.call (k1u.call k2u),fun b z hb hzb=>?_⟩ (by show i-(j+1)<i-j;omega) (.cons rfl (.cons rfl (.cons rfl (.cons rfl .nil)))) rfl rfl
    change b<j+1 at hb
    by_cases e:b=j
    ·subst e
     rw [hyj]at hzb
     cases hzb;exact heq
    ·exact hnj b z (by omega) hzb
  ·obtain rfl:j=i:=by omega
   refine run1 ?_
   refine rnd.n (j+1,u) ⟨hi,ku,fun a b z y h1 h2 h3 h4=>?_⟩ (by show zs.length-(j+1)<zs.length-j;omega) (.cons rfl (.cons rfl (.cons rfl .nil))) rfl rfl
   change a<j+1 at h2
   by_cases e:a=j
   ·subst e
    rw [hxi]at h3
    cases h3
    exact hnj b y h1 h4
   ·exact hne a b z y h1 (by omega) h3 h4
 ·obtain rfl:i=zs.length:=by omega
  have hnod:(zs.map (·.2.2)).Nodup:=by
   refine List.pairwise_iff_getElem.2 fun a b ha hb hab e=>?_
   rw [List.getElem_map,List.getElem_map]at e
   rw [List.length_map]at ha hb
   exact hne b a _ _ hab hb (List.getElem?_eq_getElem hb) (List.getElem?_eq_getElem ha) e.symm
  clear hne
  refine run1 ?_
  refine Wo.call rfl (Xc.call ok6 rfl) rfl (room_ok.mono ?_)
  rintro v s' ⟨⟨m,rfl,m1,m2⟩,e'⟩;rw [e'];clear e' s'
  have kt0:Kp (fun c=>s.nx≤c) s t:=(k1.call kt).mono fun _ e=>e.elim
  have et:=kt.le
  refine run1 ?_
  refine Wo.call rfl (Xc.call ok7 rfl) rfl ((mnewd_ok (a:=64) (b:=100) wt (by decide) (by decide) (by decide)).mono ?_)
  rintro v s2 ⟨D,Cd,Fd,rfl,hd,hFd,k2⟩
  have w2:=k2.wf wt
  have e2:=k2.le
  refine run1 ?_
  refine Wo.call rfl (Xc.call ok9 rfl) rfl ((zsecret_ok w2).mono ?_)
  rintro v s3 ⟨qS,cS,γS,rfl,GS,loS,k3⟩
  have w3:=k3.wf w2
  have e3:=k3.le
  refine run1 ?_
  refine Wo.call rfl (Xc.call ok8 rfl) rfl ((dnew_ok (S:=List.replicate 32 0) w3 GS.sl.at rfl ⟨by decide,by decide⟩ ⟨by decide,by decide⟩).mono ?_)
  rintro v s4 ⟨b,r1,r2,r3,rfl,hb,M1,M2,M3,o1,o2,o3,o4,k4⟩
  rw [bk_eq]at hb
  have w4:=k4.wf w3
  have e4:=k4.le
  have hbl:=(hb.lt w4).1
  refine run1 ?_
  refine Wo.val rfl (Xv.pEq rfl rfl rfl) rfl (run1 ?_)
  refine Wo.val rfl (Xv.pEq rfl rfl rfl) rfl (run1 ?_)
  have kt4:Kn t s4:=(k2.call k3).call k4
  have k04:Kp (fun c=>s.nx≤c) s s4:=kt0.trans (kt4.mono fun _ e=>e.elim)
  refine Wo.call rfl (Xc.call ok10 rfl) rfl ((fixed_ok (hTn k04)).mono ?_)
  rintro v s' ⟨rfl,e'⟩;rw [e'];clear e' s'
  refine run1 ?_
  refine Wo.call rfl (Xc.call ok11 rfl) rfl ((hnew_ok (m:=m) w4 (by omega)).mono ?_)
  rintro v s5 ⟨P,Cs,Fs,rfl,hs,hFs,k5⟩
  have w5:=k5.wf w4
  have e5:=k5.le
  refine run1 ?_
  refine Wo.call rfl (Xc.call ok11 rfl) rfl ((hnew_ok (m:=0) w5 (by omega)).mono ?_)
  rintro v s6 ⟨P',Ct,Ft,rfl,ht,hFt,k6⟩
  have w6:=k6.wf w5
  have e6:=k6.le
  refine run1 ?_
  refine Wo.val rfl (Xv.pEq rfl rfl rfl) rfl (run1 ?_)
  refine Wo.val rfl (Xv.pEq rfl rfl rfl) rfl (run1 ?_)
  obtain⟨F,hF⟩:∃F:Nat→Prop,∀c,F c↔Fd c∨(c=b∨c=r1∨c=r2)∨Fs c∨Ft c:=⟨_,fun _=>Iff.rfl⟩
  have fd:∀c,Fd c→t.nx≤c∧c<s2.nx:=fun c e=>⟨hFd c e,hd.old c e⟩
  have fs:∀c,Fs c→s4.nx≤c∧c<s5.nx:=fun c e=>⟨hFs c e,hs.old c e⟩
  have ft:∀c,Ft c→s5.nx≤c∧c<s6.nx:=fun c e=>⟨hFt c e,ht.old c e⟩
  have fb:∀c,(c=b∨c=r1∨c=r2)→s3.nx≤c∧c<s4.nx:=fun c e=>by omega
  have hB4:Bo s4 b 0 (fun _=>none) (fun c=>c=b∨c=r1) (fun c=>c=b∨c=r1∨c=r2):=⟨b,r1,r2,r3,List.replicate 32 0,[],fun c=>Iff.rfl,hb,rfl,M1,M2,rfl,fun _=>rfl,⟨.inl rfl,.inr (.inl rfl),.inr (.inr rfl)⟩,fun c e=>(fb c e).2,by omega,by omega,by omega⟩
  have fF:∀c,F c→s1.nx≤c:=fun c e=>by
   rcases(hF c).1 e with e|e|e|e
   ·have:=fd c e;omega
   ·have:=fb c e;omega
   ·have:=fs c e;omega
   ·have:=ft c e;omega
  have sy6:Sy s6 D b P P' m 0 0 0 (fun _=>none) (fun _=>none) [] [] F:=⟨0,0,0,Cd,Fd,_,_,Cs,Fs,Ct,Ft,((((hd.kp w2 k3 fun _ _=>id).kp w3 k4 fun _ _=>id).kp w4 k5 fun _ _=>id).kp w5 k6 fun _ _=>id),(hB4.kp w4 k5 fun _ _=>id).kp w5 k6 fun _ _=>id,hs.kp w5 k6 fun _ _=>id,ht,fun c x y=>by have:=fd c x;have:=fb c y;omega,fun c x y=>by have:=fd c x;have:=fs c y;omega,fun c x y=>by have:=fd c x;have:=ft c y;omega,fun c x y=>by have:=fb c x;have:=fs c y;omega,fun c x y=>by have:=fb c x;have:=ft c y;omega,fun c x y=>by have:=fs c x;have:=ft c y;omega,hF,by omega,by omega,by omega⟩
  have kt6:Kn t s6:=(kt4.call k5).call k6
  have pl6:Pl s s6 zs q5 c5 γ5 D b P P' m 0 none 0 s6.nx F:=by
   refine⟨kt0.trans (kt6.mono fun _ e=>e.elim),(G5.kp w1 kt id).kp wt kt6 id,fun e=>⟨lo5,fun a=>?_⟩,.nil,fun e=>absurd rfl e,by rw [List.take_zero,show lastn m (([]:Zs).map (·.2.2))=[]from List.drop_nil];exact sy6,fun c e=>by have:=fF c e;omega⟩
   have:=G5.ltn w1 e
   have:=fF _ a
   omega
  refine run1 ?_
  refine W.loop (α:=Nat×St×Option Addr×Nat×Nat×(Nat→Prop)) (fun p=>[(1,nI m),(5,.slice q5 zs.length c5),(11,.pointer (some ⟨D,0,none⟩)),(13,.pointer (some ⟨b,0,none⟩)),(15,.pointer (some ⟨P,0,none⟩)),(17,.pointer (some ⟨P',0,none⟩)),(19,.slice p.2.2.1 p.1 p.2.2.2.1),(20,nI p.1)]) (fun _=>[]) (fun p=>p.2.1) (fun p=>p.1≤zs.length∧Pl s p.2.1 zs q5 c5 γ5 D b P P' m p.1 p.2.2.1 p.2.2.2.1 p.2.2.2.2.1 p.2.2.2.2.2) (fun p=>zs.length-p.1) (0,s6,none,0,s6.nx,F) ⟨Nat.zero_le _,pl6⟩ (.cons rfl (.cons rfl (.cons rfl (.cons rfl (.cons rfl (.cons rfl (.cons rfl (.cons rfl .nil)))))))) rfl rfl (by show zs.length-0<_;omega) ?_
  clear pl6 sy6 hB4 fb ft fs fd fF hF hd hs ht hFd hFs hFt
  rintro⟨i,u,q9,c9,γ9,F⟩ ⟨i1,L⟩
  dsimp only at i1 L
  show W _ _ [(1,nI m),(5,.slice q5 zs.length c5),(11,.pointer (some ⟨D,0,none⟩)),(13,.pointer (some ⟨b,0,none⟩)),(15,.pointer (some ⟨P,0,none⟩)),(17,.pointer (some ⟨P',0,none⟩)),(19,.slice q9 i c9),(20,nI i)] [] u _
  have wu:=L.kp.wf w0
  have eu:=L.kp.le
  by_cases hi:i<zs.length
  ·obtain⟨z,hzi⟩:∃z,zs[i]? =some z:=⟨zs[i],List.getElem?_eq_getElem hi⟩
   have hzm:=List.mem_of_getElem? hzi
   obtain⟨ez,az,az1,az2⟩:=hz z hzm
   obtain⟨lz,bz⟩:=hz32 z hzm
   have lk:(z.2.2.map nB).length=32:=by rw [List.length_map,lz]
   obtain⟨qx,cx,δx,g5,l5,Sx,ltx,capx⟩:=kidz L.kp hzi L.l5.sl.at
   have htk:zs.take (i+1)=zs.take i++[z]:=by rw [List.take_add_one,hzi];rfl
   have hnot:z.2.2∉(zs.take i).map (·.2.2):=fun h=>by
    have hn:=hnod
    rw [←List.take_append_drop i zs,List.map_append,List.nodup_append]at hn
    exact hn.2.2 _ h _ (List.mem_map_of_mem (List.mem_of_getElem? (i:=0) (by rw [List.getElem?_drop];exact hzi))) rfl
   have nFx:¬F δx:=fun e=>by have:=L.fn _ e;omega
   have tk:=tk_of hT w0 L.kp L.fn
   refine run1 ?_
   refine Wo.call rfl (Xc.call ok12 rfl) rfl ((put_ok wu L.sy tk ez (blf_no hnot) (blf_no hnot) Sx nFx az.by' capx az1 az2 (by omega) (by omega) (by omega)).mono ?_)
   rintro v u1 ⟨rfl,F1,G1,sy1,x1⟩
   have wu1:=x1.kp.wf wu
   have eu1:=x1.kp.le
   refine run1 ?_
   refine mk_gen (s:=u1) (cs:=zh.map nB) (M:=fun s'=>Wo _ _ _ _ _ s' _) fun u2 r2' n2 k2'=>run1 ?_
   refine Wo.st rfl rfl rfl rfl rfl rfl lk one_nB r2' (by show 0+32≤32;decide) fun u3 r3' n3 k3'=>?_
   rw [lov_all lk]at r3'
   have k13:Kn u1 u3:=k2'.app k3' (Nat.le_refl _)
   have wu3:=k13.wf wu1
   have eu3:=k13.le
   have sy3:=sy1.kp wu1 k13 fun _ _=>id
   have tk3:=(tk.nx x1).kn k13
   have k03:Kp (fun c=>s.nx≤c) s u3:=(L.kp.trans (x1.kp.mono L.fn)).trans (k13.mono fun _ e=>e.elim)
   obtain⟨G5a,nF5a⟩:=Gw.nx L.l5 wu x1 fun e=>(L.g5 e).2
   obtain⟨G9a,nF9a⟩:=Gw.nx L.k9 wu x1 fun e=>(L.g9 e).2.1
   have G5b:=G5a.kp wu1 k13 id
   have G9b:=G9a.kp wu1 k13 id
   obtain⟨qx3,cx3,δ3,_,l53,S3,lt3,cap3⟩:=kidz k03 hzi G5b.sl.at
   have nF3:¬F1 δ3:=fun e=>(x1.nw' _ e).elim (fun e=>by have:=L.fn _ e;omega) fun e=>by omega
   have lk3:=r3'.all (n:=32) lk (by decide)
   refine run1 ?_
   refine W.dr [(0,.none,0),(1,.none,1),(2,.none,3),(4,.none,7),(5,.none,7),(6,.none,7),(7,.none,103),(8,.reads,231),(9,.acts,503),(3,.reads,7),(10,.none,1023),(11,.none,2047)] (by kernel_rfl) rfl (run1 ?_)
   refine Wd.call rfl (Xc.call ok13 rfl) rfl ((shash_ok wu3 sy3 tk3 ez (if_pos rfl) S3 nF3 az.by' cap3 (by omega) (by omega)).mono ?_)
   rintro v u4 ⟨rfl,F2,G2,sy4,x4⟩
   have wu4:=x4.kp.wf wu3
   have eu4:=x4.kp.le
   have r4':=r3'.kp wu3 x4.kp fun e=>by have:=sy1.old _ e;omega
   have lk4:=r4'.all (n:=32) lk (by decide)
   refine⟨x4.kp.le,run1 ?_⟩
   refine Wd.read rfl (Xv.ldN rfl rfl rfl lk4) rfl eqV_h ⟨Xv.ldN rfl rfl rfl lk4,Xv.ldN rfl rfl rfl lk3,trivial⟩ (run1 ?_)
   refine Wd.val rfl (Xv.neH Hdm rfl rfl rfl lz lz) rfl (Nat.le_refl _) ?_
   rw [show decide (z.2.2≠z.2.2)=false from decide_eq_false fun e=>e rfl]
   refine run1 ?_
   refine Wo.val rfl (Xv.bsl (cs:=z.2.2.map nB) rfl rfl rfl (fillN_ofY (fill_cons (vs:=z.2.2.map nB) rfl rfl rfl lk one_nB (by decide) (congrArg some (lov_all lk))))) rfl ?_
   refine mk_gen (s:=u4) (cs:=z.2.2.map nB) (M:=fun s'=>Wo _ _ _ _ _ s' _) fun u5 r5' n5 k5'=>?_
   have wu5:=k5'.wf wu4
   have eu5:=k5'.le
   obtain⟨G5c,nF5c⟩:=Gw.nx G5b wu3 x4 nF5a
   obtain⟨G9c,nF9c⟩:=Gw.nx G9b wu3 x4 nF9a
   have G5d:=G5c.kp wu4 k5' id
   have G9d:=G9c.kp wu4 k5' id
   refine Wo.app2 (k:=1) rfl rfl rfl rfl rfl rfl rfl rfl rfl wu5 G9d rfl (cells_at (k:=1) (size:=32) r5'.ats lk (by decide)) lk one_nB rfl (by omega) (by omega) ?_
   intro q9' c9' γ9' u6 G6 k6' hγ
   have o2:=sy4.old
   have g95:q9≠none→q5≠none→γ9≠γ5:=fun e=>(L.g9 e).2.2
   have efl:(zs.take i).flatMap (·.2.2.map nB)++z.2.2.map nB=(zs.take (i+1)).flatMap (·.2.2.map nB):=by rw [htk,List.flatMap_append];simp
   rw [efl]at G6
   have eK:kup m (lastn m ((zs.take i).map (·.2.2))) z.2.2=lastn m ((zs.take (i+1)).map (·.2.2)):=by rw [lastn_kup m1 hnot,htk,List.map_append];rfl
   have eB:(fun key=>if key=z.2.2 then some z.2.1 else blf (zs.take i) key)=blf (zs.take (i+1)):=by rw [htk,blf_add]
   rw [eK,eB]at sy4
   have sy6:=((sy4.kp wu4 k5' fun _ _=>id).kp wu5 k6' fun c a e=>nF9c e.1 (e.2▸a)).up (v:=4*(i+1)) (by omega)
   have k06:Kp (fun c=>s.nx≤c) s u6:=((k03.trans (x4.kp.mono fun c e=>(x1.nw' c e).elim (L.fn c) fun e=>by omega)).trans (k5'.mono fun _ e=>e.elim)).trans (k6'.mono fun c e=>by rw [e.2];exact(L.g9 e.1).1)
   have f2:∀c,F2 c→s.nx≤c:=fun c e=>(x4.nw' c e).elim (fun e=>(x1.nw' c e).elim (L.fn c) fun e=>by omega) fun e=>by omega
   refine run1 ?_
   refine rnd.n (i+1,u6,q9',c9',γ9',F2) ⟨hi,k06,G5d.keep wu5 k6' fun e a=>g95 a.1 e a.2.symm,fun e=>⟨(L.g5 e).1,nF5c e⟩,G6,fun _=>?_,sy6,f2⟩ (by show zs.length-(i+1)<zs.length-i;omega) (.cons rfl (.cons rfl (.cons rfl (.cons rfl (.cons rfl (.cons rfl (.cons rfl (.cons rfl .nil)))))))) rfl rfl
   show s.nx≤γ9'∧¬F2 γ9'∧(q5≠none→γ9'≠γ5)
   rcases hγ with⟨e,rfl⟩|e
   ·exact⟨(L.g9 e).1,nF9c e,g95 e⟩
   ·refine⟨by omega,fun a=>by have:=o2 _ a;omega,fun a=>?_⟩
    have:=G5d.ltn wu5 a
    have:=G5c.ltn wu4 a
    omega
  ·obtain rfl:i=zs.length:=by omega
   have P0:Pz s u zs q5 c5 γ5 D b P P' m (4*zs.length) q9 c9 γ9 (lastn m (zs.map (·.2.2))) [] F:=by
    have h:=L.sy
    have h9:=L.k9
    rw [List.take_length]at h h9
    exact⟨L.kp,L.l5,L.g5,h9,fun e=>⟨(L.g9 e).1,(L.g9 e).2.1⟩,h,L.fn⟩
   clear L
   have hz30:zs.length<9223372036854775808:=by omega
   obtain⟨z,hzd⟩:∃z:Int,z=(zs.length:Int)-(m:Int):=⟨_,rfl⟩
   have hwr:IntKind.wrap .i64 ((zs.length:Int)-(m:Int))=z:=by
    show (if(true&&decide ((((zs.length:Int)-(m:Int))%18446744073709551616:Int)≥9223372036854775808))=true then((zs.length:Int)-(m:Int))%18446744073709551616-18446744073709551616 else((zs.length:Int)-(m:Int))%18446744073709551616)=_
    split<;>rename_i h<;>simp at h<;>omega
   refine run1 ?_
   refine Wo.meet0 (α:=Unit) (fun _=>[(1,nI m),(5,.slice q5 zs.length c5),(11,.pointer (some ⟨D,0,none⟩)),(13,.pointer (some ⟨b,0,none⟩)),(15,.pointer (some ⟨P,0,none⟩)),(17,.pointer (some ⟨P',0,none⟩)),(19,.slice q9 zs.length c9),(23,.int .i64 z)]) (fun _=>u) (fun _=>True) ?_ ?_
   ·refine Wo.val rfl (Xv.subW (a:=(zs.length:Int)) (b:=(m:Int)) rfl rfl (by omega) hwr) rfl ?_
    refine run1 ?_
    exact meet.n () trivial (.cons rfl (.cons rfl (.cons rfl (.cons rfl (.cons rfl (.cons rfl (.cons rfl (.cons rfl .nil)))))))) rfl
   rintro _ _
   refine W.seq (W.meet (α:=Unit) (fun _=>[(1,nI m),(5,.slice q5 zs.length c5),(11,.pointer (some ⟨D,0,none⟩)),(13,.pointer (some ⟨b,0,none⟩)),(15,.pointer (some ⟨P,0,none⟩)),(17,.pointer (some ⟨P',0,none⟩)),(19,.slice q9 zs.length c9),(23,nI (zs.length-m))]) (fun _=>u) (fun _=>True) ?_ ?_)
   ·by_cases h0:z<0
    ·refine run1 ?_
     refine meet.n () trivial (.cons rfl (.cons rfl (.cons rfl (.cons rfl (.cons rfl (.cons rfl (.cons rfl (.cons ?_ .nil)))))))) rfl
     rw [show zs.length-m=0 by omega];rfl
    ·obtain rfl:z=((zs.length-m:Nat):Int):=by omega
     have hnl:¬zs.length-m<0:=Nat.not_lt_zero _
     refine run1 ?_
     exact meet.n () trivial (.cons rfl (.cons rfl (.cons rfl (.cons rfl (.cons rfl (.cons rfl (.cons rfl (.cons rfl .nil)))))))) rfl
   rintro _ _
   have efz:zs.flatMap (·.2.2.map nB)=(zs.map (·.2.2)).flatMap (·.map nB):=by rw [List.flatMap_map]
   have hs32:∀x∈zs.map (·.2.2),x.length=32:=fun x hx=>by obtain⟨z,hz,rfl⟩:=List.mem_map.1 hx;exact(hz32 z hz).1
   have hblf:∀k A,blf zs k=some A→A.length<2^40:=fun k A e=>by
    by_cases hk:k∈zs.map (·.2.2)
    ·obtain⟨z,hz',rfl⟩:=List.mem_map.1 hk
     rw [blf_yes hnod hz']at e
     cases e
     have:=(hz z hz').2.2.2;omega
    ·rw [blf_no hk]at e;cases e
   have eL:zs.length-(zs.length-m)=(lastn m (zs.map (·.2.2))).length:=by unfold lastn;rw [List.length_drop,List.length_map]
   have hLm:∀x∈lastn m (zs.map (·.2.2)),x.length=32:=fun x hx=>hs32 x (List.mem_of_mem_drop hx)
   have hnn:¬zs.length≠zs.length:=fun e=>e rfl
   refine run1 ?_
   refine W.dr [(0,.none,0),(1,.acts,1),(2,.none,0),(3,.none,0),(4,.none,12),(5,.acts,31),(6,.none,63),(7,.none,127),(8,.none,255),(9,.acts,511),(10,.none,1023),(11,.none,2047),(12,.none,255),(13,.none,4351),(14,.none,16383),(15,.none,32767)] (by kernel_rfl) rfl (run1 ?_)
   refine Wd.call rfl (Xc.call ok15 rfl) rfl ((cached_ok wu P0.sy (by omega)).mono ?_)
   rintro v u1 ⟨qC,cC,rfl,aC,kc1⟩
   have P1:=P0.kn w0 kc1
   have wu1:=kc1.wf wu
   refine⟨kc1.le,run1 ?_⟩
   refine Wd.slLo rfl rfl rfl rfl rfl rfl P1.k9 (Nat.sub_le _ _) (by omega) fun qK cK aK=>?_
   rw [efz,drop32 hs32]at aK
   rw [eL]
   refine run1 ?_
   refine Wd.call rfl (Xc.call ok14 rfl) rfl ((samehs_ok (L:=lastn m (zs.map (·.2.2))) aC (by rw [show lastn m (zs.map (·.2.2))=(zs.map (·.2.2)).drop (zs.length-m)by unfold lastn;rw [List.length_map]];exact aK) hLm (by rw [←eL];omega)).mono ?_)
   rintro v s' ⟨rfl,e'⟩;rw [e'];clear e' s'
   refine⟨Nat.le_refl _,run1 ?_⟩
   refine Wd.call rfl (Xc.call ok16 rfl) rfl ((smedia_ok wu1 P1.sy (by omega) hblf).mono ?_)
   rintro v u2 ⟨qM,cM,bM,rfl,km⟩
   have P2:=P1.kn w0 km
   clear P0 P1
   refine⟨km.le,run1 ?_⟩
   clear aC aK
   refine W.loop (α:=Nat×St×Nat×List (List Nat)×List (List Nat)×(Nat→Prop)) (fun p=>[(5,.slice q5 zs.length c5),(13,.pointer (some ⟨b,0,none⟩)),(15,.pointer (some ⟨P,0,none⟩)),(17,.pointer (some ⟨P',0,none⟩)),(19,.slice q9 zs.length c9),(24,nI p.1)]) (fun _=>[]) (fun p=>p.2.1) (fun p=>p.1≤2∧Pz s p.2.1 zs q5 c5 γ5 D b P P' m p.2.2.1 q9 c9 γ9 p.2.2.2.1 p.2.2.2.2.1 p.2.2.2.2.2∧p.2.2.1≤200+200*p.1) (fun p=>2-p.1) (0,u2,4*zs.length,lastn m (zs.map (·.2.2)),[],F) ⟨Nat.zero_le _,P2,by show 4*zs.length≤200+200*0;omega⟩ (.cons rfl (.cons rfl (.cons rfl (.cons rfl (.cons rfl (.cons rfl .nil)))))) rfl rfl (by show 2-0<_;decide) ?_
   clear P2
   rintro⟨p,s7,n7,K,K',F⟩ ⟨p1,P7,p2⟩
   dsimp only at p1 P7 p2
   show W _ _ [(5,.slice q5 zs.length c5),(13,.pointer (some ⟨b,0,none⟩)),(15,.pointer (some ⟨P,0,none⟩)),(17,.pointer (some ⟨P',0,none⟩)),(19,.slice q9 zs.length c9),(24,nI p)] [] s7 _
   by_cases hp:p<2
   ·refine run1 ?_
    refine W.loop (α:=Nat×St×Nat×List (List Nat)×List (List Nat)×(Nat→Prop)) (fun o=>[(5,.slice q5 zs.length c5),(13,.pointer (some ⟨b,0,none⟩)),(15,.pointer (some ⟨P,0,none⟩)),(17,.pointer (some ⟨P',0,none⟩)),(19,.slice q9 zs.length c9),(24,nI p),(25,nI o.1)]) (fun _=>[]) (fun o=>o.2.1) (fun o=>o.1≤zs.length∧Pz s o.2.1 zs q5 c5 γ5 D b P P' m o.2.2.1 q9 c9 γ9 o.2.2.2.1 o.2.2.2.2.1 o.2.2.2.2.2∧o.2.2.1≤200+200*p+4*o.1) (fun o=>zs.length-o.1) (0,s7,n7,K,K',F) ⟨Nat.zero_le _,P7,p2⟩ (.cons rfl (.cons rfl (.cons rfl (.cons rfl (.cons rfl (.cons rfl (.cons rfl .nil))))))) rfl rfl (by show zs.length-0<_;omega) ?_
    clear P7 p2
    rintro⟨j,s8,n8,K,K',F⟩ ⟨j1,P8,p2⟩
    dsimp only at j1 P8 p2
    show W _ _ [(5,.slice q5 zs.length c5),(13,.pointer (some ⟨b,0,none⟩)),(15,.pointer (some ⟨P,0,none⟩)),(17,.pointer (some ⟨P',0,none⟩)),(19,.slice q9 zs.length c9),(24,nI p),(25,nI j)] [] s8 _
    have w8:=P8.kp.wf w0
    by_cases hj:j<zs.length
    ·obtain⟨z,hzj⟩:∃z,zs[j]? =some z:=⟨zs[j],List.getElem?_eq_getElem hj⟩
     have hzm:=List.mem_of_getElem? hzj
     obtain⟨ez,az,az1,az2⟩:=hz z hzm
     obtain⟨lz,bz⟩:=hz32 z hzm
     have kz:∀{t:St},At t q9 (zs.flatMap (·.2.2.map nB))→good q9∧ldn t (qadd q9 (j*32)) 32=some (z.2.2.map nB):=fun{t} ha=>by
      rw [efz]at ha
      have hl:((zs.map (·.2.2)).flatMap (·.map nB)).length=zs.length*32:=by rw [←efz];exact P8.k9.len
      refine⟨ha.good (i:=0) (by rw [hl];omega),?_⟩
      rw [ha.ldn (i:=j*32) (n:=32) (by rw [hl];omega) (by decide),flat_at32 hs32 (by rw [List.getElem?_map,hzj];rfl)]
     obtain⟨gk,lk8⟩:=kz P8.k9.sl.at
     refine run1 ?_
     refine Wo.call rfl (Xc.call ok17 rfl) rfl ((node_ok w8 P8.sy (tk_of hT w0 P8.kp P8.fn) lz bz ez (blf_yes hnod hzm) (blf_yes hnod hzm) az.by' az1 az2 (by omega) (by omega)).mono ?_)
     rintro v s9 ⟨qa,ca,γa,K1,F1,G1,rfl,Sa,loa,noa,sy9,x9⟩
     have P9:=P8.nx w0 x9 sy9
     have w9:=P9.kp.wf w0
     obtain⟨_,lk9⟩:=kz P9.k9.sl.at
     refine run1 ?_
     refine Wo.call rfl (Xc.call ok17 rfl) rfl ((node_ok w9 P9.sy.swap (tk_of hT w0 P9.kp P9.fn) lz bz ez (blf_yes hnod hzm) (blf_yes hnod hzm) az.by' az1 az2 (by omega) (by decide)).mono ?_)
     rintro v sa ⟨qb,cb,γb,K2,F2,G2,rfl,Sb,lob,nob,sya,xa⟩
     have Pa:=P9.nx w0 xa sya.swap
     have Sa':=Sa.kp w9 xa.kp noa
     obtain⟨qx,cx,δx,g5,l5,Sx,ltx,capx⟩:=kidz Pa.kp hzj Pa.l5.sl.at
     refine run1 ?_
     refine Wo.call rfl (Xc.call ok4 rfl) rfl ((same_ok Sa'.at Sx.at (by omega) (by omega)).mono ?_)
     rintro v s' ⟨rfl,e'⟩;rw [e'];clear e' s'
     rw [decide_eq_true (rfl:z.2.1=z.2.1)]
     refine run1 ?_
     refine Wo.call rfl (Xc.call ok4 rfl) rfl ((same_ok Sb.at Sx.at (by omega) (by omega)).mono ?_)
     rintro v s' ⟨rfl,e'⟩;rw [e'];clear e' s'
     rw [decide_eq_true (rfl:z.2.1=z.2.1)]
     refine run1 ?_
     exact rnd.n (j+1,sa,n8+2+2,K1,K2,F2) ⟨hj,Pa,by show n8+2+2≤200+200*p+4*(j+1);omega⟩ (by show zs.length-(j+1)<zs.length-j;omega) (.cons rfl (.cons rfl (.cons rfl (.cons rfl (.cons rfl (.cons rfl (.cons rfl .nil))))))) rfl rfl
    ·obtain rfl:j=zs.length:=by omega
     refine run1 ?_
     refine Wo.call rfl (Xc.call ok18 rfl) rfl ((forget_ok w8 P8.sy).mono ?_)
     rintro v s9 ⟨F1,G1,sy9,x9⟩
     have P9:=P8.nx w0 x9 sy9
     have w9:=P9.kp.wf w0
     refine run1 ?_
     refine Wo.call rfl (Xc.call ok15 rfl) rfl ((cached_ok w9 P9.sy (by omega)).mono ?_)
     rintro v sa ⟨qC,cC,rfl,aC,kc⟩
     have Pa:=P9.kn w0 kc
     have wa:=Pa.kp.wf w0
     have z00:¬(0:Nat)≠0:=fun e=>e rfl
     have hK0:=Pa.sy.swap.le
     obtain rfl:K'=[]:=List.eq_nil_of_length_eq_zero (by omega)
     refine run1 ?_
     refine Wo.call rfl (Xc.call ok15 rfl) rfl ((cached_ok wa Pa.sy.swap (by decide)).mono ?_)
     rintro v sb ⟨qC',cC',rfl,aC',kc'⟩
     have Pb:=Pa.kn w0 kc'
     refine run1 ?_
     exact rnd.n (p+1,sb,n8,[],[],F1) ⟨hp,Pb,by show n8≤200+200*(p+1);omega⟩ (by show 2-(p+1)<2-p;omega) (.cons rfl (.cons rfl (.cons rfl (.cons rfl (.cons rfl (.cons rfl .nil)))))) rfl rfl
   ·have w7:=P7.kp.wf w0
    refine run1 ?_
    refine Wo.call rfl (Xc.call ok19 rfl) rfl ((hQ w7 P7.sy).mono ?_)
    rintro v s8 ⟨rfl,kq⟩
    have P8:=P7.kn w0 kq
    have w8:=P8.kp.wf w0
    refine run1 ?_
    refine Wo.call rfl (Xc.call ok19 rfl) rfl ((hQ w8 P8.sy.swap).mono ?_)
    rintro v s9 ⟨rfl,kq'⟩
    have P9:=P8.kn w0 kq'
    have w9:=P9.kp.wf w0
    obtain⟨nn,Cb,Fb,hbk,_,_,_⟩:=P9.sy.book w9
    refine run1 ?_
    refine Wo.call rfl (Xc.call ok20 rfl) rfl ((sound_yes w9 hbk).mono ?_)
    rintro v sa rfl
    refine run1 ?_
    exact Lv.ret rfl rfl
end Go.Proofs.YtnbdpcpgckfeeaaGreatDoor
