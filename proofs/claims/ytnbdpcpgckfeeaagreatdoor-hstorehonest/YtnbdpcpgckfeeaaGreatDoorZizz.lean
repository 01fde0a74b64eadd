import Derived.Test.YtnbdpcpgckfeeaaGreatDoorZfzz
namespace Go.Sy
open Go Go.Ev
theorem Dv.sub{s:St}{D sl na n nb:Nat}{Bl:List Nat→Option (List Nat)}{C F:Nat→Prop}(h:Dv s D sl na n nb Bl C F)(c:Nat)(hc:C c):F c:=let ⟨_,_,_,_,_,_,_,_,_,_,_,h⟩:=h;h.sub c hc
theorem Dv.old{s:St}{D sl na n nb:Nat}{Bl:List Nat→Option (List Nat)}{C F:Nat→Prop}(h:Dv s D sl na n nb Bl C F)(c:Nat)(hc:F c):c<s.nx:=let ⟨_,_,_,_,_,_,_,_,_,_,_,h⟩:=h;h.old c hc
end Go.Sy
namespace Go.Proofs.YtnbdpcpgckfeeaaGreatDoor
open Go Go.Ev Go.Sy
set_option maxRecDepth 100000
variable{s t:St}{D b P P' m m' u nb:Nat}{Bl Nt:List Nat→Option (List Nat)}{K K':List (List Nat)}{F:Nat→Prop}
def Dj(F G:Nat→Prop):Prop:= ∀c,F c→¬G c
structure SyX(s:St)(D b P P' m m' u nb na n nn:Nat)(Bl Nt:List Nat→Option (List Nat))(K K':List (List Nat))(F Cd Fd Cb Fb Cs Fs Ct Ft:Nat→Prop):Prop where
 dv:Dv s D 64 na n nb Bl Cd Fd
 bk:Bo s b nn Nt Cb Fb
 st:Hsv s P D b m K Bl Cs Fs
 ts:Hsv s P' D b m' K' Bl Ct Ft
 db:Dj Fd Fb
 ds:Dj Fd Fs
 dt:Dj Fd Ft
 bs:Dj Fb Fs
 bt:Dj Fb Ft
 ss:Dj Fs Ft
 all:∀c,F c↔Fd c∨Fb c∨Fs c∨Ft c
 un:na≤u∧n≤u∧nn≤u
def Sy(s:St)(D b P P' m m' u nb:Nat)(Bl Nt:List Nat→Option (List Nat))(K K':List (List Nat))(F:Nat→Prop):Prop:= ∃na n nn Cd Fd Cb Fb Cs Fs Ct Ft,SyX s D b P P' m m' u nb na n nn Bl Nt K K' F Cd Fd Cb Fb Cs Fs Ct Ft
theorem Hsv.sub{C F:Nat→Prop}(h:Hsv s P D b m K Bl C F)(c:Nat)(hc:C c):F c:=let ⟨_,_,_,_,_,_,_,h⟩:=h;h.sub c hc
theorem Hsv.old{C F:Nat→Prop}(h:Hsv s P D b m K Bl C F)(c:Nat)(hc:F c):c<s.nx:=let ⟨_,_,_,_,_,_,_,h⟩:=h;h.old c hc
structure Nx(s s':St)(F F' G:Nat→Prop):Prop where
 kp:Kp F s s'
 nw:∀c,F' c→F c∨(G c∧s.nx≤c)
theorem SyX.old{na n nn:Nat}{Cd Fd Cb Fb Cs Fs Ct Ft:Nat→Prop}(h:SyX s D b P P' m m' u nb na n nn Bl Nt K K' F Cd Fd Cb Fb Cs Fs Ct Ft)(c:Nat)(hc:F c):c<s.nx:=by
 rcases(h.all c).1 hc with e|e|e|e
 ·exact h.dv.old c e
 ·exact h.bk.old c e
 ·exact h.st.old c e
 ·exact h.ts.old c e
theorem Sy.old(h:Sy s D b P P' m m' u nb Bl Nt K K' F)(c:Nat)(hc:F c):c<s.nx:=let ⟨_,_,_,_,_,_,_,_,_,_,_,h⟩:=h;h.old c hc
theorem Sy.swap(h:Sy s D b P P' m m' u nb Bl Nt K K' F):Sy s D b P' P m' m u nb Bl Nt K' K F:=by
 obtain⟨na,n,nn,Cd,Fd,Cb,Fb,Cs,Fs,Ct,Ft,h⟩:=h
 exact⟨na,n,nn,Cd,Fd,Cb,Fb,Ct,Ft,Cs,Fs,h.dv,h.bk,h.ts,h.st,h.db,h.dt,h.ds,h.bt,h.bs,fun c a b=>h.ss c b a,fun c=>by rw [h.all];constructor<;>(rintro(e|e|e|e);exact .inl e;exact .inr (.inl e);exact .inr (.inr (.inr e));exact .inr (.inr (.inl e))),h.un⟩
theorem Sy.up{v:Nat}(h:Sy s D b P P' m m' u nb Bl Nt K K' F)(hv:u≤v):Sy s D b P P' m m' v nb Bl Nt K K' F:=by
 obtain⟨na,n,nn,Cd,Fd,Cb,Fb,Cs,Fs,Ct,Ft,h⟩:=h
 obtain⟨a,b,c⟩:=h.un
 exact⟨na,n,nn,Cd,Fd,Cb,Fb,Cs,Fs,Ct,Ft,h.dv,h.bk,h.st,h.ts,h.db,h.ds,h.dt,h.bs,h.bt,h.ss,h.all,by omega,by omega,by omega⟩
theorem Sy.kp{E:Nat→Prop}(h:Sy s D b P P' m m' u nb Bl Nt K K' F)(w:Wf s)(k:Kp E s t)(hE:∀c,F c→¬E c):Sy t D b P P' m m' u nb Bl Nt K K' F:=by
 obtain⟨na,n,nn,Cd,Fd,Cb,Fb,Cs,Fs,Ct,Ft,h⟩:=h
 exact⟨na,n,nn,Cd,Fd,Cb,Fb,Cs,Fs,Ct,Ft,h.dv.kp w k fun c e=>hE c ((h.all c).2 (.inl e)),h.bk.kp w k fun c e=>hE c ((h.all c).2 (.inr (.inl e))),h.st.kp w k fun c e=>hE c ((h.all c).2 (.inr (.inr (.inl e)))),h.ts.kp w k fun c e=>hE c ((h.all c).2 (.inr (.inr (.inr e)))),h.db,h.ds,h.dt,h.bs,h.bt,h.ss,h.all,h.un⟩
theorem dj_nw{G G' E:Nat→Prop}(h:Dj G E)(n:∀c,G' c→G c∨s.nx≤c)(o:∀c,E c→c<s.nx):Dj G' E:=fun c a e=>by
 rcases n c a with x|x
 ·exact h c x e
 ·have:=o c e;omega
theorem Sy.dev(w:Wf s)(h:Sy s D b P P' m m' u nb Bl Nt K K' F):∃na n Cd Fd,Dv s D 64 na n nb Bl Cd Fd∧na≤u∧n≤u∧(∀c,Cd c→F c)∧∀s' na' n' nb' Bl' Cd' Fd',na'≤u+1→n'≤u+1→(∀k A,Bl k=some A→Bl' k=some A)→Dv s' D 64 na' n' nb' Bl' Cd' Fd'→(∀c,Fd' c→Fd c∨s.nx≤c)→Kp Cd s s'→∃F',Sy s' D b P P' m m' (u+1) nb' Bl' Nt K K' F'∧Nx s s' F F' Fd':=by
 obtain⟨na,n,nn,Cd,Fd,Cb,Fb,Cs,Fs,Ct,Ft,h⟩:=h
 obtain⟨u1,u2,u3⟩:=h.un
 refine⟨na,n,Cd,Fd,h.dv,u1,u2,fun c e=>(h.all c).2 (.inl (h.dv.sub c e)),?_⟩
 intro s' na' n' nb' Bl' Cd' Fd' v1 v2 hBl hd hF k
 have sub:=h.dv.sub
 refine⟨fun c=>Fd' c∨Fb c∨Fs c∨Ft c,⟨na',n',nn,Cd',Fd',Cb,Fb,Cs,Fs,Ct,Ft,hd,h.bk.kp w k fun c a e=>h.db c (sub c e) a,(h.st.kp w k fun c a e=>h.ds c (sub c e) a).mono hBl,(h.ts.kp w k fun c a e=>h.dt c (sub c e) a).mono hBl,dj_nw h.db hF h.bk.old,dj_nw h.ds hF h.st.old,dj_nw h.dt hF h.ts.old,h.bs,h.bt,h.ss,fun c=>Iff.rfl,v1,v2,by omega⟩,k.mono fun c e=>(h.all c).2 (.inl (sub c e)),fun c e=>?_⟩
 rcases e with e|e
 ·exact(hF c e).elim (fun x=>.inl ((h.all c).2 (.inl x))) fun x=>.inr ⟨e,x⟩
 ·exact .inl ((h.all c).2 (.inr e))
theorem Sy.book(w:Wf s)(h:Sy s D b P P' m m' u nb Bl Nt K K' F):∃nn Cb Fb,Bo s b nn Nt Cb Fb∧nn≤u∧(∀c,Cb c→F c)∧∀s' nn' Nt' Fb',nn'≤u+1→Bo s' b nn' Nt' Cb Fb'→(∀c,Fb' c→Fb c∨s.nx≤c)→Kp Cb s s'→∃F',Sy s' D b P P' m m' (u+1) nb Bl Nt' K K' F'∧Nx s s' F F' Fb':=by
 obtain⟨na,n,nn,Cd,Fd,Cb,Fb,Cs,Fs,Ct,Ft,h⟩:=h
 obtain⟨u1,u2,u3⟩:=h.un
 refine⟨nn,Cb,Fb,h.bk,u3,fun c e=>(h.all c).2 (.inr (.inl (h.bk.sub c e))),?_⟩
 intro s' nn' Nt' Fb' v1 hb hF k
 have sub:=h.bk.sub
 refine⟨fun c=>Fd c∨Fb' c∨Fs c∨Ft c,⟨na,n,nn',Cd,Fd,Cb,Fb',Cs,Fs,Ct,Ft,h.dv.kp w k fun c a e=>h.db c a (sub c e),hb,h.st.kp w k fun c a e=>h.bs c (sub c e) a,h.ts.kp w k fun c a e=>h.bt c (sub c e) a,fun c x y=>dj_nw (fun c a e=>h.db c e a) hF h.dv.old c y x,h.ds,h.dt,dj_nw h.bs hF h.st.old,dj_nw h.bt hF h.ts.old,h.ss,fun c=>Iff.rfl,by omega,by omega,v1⟩,k.mono fun c e=>(h.all c).2 (.inr (.inl (sub c e))),fun c e=>?_⟩
 rcases e with e|e|e
 ·exact .inl ((h.all c).2 (.inl e))
 ·exact(hF c e).elim (fun x=>.inl ((h.all c).2 (.inr (.inl x)))) fun x=>.inr ⟨e,x⟩
 ·exact .inl ((h.all c).2 (.inr (.inr e)))
theorem Sy.sto(w:Wf s)(h:Sy s D b P P' m m' u nb Bl Nt K K' F):∃Cs Fs,Hsv s P D b m K Bl Cs Fs∧(∀c,Cs c→F c)∧∀s' K1 Cs' Fs',Hsv s' P D b m K1 Bl Cs' Fs'→(∀c,Fs' c→Fs c∨s.nx≤c)→Kp Cs s s'→∃F',Sy s' D b P P' m m' u nb Bl Nt K1 K' F'∧Nx s s' F F' Fs':=by
 obtain⟨na,n,nn,Cd,Fd,Cb,Fb,Cs,Fs,Ct,Ft,h⟩:=h
 refine⟨Cs,Fs,h.st,fun c e=>(h.all c).2 (.inr (.inr (.inl (h.st.sub c e)))),?_⟩
 intro s' K1 Cs' Fs' hs hF k
 have sub:=h.st.sub
 refine⟨fun c=>Fd c∨Fb c∨Fs' c∨Ft c,⟨na,n,nn,Cd,Fd,Cb,Fb,Cs',Fs',Ct,Ft,h.dv.kp w k fun c a e=>h.ds c a (sub c e),h.bk.kp w k fun c a e=>h.bs c a (sub c e),hs,h.ts.kp w k fun c a e=>h.ss c (sub c e) a,h.db,fun c x y=>dj_nw (fun c a e=>h.ds c e a) hF h.dv.old c y x,h.dt,fun c x y=>dj_nw (fun c a e=>h.bs c e a) hF h.bk.old c y x,h.bt,dj_nw h.ss hF h.ts.old,fun c=>Iff.rfl,h.un⟩,k.mono fun c e=>(h.all c).2 (.inr (.inr (.inl (sub c e)))),fun c e=>?_⟩
 rcases e with e|e|e|e
 ·exact .inl ((h.all c).2 (.inl e))
 ·exact .inl ((h.all c).2 (.inr (.inl e)))
 ·exact(hF c e).elim (fun x=>.inl ((h.all c).2 (.inr (.inr (.inl x))))) fun x=>.inr ⟨e,x⟩
 ·exact .inl ((h.all c).2 (.inr (.inr (.inr e))))
theorem Nx.trans{s1 s2:St}{F1 F2 G H:Nat→Prop}(h:Nx s s1 F F1 G)(k:Nx s1 s2 F1 F2 H):Nx s s2 F F2 fun c=>F2 c:=by
 have:=h.kp.le
 refine⟨((h.kp.mono fun c e=>.inl e).trans (k.kp.mono fun c e=>(h.nw c e).imp id fun e=>e.2)).low,fun c e=>?_⟩
 rcases k.nw c e with x|x
 ·exact(h.nw c x).imp id fun y=>⟨e,y.2⟩
 ·exact .inr ⟨e,by omega⟩
theorem Nx.nw'{F' G:Nat→Prop}(h:Nx s t F F' G)(c:Nat)(e:F' c):F c∨s.nx≤c:=(h.nw c e).imp id fun e=>e.2
theorem Nx.kn{s1:St}{F' G:Nat→Prop}(k:Kn s s1)(h:Nx s1 t F F' G):Nx s t F F' G:=⟨(k.mono fun _ e=>e.elim).trans h.kp,fun c e=>(h.nw c e).imp id fun e=>⟨e.1,Nat.le_trans k.le e.2⟩⟩
def Tk(s:St)(F:Nat→Prop):Prop:= ∀t,Kp F s t→TabAt t
theorem Tk.nx{F' G:Nat→Prop}(h:Tk s F)(k:Nx s t F F' G):Tk t F':=fun t' k'=>h t' ((k.kp.mono fun _c e=>.inl e).trans (k'.mono fun c e=>k.nw' c e)).low
theorem Tk.kn(h:Tk s F)(k:Kn s t):Tk t F:=fun t' k'=>h t' ((k.mono fun _ e=>e.elim).trans k')
end Go.Proofs.YtnbdpcpgckfeeaaGreatDoor
namespace Go.Sy
open Go Go.Ev
theorem Sl.ltx{s:St}{q:Option Addr}{cs:List Value}{γ:Nat}(h:Sl s q cs γ)(w:Wf s)(h0:0<cs.length):γ<s.nx:=by
 rcases h with⟨e,_⟩|⟨b,o,ob,l,rfl,e1,e2,e3,_⟩
 ·rw [e]at h0;exact absurd h0 (Nat.lt_irrefl 0)
 ·rw [←e3];exact(w.lt b ob e1).2
end Go.Sy
namespace Go.Proofs.YtnbdpcpgckfeeaaGreatDoor
open Go Go.Ev Go.Sy
set_option maxRecDepth 100000
variable{s t:St}{D b P P' m m' u nb c δ:Nat}{q:Option Addr}{A k:List Nat}{Bl Nt:List Nat→Option (List Nat)}{K K':List (List Nat)}{F:Nat→Prop}
theorem isBlob_ok{n:Nat}(h1:1≤n)(h2:n≤1024):Cl B (.call 30 [.slice q n c]) s fun v s'=>v= .bool true∧s'=s:=by
 refine Cl.enter Tryz.f30 fn30 rfl rfl rfl ?_
 refine run1 ?_
 exact Lv.ret rfl ⟨congrArg Value.bool (decide_eq_true h2),rfl⟩
theorem Sy.lb(h:Sy s D b P P' m m' u nb Bl Nt K K' F):ldq s (qadd (some ⟨P,0,none⟩) 1)=some (.pointer (some ⟨b,0,none⟩)):=by
 obtain⟨_,_,_,_,_,_,_,_,_,_,_,h⟩:=h
 obtain⟨_,_,_,_,_,_,_,h⟩:=h.st
 exact h.row.f1 rfl
theorem Sy.ld(h:Sy s D b P P' m m' u nb Bl Nt K K' F):ldq s (qadd (some ⟨P,0,none⟩) 0)=some (.pointer (some ⟨D,0,none⟩)):=by
 obtain⟨_,_,_,_,_,_,_,_,_,_,_,h⟩:=h
 obtain⟨_,_,_,_,_,_,_,h⟩:=h.st
 exact h.row.f1 rfl
theorem HsX.delb{C F:Nat→Prop}{γ γo rc rb co:Nat}{MC:MpE}{qo:Option Addr}(h:HsX s P D b m K MC Bl γ γo rc rb qo co C F)(w:Wf s)(k:Kp (fun c=>c=rb) s t)(M:Mp t rb []):HsX t P D b m K MC Bl γ γo rc rb qo co C F:=by
 obtain⟨x1,x2,x3,x4⟩:=h.ne
 refine⟨h.row.kp w k x2,h.ord.keep w k (fun e=>(x4 e).2.2),h.mc.kp w k x3,M,fun key=>?_,h.keys,h.nod,h.le,h.col,h.sub,fun c hc=>Nat.lt_of_lt_of_le (h.old c hc) k.le,h.ne⟩
 have g:=h.get key
 revert g
 cases mget key MC with
 |none=>exact id
 |some v=>rintro⟨a,A,q,c,γb,b,d,e,f,g⟩;exact⟨a,A,q,c,γb,b,d,e.kp w k (fun e=>g ((h.col _).2 (.inr (.inr (.inl e))))),f,g⟩
theorem right_ok(w:Wf s)(h:Sy s D b P P' m m' u nb Bl Nt K K' F)(hT:Tk s F)(hk:k.length=32)(hs:shaOf A=k)(hN:Nt k=some A)(hq:Sl s q (A.map nB) δ)(hδ:¬F δ)(hA:∀x∈A,x<256)(hc:Cap A.length c 1)(h1:1≤A.length)(h2:A.length≤1024)(hu:u+1<2^38):
  Cl B (.call 58 [.pointer (some ⟨P,0,none⟩),hsh k,.slice q A.length c]) s fun v s'=>v= .bool true∧∃F' G,Sy s' D b P P' m m' (u+1) nb Bl Nt K K' F'∧Nx s s' F F' G:=by
 refine Cl.enter Tryz.f58 fn58 rfl rfl rfl ?_
 have lk:(k.map nB).length=32:=by rw [List.length_map,hk]
 have gp:good (some (⟨P,0,none⟩:Addr)):=⟨_,_,rfl⟩
 refine run1 ?_
 refine mk_gen (s:=s) (cs:=k.map nB) (M:=fun s'=>W _ _ _ _ s' _) fun s1 r1 n1 k1=>?_
 have w1:=k1.wf w
 have g1:=h.kp w k1 fun _ _=>id
 have lb:=g1.lb
 obtain⟨nn,Cb,Fb,hb,hnn,sub,back⟩:=g1.book w1
 have hT1:=hT.kn k1
 have cb:=bhash_ok w1 hb (fun s' k'=>hT1 s' (k'.mono sub)) (hq.kp w k1 id) (fun e=>hδ (sub _ e)) hA hc (by omega) (by omega) (by rw [hs];exact .inr hN)
 rw [hs]at cb
 have eN:(fun key=>if key=k then some A else Nt key)=Nt:=funext fun key=>by
  split
  ·rename_i e;rw [e,hN]
  ·rfl
 rw [eN]at cb
 refine W.dr [(0,.none,0),(1,.acts,1),(2,.none,3),(3,.none,7),(4,.none,15),(5,.none,31),(6,.reads,63),(7,.none,7),(8,.acts,255),(9,.reads,7),(10,.none,1023),(11,.none,2047),(12,.none,4095)] (by kernel_rfl) rfl (run1 ?_)
 refine Wd.call rfl (Xc.call ok30 rfl) rfl ((isBlob_ok h1 h2).mono ?_)
 rintro v s' ⟨rfl,e'⟩;rw [e'];clear e' s'
 refine⟨Nat.le_refl _,run1 ?_⟩
 refine Wd.val rfl (Xv.nilC rfl) rfl (Nat.le_refl _) (run1 ?_)
 refine Wd.call rfl (Xc.call ok13 rfl) rfl (cb.mono ?_)
 rintro v s2 ⟨rfl,n',Fb',hb',hn',hF',_,k2⟩
 obtain⟨F',g2,x2⟩:=back s2 n' Nt Fb' (by omega) hb' hF' k2
 have e1:=k1.le
 have r2:=r1.kp w1 k2 fun e=>by have:=h.old _ (sub _ e);omega
 have lk1:=r1.all (n:=32) lk (by decide)
 have lk2:=r2.all (n:=32) lk (by decide)
 refine⟨k2.le,run1 ?_⟩
 refine Wd.read rfl (Xv.ldN rfl rfl rfl lk2) rfl eqV_h ⟨Xv.ldN rfl rfl rfl lk2,Xv.ldN rfl rfl rfl lk1,trivial⟩ (run1 ?_)
 refine Wd.val rfl (Xv.eqH Hdm rfl rfl rfl hk hk) rfl (Nat.le_refl _) (run1 ?_)
 exact Lv.ret rfl ⟨congrArg Value.bool (decide_eq_true rfl),F',_,g2,x2.kn k1⟩
theorem fresh_ok(w:Wf s)(h:Sy s D b P P' m m' u nb Bl Nt K K' F)(hT:Tk s F)(hk:k.length=32)(hs:shaOf A=k)(hB:Bl k=some A)(hN:Nt k=some A)(hA:∀x∈A,x<256)(h1:1≤A.length)(h2:A.length≤1024)(hu:u+2<2^38):
  Cl B (.call 28 [.pointer (some ⟨P,0,none⟩),hsh k]) s fun v s'=> ∃q c γx F' G,v= .tuple ⟨[.slice q A.length c,nI 0]⟩∧Sl s' q (A.map nB) γx∧s.nx≤γx∧¬F' γx∧Sy s' D b P P' m m' (u+2) nb Bl Nt K K' F'∧Nx s s' F F' G:=by
 refine Cl.enter Tryz.f28 fn28 rfl rfl rfl ?_
 have lk:(k.map nB).length=32:=by rw [List.length_map,hk]
 have gp:good (some (⟨P,0,none⟩:Addr)):=⟨_,_,rfl⟩
 refine run1 ?_
 refine mk_gen (s:=s) (cs:=k.map nB) (M:=fun s'=>Wo _ _ _ _ _ s' _) fun s1 r1 n1 k1=>?_
 have w1:=k1.wf w
 have e1:=k1.le
 have g1:=h.kp w k1 fun _ _=>id
 have ld:=g1.ld
 have lk1:=r1.all (n:=32) lk (by decide)
 obtain⟨na,n,Cd,Fd,hd,hna,hn,sub,back⟩:=g1.dev w1
 refine run1 ?_
 refine Wo.val rfl (Xv.pEq rfl rfl rfl) rfl (run1 ?_)
 refine W.dr [(0,.none,0),(1,.none,1),(2,.none,3),(3,.reads,7),(4,.reads,0),(5,.acts,31),(6,.none,63),(7,.none,127),(8,.none,127),(9,.none,255),(10,.none,1023)] (by kernel_rfl) rfl (run1 ?_)
 refine Wd.val rfl (Xv.nilC rfl) rfl (Nat.le_refl _) (run1 ?_)
 refine Wd.read rfl (Xv.ldN rfl rfl rfl lk1) rfl eqV_h ⟨Xv.ldN rfl rfl rfl lk1,trivial⟩ (run1 ?_)
 refine Wd.call rfl (Xc.call ok57 rfl) rfl ((get_ok w1 hd hk (fun A' e=>by rw [hB]at e;cases e;omega) (by omega)).mono ?_)
 rintro v s2 ⟨Cd',Fd',hd',hF',k2,hu2⟩
 obtain⟨F1,g2,x2⟩:=back s2 (na+1) n nb Bl Cd' Fd' (by omega) (by omega) (fun _ _ e=>e) hd' hF' k2
 have w2:=k2.wf w1
 have e2:=k2.le
 obtain⟨A',q,cq,γx,hB',rfl,hS,lo,no,cap⟩:=hu2.resolve_left fun e=>by rw [e.1]at hB;cases hB
 obtain rfl:A=A':=by rw [hB]at hB';exact Option.some.inj hB'
 have no1:¬F1 γx:=fun e=>by
  rcases x2.nw _ e with e|e
  ·have:=h.old _ e;omega
  ·exact no e.1
 have lt2:γx<s2.nx:=hS.ltx w2 (by rw [List.length_map];omega)
 have hT2:=(hT.kn k1).nx x2
 have r2:=r1.kp w1 x2.kp fun e=>by have:=h.old _ e;omega
 have lk2:=r2.all (n:=32) lk (by decide)
 refine⟨k2.le,run1 ?_⟩
 refine Wo.call rfl (Xc.call ok58 rfl) rfl ((right_ok w2 g2 hT2 hk hs hN hS no1 hA cap h1 h2 (by omega)).mono ?_)
 rintro v s3 ⟨rfl,F2,G2,g3,x3⟩
 have w3:=x3.kp.wf w2
 have e3:=x3.kp.le
 have r3:=r2.kp w2 x3.kp fun e=>by rcases x2.nw' _ e with e|e;have:=h.old _ e;omega;omega
 have lk3:=r3.all (n:=32) lk (by decide)
 have no2:¬F2 γx:=fun e=>by
  rcases x3.nw' _ e with e|e
  ·exact no1 e
  ·omega
 have hS3:=hS.kp w2 x3.kp no1
 obtain⟨Cs,Fs,⟨γ,γo,rc,rb,qo,co,MC,hx⟩,sub2,back2⟩:=g3.sto w3
 have lb3:ldq s3 (qadd (some ⟨P,0,none⟩) 5)=some (.map (some rb)):=hx.row.f1 rfl
 have crb:Cs rb:=(hx.col _).2 (.inr (.inr (.inl rfl)))
 refine run1 ?_
 refine W.dr [(0,.none,0),(1,.none,1),(2,.none,3),(3,.reads,7),(4,.reads,0),(5,.acts,31)] (by kernel_rfl) rfl (run1 ?_)
 refine Wd.val rfl (Xv.nilC rfl) rfl (Nat.le_refl _) (run1 ?_)
 refine Wd.read rfl (Xv.ld rfl rfl rfl lb3) rfl eqV_map ⟨Xv.ld rfl rfl rfl lb3,trivial⟩ (run1 ?_)
 refine Wd.read rfl (Xv.ldN rfl rfl rfl lk3) rfl eqV_h ⟨Xv.ldN rfl rfl rfl lk3,trivial⟩ (run1 ?_)
 refine Wd.del rfl rfl rfl Hdm rfl rfl hk hx.bad fun s4 M4 n4 k4=>run1 ?_
 have k4':Kp Cs s3 s4:=k4.mono fun c e=>by rw [e];exact crb
 obtain⟨F3,g4,x4⟩:=back2 s4 K Cs Fs ⟨γ,γo,rc,rb,qo,co,MC,hx.delb w3 k4 M4⟩ (fun c e=>.inl e) k4'
 refine Lv.ret rfl ⟨q,cq,γx,F3,_,rfl,hS3.kp w3 k4 (fun e=>no2 (sub2 _ (e▸crb))),by omega,fun e=>?_,g4,((x2.kn k1).trans x3).trans x4⟩
 rcases x4.nw' _ e with e|e
 ·exact no2 e
 ·omega
theorem node_ok(w:Wf s)(h:Sy s D b P P' m m' u nb Bl Nt K K' F)(hT:Tk s F)(hk:k.length=32)(hkb:∀y∈k,y<256)(hs:shaOf A=k)(hB:Bl k=some A)(hN:Nt k=some A)(hA:∀x∈A,x<256)(h1:1≤A.length)(h2:A.length≤1024)(hu:u+2<2^38)(hm:m≤256):
  Cl B (.call 17 [.pointer (some ⟨P,0,none⟩),hsh k]) s fun v s'=> ∃q c γx K1 F' G,v= .tuple ⟨[.slice q A.length c,nI 0]⟩∧Sl s' q (A.map nB) γx∧s.nx≤γx∧¬F' γx∧Sy s' D b P P' m m' (u+2) nb Bl Nt K1 K' F'∧Nx s s' F F' G:=by
 refine Cl.enter Tryz.f17 fn17 rfl rfl rfl ?_
 have lk:(k.map nB).length=32:=by rw [List.length_map,hk]
 have gp:good (some (⟨P,0,none⟩:Addr)):=⟨_,_,rfl⟩
 refine run1 ?_
 refine mk_gen (s:=s) (cs:=k.map nB) (M:=fun s'=>Wo _ _ _ _ _ s' _) fun s1 r1 n1 k1=>?_
 have w1:=k1.wf w
 have e1:=k1.le
 have g1:=h.kp w k1 fun _ _=>id
 have lk1:=r1.all (n:=32) lk (by decide)
 obtain⟨Cs,Fs,hst,sub,back⟩:=g1.sto w1
 refine run1 ?_
 refine Wo.val rfl (Xv.pEq rfl rfl rfl) rfl (run1 ?_)
 refine W.dr [(0,.none,0),(1,.none,1),(2,.none,3),(3,.reads,0),(4,.acts,15),(5,.none,31),(6,.none,63),(7,.none,63),(8,.none,127),(9,.none,511)] (by kernel_rfl) rfl (run1 ?_)
 refine Wd.val rfl (Xv.nilC rfl) rfl (Nat.le_refl _) (run1 ?_)
 refine Wd.read rfl (Xv.ldN rfl rfl rfl lk1) rfl eqV_h ⟨Xv.ldN rfl rfl rfl lk1,trivial⟩ (run1 ?_)
 refine Wd.call rfl (Xc.call ok41 rfl) rfl ((cget_ok w1 hst hk (fun A' e=>by rw [hB]at e;cases e;omega)).mono ?_)
 rintro v s2 ⟨k2,hu2⟩
 have w2:=k2.wf w1
 have e2:=k2.le
 have g2:=g1.kp w1 k2 fun _ _=>id
 rcases hu2 with⟨hno,rfl⟩|⟨A',q,cq,γx,hin,hB',rfl,hS,lo⟩
 ·have r2:=r1.kp w1 k2 id
  have lk2:=r2.all (n:=32) lk (by decide)
  refine⟨k2.le,run1 ?_⟩
  refine Wo.call rfl (Xc.call ok28 rfl) rfl ((fresh_ok w2 g2 ((hT.kn k1).kn k2) hk hs hB hN hA h1 h2 hu).mono ?_)
  rintro v s3 ⟨q,cq,γx,F1,G1,rfl,hS,lo,no,g3,x3⟩
  have w3:=x3.kp.wf w2
  have e3:=x3.kp.le
  have lt3:γx<s3.nx:=hS.ltx w3 (by rw [List.length_map];omega)
  have r3:=r2.kp w2 x3.kp fun e=>by have:=h.old _ e;omega
  have lk3:=r3.all (n:=32) lk (by decide)
  obtain⟨Cs3,Fs3,hst3,sub3,back3⟩:=g3.sto w3
  refine run1 ?_
  refine W.dr [(0,.none,0),(1,.none,1),(2,.none,3),(3,.reads,0),(4,.none,0),(5,.acts,31)] (by kernel_rfl) rfl (run1 ?_)
  refine Wd.val rfl (Xv.nilC rfl) rfl (Nat.le_refl _) (run1 ?_)
  refine Wd.read rfl (Xv.ldN rfl rfl rfl lk3) rfl eqV_h ⟨Xv.ldN rfl rfl rfl lk3,trivial⟩ (run1 ?_)
  refine Wd.call rfl (Xc.call ok32 rfl) rfl ((cadd_ok w3 hst3 hk hkb hB hS (fun e=>no (sub3 _ e)) (by omega) (by omega) hm).mono ?_)
  rintro v s4 ⟨Cs4,Fs4,hst4,hF4,k4⟩
  obtain⟨F2,g4,x4⟩:=back3 s4 _ Cs4 Fs4 hst4 hF4 k4
  refine⟨k4.le,run1 ?_⟩
  refine Lv.ret rfl ⟨q,cq,γx,_,F2,_,rfl,hS.kp w3 k4 (fun e=>no (sub3 _ e)),by omega,fun e=>?_,g4,((x3.kn k2).kn k1).trans x4⟩
  rcases x4.nw' _ e with e|e
  ·exact no e
  ·omega
 ·obtain rfl:A=A':=by rw [hB]at hB';exact Option.some.inj hB'
  refine⟨k2.le,run1 ?_⟩
  refine Lv.ret rfl ⟨q,cq,γx,K,F,fun _=>False,rfl,hS,by omega,fun e=>?_,g2.up (by omega),(k1.call k2).mono fun _ e=>e.elim,fun c e=>.inl e⟩
  have:=h.old _ e;omega
open Go Go.Ev Go.Sy
set_option maxRecDepth 100000
variable{s t:St}{D b P P' m m' u nb c δ:Nat}{q:Option Addr}{A k:List Nat}{Bl Nt:List Nat→Option (List Nat)}{K K':List (List Nat)}{F:Nat→Prop}
theorem Hsv.notin{C F:Nat→Prop}(h:Hsv s P D b m K Bl C F)(hno:Bl k=none):k∉K:=by
 obtain⟨_,_,_,_,_,_,MC,h⟩:=h
 have g:=h.get k
 cases e:mget k MC with
 |none=>rw [e]at g;exact g
 |some v=>rw [e]at g;obtain⟨_,A,_,_,_,e2,_⟩:=g;rw [hno]at e2;cases e2
theorem hlay_ok(w:Wf s)(h:Sy s D b P P' m m' u nb Bl Nt K K' F)(hk:k.length=32)(hkb:∀y∈k,y<256)(hno:Bl k=none)(hq:Sl s q (A.map nB) δ)(hδ:¬F δ)(hlt:δ<s.nx)(h2:A.length≤1024)(hnb:nb<64)(hu:u+2<2^38):
  Cl B (.call 31 [.pointer (some ⟨P,0,none⟩),hsh k,.slice q A.length c]) s fun v s'=>v=nI 0∧∃F' G,Sy s' D b P P' m m' (u+2) (nb+1) (fun key=>if key=k then some A else Bl key) Nt K K' F'∧Nx s s' F F' G:=by
 refine Cl.enter Tryz.f31 fn31 rfl rfl rfl ?_
 have lk:(k.map nB).length=32:=by rw [List.length_map,hk]
 have gp:good (some (⟨P,0,none⟩:Addr)):=⟨_,_,rfl⟩
 refine run1 ?_
 refine mk_gen (s:=s) (cs:=k.map nB) (M:=fun s'=>W _ _ _ _ s' _) fun s1 r1 n1 k1=>?_
 have w1:=k1.wf w
 have e1:=k1.le
 have g1:=h.kp w k1 fun _ _=>id
 have lk1:=r1.all (n:=32) lk (by decide)
 obtain⟨Cs,Fs,hst,sub,back⟩:=g1.sto w1
 refine W.dr [(0,.none,0),(1,.none,1),(2,.none,3),(3,.reads,0),(4,.none,0),(5,.acts,31)] (by kernel_rfl) rfl (run1 ?_)
 refine Wd.val rfl (Xv.nilC rfl) rfl (Nat.le_refl _) (run1 ?_)
 refine Wd.read rfl (Xv.ldN rfl rfl rfl lk1) rfl eqV_h ⟨Xv.ldN rfl rfl rfl lk1,trivial⟩ (run1 ?_)
 refine Wd.call rfl (Xc.call ok59 rfl) rfl ((hasOther_ok w1 hst hk (hst.notin hno)).mono ?_)
 rintro v s2 ⟨k2,rfl⟩
 have w2:=k2.wf w1
 have e2:=k2.le
 have g2:=g1.kp w1 k2 fun _ _=>id
 have r2:=r1.kp w1 k2 id
 have ld2:=g2.ld
 have lk2:=r2.all (n:=32) lk (by decide)
 obtain⟨na,n,Cd,Fd,hd,hna,hn,subd,backd⟩:=g2.dev w2
 refine⟨k2.le,run1 ?_⟩
 refine W.dr [(0,.none,0),(1,.none,1),(2,.none,3),(3,.reads,7),(4,.reads,0),(5,.acts,31),(6,.none,63),(7,.none,127),(8,.none,127),(9,.none,255),(10,.none,1023)] (by kernel_rfl) rfl (run1 ?_)
 refine Wd.val rfl (Xv.nilC rfl) rfl (Nat.le_refl _) (run1 ?_)
 refine Wd.read rfl (Xv.ldN rfl rfl rfl lk2) rfl eqV_h ⟨Xv.ldN rfl rfl rfl lk2,trivial⟩ (run1 ?_)
 refine Wd.call rfl (Xc.call ok57 rfl) rfl ((get_ok w2 hd hk (fun A' e=>by rw [hno]at e;cases e) (by omega)).mono ?_)
 rintro v s3 ⟨Cd',Fd',hd',hF',k3,hu2⟩
 obtain⟨F1,g3,x3⟩:=backd s3 (na+1) n nb Bl Cd' Fd' (by omega) (by omega) (fun _ _ e=>e) hd' hF' k3
 obtain rfl:v= .tuple ⟨[.slice none 0 0,nI 81]⟩:=by
  rcases hu2 with e|⟨A',_,_,_,e,_⟩
  ·exact e.2
  ·rw [hno]at e;cases e
 have w3:=x3.kp.wf w2
 have e3:=x3.kp.le
 have r3:=r2.kp w2 x3.kp fun e=>by have:=h.old _ e;omega
 have ld3:=g3.ld
 have lk3:=r3.all (n:=32) lk (by decide)
 have hq3:=((hq.kp w k1 id).kp w1 k2 id).kp w2 x3.kp hδ
 have nδ:¬F1 δ:=fun e=>by
  rcases x3.nw' _ e with e|e
  ·exact hδ e
  ·omega
 obtain⟨na3,n3,Cd3,Fd3,hd3,hna3,hn3,subd3,backd3⟩:=g3.dev w3
 refine⟨k3.le,run1 ?_⟩
 refine W.dr [(0,.none,0),(1,.none,1),(2,.none,3),(3,.reads,7),(4,.reads,0),(5,.none,0),(6,.acts,63),(7,.none,127)] (by kernel_rfl) rfl (run1 ?_)
 refine Wd.val rfl (Xv.nilC rfl) rfl (Nat.le_refl _) (run1 ?_)
 refine Wd.read rfl (Xv.ldN rfl rfl rfl lk3) rfl eqV_h ⟨Xv.ldN rfl rfl rfl lk3,trivial⟩ (run1 ?_)
 refine Wd.call rfl (Xc.call ok61 rfl) rfl ((mputd_ok w3 hd3 hk hkb hno hq3.at h2 hnb (by omega) (by omega)).mono ?_)
 rintro v s4 ⟨rfl,Cd4,Fd4,hd4,hF4,k4⟩
 obtain⟨F2,g4,x4⟩:=backd3 s4 (na3+1) (n3+1) (nb+1) _ Cd4 Fd4 (by omega) (by omega) (fun key A' e=>by rw [if_neg (fun e2=>by rw [e2,hno]at e;cases e)];exact e) hd4 hF4 k4
 refine⟨k4.le,run1 ?_⟩
 exact Lv.ret rfl ⟨rfl,F2,_,g4,((x3.kn k2).kn k1).trans x4⟩
theorem put_ok(w:Wf s)(h:Sy s D b P P' m m' u nb Bl Nt K K' F)(hT:Tk s F)(hs:shaOf A=k)(hno:Bl k=none)(hNo:Nt k=none)(hq:Sl s q (A.map nB) δ)(hδ:¬F δ)(hA:∀x∈A,x<256)(hc:Cap A.length c 1)(h1:1≤A.length)(h2:A.length≤1024)(hnb:nb<64)(hu:u+3<2^38)(hm:m≤256):
  Cl B (.call 12 [.pointer (some ⟨P,0,none⟩),.slice q A.length c]) s fun v s'=>v= .tuple ⟨[hsh k,nI 0]⟩∧∃F' G,Sy s' D b P P' m m' (u+3) (nb+1) (fun key=>if key=k then some A else Bl key) (fun key=>if key=k then some A else Nt key) (kup m K k) K' F'∧Nx s s' F F' G:=by
 refine Cl.enter Tryz.f12 fn12 rfl rfl rfl ?_
 have hk:k.length=32:=hs▸shaL
 have hkb:∀y∈k,y<256:=hs▸shaB
 have lk:(k.map nB).length=32:=by rw [List.length_map,hk]
 have gp:good (some (⟨P,0,none⟩:Addr)):=⟨_,_,rfl⟩
 have hlt:δ<s.nx:=hq.ltx w (by rw [List.length_map];omega)
 refine run1 ?_
 refine mk_gen (s:=s) (cs:=zh.map nB) (M:=fun s'=>Wo _ _ _ _ _ s' _) fun s1 r1 n1 k1=>?_
 have w1:=k1.wf w
 have e1:=k1.le
 have g1:=h.kp w k1 fun _ _=>id
 have hT1:=hT.kn k1
 have hq1:=hq.kp w k1 id
 refine run1 ?_
 refine Wo.val rfl (Xv.pEq rfl rfl rfl) rfl (run1 ?_)
 refine Wo.call rfl (Xc.call ok30 rfl) rfl ((isBlob_ok h1 h2).mono ?_)
 rintro v s' ⟨rfl,e'⟩;rw [e'];clear e' s'
 have lb:=g1.lb
 obtain⟨nn,Cb,Fb,hb,hnn,sub,back⟩:=g1.book w1
 have cb:=bhash_ok w1 hb (fun s' k'=>hT1 s' (k'.mono sub)) hq1 (fun e=>hδ (sub _ e)) hA hc (by omega) (by omega) (by rw [hs];exact .inl hNo)
 rw [hs]at cb
 refine run1 ?_
 refine Wo.val rfl (Xv.nilC rfl) rfl (run1 ?_)
 refine Wo.call rfl (Xc.call ok13 rfl) rfl (cb.mono ?_)
 rintro v s2 ⟨rfl,n',Fb',hb',hn',hF',_,k2⟩
 obtain⟨F1,g2,x2⟩:=back s2 n' _ Fb' (by omega) hb' hF' k2
 have w2:=k2.wf w1
 have e2:=k2.le
 have nδ1:¬F1 δ:=fun e=>by
  rcases x2.nw' _ e with e|e
  ·exact hδ e
  ·omega
 have hq2:=hq1.kp w1 x2.kp hδ
 refine run1 ?_
 refine mk_gen (s:=s2) (cs:=zh.map nB) (M:=fun s'=>Wo _ _ _ _ _ s' _) fun s3 r3 n3 k3=>run1 ?_
 refine Wo.st rfl rfl rfl rfl rfl rfl lk one_nB r3 (by show 0+32≤32;decide) fun s4 r4 n4 k4=>?_
 rw [lov_all lk]at r4
 have k24:Kn s2 s4:=k3.app k4 (Nat.le_refl _)
 have w4:=k24.wf w2
 have e24:=k24.le
 have g4:=g2.kp w2 k24 fun _ _=>id
 have hT4:=(hT1.nx x2).kn k24
 have hq4:=hq2.kp w2 k24 id
 have lk4:=r4.all (n:=32) lk (by decide)
 refine run1 ?_
 refine Wo.call rfl (Xc.call ok31 rfl) rfl ((hlay_ok w4 g4 hk hkb hno hq4 nδ1 (by omega) h2 hnb (by omega)).mono ?_)
 rintro v s5 ⟨rfl,F2,G2,g5,x5⟩
 have w5:=x5.kp.wf w4
 have e5:=x5.kp.le
 have o2:=g2.old
 have r5:=r4.kp w4 x5.kp fun e=>by have:=o2 _ e;omega
 have lk5:=r5.all (n:=32) lk (by decide)
 have nδ2:¬F2 δ:=fun e=>by
  rcases x5.nw' _ e with e|e
  ·exact nδ1 e
  ·omega
 have hq5:=hq4.kp w4 x5.kp nδ1
 obtain⟨Cs,Fs,⟨γ,γo,rc,rb,qo,co,MC,hx⟩,sub2,back2⟩:=g5.sto w5
 have lb5:ldq s5 (qadd (some ⟨P,0,none⟩) 5)=some (.map (some rb)):=hx.row.f1 rfl
 have crb:Cs rb:=(hx.col _).2 (.inr (.inr (.inl rfl)))
 refine run1 ?_
 refine W.dr [(0,.none,0),(1,.none,1),(2,.none,3),(3,.reads,7),(4,.reads,0),(5,.acts,31)] (by kernel_rfl) rfl (run1 ?_)
 refine Wd.val rfl (Xv.nilC rfl) rfl (Nat.le_refl _) (run1 ?_)
 refine Wd.read rfl (Xv.ld rfl rfl rfl lb5) rfl eqV_map ⟨Xv.ld rfl rfl rfl lb5,trivial⟩ (run1 ?_)
 refine Wd.read rfl (Xv.ldN rfl rfl rfl lk5) rfl eqV_h ⟨Xv.ldN rfl rfl rfl lk5,trivial⟩ (run1 ?_)
 refine Wd.del rfl rfl rfl Hdm rfl rfl hk hx.bad fun s6 M6 n6 k6=>run1 ?_
 have k6':Kp Cs s5 s6:=k6.mono fun c e=>by rw [e];exact crb
 obtain⟨F3,g6,x6⟩:=back2 s6 K Cs Fs ⟨γ,γo,rc,rb,qo,co,MC,hx.delb w5 k6 M6⟩ (fun c e=>.inl e) k6'
 have w6:=k6.wf w5
 have e6:=k6.le
 have o5:=x5.nw'
 have r6:=r5.kp w5 x6.kp fun e=>by rcases o5 _ e with e|e;have:=o2 _ e;omega;omega
 have lk6:=r6.all (n:=32) lk (by decide)
 have hq6:=hq5.kp w5 x6.kp nδ2
 have nδ3:¬F3 δ:=fun e=>by
  rcases x6.nw' _ e with e|e
  ·exact nδ2 e
  ·omega
 obtain⟨Cs6,Fs6,hst6,sub6,back6⟩:=g6.sto w6
 refine W.dr [(0,.none,0),(1,.none,1),(2,.none,3),(3,.reads,0),(4,.none,0),(5,.acts,31)] (by kernel_rfl) rfl (run1 ?_)
 refine Wd.val rfl (Xv.nilC rfl) rfl (Nat.le_refl _) (run1 ?_)
 refine Wd.read rfl (Xv.ldN rfl rfl rfl lk6) rfl eqV_h ⟨Xv.ldN rfl rfl rfl lk6,trivial⟩ (run1 ?_)
 refine Wd.call rfl (Xc.call ok32 rfl) rfl ((cadd_ok w6 hst6 hk hkb (if_pos rfl) hq6 (fun e=>nδ3 (sub6 _ e)) (by omega) (by omega) hm).mono ?_)
 rintro v s7 ⟨Cs7,Fs7,hst7,hF7,k7⟩
 obtain⟨F4,g7,x7⟩:=back6 s7 _ Cs7 Fs7 hst7 hF7 k7
 have w7:=k7.wf w6
 have e7:=k7.le
 have o6:=x6.nw'
 have oF3:∀c,F3 c→F1 c∨s4.nx≤c:=fun c e=>by
  rcases o6 _ e with e|e
  ·exact o5 _ e
  ·exact .inr (by omega)
 have r7:=r6.kp w6 x7.kp fun e=>by rcases oF3 _ e with e|e;have:=o2 _ e;omega;omega
 have lk7:=r7.all (n:=32) lk (by decide)
 have r17:Rw s7 s.nx (zh.map nB) s.nx:=((((r1.kp w1 x2.kp fun e=>by have:=h.old _ e;omega).kp w2 k24 id).kp w4 x5.kp fun e=>by rcases x2.nw' _ e with e|e;have:=h.old _ e;omega;omega).kp w5 x6.kp fun e=>by rcases o5 _ e with e|e;rcases x2.nw' _ e with e|e;have:=h.old _ e;omega;omega;omega).kp w6 x7.kp fun e=>by rcases oF3 _ e with e|e;rcases x2.nw' _ e with e|e;have:=h.old _ e;omega;omega;omega
 refine⟨k7.le,run1 ?_⟩
 refine Wo.st rfl rfl rfl rfl rfl rfl lk one_nB r17 (by show 0+32≤32;decide) fun s8 r8 n8 k8=>?_
 rw [lov_all lk]at r8
 have g8:=g7.kp w7 k8 fun c e a=>by
  rcases x7.nw' _ e with e|e
  ·rcases oF3 _ e with e|e
   ·rcases x2.nw' _ e with e|e
    ·have:=h.old _ e;omega
    ·omega
   ·omega
  ·omega
 refine run1 ?_
 have hcl:=cell_at (B:=B) (t:= 26) rfl rfl r8 lk rfl
 refine Lv.ret (vs:=[hsh k,nI 0]) ?_ ⟨rfl,F4,fun _=>True,g8.up (by omega),?_⟩
 ·show (match cell1 B.P (.pointer (some ⟨s.nx,0,none⟩)) 26 s8,some [nI 0]with|some v,some vs=>some (v::vs)|_,_=>none)=_
  rw [hcl];rfl
 ·have n1:=(x2.kn k1).trans (x5.kn k24)
  have n2:=(n1.trans x6).trans x7
  exact⟨((n2.kp.mono fun c e=>.inl e).trans (k8.mono fun c e=>.inr (by omega))).low,fun c e=>(n2.nw' c e).imp id fun e=>⟨trivial,e⟩⟩
end Go.Proofs.YtnbdpcpgckfeeaaGreatDoor
