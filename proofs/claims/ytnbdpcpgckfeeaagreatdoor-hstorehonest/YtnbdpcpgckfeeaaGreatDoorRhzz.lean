import Derived.Test.YtnbdpcpgckfeeaaGreatDoorYlzz
import Derived.Test.YtnbdpcpgckfeeaaGreatDoorRezz
import Derived.Test.YtnbdpcpgckfeeaaGreatDoorCazz
namespace Go.Sy
open Go Go.Ev
def Dv(s:St)(D sl na n nb:Nat)(Bl:List Nat→Option (List Nat))(C F:Nat→Prop):Prop:= ∃γ rb rv rs γa γg L MB MV MS,MB.length=nb∧DvX s D γ rb rv rs γa γg sl na n L MB MV MS Bl C F
theorem gwcap{s:St}{q:Option Addr}{n c size γ:Nat}{cs:List Value}(h:Gw s q n c size cs γ)(hn:n<2^63):Cap n c size:=by
 rcases h.at' with⟨_,rfl,_⟩|⟨_,_,_,_,_,rfl|rfl⟩
 ·exact⟨Nat.zero_le _,fun h=>absurd h (Nat.lt_irrefl 0)⟩
 ·exact Cap.least (Nat.le_refl n) (by omega)
 ·exact Cap.sure (Nat.le_refl n)
theorem Dv.kp{E:Nat→Prop}{s t:St}{D sl na n nb:Nat}{Bl:List Nat→Option (List Nat)}{C F:Nat→Prop}(h:Dv s D sl na n nb Bl C F)(w:Wf s)(k:Kp E s t)(hE:∀c,F c→¬E c):Dv t D sl na n nb Bl C F:=
 let ⟨γ,rb,rv,rs,γa,γg,L,MB,MV,MS,e,h⟩:=h;⟨γ,rb,rv,rs,γa,γg,L,MB,MV,MS,e,h.kp w k hE⟩
end Go.Sy
namespace Go.Proofs.YtnbdpcpgckfeeaaGreatDoor
open Go Go.Ev Go.Sy
set_option maxRecDepth 100000
variable{s:St}{q r:Option Addr}{c d D:Nat}{A H:List Nat}{v:Value}
theorem rq_h0{k:Nat}(hH:H.length=32):lov (rqc k zh v) 1 (H.map nB)=rqc k H v:=lov_app (a:=[nI k]) (b:=zh.map nB) rfl (by rw [List.length_map,List.length_map,hH];rfl)
theorem rq_v0{k:Nat}{u:Value}(hH:H.length=32):lov (rqc k H u) 33 [v]=rqc k H v:=by
 have:=lov_app (a:=nI k::H.map nB) (b:=[u]) (c:=nI 0::nI 0::zh.map nB) (vs:=[v]) (o:=33) (by rw [List.length_cons,List.length_map,hH]) rfl
 exact this
theorem get_ok{sl na n nb:Nat}{Bl:List Nat→Option (List Nat)}{C F:Nat→Prop}(w:Wf s)(h:Dv s D sl na n nb Bl C F)(hH:H.length=32)(hAl:∀A,Bl H=some A→A.length<2^40)(hna:na+1<2^39):
  Cl B (.call 57 [.pointer (some ⟨D,0,none⟩),hsh H]) s fun u s'=> ∃C' F',Dv s' D sl (na+1) n nb Bl C' F'∧(∀c,F' c→F c∨s.nx≤c)∧Kp C s s'∧((Bl H=none∧u= .tuple ⟨[.slice none 0 0,nI 81]⟩)∨∃A q c γx,Bl H=some A∧u= .tuple ⟨[.slice q A.length c,nI 0]⟩∧Sl s' q (A.map nB) γx∧s.nx≤γx∧¬F' γx∧Cap A.length c 1):=by
 obtain⟨γ,rb,rv,rs,γa,γg,L,MB,MV,MS,hnb,h⟩:=h
 refine Cl.enter Tryz.f57 fn57 rfl rfl rfl ?_
 have lH:(H.map nB).length=32:=by rw [List.length_map,hH]
 refine run1 ?_
 refine mk_gen (s:=s) (cs:=H.map nB) (M:=fun s'=>Wo _ _ _ _ _ s' _) fun s1 r1 n1 k1=>?_
 have w1:=k1.wf w
 have lk1:=r1.all (n:=32) lH (by decide)
 refine run1 ?_
 refine Wo.val rfl (Xv.buildE (cs:=rqc 1 H (.slice none 0 0)) rfl (fill_cons (vs:=[nI 1]) rfl rfl rfl rfl one_sg (by decide) (fill_cons (vs:=H.map nB) rfl rfl rfl lH one_nB (by decide) (congrArg some (rq_h0 hH))))) rfl (run1 ?_)
 refine Wo.call rfl (Xc.call ok81 rfl) rfl ((accG_ok w1 (h.kp w k1 fun _ _=>id) hH hAl hna).mono ?_)
 rintro u s2 ⟨γa',L',C',F',h2,hF,k2,hu⟩
 have w2:=k2.wf w1
 obtain⟨qx,nx,cx,ex,rfl,hx⟩:∃q n c e,u= .agg ⟨ansc (.slice q n c) e⟩∧((Bl H=none∧(q=none∧n=0∧c=0∧e=81))∨∃A γx,Bl H=some A∧n=A.length∧e=0∧Gw s2 q A.length c 1 (A.map nB) γx∧s1.nx≤γx∧¬F' γx):=by
  rcases hu with⟨g,rfl⟩|⟨A,q,c,γx,g,rfl,g1,g2⟩
  ·exact⟨none,0,0,81,rfl,.inl ⟨g,rfl,rfl,rfl,rfl⟩⟩
  ·exact⟨q,A.length,c,0,rfl,.inr ⟨A,γx,g,rfl,rfl,g1,g2⟩⟩
 refine run1 ?_
 refine mk_gen (s:=s2) (cs:=ansc (.slice none 0 0) 0) (M:=fun s'=>Wo _ _ _ _ _ s' _) fun s3 r3 n3 k3=>?_
 have w3:=k3.wf w2
 refine Wo.st (vs:=ansc (.slice qx nx cx) ex) rfl rfl rfl rfl rfl rfl rfl ans_one r3 (by decide) fun s4 r4 n4 k4=>?_
 change Rw s4 _ (ansc (.slice qx nx cx) ex) _ at r4
 have k24:Kn s2 s4:=k3.app k4 (Nat.le_refl _)
 have gq:good (some (⟨s2.nx,0,none⟩:Addr)):=⟨_,_,rfl⟩
 have l0:ldq s4 (qadd (some ⟨s2.nx,0,none⟩) 0)=some (.slice qx nx cx):=r4.f1 rfl
 have l35:ldq s4 (qadd (some ⟨s2.nx,0,none⟩) 35)=some (nI ex):=r4.f1 rfl
 refine run1 ?_
 refine W.dr [(0,.none,0),(1,.reads,1),(2,.none,0),(3,.reads,4),(4,.none,3),(5,.none,31)] (by kernel_rfl) rfl (run1 ?_)
 have e1:=k1.le
 have h4:=h2.kp w2 k24 fun _ _=>id
 refine Lv.ret rfl ⟨C',F',⟨γ,rb,rv,rs,γa',γg,L',MB,MV,MS,hnb,h4⟩,fun c e=>(hF c e).imp id fun e=>by omega,((k1.mono fun _ e=>e.elim).trans k2).trans (k24.mono fun _ e=>e.elim),?_⟩
 rcases hx with⟨a,rfl,rfl,rfl,rfl⟩|⟨A,γx,a,rfl,rfl,G,lo,no⟩
 ·exact .inl ⟨a,rfl⟩
 ·exact .inr ⟨A,qx,cx,γx,a,rfl,(G.kp w2 k24 id).sl,by omega,no,gwcap G (by have:=hAl _ a;omega)⟩
theorem mputd_ok{sl na n nb:Nat}{Bl:List Nat→Option (List Nat)}{C F:Nat→Prop}(w:Wf s)(h:Dv s D sl na n nb Bl C F)(hH:H.length=32)(hb:∀y∈H,y<256)(hnew:Bl H=none)(hA:Bs s r A)(hAl:A.length≤1024)(hlt:nb<sl)(hna:na+1<2^39)(hnn:n+1<2^39):
  Cl B (.call 61 [.pointer (some ⟨D,0,none⟩),hsh H,.slice r A.length d]) s fun u s'=>u=nI 0∧∃C' F',Dv s' D sl (na+1) (n+1) (nb+1) (fun k=>if k=H then some A else Bl k) C' F'∧(∀c,F' c→F c∨s.nx≤c)∧Kp C s s':=by
 obtain⟨γ,rb,rv,rs,γa,γg,L,MB,MV,MS,hnb,h⟩:=h
 refine Cl.enter Tryz.f61 fn61 rfl rfl rfl ?_
 have lH:(H.map nB).length=32:=by rw [List.length_map,hH]
 refine run1 ?_
 refine mk_gen (s:=s) (cs:=H.map nB) (M:=fun s'=>Wo _ _ _ _ _ s' _) fun s1 r1 n1 k1=>?_
 have w1:=k1.wf w
 have lk1:=r1.all (n:=32) lH (by decide)
 refine run1 ?_
 refine Wo.val rfl (Xv.buildE (cs:=rqc 2 H (.slice r A.length d)) rfl (fill_cons (vs:=[nI 2]) rfl rfl rfl rfl one_sg (by decide) (fill_cons (vs:=H.map nB) rfl rfl rfl lH one_nB (by decide) (fill_cons (vs:=[.slice r A.length d]) rfl rfl rfl rfl one_sg (show 33+1≤(lov (rqc 2 zh (.slice none 0 0)) 1 (H.map nB)).length by rw [rq_h0 hH,rq_len hH];decide) (congrArg some ?_))))) rfl (run1 ?_)
 ·exact(congrArg (fun x=>lov x 33 [Value.slice r A.length d]) (rq_h0 hH)).trans (rq_v0 hH)
 refine Wo.call rfl (Xc.call ok81 rfl) rfl ((accP_ok w1 (h.kp w k1 fun _ _=>id) hH hb hnew (hA.kn w k1) hAl (by omega) hna hnn).mono ?_)
 rintro u s2 ⟨rfl,γa',γg',L',MB',MV',MS',C',F',h2,hF,k2,hnb'⟩
 refine run1 ?_
 have e1:=k1.le
 exact Lv.ret rfl ⟨rfl,C',F',⟨γ,rb,rv,rs,γa',γg',L',MB',MV',MS',by omega,h2⟩,fun c e=>(hF c e).imp id fun e=>by omega,(k1.mono fun _ e=>e.elim).trans k2⟩
open Go Go.Ev Go.Sy
set_option maxRecDepth 100000
variable{s:St}{q r:Option Addr}{c d D:Nat}{A H:List Nat}{v:Value}
def mdcl(a b:Nat):List Value:=nI a::nI b:: .slice none 0 0:: .slice none 0 0::nI 0::zh.map nB
theorem limits_ok{a b:Nat}(h1:1≤a)(h2:a≤4096)(h3:b≤1048576):Cl B (.call 51 [.agg ⟨mdcl a b⟩]) s fun u s'=>u= .bool true∧Kn s s':=by
 refine Cl.enter Tryz.f51 fn51 rfl rfl rfl ?_
 have r1:Rw (mkRow s (mdcl a b)) s.nx (mdcl a b) s.nx:=mkRow_rw
 have l0:ldq (mkRow s (mdcl a b)) (qadd (some ⟨s.nx,0,none⟩) 0)=some (nI a):=r1.f1 rfl
 have l1:ldq (mkRow s (mdcl a b)) (qadd (some ⟨s.nx,0,none⟩) 1)=some (nI b):=r1.f1 rfl
 have gp:good (some (⟨s.nx,0,none⟩:Addr)):=⟨_,_,rfl⟩
 have z0:0≤b:=Nat.zero_le b
 refine run1 ?_
 exact Lv.ret rfl ⟨congrArg Value.bool (decide_eq_true h3),mkRow_kn⟩
theorem blobs0_ok{a b:Nat}:Cl B (.call 52 [.agg ⟨mdcl a b⟩]) s fun u s'=>u= .bool true∧Kn s s':=by
 refine Cl.enter Tryz.f52 fn52 rfl rfl rfl ?_
 have r1:Rw (mkRow s (mdcl a b)) s.nx (mdcl a b) s.nx:=mkRow_rw
 have l0:ldq (mkRow s (mdcl a b)) (qadd (some ⟨s.nx,0,none⟩) 0)=some (nI a):=r1.f1 rfl
 have l1:ldq (mkRow s (mdcl a b)) (qadd (some ⟨s.nx,0,none⟩) 2)=some (.slice none 0 0):=r1.f1 rfl
 have gp:good (some (⟨s.nx,0,none⟩:Addr)):=⟨_,_,rfl⟩
 have z0:¬a<0:=Nat.not_lt_zero a
 refine run1 ?_
 refine W.loop (α:=Unit) (fun _=>[(13,nI 0),(14,nI 0)]) (fun _=>[]) (fun _=>mkRow s (mdcl a b)) (fun _=>True) (fun _=>0) () trivial (.cons rfl (.cons rfl .nil)) rfl rfl (by decide) ?_
 rintro _ _
 refine run1 ?_
 exact Lv.ret rfl ⟨rfl,mkRow_kn⟩
theorem reg0_ok:Cl B (.call 53 [.agg ⟨nI 0::zh.map nB⟩]) s fun u s'=>u= .bool true∧Kn s s':=by
 refine Cl.enter Tryz.f53 fn53 rfl rfl rfl ?_
 have r1:Rw (mkRow s (nI 0::zh.map nB)) s.nx (nI 0::zh.map nB) s.nx:=mkRow_rw
 have l0:ldq (mkRow s (nI 0::zh.map nB)) (qadd (some ⟨s.nx,0,none⟩) 0)=some (nI 0):=r1.f1 rfl
 have l1:ldn (mkRow s (nI 0::zh.map nB)) (qadd (some ⟨s.nx,0,none⟩) 1) 32=some (zh.map nB):=r1.fn (by decide) (by decide)
 have gp:good (some (⟨s.nx,0,none⟩:Addr)):=⟨_,_,rfl⟩
 refine run1 ?_
 refine Wo.val rfl (Xv.buildA (cs:=zh.map nB) rfl rfl rfl) rfl (run1 ?_)
 refine Wo.val rfl (Xv.eqH (h:=zh) (g:=zh) Hdm rfl rfl rfl rfl rfl) rfl (run1 ?_)
 exact Lv.ret rfl ⟨congrArg Value.bool (decide_eq_true rfl),mkRow_kn⟩
theorem chs0_ok:Cl B (.call 54 [.slice none 0 0]) s fun u s'=>u= .bool true∧s'=s:=by
 refine Cl.enter Tryz.f54 fn54 rfl rfl rfl ?_
 refine run1 ?_
 refine W.loop (α:=Unit) (fun _=>[(0,.slice none 0 0),(6,nI 0),(7,nI 0)]) (fun _=>[]) (fun _=>s) (fun _=>True) (fun _=>0) () trivial (.cons rfl (.cons rfl (.cons rfl .nil))) rfl rfl (by decide) ?_
 rintro _ _
 refine run1 ?_
 exact Lv.ret rfl ⟨rfl,rfl⟩
theorem sclone0_ok:Cl B (.call 55 [.slice none 0 0]) s fun u s'=>u= .slice none 0 0∧s'=s:=by
 refine Cl.enter Tryz.f55 fn55 rfl rfl rfl ?_
 refine run1 ?_
 exact Lv.ret rfl ⟨rfl,rfl⟩
end Go.Proofs.YtnbdpcpgckfeeaaGreatDoor
namespace Go.Sy
open Go Go.Ev
theorem Wd.slLH{X:Fx}{env:Env}{df:List Deferred}{s:St}{Q:Post}{all:List Oper}{d:Option Nat}{ty:TypeId}{pos:String}{af:Array Edge}{gd:Option (Nat×Bool)}{i m:Nat}{L:List Sp}{past:Past}{t t0 n0 e t1 size:Nat}{z0 z:Option (List Value)}{ke:Sh}{x y u:Operand}{k k':IntKind}{b n c l h γ:Nat}{cs:List Value}(hgd:wantsE all env gd=some true)(hd:dOk X d=true)(ht:tk X.B.T t=some ⟨t0,n0,.sl e,z0⟩)(he:tk X.B.T e=some ⟨t1,size,ke,z⟩)(hx:ev env x=some (.slice (some ⟨b,0,none⟩) n c))(hy:ev env y=some (.int k (.ofNat l)))(hu:ev env u=some (.int k' (.ofNat h)))(hg:Gw s (some ⟨b,0,none⟩) n c size cs γ)(hlh:l<h)(hh:h≤n)(hn:n<2^60)
  (K:∀c',Wd X all L past (up d (.slice (some ⟨b,l*size,none⟩) (h-l) c') env) df s Q):Wd X all (.mk .none i ⟨d,.slice t x (some y) (some u) none,ty,pos,af,gd⟩ m::L) past env df s Q:=by
 obtain⟨c',a⟩:=Xv.slLH (X:=X) (s:=s) ht he hx hy hu hg hlh hh hn
 exact Wd.val hgd a hd (Nat.le_refl _) (K c')
end Go.Sy
namespace Go.Proofs.YtnbdpcpgckfeeaaGreatDoor
open Go Go.Ev Go.Sy
set_option maxRecDepth 100000
variable{s:St}{n c:Nat}{q:Option Addr}{M A:List Nat}
theorem padL_byte:∀x∈padL n,x<256:=fun x hx=>pdN_byte x (List.mem_of_mem_take hx)
theorem ok_H0:Dg.Ok8 Dg.H0:=⟨by decide,by decide,by decide,by decide,by decide,by decide,by decide,by decide⟩
theorem eqV_wv'{w:W8}:eqV 5 (.agg ⟨wv w⟩) (.agg ⟨wv w⟩)=true:=eqV_wv
theorem one_wv{w:W8}:∀v∈wv w,Ev.one v=true:=fun v hv=>by
 simp only[wv,List.mem_cons,List.not_mem_nil,or_false]at hv;rcases hv with rfl|rfl|rfl|rfl|rfl|rfl|rfl|rfl<;>rfl
set_option maxHeartbeats 1600000 in
theorem rsum_ok(w0:Wf s)(hT:TabAt s)(ha:Bs s q M)(hMb:∀x∈M,x<256)(hM:M.length<2^40):
  Cl B (.call 22 [.slice q M.length c]) s fun v s'=>v=hsh (shaOf M)∧Kn s s':=by
 refine Cl.enter Tryz.f22 fn22 rfl rfl rfl ?_
 refine run1 ?_
 refine mkO (cs:=(List.replicate 32 0).map nB) fun s1 r1 n1 k1=>?_
 have w1:Wf s1:=k1.wf w0
 refine Wo.val rfl (Xv.buildA (cs:=wv Dg.H0) rfl rfl rfl) rfl (run1 ?_)
 obtain⟨h0,eh0⟩:∃h0,h0=Dg.H0:=⟨_,rfl⟩
 rw [←eh0]
 refine mkO (cs:=wv ⟨0,0,0,0,0,0,0,0⟩) fun s2 r2 n2 k2=>?_
 have w2:Wf s2:=k2.wf w1
 refine Wo.st rfl rfl rfl rfl rfl rfl rfl one_wv r2 (by decide) fun s3 r3 n3 k3=>?_
 have r3:Rw s3 s1.nx (wv h0) s1.nx:=by
  have e:lov (wv ⟨0,0,0,0,0,0,0,0⟩) 0 (wv h0)=wv h0:=lov_all rfl
  rw [←e];exact r3
 have k13:Kn s1 s3:=k2.app k3 (Nat.le_refl _)
 have w3:Wf s3:=k13.wf w1
 have k03:Kn s s3:=k1.call k13
 refine run1 ?_
 refine Wo.call rfl (Xc.call ok49 rfl) rfl ((padded_ok w3 (ha.kn w0 k03) hM).mono ?_)
 rintro v s4 ⟨qp,cp,γp,rfl,gp,lp,k4⟩
 have w4:Wf s4:=k4.wf w3
 have hpl:(M++padL M.length).length=M.length+(zend M.length+8):=by rw [List.length_append,padL_length]
 have hpm:=pad_mod (M:=M)
 have hz:=zend_lt (n:=M.length)
 have hsa:=sha_all (M:=M)
 have hPb:∀x∈M++padL M.length,x<256:=fun x hx=>by
  rcases List.mem_append.1 hx with h|h
  ·exact hMb x h
  ·exact padL_byte x h
 obtain⟨P,hP⟩:∃P,P=M++padL M.length:=⟨_,rfl⟩
 rw [←hP]at hpl hpm hsa hPb gp ⊢
 obtain⟨bp,rfl,hrow,hcap⟩:=gp.rw (by omega)
 have r34:Rw s4 s1.nx (wv h0) s1.nx:=r3.kp w3 k4 id
 have hn3:=k13.le
 have h13:s1.nx<s3.nx:=by omega
 refine run1 ?_
 refine W.loop (α:=Nat×St) (fun a=>[(2,.pointer (some ⟨s.nx,0,none⟩)),(3,.pointer (some ⟨s1.nx,0,none⟩)),(4,.slice (some ⟨bp,0,none⟩) P.length cp),(5,nI (64*a.1))]) (fun _=>[]) (fun a=>a.2)
  (fun a=>64*a.1≤P.length∧Rw a.2 s1.nx (wv (fwN a.1 h0 P)) s1.nx∧Dg.Ok8 (fwN a.1 h0 P)∧Kp (fun c=>c=s1.nx) s4 a.2) (fun a=>P.length-64*a.1) (0,s4) ⟨Nat.zero_le _,r34,by rw [eh0];exact ok_H0,.refl⟩ (.cons rfl (.cons rfl (.cons rfl (.cons rfl .nil)))) rfl rfl (by show P.length-64*0<_;omega) ?_
 rintro⟨j,t0⟩ ⟨i1,i2,i3,i4⟩
 simp only at i1 i2 i3 i4
 dsimp only
 have wt:Wf t0:=i4.wf w4
 have kt:Kp (fun c=>s.nx≤c) s t0:=((k03.call k4).w).trans (i4.mono fun c h=>by omega)
 by_cases hj:64*j<P.length
 ·have hlw:=i2.all (n:=8) rfl (by decide)
  have gpt:Gw t0 (some ⟨bp,0,none⟩) P.length cp 1 (P.map nB) γp:=gp.kp w4 i4 (by omega)
  have hDl:((P.drop (64*j)).take 64).length=64:=by rw [List.length_take,List.length_drop];omega
  have hDb:∀x∈(P.drop (64*j)).take 64,x<256:=fun x hx=>hPb x (List.mem_of_mem_drop (List.mem_of_mem_take hx))
  have aD:At t0 (some ⟨bp,64*j*1,none⟩) (((P.drop (64*j)).take 64).map nB):=by
   have:=((gpt.sl.drop (n:=64*j) (by rw [List.length_map];omega)).take (n:=64)).at
   rw [←List.map_drop,←List.map_take,Nat.zero_add]at this
   rw [Nat.mul_one];exact this
  refine run1 ?_
  refine W.dr [(0,.reads,0),(1,.none,0),(2,.none,0),(3,.none,0),(4,.none,8),(5,.none,30),(6,.acts,63),(7,.acts,127)] (by kernel_rfl) rfl ?_
  refine Wd.read rfl (Xv.ldN rfl rfl rfl hlw) rfl eqV_wv' ⟨Xv.ldN rfl rfl rfl hlw,trivial⟩ (run1 ?_)
  refine Wd.slLH rfl rfl rfl rfl rfl rfl rfl gpt (by omega) (by omega) (by omega) fun c'=>?_
  rw [show 64*j+64-64*j=64 by omega]
  refine Wd.call rfl (Xc.call ok50 rfl) rfl ((rmixed_ok (_o:=0) i3 (hT.kpN w0 kt) aD hDl hDb).mono ?_)
  rintro v s' ⟨rfl,e'⟩;rw [e'];clear e' s'
  refine⟨Nat.le_refl _,?_⟩
  have ef:Dg.eb (fwN j h0 P) ((P.drop (64*j)).take 64)=fwN (j+1) h0 P:=by rw [fwN_succ,Nat.mul_comm 64 j]
  obtain⟨w',hw'⟩:∃w',w'=fwN (j+1) h0 P:=⟨_,rfl⟩
  rw [ef,←hw']
  have ok':Dg.Ok8 w':=by rw [hw',←ef];exact eb_ok hDl
  refine Wd.st rfl rfl rfl rfl rfl rfl rfl one_wv i2 (by show 0+8≤8;decide) fun t1 y1 y2 y3=>?_
  have y1':Rw t1 s1.nx (wv w') s1.nx:=by
   have e:lov (wv (fwN j h0 P)) 0 (wv w')=wv w':=lov_all rfl
   rw [←e];exact y1
  refine run1 ?_
  refine rnd.n (j+1,t1) ⟨by show 64*(j+1)≤P.length;omega,by show Rw t1 s1.nx (wv (fwN (j+1) h0 P)) s1.nx;rw [←hw'];exact y1',by show Dg.Ok8 (fwN (j+1) h0 P);rw [←hw'];exact ok',i4.trans y3⟩ (by show P.length-64*(j+1)<P.length-64*j;omega) (.cons rfl (.cons rfl (.cons rfl (.cons rfl .nil)))) rfl rfl
 ·have ej:j=P.length/64:=by omega
  have efw:fwN j h0 P=fwN ((M.length%64+(padL M.length).length)/64) (mw M) (mr M++padL M.length):=by rw [ej,eh0];exact hsa
  obtain⟨w',hw'⟩:∃w',w'=fwN j h0 P:=⟨_,rfl⟩
  rw [←hw']at i2 efw
  have esh:shaOf M=(List.range 32).map (sb w'):=by rw [←sum_bytes,efw];rfl
  rw [esh]
  refine run1 ?_
  refine mk_gen (cs:=(List.replicate 32 0).map nB) (M:=fun s'=>W _ _ _ _ s' _) fun t1 z1 m1 g1=>?_
  have wt1:Wf t1:=g1.wf wt
  have i2':=i2.kp wt g1 id
  have hnt:=i4.le
  have hn4:=k4.le
  refine W.loop (α:=Nat×St) (fun a=>[(2,.pointer (some ⟨s.nx,0,none⟩)),(3,.pointer (some ⟨s1.nx,0,none⟩)),(6,.pointer (some ⟨t0.nx,0,none⟩)),(7,nI a.1)]) (fun _=>[]) (fun a=>a.2)
   (fun a=>a.1≤32∧Rw a.2 t0.nx (((List.range a.1).map (sb w')++List.replicate (32-a.1) 0).map nB) t0.nx∧Kp (fun c=>c=t0.nx) t1 a.2) (fun a=>32-a.1) (0,t1) ⟨Nat.zero_le _,z1,.refl⟩ (.cons rfl (.cons rfl (.cons rfl (.cons rfl .nil)))) rfl rfl (by show 32-0<_;decide) ?_
  rintro⟨i,t2⟩ ⟨x1,x2,x3⟩
  simp only at x1 x2 x3
  dsimp only
  have wt2:Wf t2:=x3.wf wt1
  by_cases hi:i<32
  ·refine run1 ?_
   have h4:i/4<8:=by omega
   refine Wo.val rfl (Xv.iaP rfl rfl rfl rfl h4) rfl ?_
   have i2t:Rw t2 s1.nx (wv w') s1.nx:=i2'.kp wt1 x3 (by omega)
   have hld:ldq t2 (some ⟨s1.nx,0+i/4*1,none⟩)=some (.int .u32 (.ofNat ((wl w').getD (i/4) 0))):=i2t.f1 (wv_get h4)
   refine Wo.val rfl (Xv.ld rfl rfl rfl hld) rfl ?_
   obtain⟨x,hx⟩:∃x,x=(wl w').getD (i/4) 0:=⟨_,rfl⟩
   rw [←hx]
   refine Wo.val rfl (Xv.move rfl) rfl ?_
   refine Wo.val rfl (Xv.remI rfl rfl (by decide)) rfl ?_
   obtain⟨r,hr⟩:∃r,r=i%4:=⟨_,rfl⟩
   have hr4:r<4:=by omega
   rw [←hr]
   refine run1 ?_
   refine Wo.val rfl (Xv.ar (r:=x>>>(24-8*r)) rfl rfl rfl (by show cond (Nat.ble (24-8*r) 32) (some (Nat.shiftRight _ _)) none=_;rw [Nat.ble_eq_true_of_le (by omega)];rfl)) rfl (run1 ?_)
   refine Wo.val rfl (Xv.iaP rfl rfl rfl rfl hi) rfl ?_
   have hll:((List.range i).map (sb w')++List.replicate (32-i) 0).length=32:=by rw [List.length_append,List.length_map,List.length_range,List.length_replicate];omega
   refine Wo.st rfl rfl rfl rfl rfl rfl rfl (by intro v hv;rw [List.mem_singleton.1 hv];rfl) x2 (by rw [List.length_map,hll];show 0+i*1+1≤32;omega) fun t3 y1 y2 y3=>?_
   have y1':Rw t3 t0.nx (((List.range (i+1)).map (sb w')++List.replicate (32-(i+1)) 0).map nB) t0.nx:=by
    have e:=lov_app (a:=((List.range i).map (sb w')).map nB) (b:=[nB 0]) (c:=(List.replicate (32-(i+1)) 0).map nB) (vs:=[nB (sb w' i)]) (o:=0+i*1) (by simp) rfl
    have e1:((List.range i).map (sb w')++List.replicate (32-i) 0).map nB=((List.range i).map (sb w')).map nB++([nB 0]++(List.replicate (32-(i+1)) 0).map nB):=by
     rw [show 32-i=(32-(i+1))+1 by omega,List.replicate_succ,List.map_append];rfl
    have e2:((List.range (i+1)).map (sb w')++List.replicate (32-(i+1)) 0).map nB=((List.range i).map (sb w')).map nB++([nB (sb w' i)]++(List.replicate (32-(i+1)) 0).map nB):=by
     rw [List.range_succ,List.map_append,List.map_append,List.map_append,List.append_assoc];rfl
    have e3:sb w' i=(x>>>(24-8*r))%256:=by unfold sb;rw [←hx,←hr]
    rw [e2,←e,←e1,e3];exact y1
   refine run1 ?_
   exact rnd.n (i+1,t3) ⟨hi,y1',x3.trans y3⟩ (by show 32-(i+1)<32-i;omega) (.cons rfl (.cons rfl (.cons rfl (.cons rfl .nil)))) rfl rfl
  ·have e:i=32:=by omega
   subst e
   rw [Nat.sub_self,List.replicate_zero,List.append_nil]at x2
   obtain⟨F,hF⟩:∃F,F=(List.range 32).map (sb w'):=⟨_,rfl⟩
   have hFl:F.length=32:=by rw [hF];simp
   rw [←hF]at x2 ⊢
   have lF:=x2.all (n:=32) (by rw [List.length_map,hFl]) (by decide)
   have r1t:Rw t2 s.nx ((List.replicate 32 0).map nB) s.nx:=((((r1.kp w1 k13 id).kp w3 k4 id).kp w4 i4 (by omega)).kp wt g1 id).kp wt1 x3 (by omega)
   refine run1 ?_
   refine Wo.st rfl rfl rfl rfl rfl rfl (by rw [List.length_map,hFl]) one_nB r1t (by rw [List.length_map,List.length_replicate];decide) fun s7 r7 n7 k7=>?_
   rw [lov_all (by rw [List.length_map,List.length_map,hFl,List.length_replicate])]at r7
   refine run1 ?_
   have hcl:=cell_at (B:=B) (t:= 26) (n:=32) (k:=.ar 32 5) rfl rfl r7 (by rw [List.length_map,hFl]) rfl
   refine Lv.ret (vs:=[hsh F]) ?_ ⟨rfl,?_⟩
   ·show (match cell1 B.P (.pointer (some ⟨s.nx,0,none⟩)) 26 s7,some []with|some v,some vs=>some (v::vs)|_,_=>none)=_
    rw [hcl];rfl
   ·exact Kp.new (N:=s.nx) .refl (((kt.trans (g1.w)).trans (x3.mono fun c h=>by omega)).trans (k7.mono fun c h=>by omega)) (Nat.le_refl _)
end Go.Proofs.YtnbdpcpgckfeeaaGreatDoor
namespace Go.Sy
open Go Go.Ev
end Go.Sy
namespace Go.Proofs.YtnbdpcpgckfeeaaGreatDoor
open Go Go.Ev Go.Sy
set_option maxRecDepth 100000
variable{s:St}{n c:Nat}{q:Option Addr}{M A S D:List Nat}
end Go.Proofs.YtnbdpcpgckfeeaaGreatDoor
namespace Go.Sy
open Go Go.Ev
end Go.Sy
namespace Go.Proofs.YtnbdpcpgckfeeaaGreatDoor
open Go Go.Ev Go.Sy
set_option maxRecDepth 100000
variable{s:St}{n c d:Nat}{q r:Option Addr}{M A S D:List Nat}
def cb1(l x:Nat):Nat:=if 8≤l then x else if 0<l then x-x%2^(8-l)else 0
theorem cb1_tab:((List.range 256).all fun x=>(List.range 9).all fun l=>Nat.beq (anB x (255>>>l)) (cb1 l x))=true:=by kernel_rfl
theorem cb1_eq{l x:Nat}(hx:x<256):anB x (255>>>(min l 8))=cb1 l x:=by
 have h:=List.all_eq_true.1 (List.all_eq_true.1 cb1_tab x (List.mem_range.2 hx)) (min l 8) (List.mem_range.2 (by omega))
 rw [Nat.eq_of_beq_eq_true h]
 by_cases h8:8≤l
 ·rw [show min l 8=8 by omega];unfold cb1;rw [if_pos h8,if_pos (Nat.le_refl _)]
 ·rw [show min l 8=l by omega]
theorem ctN_eq{H:List Nat}(hH:H.length=32)(hb:∀x∈H,x<256):∀{i:Nat},i≤32→ctN H n i=(List.range i).map (fun j=>cb1 (n-8*j) (H.getD j 0))++H.drop i
 |0,_=>rfl
 |i+1,h=>by
  rw [ctN,ctN_eq hH hb (i:=i) (by omega)]
  have e1:H.drop i=H.getD i 0::H.drop (i+1):=by rw [List.drop_eq_getElem_cons (by omega),List.getD_eq_getElem?_getD,List.getElem?_eq_getElem (by omega)];rfl
  have hg:((List.range i).map (fun j=>cb1 (n-8*j) (H.getD j 0))++H.drop i).getD i 0=H.getD i 0:=by
   rw [List.getD_eq_getElem?_getD,List.getElem?_append_right (by simp),e1];simp
  have hx:H.getD i 0<256:=by
   rw [List.getD_eq_getElem?_getD,List.getElem?_eq_getElem (by omega)];exact hb _ (List.getElem_mem _)
  rw [hg,cb1_eq hx,List.set_append_right _ _ (by simp)]
  rw [e1]
  simp[List.range_succ]
theorem cutOf_eq{H:List Nat}(hH:H.length=32)(hb:∀x∈H,x<256):cutOf H n=(List.range 32).map fun j=>cb1 (n-8*j) (H.getD j 0):=by
 rw [cutOf,ctN_eq hH hb (Nat.le_refl _),List.drop_of_length_le (by omega),List.append_nil]
end Go.Proofs.YtnbdpcpgckfeeaaGreatDoor
