import Derived.Test.YtnbdpcpgckfeeaaGreatDoorCazz
import Derived.Test.YtnbdpcpgckfeeaaGreatDoorRazz
namespace Go.Proofs.YtnbdpcpgckfeeaaGreatDoor
open Go Go.Ev Go.Sy
set_option maxRecDepth 100000
variable{s:St}{q r:Option Addr}{c d D γ rb rv rs:Nat}{A H:List Nat}{L cs:List Value}{M:MpE}{v:Value}
theorem fillN_ofY{env:Env}{pl:Nat→Option (Nat×Nat)}{ps:List (Nat×Operand)}{z cs:List Value}(h:fillE pl env ps z=some cs):fillN pl env ps z=some cs:=by
 unfold fillN
 rw [h]
 exact norm_eq cs
theorem lay_ok{n m:Nat}{MS MB:MpE}(w:Wf s)(hD:Rw s D L γ)(hl:L.length=44)(h2:L[2]? =some (.map (some rb)))(h41:L[41]? =some (.map (some rs)))(h42:L[42]? =some (.slice q n c))(h43:L[43]? =some (.slice none 0 0))(hB:Mp s rb MB)(hS:Mp s rs MS)(hg:mget H MS=none)(hH:H.length=32)(hb:∀y∈H,y<256)(hn:n<2^39)(hv:v= .slice r m d)(hne:rs≠rb∧rs≠γ∧rb≠γ):
  Cl B (.call 152 [.pointer (some ⟨D,0,none⟩),hsh H,.agg ⟨stc 0 v true⟩]) s fun _ s'=> ∃qt ct qs ks γs MS' MB',Rw s' D (L.set 43 (.slice qt 1 ct)) γ∧(∃γt,Sl s' qt (H.map nB) γt∧s.nx≤γt)∧Mp s' rs MS'∧(∀K,mget K MS'=if K=H then some (.slice qs 1 ks)else mget K MS)∧Sl s' qs (stc (n+1) v true) γs∧s.nx≤γs∧Mp s' rb MB'∧MB'=mput H v MB∧Kp (fun c=>c=γ∨c=rs∨c=rb) s s':=by
 have hgl:=hD.lt w
 have hSl:=hS.lt w
 have hBl:=hB.lt w
 have hv1:Ev.one v=true:=by rw [hv];rfl
 refine Cl.enter Tryz.f152 fn152 rfl rfl rfl ?_
 have w1:Wf (mkRow s (H.map nB)):=mkRow_wf w
 have k1:Kn s (mkRow s (H.map nB)):=mkRow_kn
 have r1:Rw (mkRow s (H.map nB)) s.nx (H.map nB) s.nx:=mkRow_rw
 refine run1 ?_
 refine mk_gen (s:=mkRow s (H.map nB)) (cs:=stc 0 v true) (M:=fun s'=>Wo _ _ _ _ _ s' _) fun s2 r2 n2 k2=>?_
 have w2:=k2.wf w1
 have n1:(mkRow s (H.map nB)).nx=s.nx+1:=rfl
 have k02:=k1.call k2
 have hD2:=hD.kp w k02 id
 rw [n1]at n2
 have gp:good (some (⟨(mkRow s (H.map nB)).nx,0,none⟩:Addr)):=⟨_,_,rfl⟩
 refine run1 ?_
 refine Wo.call rfl (Xc.call ok141 rfl) rfl ((time_ok hD2 h42).mono ?_)
 rintro u s' ⟨rfl,e'⟩;rw [e'];clear e' s'
 refine run1 ?_
 refine Wo.st (vs:=[nI (n+1)]) rfl rfl rfl rfl rfl rfl rfl (by intro v hv;rw [List.mem_singleton.1 hv];rfl) r2 (by show 0+1≤3;omega) fun s3 r3 n3 k3=>?_
 change Rw s3 (mkRow s (H.map nB)).nx (stc (n+1) v true) (mkRow s (H.map nB)).nx at r3
 rw [n1]at k3
 have w3:=k3.wf w2
 have k03:Kn s s3:=Kp.new (N:=s.nx) k02 (k3.mono fun _ e=>by rw [e];omega) (Nat.le_refl _)
 have hD3:=hD.kp w k03 id
 have gd:good (some (⟨D,0,none⟩:Addr)):=⟨_,_,rfl⟩
 have l41:ldq s3 (qadd (some ⟨D,0,none⟩) 41)=some (.map (some rs)):=hD3.f1 h41
 have lk3:=((r1.kp w1 k2 id).kp w2 k3 (by show ¬s.nx=_;omega)).all (n:=32) (by rw [List.length_map,hH]) (by decide)
 have ls3:=r3.all (n:=3) rfl (by decide)
 refine run1 ?_
 refine W.dr [(0,.none,0),(1,.none,1),(2,.none,3),(3,.reads,7),(4,.reads,0),(5,.reads,0),(6,.makes,32),(7,.acts,127),(8,.none,255),(9,.acts,511),(10,.none,255),(11,.acts,2047)] (by kernel_rfl) rfl (run1 ?_)
 refine Wd.val rfl (Xv.nilC rfl) rfl (Nat.le_refl _) (run1 ?_)
 refine Wd.read rfl (Xv.ld rfl rfl rfl l41) rfl eqV_map ⟨Xv.ld rfl rfl rfl l41,trivial⟩ (run1 ?_)
 refine Wd.read rfl (Xv.ldN rfl rfl rfl lk3) rfl eqV_h ⟨Xv.ldN rfl rfl rfl lk3,trivial⟩ (run1 ?_)
 refine Wd.read rfl (Xv.ldN rfl rfl rfl ls3) rfl (stc_eqV ⟨r,m,d,hv⟩) ⟨Xv.ldN rfl rfl rfl ls3,trivial⟩ (run1 ?_)
 refine Wd.make rfl (Xv.bsl (cs:=stc (n+1) v true) rfl rfl rfl (by rw [hv];rfl)) rfl (Nat.le_succ _) ?_
 refine mk_gen (s:=s3) (cs:=stc (n+1) v true) (M:=fun s'=>Wd _ _ _ _ _ _ s' _) fun s4 r4 n4 k4=>?_
 have w4:=k4.wf w3
 have hS4:=(hS.kp w k03 id).kp w3 k4 id
 have hD4:=hD3.kp w3 k4 id
 refine Wd.ent rfl rfl rfl Hdm zd3 rfl rfl rfl hH hb hS4 fun s5 b5 hS5 hb5 n5 k5=>?_
 rw [hg,Option.getD_none]at hS5 ⊢
 have w5:=k5.wf w4
 refine run1 ?_
 have n4':s4.nx=s.nx+3:=by omega
 have r5:=r4.kp w4 k5 (by omega)
 refine Wd.app2 (γ:=0) (k:=1) (cs:=[]) (n:=0) rfl rfl rfl rfl rfl rfl rfl rfl rfl w5 .nil rfl (cells_at (k:=1) (size:=3) r5.ats rfl (by decide)) rfl (stc_one hv1) rfl (by decide) (by decide) ?_
 intro q6 c6 γ6 s6 G6 k6 hγ6
 have w6:=k6.wf w5
 have k6':Kn s5 s6:=k6.mono fun _ e=>e.1 rfl
 have hS6:=hS5.kp w5 k6' id
 refine run1 ?_
 refine Wd.ens rfl rfl rfl rfl rfl hH hS6 (hb5.kp w5 k6' id) fun s7 hS7 n7 k7=>?_
 have w7:=k7.wf w6
 have e6:=k6.le
 have hD5:=hD4.kp w4 k5 (by omega)
 have hD7:=(hD5.kp w5 k6' id).kp w6 k7 (by omega)
 have K37:Kp (fun c=>c=rs) s s7:=(((k03.call k4).mono fun _ e=>e.elim).trans k5).trans ((k6'.mono fun _ e=>e.elim).trans k7)
 have R7:∀{b:Nat} {l:List Value},Rw s3 b l b→b≠rs→Rw s7 b l b:=fun h e=>(((h.kp w3 k4 id).kp w4 k5 e).kp w5 k6' id).kp w6 k7 e
 have rk7:=R7 ((r1.kp w1 k2 id).kp w2 k3 (by show ¬s.nx=_;omega)) (by show s.nx≠_;omega)
 have rs7:=R7 r3 (by omega)
 have lk7:=rk7.all (n:=32) (by rw [List.length_map,hH]) (by decide)
 have l43:ldq s7 (qadd (some ⟨D,0,none⟩) 43)=some (.slice none 0 0):=hD7.f1 h43
 refine run1 ?_
 refine W.dr [(1,.none,0),(2,.none,2),(3,.none,6),(4,.reads,14),(5,.reads,0),(6,.makes,32),(7,.acts,126),(0,.none,0),(8,.none,255),(9,.none,511),(10,.acts,1023)] (by kernel_rfl) rfl (run1 ?_)
 refine Wd.val rfl (Xv.nilC rfl) rfl (Nat.le_refl _) (run1 ?_)
 refine Wd.read rfl (Xv.ldN rfl rfl rfl lk7) rfl eqV_h ⟨Xv.ldN rfl rfl rfl lk7,trivial⟩ (run1 ?_)
 have lH:(H.map nB).length=32:=by rw [List.length_map,hH]
 refine Wd.make rfl (Xv.bsl (cs:=H.map nB) rfl rfl rfl (fillN_ofY (fill_cons (vs:=H.map nB) rfl rfl rfl lH one_nB (by decide) (congrArg some (lov_all lH))))) rfl (Nat.le_succ _) ?_
 refine mk_gen (s:=s7) (cs:=H.map nB) (M:=fun s'=>Wd _ _ _ _ _ _ s' _) fun s8 r8 n8 k8=>?_
 have w8:=k8.wf w7
 refine Wd.app2 (γ:=0) (k:=1) (cs:=[]) (n:=0) rfl rfl rfl rfl rfl rfl rfl rfl rfl w8 .nil rfl (cells_at (k:=1) (size:=32) r8.ats lH (by decide)) lH one_nB rfl (by decide) (by decide) ?_
 intro q9 c9 γ9 s9 G9 k9 hγ9
 have w9:=k9.wf w8
 have k9':Kn s8 s9:=k9.mono fun _ e=>e.1 rfl
 refine run1 ?_
 refine Wd.val rfl (Xv.nilC rfl) rfl (Nat.le_refl _) (run1 ?_)
 refine Wd.st (vs:=[.slice q9 (0+1) c9]) rfl rfl rfl rfl rfl rfl rfl (by intro v hv;rw [List.mem_singleton.1 hv];rfl) ((hD7.kp w7 k8 id).kp w8 k9' id) (by omega) fun s10 r10 n10 k10=>?_
 rw [Nat.zero_add,lov1 (by omega)]at r10
 have w10:=k10.wf w9
 have k79:Kn s7 s9:=k8.call k9'
 have e79:=k79.le
 have l2:ldq s10 (qadd (some ⟨(mkRow s (H.map nB)).nx,0,none⟩) 2)=some (.bool true):=((rs7.kp w7 k79 id).kp w9 k10 (by omega)).f1 (i:=2) rfl
 have l1:ldq s10 (qadd (some ⟨(mkRow s (H.map nB)).nx,0,none⟩) 1)=some v:=((rs7.kp w7 k79 id).kp w9 k10 (by omega)).f1 (i:=1) rfl
 have lk10:=((rk7.kp w7 k79 id).kp w9 k10 (by omega)).all (n:=32) lH (by decide)
 have lb10:ldq s10 (qadd (some ⟨D,0,none⟩) 2)=some (.map (some rb)):=r10.f1 (by rw [List.getElem?_set_ne (by decide)];exact h2)
 have hB10:Mp s10 rb MB:=((hB.kp w K37 (fun e=>hne.1 e.symm)).kp w7 k79 id).kp w9 k10 hne.2.2
 refine run1 ?_
 refine W.dr [(0,.none,0),(1,.none,1),(2,.none,3),(3,.reads,7),(4,.reads,0),(5,.none,0),(6,.reads,32),(7,.acts,127)] (by kernel_rfl) rfl (run1 ?_)
 refine Wd.val rfl (Xv.nilC rfl) rfl (Nat.le_refl _) (run1 ?_)
 refine Wd.read rfl (Xv.ld rfl rfl rfl lb10) rfl eqV_map ⟨Xv.ld rfl rfl rfl lb10,trivial⟩ (run1 ?_)
 refine Wd.read rfl (Xv.ldN rfl rfl rfl lk10) rfl eqV_h ⟨Xv.ldN rfl rfl rfl lk10,trivial⟩ (run1 ?_)
 refine Wd.read rfl (Xv.ld rfl rfl rfl l1) rfl (by rw [hv];exact eqV_slice) ⟨Xv.ld rfl rfl rfl l1,trivial⟩ (run1 ?_)
 refine Wd.put rfl rfl rfl Hdm rfl rfl rfl hH hb hB10 fun s11 hB11 n11 k11=>?_
 have w11:=k11.wf w10
 refine run1 ?_
 have e9:s8.nx≤s9.nx:=k9'.le
 have hγ6':γ6=s5.nx:=hγ6.resolve_left fun h=>h.1 rfl
 have hγ9':γ9=s8.nx:=hγ9.resolve_left fun h=>h.1 rfl
 refine Lv.nrm rfl ⟨q9,c9,q6,c6,γ6,_,_,r10.kp w10 k11 (fun e=>hne.2.2 e.symm),⟨γ9,(G9.sl.kp w9 k10 (by omega)).kp w10 k11 (by omega),by omega⟩,((hS7.kp w7 k79 id).kp w9 k10 hne.2.1).kp w10 k11 hne.1,fun K=>?_,?_,by omega,hB11,rfl,?_⟩
 ·rw [mget_put,mget_put]
  split<;>rfl
 ·exact(((G6.sl.kp w6 k7 (by omega)).kp w7 k79 id).kp w9 k10 (by omega)).kp w10 k11 (by omega)
 ·exact(((K37.mono fun _ e=>.inr (.inl e)).trans (k79.mono fun _ e=>e.elim)).trans (k10.mono fun _ e=>.inl e)).trans (k11.mono fun _ e=>.inr (.inr e))
open Go Go.Ev Go.Sy
set_option maxRecDepth 100000
variable{s:St}{q r:Option Addr}{c d D γ rb rv rs:Nat}{A H:List Nat}{L cs:List Value}{M:MpE}{v:Value}
theorem store_ok{n:Nat}{MS MB MV:MpE}(w:Wf s)(hD:Rw s D L γ)(hl:L.length=44)(h2:L[2]? =some (.map (some rb)))(h40:L[40]? =some (.map (some rv)))(h41:L[41]? =some (.map (some rs)))(h42:L[42]? =some (.slice q n c))(h43:L[43]? =some (.slice none 0 0))(hB:Mp s rb MB)(hV:Mp s rv MV)(hS:Mp s rs MS)(hgv:mget H MV=none)(hg:mget H MS=none)(hH:H.length=32)(hb:∀y∈H,y<256)(hn:n<2^39)(hne:rs≠rb∧rs≠γ∧rb≠γ)(hnv:rv≠rb∧rv≠γ∧rv≠rs)(hA:Bs s r A)(hAl:A.length<2^40):
  Cl B (.call 151 [.pointer (some ⟨D,0,none⟩),hsh H,.slice r A.length d]) s fun _ s'=> ∃qt ct qs ks γs MS' MV' qa ca γa,Rw s' D (L.set 43 (.slice qt 1 ct)) γ∧(∃γt,Sl s' qt (H.map nB) γt∧s.nx≤γt)∧Mp s' rs MS'∧(∀K,mget K MS'=if K=H then some (.slice qs 1 ks)else mget K MS)∧Sl s' qs (stc (n+1) (.slice qa A.length ca) true) γs∧s.nx≤γs∧Mp s' rv MV'∧(∀K,K≠H→mget K MV'=mget K MV)∧Mp s' rb (mput H (.slice qa A.length ca) MB)∧Sl s' qa (A.map nB) γa∧s.nx≤γa∧Kp (fun c=>c=γ∨c=rs∨c=rb∨c=rv) s s':=by
 have hgl:=hD.lt w
 have hSl:=hS.lt w
 have hBl:=hB.lt w
 have hVl:=hV.lt w
 refine Cl.enter Tryz.f151 fn151 rfl rfl rfl ?_
 refine run1 ?_
 refine mk_gen (s:=s) (cs:=H.map nB) (M:=fun s'=>Wo _ _ _ _ _ s' _) fun s1 r1 n1 k1=>?_
 have w1:=k1.wf w
 refine run1 ?_
 refine Wo.call rfl (Xc.call ok39 rfl) rfl ((clone_ok w1 (hA.kn w k1) (by omega)).mono ?_)
 rintro u s2 ⟨qa,ca,γa,rfl,ga,k2,la⟩
 have w2:=k2.wf w1
 have e1:=k1.le
 have e2:=k2.le
 have k02:=k1.call k2
 have hD2:=hD.kp w k02 id
 have hV2:=hV.kp w k02 id
 have lH:(H.map nB).length=32:=by rw [List.length_map,hH]
 have gd:good (some (⟨D,0,none⟩:Addr)):=⟨_,_,rfl⟩
 have l40:ldq s2 (qadd (some ⟨D,0,none⟩) 40)=some (.map (some rv)):=hD2.f1 h40
 have lk2:=(r1.kp w1 k2 id).all (n:=32) lH (by decide)
 refine run1 ?_
 refine W.dr [(0,.none,0),(1,.none,1),(2,.none,3),(3,.reads,7),(4,.reads,0),(5,.none,0),(6,.makes,32),(7,.acts,127),(8,.none,255),(9,.acts,511),(10,.none,255),(11,.acts,2047)] (by kernel_rfl) rfl (run1 ?_)
 refine Wd.val rfl (Xv.nilC rfl) rfl (Nat.le_refl _) (run1 ?_)
 refine Wd.read rfl (Xv.ld rfl rfl rfl l40) rfl eqV_map ⟨Xv.ld rfl rfl rfl l40,trivial⟩ (run1 ?_)
 refine Wd.read rfl (Xv.ldN rfl rfl rfl lk2) rfl eqV_h ⟨Xv.ldN rfl rfl rfl lk2,trivial⟩ (run1 ?_)
 refine mk_gen (s:=s2) (cs:=[.slice qa A.length ca]) (M:=fun s'=>Wd _ _ _ _ _ _ s' _) fun s3 r3 n3 k3=>?_
 have w3:=k3.wf w2
 refine Wd.ent rfl rfl rfl Hdm zd2 rfl rfl rfl hH hb (hV2.kp w2 k3 id) fun s4 b4 hV4 hb4 n4 k4=>?_
 rw [hgv,Option.getD_none]at hV4 ⊢
 have w4:=k4.wf w3
 refine run1 ?_
 have r4:=r3.kp w3 k4 (by omega)
 refine Wd.app2 (γ:=0) (k:=1) (cs:=[]) (n:=0) rfl rfl rfl rfl rfl rfl rfl rfl rfl w4 .nil rfl (cells_at (k:=1) (size:=1) r4.ats rfl (by decide)) rfl (by intro v hv;rw [List.mem_singleton.1 hv];rfl) rfl (by decide) (by decide) ?_
 intro q5 c5 γ5 s5 G5 k5 hγ5
 have w5:=k5.wf w4
 have k5':Kn s4 s5:=k5.mono fun _ e=>e.1 rfl
 refine run1 ?_
 refine Wd.ens rfl rfl rfl rfl rfl hH (hV4.kp w4 k5' id) (hb4.kp w4 k5' id) fun s6 hV6 n6 k6=>?_
 have w6:=k6.wf w5
 have K26:Kp (fun c=>c=rv) s2 s6:=((k3.mono fun _ e=>e.elim).trans k4).trans ((k5'.mono fun _ e=>e.elim).trans k6)
 have rk6:=(r1.kp w1 k2 id).kp w2 K26 (by show s.nx≠_;omega)
 have lk6:=rk6.all (n:=32) lH (by decide)
 refine run1 ?_
 have hD6:=hD2.kp w2 K26 (fun e=>hnv.2.1 e.symm)
 have ga6:Sl s6 qa (A.map nB) γa:=ga.sl.kp w2 K26 (by omega)
 have e6:=K26.le
 refine Wo.call rfl (Xc.call ok152 rfl) rfl ((lay_ok (v:=.slice qa A.length ca) w6 hD6 hl h2 h41 h42 h43 ((hB.kp w k02 id).kp w2 K26 (fun e=>hnv.1 e.symm)) ((hS.kp w k02 id).kp w2 K26 (fun e=>hnv.2.2 e.symm)) hg hH hb hn rfl hne).mono ?_)
 rintro u s7 ⟨qt,ct,qs,ks,γs,MS',MB',g1,⟨γt,g2,g2'⟩,g3,g4,g5,g6,g7,rfl,k7⟩
 refine run1 ?_
 have gal:=ga.ltw w2
 refine Lv.nrm rfl ⟨qt,ct,qs,ks,γs,MS',_,qa,ca,γa,g1,⟨γt,g2,by omega⟩,g3,g4,g5,by omega,hV6.kp w6 k7 (fun h=>by rcases h with h|h|h;exact hnv.2.1 h;exact hnv.2.2 h;exact hnv.1 h),fun K hK=>?_,g7,ga6.kp w6 k7 (by omega),by omega,?_⟩
 ·rw [mget_put,mget_put,if_neg hK,if_neg hK]
 ·exact((k02.mono fun _ e=>e.elim).trans (K26.mono fun _ e=>.inr (.inr (.inr e)))).trans (k7.mono fun _ e=>by rcases e with e|e|e;exact .inl e;exact .inr (.inl e);exact .inr (.inr (.inl e)))
open Go Go.Ev Go.Sy
set_option maxRecDepth 100000
variable{s:St}{q r:Option Addr}{c d D γ rb rv rs:Nat}{A H:List Nat}{L cs:List Value}{M:MpE}{v:Value}
def ansc(v:Value)(e:Nat):List Value:=v:: .slice none 0 0::nI 0::(zh.map nB++[nI e])
theorem honG_ok{MB:MpE}(w:Wf s)(hD:Rw s D L γ)(_hl:L.length=44)(h2:L[2]? =some (.map (some rb)))(hB:Mp s rb MB)(hS:Sls MB)(hH:H.length=32)(hA:∀u,mget H MB=some u→∃q c,u= .slice q A.length c∧At s q (A.map nB))(hAl:A.length<2^40):
  Cl B (.call 126 [.pointer (some ⟨D,0,none⟩),.agg ⟨rqc 1 H (.slice none 0 0)⟩,.agg ⟨[nI 0,nI 0,nI 0]⟩]) s fun u s'=>Kn s s'∧((mget H MB=none∧u= .agg ⟨ansc (.slice none 0 0) 81⟩)∨((mget H MB).isSome=true∧∃q c γa,u= .agg ⟨ansc (.slice q A.length c) 0⟩∧Gw s' q A.length c 1 (A.map nB) γa∧s.nx≤γa)):=by
 refine Cl.enter Tryz.f126 fn126 rfl rfl rfl ?_
 have wa:Wf (mkRow s (rqc 1 H (.slice none 0 0))):=mkRow_wf w
 have ka:Kn s (mkRow s (rqc 1 H (.slice none 0 0))):=mkRow_kn
 have ra:Rw (mkRow s (rqc 1 H (.slice none 0 0))) s.nx (rqc 1 H (.slice none 0 0)) s.nx:=mkRow_rw
 have wb:Wf (mkRow (mkRow s (rqc 1 H (.slice none 0 0))) [nI 0,nI 0,nI 0]):=mkRow_wf wa
 have kb:Kn (mkRow s (rqc 1 H (.slice none 0 0))) (mkRow (mkRow s (rqc 1 H (.slice none 0 0))) [nI 0,nI 0,nI 0]):=mkRow_kn
 refine run1 ?_
 refine mk_gen (s:=mkRow (mkRow s (rqc 1 H (.slice none 0 0))) [nI 0,nI 0,nI 0]) (cs:=ansc (.slice none 0 0) 0) (M:=fun s'=>Wo _ _ _ _ _ s' _) fun s1 r1 n1 k1=>?_
 have w1:=k1.wf wb
 have n0:(mkRow (mkRow s (rqc 1 H (.slice none 0 0))) [nI 0,nI 0,nI 0]).nx=s.nx+2:=rfl
 have k01:=(ka.call kb).call k1
 have ra1:=(ra.kp wa kb id).kp wb k1 id
 have hD1:=hD.kp w k01 id
 have hB1:=hB.kp w k01 id
 have lq1:=ra1.all (n:=68) (rq_len hH) (by decide)
 refine run1 ?_
 refine Wo.call rfl (Xc.call ok150 rfl) rfl ((refG_ok w1 hD1 h2 hB1 hS hH).mono ?_)
 rintro u s2 ⟨e,k2⟩
 have w2:=k2.wf w1
 have gA:good (some (⟨(mkRow (mkRow s (rqc 1 H (.slice none 0 0))) [nI 0,nI 0,nI 0]).nx,0,none⟩:Addr)):=⟨_,_,rfl⟩
 have r2:=r1.kp w1 k2 id
 have n2:=k2.le
 have hD2:=hD1.kp w1 k2 id
 have hB2:=hB1.kp w1 k2 id
 have ra2:=ra1.kp w1 k2 id
 have l0:ldq s2 (qadd (some ⟨s.nx,0,none⟩) 0)=some (nI 1):=ra2.f1 rq_0
 have gd:good (some (⟨D,0,none⟩:Addr)):=⟨_,_,rfl⟩
 have gs:good (some (⟨s.nx,0,none⟩:Addr)):=⟨_,_,rfl⟩
 cases hg:mget H MB with
 |none=>
  have e':u=nI 81:=by rw [e,hg];rfl
  clear e;subst e'
  refine run1 ?_
  refine Wo.st (vs:=ansc (.slice none 0 0) 81) rfl rfl rfl rfl rfl rfl rfl (by decide) r2 (by decide) fun s3 r3 n3 k3=>?_
  change Rw s3 _ (ansc (.slice none 0 0) 81) _ at r3
  refine run1 ?_
  have hcl:=cell_at (B:=B) (t:= 140) rfl rfl r3 rfl rfl
  refine Lv.ret (vs:=[.agg ⟨ansc (.slice none 0 0) 81⟩]) ?_ ⟨?_,.inl ⟨rfl,rfl⟩⟩
  ·show (match cell1 B.P (.pointer (some ⟨(mkRow (mkRow s (rqc 1 H (.slice none 0 0))) [nI 0,nI 0,nI 0]).nx,0,none⟩)) 140 s3,some []with|some v,some vs=>some (v::vs)|_,_=>none)=_
   rw [hcl]
  ·exact Kp.new (N:=s.nx) (k01.call k2) (k3.mono fun _ e=>by rw [e];omega) (Nat.le_refl _)
 |some x=>
  have e':u=nI 0:=by rw [e,hg];rfl
  clear e;subst e'
  obtain⟨q0,c0,rfl,hx⟩:=hA x hg
  have l2:ldq s2 (qadd (some ⟨D,0,none⟩) 2)=some (.map (some rb)):=hD2.f1 h2
  have lh:ldn s2 (qadd (some ⟨s.nx,0,none⟩) 1) 32=some (H.map nB):=by
   rw [ra2.fn (by rw [rq_len hH];decide) (by decide),rq_h hH]
  have lk:∀{env:Env} {x y:Operand},ev env x=some (.map (some rb))→ev env y=some (hsh H)→Xv ⟨B, 126,none, Tryz.f126.ntmps⟩ (.lookup 77 x y false) env s2 (.slice q0 A.length c0) s2:=fun hx hy=>by
   have:=Xv.look (X:=⟨B, 126,none, Tryz.f126.ntmps⟩) (ok:=false) (t:= 77) (key:= 26) (elt:= 23) (e:= 5) (z:=.slice none 0 0) rfl Hdm zd1 rfl hx hy hH hB2
   rw [hg]at this
   exact this
  refine run1 ?_
  refine W.dr [(0,.none,0),(1,.none,1),(2,.none,3),(3,.reads,7),(4,.none,0),(5,.reads,16),(6,.reads,63),(7,.acts,127),(8,.none,255),(9,.acts,511)] (by kernel_rfl) rfl (run1 ?_)
  refine Wd.val rfl (Xv.nilC rfl) rfl (Nat.le_refl _) (run1 ?_)
  refine Wd.read rfl (Xv.ld rfl rfl rfl l2) rfl eqV_map ⟨Xv.ld rfl rfl rfl l2,trivial⟩ (run1 ?_)
  refine Wd.read rfl (Xv.ldN rfl rfl rfl lh) rfl eqV_h ⟨Xv.ldN rfl rfl rfl lh,trivial⟩ ?_
  refine Wd.read rfl (lk rfl rfl) rfl eqV_slice ⟨lk rfl rfl,trivial⟩ (run1 ?_)
  refine Wd.call rfl (Xc.call ok39 rfl) rfl ((clone_ok w2 (hx.kn w (k01.call k2)) (by omega)).mono ?_)
  rintro u s3 ⟨qa,ca,γa,rfl,ga,k3,la⟩
  have w3:=k3.wf w2
  have r3:=r2.kp w2 k3 id
  refine⟨k3.le,run1 ?_⟩
  refine Wd.st (vs:=ansc (.slice qa A.length ca) 0) rfl rfl rfl rfl rfl rfl rfl (by intro v hv;rcases List.mem_cons.1 hv with rfl|hv;rfl;exact(show ∀v∈(ansc (.slice none 0 0) 0).tail,Ev.one v=true by decide) v hv) r3 (by decide) fun s4 r4 n4 k4=>?_
  change Rw s4 _ (ansc (.slice qa A.length ca) 0) _ at r4
  refine run1 ?_
  have hcl:=cell_at (B:=B) (t:= 140) rfl rfl r4 rfl rfl
  refine Lv.ret (vs:=[.agg ⟨ansc (.slice qa A.length ca) 0⟩]) ?_ ⟨?_,.inr ⟨rfl,qa,ca,γa,rfl,ga.kp w3 k4 (by omega),by omega⟩⟩
  ·show (match cell1 B.P (.pointer (some ⟨(mkRow (mkRow s (rqc 1 H (.slice none 0 0))) [nI 0,nI 0,nI 0]).nx,0,none⟩)) 140 s4,some []with|some v,some vs=>some (v::vs)|_,_=>none)=_
   rw [hcl]
  ·exact Kp.new (N:=s.nx) ((k01.call k2).call k3) (k4.mono fun _ e=>by rw [e];omega) (Nat.le_refl _)
end Go.Proofs.YtnbdpcpgckfeeaaGreatDoor
