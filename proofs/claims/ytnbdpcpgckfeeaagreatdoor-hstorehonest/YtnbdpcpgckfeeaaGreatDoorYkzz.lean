import Derived.Test.YtnbdpcpgckfeeaaGreatDoorYhzz
namespace Go.Sy
open Go Go.Ev
theorem Kp.lat{C:Nat→Prop}{s s1 s2:St}{γ:Nat}(h:Kp C s s1)(k:Kp (fun c=>c=γ) s1 s2)(hN:s.nx≤γ):Kp C s s2:=
 ⟨Nat.le_trans h.le k.le,fun w=>k.wf (h.wf w),fun w b o hb hc=>k.kp (h.wf w) b o (h.kp w b o hb hc) fun e=>by have:=(w.lt b o hb).2;omega⟩
end Go.Sy
namespace Go.Proofs.YtnbdpcpgckfeeaaGreatDoor
open Go Go.Ev Go.Sy
set_option maxRecDepth 100000
variable{s:St}{q r:Option Addr}{c d D γ rb rv rs:Nat}{A H:List Nat}{L cs:List Value}{M:MpE}{v:Value}
def Pst(s':St)(N D γ n rs rv rb:Nat)(L:List Value)(H A:List Nat)(MS MV MB:MpE):Prop:= ∃qt ct qs ks γs MS' MV' qa ca γa,Rw s' D (L.set 43 (.slice qt 1 ct)) γ∧(∃γt,Sl s' qt (H.map nB) γt∧N≤γt)∧Mp s' rs MS'∧(∀K,mget K MS'=if K=H then some (.slice qs 1 ks)else mget K MS)∧Sl s' qs (stc (n+1) (.slice qa A.length ca) true) γs∧N≤γs∧Mp s' rv MV'∧(∀K,K≠H→mget K MV'=mget K MV)∧Mp s' rb (mput H (.slice qa A.length ca) MB)∧Sl s' qa (A.map nB) γa∧N≤γa
theorem Pst.kp{C:Nat→Prop}{s1 s2:St}{N D γ n rs rv rb:Nat}{L:List Value}{H A:List Nat}{MS MV MB:MpE}(h:Pst s1 N D γ n rs rv rb L H A MS MV MB)(w:Wf s1)(k:Kp C s1 s2)(hC:∀c,C c→c<N∧c≠γ∧c≠rs∧c≠rv∧c≠rb):Pst s2 N D γ n rs rv rb L H A MS MV MB:=by
 obtain⟨qt,ct,qs,ks,γs,MS',MV',qa,ca,γa,g1,⟨γt,g2,g2'⟩,g3,g4,g5,g6,g7,g8,g9,g10,g11⟩:=h
 have no:∀{x:Nat},N≤x→¬C x:=fun h e=>by have:=(hC _ e).1;omega
 exact⟨qt,ct,qs,ks,γs,MS',MV',qa,ca,γa,g1.kp w k (fun e=>(hC _ e).2.1 rfl),⟨γt,g2.kp w k (no g2'),g2'⟩,g3.kp w k (fun e=>(hC _ e).2.2.1 rfl),g4,g5.kp w k (no g6),g6,g7.kp w k (fun e=>(hC _ e).2.2.2.1 rfl),g8,g9.kp w k (fun e=>(hC _ e).2.2.2.2 rfl),g10.kp w k (no g11),g11⟩
theorem Pst.lo{s1:St}{N N' D γ n rs rv rb:Nat}{L:List Value}{H A:List Nat}{MS MV MB:MpE}(h:Pst s1 N D γ n rs rv rb L H A MS MV MB)(hN:N'≤N):Pst s1 N' D γ n rs rv rb L H A MS MV MB:=by
 obtain⟨qt,ct,qs,ks,γs,MS',MV',qa,ca,γa,g1,⟨γt,g2,g2'⟩,g3,g4,g5,g6,g7,g8,g9,g10,g11⟩:=h
 exact⟨qt,ct,qs,ks,γs,MS',MV',qa,ca,γa,g1,⟨γt,g2,Nat.le_trans hN g2'⟩,g3,g4,g5,Nat.le_trans hN g6,g7,g8,g9,g10,Nat.le_trans hN g11⟩
theorem honP_ok{n l:Nat}{MS MB MV:MpE}(w:Wf s)(hD:Rw s D L γ)(hl:L.length=44)(h0:L[0]? =some (nI l))(h2:L[2]? =some (.map (some rb)))(h40:L[40]? =some (.map (some rv)))(h41:L[41]? =some (.map (some rs)))(h42:L[42]? =some (.slice q n c))(h43:L[43]? =some (.slice none 0 0))(hB:Mp s rb MB)(hSl:Sls MB)(hlt:MB.length<l)(hV:Mp s rv MV)(hS:Mp s rs MS)(hgv:mget H MV=none)(hg:mget H MS=none)(hH:H.length=32)(hb:∀y∈H,y<256)(hn:n<2^39)(hne:rs≠rb∧rs≠γ∧rb≠γ)(hnv:rv≠rb∧rv≠γ∧rv≠rs)(hA:Bs s r A)(hAl:A.length<2^40):
  Cl B (.call 126 [.pointer (some ⟨D,0,none⟩),.agg ⟨rqc 2 H (.slice r A.length d)⟩,.agg ⟨[nI 0,nI 0,nI 0]⟩]) s fun u s'=>u= .agg ⟨ansc (.slice none 0 0) 0⟩∧Pst s' s.nx D γ n rs rv rb L H A MS MV MB∧Kp (fun c=>c=γ∨c=rs∨c=rb∨c=rv) s s':=by
 have hgl:=hD.lt w
 have hSlt:=hS.lt w
 have hBl:=hB.lt w
 have hVl:=hV.lt w
 refine Cl.enter Tryz.f126 fn126 rfl rfl rfl ?_
 have wa:Wf (mkRow s (rqc 2 H (.slice r A.length d))):=mkRow_wf w
 have ka:Kn s (mkRow s (rqc 2 H (.slice r A.length d))):=mkRow_kn
 have ra:Rw (mkRow s (rqc 2 H (.slice r A.length d))) s.nx (rqc 2 H (.slice r A.length d)) s.nx:=mkRow_rw
 have wb:Wf (mkRow (mkRow s (rqc 2 H (.slice r A.length d))) [nI 0,nI 0,nI 0]):=mkRow_wf wa
 have kb:Kn (mkRow s (rqc 2 H (.slice r A.length d))) (mkRow (mkRow s (rqc 2 H (.slice r A.length d))) [nI 0,nI 0,nI 0]):=mkRow_kn
 refine run1 ?_
 refine mk_gen (s:=mkRow (mkRow s (rqc 2 H (.slice r A.length d))) [nI 0,nI 0,nI 0]) (cs:=ansc (.slice none 0 0) 0) (M:=fun s'=>Wo _ _ _ _ _ s' _) fun s1 r1 n1 k1=>?_
 have w1:=k1.wf wb
 have n0:(mkRow (mkRow s (rqc 2 H (.slice r A.length d))) [nI 0,nI 0,nI 0]).nx=s.nx+2:=rfl
 have k01:=(ka.call kb).call k1
 have ra1:=(ra.kp wa kb id).kp wb k1 id
 have hD1:=hD.kp w k01 id
 have hB1:=hB.kp w k01 id
 have lq1:=ra1.all (n:=68) (rq_len hH) (by decide)
 refine run1 ?_
 refine Wo.call rfl (Xc.call ok150 rfl) rfl ((refP_ok w1 hD1 h2 h0 hB1 hSl hH hlt).mono ?_)
 rintro u s2 ⟨rfl,k2⟩
 have w2:=k2.wf w1
 have gA:good (some (⟨(mkRow (mkRow s (rqc 2 H (.slice r A.length d))) [nI 0,nI 0,nI 0]).nx,0,none⟩:Addr)):=⟨_,_,rfl⟩
 have r2:=r1.kp w1 k2 id
 have n2:=k2.le
 have k02:=k01.call k2
 have hD2:=hD.kp w k02 id
 have ra2:=ra1.kp w1 k2 id
 have l0:ldq s2 (qadd (some ⟨s.nx,0,none⟩) 0)=some (nI 2):=ra2.f1 rq_0
 have l33:ldq s2 (qadd (some ⟨s.nx,0,none⟩) 33)=some (.slice r A.length d):=ra2.f1 (rq_b hH)
 have gd:good (some (⟨D,0,none⟩:Addr)):=⟨_,_,rfl⟩
 have gs:good (some (⟨s.nx,0,none⟩:Addr)):=⟨_,_,rfl⟩
 have lh:ldn s2 (qadd (some ⟨s.nx,0,none⟩) 1) 32=some (H.map nB):=by
  rw [ra2.fn (by rw [rq_len hH];decide) (by decide),rq_h hH]
 refine run1 ?_
 refine Wo.call rfl (Xc.call ok151 rfl) rfl ((store_ok w2 hD2 hl h2 h40 h41 h42 h43 (hB.kp w k02 id) (hV.kp w k02 id) (hS.kp w k02 id) hgv hg hH hb hn hne hnv (hA.kn w k02) hAl).mono ?_)
 rintro u s3 ⟨qt,ct,qs,ks,γs,MS',MV',qa,ca,γa,g1,⟨γt,g2,g2'⟩,g3,g4,g5,g6,g7,g8,g9,g10,g11,k3⟩
 have w3:=k3.wf w2
 have r3:=r2.kp w2 k3 (by omega)
 refine run1 ?_
 have P3:Pst s3 s2.nx D γ n rs rv rb L H A MS MV MB:=⟨qt,ct,qs,ks,γs,MS',MV',qa,ca,γa,g1,⟨γt,g2,g2'⟩,g3,g4,g5,g6,g7,g8,g9,g10,g11⟩
 refine Wo.st (vs:=ansc (.slice none 0 0) 0) rfl rfl rfl rfl rfl rfl rfl (by decide) r3 (by decide) fun s4 r4 n4 k4=>?_
 change Rw s4 _ (ansc (.slice none 0 0) 0) _ at r4
 refine run1 ?_
 have hcl:=cell_at (B:=B) (t:= 140) rfl rfl r4 rfl rfl
 have k4':Kp (fun c=>c=s.nx+2) s3 s4:=k4
 refine Lv.ret (vs:=[.agg ⟨ansc (.slice none 0 0) 0⟩]) ?_ ⟨rfl,(P3.kp w3 k4' (fun c e=>by subst e;omega)).lo (by omega),?_⟩
 ·show (match cell1 B.P (.pointer (some ⟨(mkRow (mkRow s (rqc 2 H (.slice r A.length d))) [nI 0,nI 0,nI 0]).nx,0,none⟩)) 140 s4,some []with|some v,some vs=>some (v::vs)|_,_=>none)=_
  rw [hcl]
 ·exact((k02.mono fun _ e=>e.elim).trans k3).lat k4' (by omega)
end Go.Proofs.YtnbdpcpgckfeeaaGreatDoor
namespace Go.Sy
open Go Go.Ev
structure DvX(s:St)(D γ rb rv rs γa γg sl na n:Nat)(L:List Value)(MB MV MS:MpE)(Bl:List Nat→Option (List Nat))(C F:Nat→Prop):Prop where
 row:Rw s D L γ
 len:L.length=44
 l0:L[0]? =some (nI sl)
 l2:L[2]? =some (.map (some rb))
 l3:L[3]? =some (.slice none 0 0)
 l37:L[37]? =some (.bool false)
 l38:L[38]? =some (.slice none 0 0)
 l39:∃q c cs,L[39]? =some (.slice q na c)∧Gw s q na c 3 cs γa∧(0<na∨q=none)
 l40:L[40]? =some (.map (some rv))
 l41:L[41]? =some (.map (some rs))
 l42:∃q c cs,L[42]? =some (.slice q n c)∧Gw s q n c 1 cs γg∧(0<n∨q=none)
 l43:L[43]? =some (.slice none 0 0)
 mb:Mp s rb MB
 mv:Mp s rv MV
 ms:Mp s rs MS
 get:∀k,match mget k MB with
  |none=>Bl k=none∧mget k MV=none∧mget k MS=none
  |some v=> ∃A q c γb,Bl k=some A∧v= .slice q A.length c∧Sl s q (A.map nB) γb∧F γb∧¬C γb
 col:∀c,C c↔c=γ∨c=rb∨c=rv∨c=rs∨(0<na∧c=γa)∨(0<n∧c=γg)
 sub:∀c,C c→F c
 old:∀c,F c→c<s.nx
 ne:rs≠rb∧rs≠γ∧rb≠γ∧rv≠rb∧rv≠γ∧rv≠rs∧(0<na→γa≠γ∧γa≠rb∧γa≠rv∧γa≠rs)∧(0<n→γg≠γ∧γg≠rb∧γg≠rv∧γg≠rs)∧(0<na→0<n→γa≠γg)
 sm:n<2^39∧na<2^39
 l1:∃b,L[1]? =some (nI b)
 lr:(L.drop 4).take 33=nI 0::(List.replicate 32 0).map nB
theorem DvX.kp{E:Nat→Prop}{s t:St}{D γ rb rv rs γa γg sl na n:Nat}{L:List Value}{MB MV MS:MpE}{Bl:List Nat→Option (List Nat)}{C F:Nat→Prop}(h:DvX s D γ rb rv rs γa γg sl na n L MB MV MS Bl C F)(w:Wf s)(k:Kp E s t)(hE:∀c,F c→¬E c):DvX t D γ rb rv rs γa γg sl na n L MB MV MS Bl C F:=by
 have hC:∀c,C c→¬E c:=fun c h'=>hE c (h.sub c h')
 refine⟨h.row.kp w k (hC _ ((h.col _).2 (.inl rfl))),h.len,h.l0,h.l2,h.l3,h.l37,h.l38,?_,h.l40,h.l41,?_,h.l43,h.mb.kp w k (hC _ ((h.col _).2 (.inr (.inl rfl)))),h.mv.kp w k (hC _ ((h.col _).2 (.inr (.inr (.inl rfl))))),h.ms.kp w k (hC _ ((h.col _).2 (.inr (.inr (.inr (.inl rfl)))))),?_,h.col,h.sub,fun c hc=>Nat.lt_of_lt_of_le (h.old c hc) k.le,h.ne,h.sm,h.l1,h.lr⟩
 ·obtain⟨q,c,cs,a,b,d⟩:=h.l39
  exact⟨q,c,cs,a,b.keep w k (fun e=>hC _ ((h.col _).2 (.inr (.inr (.inr (.inr (.inl ⟨d.resolve_right e,rfl⟩))))))),d⟩
 ·obtain⟨q,c,cs,a,b,d⟩:=h.l42
  exact⟨q,c,cs,a,b.keep w k (fun e=>hC _ ((h.col _).2 (.inr (.inr (.inr (.inr (.inr ⟨d.resolve_right e,rfl⟩))))))),d⟩
 ·intro key
  have g:=h.get key
  revert g
  cases mget key MB with
  |none=>exact id
  |some v=>rintro⟨A,q,c,γb,a,b,d,e,f⟩;exact⟨A,q,c,γb,a,b,d.kp w k (hE _ e),e,f⟩
theorem DvX.sls{s:St}{D γ rb rv rs γa γg sl na n:Nat}{L:List Value}{MB MV MS:MpE}{Bl:List Nat→Option (List Nat)}{C F:Nat→Prop}(h:DvX s D γ rb rv rs γa γg sl na n L MB MV MS Bl C F):∀k v,mget k MB=some v→∃q n c,v= .slice q n c:=by
 intro k v hk
 have g:=h.get k
 rw [hk]at g
 obtain⟨A,q,c,_,_,e,_⟩:=g
 exact⟨q,_,c,e⟩
def dvc(γ rb rv rs γa γg na n:Nat)(c:Nat):Prop:=c=γ∨c=rb∨c=rv∨c=rs∨(0<na∧c=γa)∨(0<n∧c=γg)
def dvg(s:St)(MB MV MS:MpE)(Bl:List Nat→Option (List Nat))(C F:Nat→Prop)(k:List Nat):Prop:=match mget k MB with
  |none=>Bl k=none∧mget k MV=none∧mget k MS=none
  |some v=> ∃A q c γb,Bl k=some A∧v= .slice q A.length c∧Sl s q (A.map nB) γb∧F γb∧¬C γb
section
variable{s t:St}{D γ rb rv rs γa γg γa' γg' sl na n na' n':Nat}{L L':List Value}{MB MV MS MB' MV' MS':MpE}{Bl Bl':List Nat→Option (List Nat)}{C F E F':Nat→Prop}
theorem DvX.getk(h:DvX s D γ rb rv rs γa γg sl na n L MB MV MS Bl C F)(w:Wf s)(k:Kp C s t)(hca:0<na'→(0<na∧γa'=γa)∨s.nx≤γa')(hcg:0<n'→(0<n∧γg'=γg)∨s.nx≤γg')(hF:∀c,F c→F' c)(key:List Nat)(e1:mget key MB'=mget key MB)(e2:mget key MV'=mget key MV)(e3:mget key MS'=mget key MS)(e4:Bl' key=Bl key):dvg t MB' MV' MS' Bl' (dvc γ rb rv rs γa' γg' na' n') F' key:=by
 have g:=h.get key
 unfold dvg
 rw [e1,e2,e3,e4]
 revert g
 cases mget key MB with
 |none=>exact id
 |some v=>
  rintro⟨A,q,c,γb,a,b,d,e,f⟩
  have lo:=h.old _ e
  refine⟨A,q,c,γb,a,b,d.kp w k f,hF _ e,fun x=>?_⟩
  refine f ((h.col _).2 ?_)
  rcases x with x|x|x|x|⟨x,y⟩|⟨x,y⟩
  ·exact .inl x
  ·exact .inr (.inl x)
  ·exact .inr (.inr (.inl x))
  ·exact .inr (.inr (.inr (.inl x)))
  ·rcases hca x with⟨p,q⟩|p
   ·exact .inr (.inr (.inr (.inr (.inl ⟨p,by rw [y,q]⟩))))
   ·omega
  ·rcases hcg x with⟨p,q⟩|p
   ·exact .inr (.inr (.inr (.inr (.inr ⟨p,by rw [y,q]⟩))))
   ·omega
theorem DvX.upd(h:DvX s D γ rb rv rs γa γg sl na n L MB MV MS Bl C F)(_w:Wf s)(_hn:s.nx≤t.nx)(r:Rw t D L' γ)(hl:L'.length=44)(hL:∀i,i≠39→i≠42→L'[i]? =L[i]?)(h39:∃q c cs,L'[39]? =some (.slice q na' c)∧Gw t q na' c 3 cs γa'∧(0<na'∨q=none))(h42:∃q c cs,L'[42]? =some (.slice q n' c)∧Gw t q n' c 1 cs γg'∧(0<n'∨q=none))
  (hca:0<na'→(0<na∧γa'=γa)∨(s.nx≤γa'∧γa'<t.nx)) (hcg:0<n'→(0<n∧γg'=γg)∨(s.nx≤γg'∧γg'<t.nx)) (hag:0<na'→0<n'→γa'≠γg') (sm:n'<2^39∧na'<2^39) (mb:Mp t rb MB') (mv:Mp t rv MV') (ms:Mp t rs MS') (hF:∀c,dvc γ rb rv rs γa' γg' na' n' c→F' c) (hF':∀c,F' c→c<t.nx) (get:∀k,dvg t MB' MV' MS' Bl' (dvc γ rb rv rs γa' γg' na' n') F' k):
  DvX t D γ rb rv rs γa' γg' sl na' n' L' MB' MV' MS' Bl' (dvc γ rb rv rs γa' γg' na' n') F':=by
 obtain⟨x1,x2,x3,x4,x5,x6,x7,x8,x9⟩:=h.ne
 have hC:∀c,C c→c<s.nx:=fun c hc=>h.old c (h.sub c hc)
 have o1:=hC γ ((h.col _).2 (.inl rfl))
 have o2:=hC rb ((h.col _).2 (.inr (.inl rfl)))
 have o3:=hC rv ((h.col _).2 (.inr (.inr (.inl rfl))))
 have o4:=hC rs ((h.col _).2 (.inr (.inr (.inr (.inl rfl)))))
 refine⟨r,hl,by rw [hL _ (by decide) (by decide)];exact h.l0,by rw [hL _ (by decide) (by decide)];exact h.l2,by rw [hL _ (by decide) (by decide)];exact h.l3,by rw [hL _ (by decide) (by decide)];exact h.l37,by rw [hL _ (by decide) (by decide)];exact h.l38,h39,by rw [hL _ (by decide) (by decide)];exact h.l40,by rw [hL _ (by decide) (by decide)];exact h.l41,h42,by rw [hL _ (by decide) (by decide)];exact h.l43,mb,mv,ms,get,fun c=>Iff.rfl,hF,hF',⟨x1,x2,x3,x4,x5,x6,fun p=>?_,fun p=>?_,hag⟩,sm,by rw [hL _ (by decide) (by decide)];exact h.l1,?_⟩
 ·rcases hca p with⟨a,rfl⟩|⟨a,b⟩
  ·exact x7 a
  ·omega
 ·rcases hcg p with⟨a,rfl⟩|⟨a,b⟩
  ·exact x8 a
  ·omega
 ·rw [←h.lr]
  refine List.ext_getElem? fun i=>?_
  rw [List.getElem?_take,List.getElem?_take,List.getElem?_drop,List.getElem?_drop]
  split
  ·exact hL _ (by omega) (by omega)
  ·rfl
end
end Go.Sy
namespace Go.Proofs.YtnbdpcpgckfeeaaGreatDoor
open Go Go.Ev Go.Sy
set_option maxRecDepth 100000
variable{s:St}{q r:Option Addr}{c d D γ rb rv rs γa γg:Nat}{A H:List Nat}{L cs:List Value}{MB MV MS:MpE}{v:Value}
theorem one_sg{x:Value}(h:Ev.one x=true:=by rfl):∀v∈[x],Ev.one v=true:=fun v hv=>by rw [List.mem_singleton.1 hv];exact h
theorem rq_eqV{k:Nat}{q:Option Addr}{n c:Nat}:eqV 5 (.agg ⟨rqc k H (.slice q n c)⟩) (.agg ⟨rqc k H (.slice q n c)⟩)=true:=eqV_agg fun u hu=>by
 unfold rqc at hu
 simp only[List.mem_cons,List.mem_append,List.mem_map]at hu
 rcases hu with rfl|⟨_,_,rfl⟩|rfl|rfl|rfl|⟨_,_,rfl⟩
 ·exact eqV4i
 ·exact eqV4i
 ·exact eqV4
 ·exact eqV4i
 ·exact eqV4i
 ·exact eqV4i
theorem ch_eqV:eqV 5 (.agg ⟨[nI 0,nI 0,nI 0]⟩) (.agg ⟨[nI 0,nI 0,nI 0]⟩)=true:=rfl
theorem ans_one{q:Option Addr}{n c e:Nat}:∀v∈ansc (.slice q n c) e,Ev.one v=true:=fun v hv=>by
 unfold ansc zh at hv
 simp only[List.mem_cons,List.mem_append,List.mem_map,List.not_mem_nil,or_false]at hv
 rcases hv with rfl|rfl|rfl|⟨_,_,rfl⟩|rfl
 all_goals rfl
theorem accG_ok{sl na n:Nat}{Bl:List Nat→Option (List Nat)}{C F:Nat→Prop}(w:Wf s)(h:DvX s D γ rb rv rs γa γg sl na n L MB MV MS Bl C F)(hH:H.length=32)(hAl:∀A,Bl H=some A→A.length<2^40)(hna:na+1<2^39):
  Cl B (.call 81 [.pointer (some ⟨D,0,none⟩),.agg ⟨rqc 1 H (.slice none 0 0)⟩]) s fun u s'=> ∃γa' L' C' F',DvX s' D γ rb rv rs γa' γg sl (na+1) n L' MB MV MS Bl C' F'∧(∀c,F' c→F c∨s.nx≤c)∧Kp C s s'∧((Bl H=none∧u= .agg ⟨ansc (.slice none 0 0) 81⟩)∨∃A q c γx,Bl H=some A∧u= .agg ⟨ansc (.slice q A.length c) 0⟩∧Gw s' q A.length c 1 (A.map nB) γx∧s.nx≤γx∧¬F' γx):=by
 have hgl:=h.row.lt w
 refine Cl.enter Tryz.f81 fn81 rfl rfl rfl ?_
 have wa:Wf (mkRow s (rqc 1 H (.slice none 0 0))):=mkRow_wf w
 have ka:Kn s (mkRow s (rqc 1 H (.slice none 0 0))):=mkRow_kn
 have ra:Rw (mkRow s (rqc 1 H (.slice none 0 0))) s.nx (rqc 1 H (.slice none 0 0)) s.nx:=mkRow_rw
 refine run1 ?_
 refine mk_gen (s:=mkRow s (rqc 1 H (.slice none 0 0))) (cs:=ansc (.slice none 0 0) 0) (M:=fun s'=>Wo _ _ _ _ _ s' _) fun s1 r1 n1 k1=>?_
 have w1:=k1.wf wa
 have n0:(mkRow s (rqc 1 H (.slice none 0 0))).nx=s.nx+1:=rfl
 have k01:=ka.call k1
 have ra1:=ra.kp wa k1 id
 have h1:=h.kp w k01 fun _ _=>id
 have gd:good (some (⟨D,0,none⟩:Addr)):=⟨_,_,rfl⟩
 have gs:good (some (⟨s.nx,0,none⟩:Addr)):=⟨_,_,rfl⟩
 have ga:good (some (⟨(mkRow s (rqc 1 H (.slice none 0 0))).nx,0,none⟩:Addr)):=⟨_,_,rfl⟩
 have lq1:=ra1.all (n:=68) (rq_len hH) (by decide)
 have l37:ldq s1 (qadd (some ⟨D,0,none⟩) 37)=some (.bool false):=h1.row.f1 h1.l37
 refine run1 ?_
 refine Wo.val rfl (Xv.pEq rfl rfl rfl) rfl (run1 ?_)
 refine Wo.val rfl (Xv.nilC rfl) rfl (run1 ?_)
 refine Wo.call rfl (Xc.call ok101 rfl) rfl ((mayG_ok w1 hH).mono ?_)
 rintro u s2 ⟨rfl,k2⟩
 have w2:=k2.wf w1
 have h2:=h1.kp w1 k2 fun _ _=>id
 refine run1 ?_
 refine Wo.call rfl (Xc.call ok102 rfl) rfl ((next_ok w2 h2.row h2.l38).mono ?_)
 rintro u s3 ⟨rfl,k3⟩
 have w3:=k3.wf w2
 refine run1 ?_
 refine mk_gen (s:=s3) (cs:=[nI 0,nI 0,nI 0]) (M:=fun s'=>Wo _ _ _ _ _ s' _) fun s4 r4 n4 k4=>?_
 have w4:=k4.wf w3
 refine Wo.st (vs:=[nI 0,nI 0,nI 0]) rfl rfl rfl rfl rfl rfl rfl (by decide) r4 (by decide) fun s5 r5 n5 k5=>?_
 change Rw s5 _ [nI 0,nI 0,nI 0] _ at r5
 have e1:=k01.le
 have e2:=k2.le
 have e3:=k3.le
 have w5:=k5.wf w4
 have k35:Kn s3 s5:=k4.app k5 (Nat.le_refl _)
 have k05:Kn s s5:=(k01.call (k2.call k3)).call k35
 have h5:=h.kp w k05 fun _ _=>id
 have ra5:=((ra1.kp w1 k2 id).kp w2 k3 id).kp w3 k35 id
 have rn5:=((r1.kp w1 k2 id).kp w2 k3 id).kp w3 k35 id
 have gc:good (some (⟨s3.nx,0,none⟩:Addr)):=⟨_,_,rfl⟩
 have l3:ldq s5 (qadd (some ⟨D,0,none⟩) 3)=some (.slice none 0 0):=h5.row.f1 h5.l3
 refine run1 ?_
 refine Wo.val rfl (Xv.nilC rfl) rfl (run1 ?_)
 refine W.dr [(0,.acts,0),(1,.none,0),(2,.reads,2),(3,.none,7),(4,.none,0),(5,.reads,16),(6,.acts,63),(7,.none,0),(8,.reads,0),(9,.reads,0),(10,.acts,1023),(11,.makes,0),(12,.acts,4095)] (by kernel_rfl) rfl (run1 ?_)
 refine Wd.call rfl (Xc.call ok103 rfl) rfl ((deeds_ok w5).mono ?_)
 rintro u s6 ⟨rfl,k6⟩
 have w6:=k6.wf w5
 have e5:=k5.le
 have e6:=k6.le
 have ra6:=ra5.kp w5 k6 id
 have rn6:=rn5.kp w5 k6 id
 have r6:=r5.kp w5 k6 id
 have lc5:ldq s5 (qadd (some ⟨s3.nx,0,none⟩) 0)=some (nI 0):=r5.f1 rfl
 have lc6:ldq s6 (qadd (some ⟨s3.nx,0,none⟩) 0)=some (nI 0):=r6.f1 rfl
 have l05:ldq s5 (qadd (some ⟨s.nx,0,none⟩) 0)=some (nI 1):=ra5.f1 rq_0
 have l06:ldq s6 (qadd (some ⟨s.nx,0,none⟩) 0)=some (nI 1):=ra6.f1 rq_0
 refine⟨k6.le,run1 ?_⟩
 refine Wd.val rfl (Xv.ixN (i:=0) rfl rfl rfl rfl rfl (by decide) (by decide)) rfl (Nat.le_refl _) (run1 ?_)
 refine Wd.call rfl (Xc.call ok104 rfl) rfl ((to1_ok (k:=1) (a:=fv 126) (b:=fv 126) (c:=fv 126) (e:=fv 126) w6 (.inl rfl) rfl rfl).mono ?_)
 rintro u s7 ⟨e,k7⟩
 have e':u=fv 126 :=e
 clear e;subst e'
 have w7:=k7.wf w6
 have e7:=k7.le
 have ra7:=ra6.kp w6 k7 id
 have lq5:=ra5.all (n:=68) (rq_len hH) (by decide)
 have lq6:=ra6.all (n:=68) (rq_len hH) (by decide)
 have lq7:=ra7.all (n:=68) (rq_len hH) (by decide)
 refine⟨k7.le,run1 ?_⟩
 have r7:=r6.kp w6 k7 id
 have lk5:=r5.all (n:=3) rfl (by decide)
 have lk6:=r6.all (n:=3) rfl (by decide)
 have lk7:=r7.all (n:=3) rfl (by decide)
 refine Wd.read rfl (Xv.ldN rfl rfl rfl lq7) rfl rq_eqV ⟨Xv.ldN rfl rfl rfl lq7,Xv.ldN rfl rfl rfl lq6,Xv.ldN rfl rfl rfl lq5,trivial⟩ (run1 ?_)
 refine Wd.read rfl (Xv.ldN rfl rfl rfl lk7) rfl ch_eqV ⟨Xv.ldN rfl rfl rfl lk7,Xv.ldN rfl rfl rfl lk6,Xv.ldN rfl rfl rfl lk5,trivial⟩ (run1 ?_)
 have k07:Kn s s7:=k05.call (k6.call k7)
 have h7:=h.kp w k07 fun _ _=>id
 obtain⟨A,a1,a2,a3⟩:∃A:List Nat,A.length<2^40∧(∀u,mget H MB=some u→∃q c,u= .slice q A.length c∧At s7 q (A.map nB))∧Bl H=(if(mget H MB).isSome then some A else none):=by
  have g:=h7.get H
  revert g
  cases mget H MB with
  |none=>rintro⟨g,_⟩;exact⟨[],by decide,(fun _ h=>by cases h),g⟩
  |some v=>rintro⟨A,q,c,γb,g,rfl,g1,_⟩;exact⟨A,hAl A g,(fun u h=>by cases h;exact⟨q,c,rfl,g1.at⟩),g⟩
 refine Wd.call rfl (Xc.callv rfl ok126 rfl) rfl ((honG_ok (A:=A) w7 h7.row h7.len h7.l2 h7.mb h7.sls hH a2 a1).mono ?_)
 rintro u s8 ⟨k8,hu⟩
 have w8:=k8.wf w7
 have e8:=k8.le
 obtain⟨qx,nx,cx,ex,rfl,hx⟩:∃q n c e,u= .agg ⟨ansc (.slice q n c) e⟩∧((Bl H=none∧ansc (.slice q n c) e=ansc (.slice none 0 0) 81)∨∃γx,Bl H=some A∧n=A.length∧e=0∧Gw s8 q A.length c 1 (A.map nB) γx∧s7.nx≤γx):=by
  rcases hu with⟨g,rfl⟩|⟨g,q,c,γx,rfl,g1,g2⟩
  ·exact⟨none,0,0,81,rfl,.inl ⟨by rw [a3,g];rfl,rfl⟩⟩
  ·exact⟨q,A.length,c,0,rfl,.inr ⟨γx,by rw [a3,if_pos g],rfl,rfl,g1,g2⟩⟩
 refine⟨k8.le,run1 ?_⟩
 refine mk_gen (s:=s8) (cs:=ansc (.slice none 0 0) 0) (M:=fun s'=>Wd _ _ _ _ _ _ s' _) fun s9 r9 n9 k9=>?_
 have w9:=k9.wf w8
 refine Wd.st (vs:=ansc (.slice qx nx cx) ex) rfl rfl rfl rfl rfl rfl rfl ans_one r9 (by decide) fun s10 r10 n10 k10=>?_
 change Rw s10 _ (ansc (.slice qx nx cx) ex) _ at r10
 have w10:=k10.wf w9
 have k810:Kn s8 s10:=k9.app k10 (Nat.le_refl _)
 have k010:Kn s s10:=k07.call (k8.call k810)
 have h10:=h.kp w k010 fun _ _=>id
 have gq:good (some (⟨s8.nx,0,none⟩:Addr)):=⟨_,_,rfl⟩
 refine run1 ?_
 refine Wo.call rfl (Xc.call ok105 rfl) rfl ((settleG_ok w10 h10.row h10.l3 h10.l43 h10.len).mono ?_)
 rintro u s11 ⟨g11,k11⟩
 have w11:=k11.wf w10
 have q5:s10.nx=s8.nx+1:=by omega
 have ra11:=((((ra7.kp w7 k8 id).kp w8 k810 id).kp w10 k11 (by omega)))
 have rn11:=((((((rn6.kp w6 k7 id)).kp w7 k8 id).kp w8 k810 id).kp w10 k11 (by omega)))
 have r11:=((((r7.kp w7 k8 id).kp w8 k810 id).kp w10 k11 (by omega)))
 have rq11:=r10.kp w10 k11 (by omega)
 obtain⟨qac,cac,csa,l39,Ga,za⟩:=h10.l39
 have lA:ldq s11 (qadd (some ⟨D,0,none⟩) 39)=some (.slice qac na cac):=g11.f1 l39
 have lK:ldq s11 (qadd (some ⟨s.nx,0,none⟩) 0)=some (nI 1):=ra11.f1 rq_0
 have lC:ldq s11 (qadd (some ⟨s3.nx,0,none⟩) 0)=some (nI 0):=r11.f1 rfl
 have lE:ldq s11 (qadd (some ⟨s8.nx,0,none⟩) 35)=some (nI ex):=rq11.f1 rfl
 have Ga11:Gw s11 qac na cac 3 csa γa:=Ga.keep w10 k11 (fun e=>(h.ne.2.2.2.2.2.2.1 (za.resolve_right e)).1)
 refine run1 ?_
 refine W.dr [(1,.none,0),(2,.none,2),(3,.none,6),(4,.reads,14),(5,.none,0),(6,.reads,32),(7,.none,0),(8,.reads,128),(9,.none,0),(10,.reads,512),(11,.none,1536),(12,.none,4064),(13,.makes,8160),(14,.acts,16382),(0,.none,0),(15,.none,32767),(16,.none,65535),(17,.acts,131071)] (by kernel_rfl) rfl (run1 ?_)
 refine Wd.val rfl (Xv.nilC rfl) rfl (Nat.le_refl _) (run1 ?_)
 generalize decide (ex=0)=bx
 refine Wd.val rfl (Xv.buildE (cs:=[nI 1,nI 0,.bool bx]) rfl (fill_cons (vs:=[nI 1]) rfl rfl rfl rfl one_sg (by decide) (fill_cons (vs:=[nI 0]) rfl rfl rfl rfl one_sg (by decide) (fill_cons (vs:=[.bool bx]) rfl rfl (by cases bx<;>rfl) rfl (one_sg (by cases bx<;>rfl)) (by decide) rfl)))) rfl (Nat.le_refl _) (run1 ?_)
 have l3b:[nI 1,nI 0,Value.bool bx].length=3:=rfl
 have ob:∀v∈[nI 1,nI 0,.bool bx],Ev.one v=true:=by intro v hv;simp only[List.mem_cons,List.not_mem_nil,or_false]at hv;rcases hv with rfl|rfl|rfl;rfl;rfl;cases bx<;>rfl
 refine mk_gen (s:=s11) (cs:=[nI 1,nI 0,.bool bx]) (M:=fun s'=>Wd _ _ _ _ _ _ s' _) fun s12 r12 n12 k12=>?_
 have w12:=k12.wf w11
 refine Wd.app2 (k:=1) rfl rfl rfl rfl rfl rfl rfl rfl rfl w12 (Ga11.kp w11 k12 id) rfl (cells_at (k:=1) (size:=3) r12.ats rfl (by decide)) rfl ob rfl (by omega) (by omega) ?_
 intro q13 c13 γ13 s13 G13 k13 hγ13
 have w13:=k13.wf w12
 have k13':Kp (fun c=>0<na∧c=γa) s12 s13:=k13.mono fun _ e=>⟨za.resolve_right e.1,e.2⟩
 have oa:∀{c},C c→c<s.nx:=fun h'=>h.old _ (h.sub _ h')
 have oγa:0<na→γa<s.nx:=fun p=>oa ((h.col _).2 (.inr (.inr (.inr (.inr (.inl ⟨p,rfl⟩))))))
 have noX:∀{x:Nat},s.nx≤x→¬(0<na∧x=γa):=fun p q=>by have:=oγa q.1;omega
 have na7:=h.ne.2.2.2.2.2.2.1
 have R13:Rw s13 D L γ:=(g11.kp w11 k12 id).kp w12 k13' (fun e=>(na7 e.1).1 e.2.symm)
 refine run1 ?_
 refine Wd.val rfl (Xv.nilC rfl) rfl (Nat.le_refl _) (run1 ?_)
 refine Wd.st (vs:=[.slice q13 (na+1) c13]) rfl rfl rfl rfl rfl rfl rfl (by intro v hv;rw [List.mem_singleton.1 hv];rfl) R13 (by rw [h.len];decide) fun s14 r14 n14 k14=>?_
 rw [Nat.zero_add,lov1 (by rw [h.len];decide)]at r14
 have w14:=k14.wf w13
 have e11:=k11.le
 have e12:=k12.le
 have e13:=k13.le
 have rq14:Rw s14 s8.nx (ansc (.slice qx nx cx) ex) s8.nx:=(((rq11.kp w11 k12 id).kp w12 k13' (noX (by omega))).kp w13 k14 (by omega))
 have rn14:=(((rn11.kp w11 k12 id).kp w12 k13' (noX (by omega))).kp w13 k14 (by omega))
 have lq14:=rq14.all (n:=36) rfl (by decide)
 refine run1 ?_
 refine Wo.st (vs:=ansc (.slice qx nx cx) ex) rfl rfl rfl rfl rfl rfl rfl ans_one rn14 (by decide) fun s15 r15 n15 k15=>?_
 change Rw s15 (mkRow s (rqc 1 H (.slice none 0 0))).nx (ansc (.slice qx nx cx) ex) _ at r15
 refine run1 ?_
 have hcl:=cell_at (B:=B) (t:= 140) rfl rfl r15 rfl rfl
 have e14:=k14.le
 have n16:s.nx+1<s10.nx:=by omega
 have w15:=k15.wf w14
 have k15':Kp (fun c=>c=s.nx+1) s14 s15:=k15
 have cC:∀{c},c=γ∨(0<na∧c=γa)→C c:=fun e=>(h.col _).2 (e.imp id fun e=>.inr (.inr (.inr (.inl e))))
 have K14:Kp (fun c=>c=γ∨(0<na∧c=γa)) s10 s14:=((k11.mono fun _ e=>.inl e).trans (k12.mono fun _ e=>e.elim)).trans ((k13'.mono fun _ e=>.inr e).trans (k14.mono fun _ e=>.inl e))
 have K15:Kp (fun c=>c=γ∨(0<na∧c=γa)∨c=s.nx+1) s10 s15:=(K14.mono fun _ e=>e.imp id .inl).trans (k15'.mono fun _ e=>.inr (.inr e))
 have K0:Kp C s s15:=((k010.mono fun _ e=>e.elim).trans (K14.mono fun _ e=>cC e)).lat k15' (by omega)
 obtain⟨x1,x2,x3,x4,x5,x6,x7,x8,x9⟩:=h.ne
 have ob:=oa ((h.col rb).2 (.inr (.inl rfl)))
 have ov:=oa ((h.col rv).2 (.inr (.inr (.inl rfl))))
 have os:=oa ((h.col rs).2 (.inr (.inr (.inr (.inl rfl)))))
 have og:0<n→γg<s.nx:=fun p=>oa ((h.col _).2 (.inr (.inr (.inr (.inr (.inr ⟨p,rfl⟩))))))
 have e0:=k010.le
 have e15:=K15.le
 have g13:γ13=s12.nx∨(0<na∧γ13=γa):=hγ13.elim (fun e=>.inr ⟨za.resolve_right e.1,e.2⟩) .inl
 have G15:Gw s15 q13 (na+1) c13 3 (csa++[nI 1,nI 0,.bool bx]) γ13:=by
  refine(G13.kp w13 k14 ?_).kp w14 k15' ?_
  ·rcases g13 with e|⟨p,e⟩
   ·omega
   ·rw [e];exact(x7 p).1
  ·rcases g13 with e|⟨p,e⟩
   ·omega
   ·have:=oγa p;omega
 have r15':=r14.kp w14 k15' (by omega)
 have hq13:q13≠none:=fun e=>by
  rcases G13.at' with⟨_,h,_⟩|⟨_,_,h,_⟩
  ·omega
  ·rw [e]at h;cases h
 have lt13:=G13.ltw w13 hq13
 have hca:0<na+1→(0<na∧γ13=γa)∨(s.nx≤γ13∧γ13<s15.nx):=fun _=>g13.elim (fun e=>.inr ⟨by omega,by omega⟩) .inl
 have D15:=h.upd (t:=s15) (L':=L.set 39 (.slice q13 (na+1) c13)) (na':=na+1) (n':=n) (γa':=γ13) (γg':=γg) (MB':=MB) (MV':=MV) (MS':=MS) (Bl':=Bl) (F':=fun c=>F c∨dvc γ rb rv rs γ13 γg (na+1) n c) w (by omega) r15' (by rw [List.length_set];exact h.len) (fun i a _=>by rw [List.getElem?_set_ne (fun e=>a e.symm)])
  ⟨q13,c13,_,by rw [List.getElem?_set_self (by rw [h.len];decide)],G15,.inl (by omega)⟩
  (by
   obtain⟨q,c,cs,a,b,d⟩:=h10.l42
   refine⟨q,c,cs,by rw [List.getElem?_set_ne (by decide)];exact a,b.keep w10 K15 (fun e=>?_),d⟩
   have p:=d.resolve_right e
   have:=og p
   rintro(e|⟨p',e⟩|e)
   ·exact(x8 p).1 e
   ·exact x9 p' p e.symm
   ·omega)
  hca (fun p=>.inl ⟨p,rfl⟩) (fun _ p=>by
   have:=og p
   rcases g13 with e|⟨p',e⟩
   ·omega
   ·rw [e];exact x9 p' p) ⟨h.sm.1,hna⟩
  (h10.mb.kp w10 K15 (by rintro(e|⟨p,e⟩|e);exact x3 e;exact(x7 p).2.1 e.symm;omega))
  (h10.mv.kp w10 K15 (by rintro(e|⟨p,e⟩|e);exact x5 e;exact(x7 p).2.2.1 e.symm;omega))
  (h10.ms.kp w10 K15 (by rintro(e|⟨p,e⟩|e);exact x2 e;exact(x7 p).2.2.2 e.symm;omega))
  (fun c=>.inr) (fun c e=>by
   rcases e with e|e|e|e|e|⟨_,e⟩|⟨p,e⟩
   ·have:=h.old c e;omega
   ·omega
   ·omega
   ·omega
   ·omega
   ·omega
   ·have:=og p;omega)
  (fun k=>h.getk w K0 (fun p=>(hca p).imp id And.left) (fun p=>.inl ⟨p,rfl⟩) (fun c=>.inl) k rfl rfl rfl rfl)
 have F15:∀c,F c∨dvc γ rb rv rs γ13 γg (na+1) n c→F c∨s.nx≤c:=fun c e=>by
  rcases e with e|e|e|e|e|⟨_,e⟩|⟨p,e⟩
  ·exact .inl e
  ·exact .inl (h.sub _ ((h.col _).2 (.inl e)))
  ·exact .inl (h.sub _ ((h.col _).2 (.inr (.inl e))))
  ·exact .inl (h.sub _ ((h.col _).2 (.inr (.inr (.inl e)))))
  ·exact .inl (h.sub _ ((h.col _).2 (.inr (.inr (.inr (.inl e))))))
  ·rcases g13 with g|⟨p,g⟩
   ·exact .inr (by omega)
   ·exact .inl (h.sub _ ((h.col _).2 (.inr (.inr (.inr (.inr (.inl ⟨p,by rw [e,g]⟩)))))))
  ·exact .inl (h.sub _ ((h.col _).2 (.inr (.inr (.inr (.inr (.inr ⟨p,e⟩)))))))
 have hnF:∀{x:Nat},s.nx≤x→x≠s12.nx→¬(F x∨dvc γ rb rv rs γ13 γg (na+1) n x):=fun{x} a b e=>by
  rcases e with e|e|e|e|e|⟨_,e⟩|⟨p,e⟩
  ·have:=h.old x e;omega
  ·omega
  ·omega
  ·omega
  ·omega
  ·rcases g13 with g|⟨p,g⟩
   ·omega
   ·have:=oγa p;omega
  ·have:=og p;omega
 refine Lv.ret (vs:=[.agg ⟨ansc (.slice qx nx cx) ex⟩]) ?_ ⟨γ13,_,_,_,D15,F15,K0,?_⟩
 ·show (match cell1 B.P (.pointer (some ⟨(mkRow s (rqc 1 H (.slice none 0 0))).nx,0,none⟩)) 140 s15,some []with|some v,some vs=>some (v::vs)|_,_=>none)=_
  rw [hcl]
 ·rcases hx with⟨a,b⟩|⟨γx,a,rfl,rfl,G,lo⟩
  ·exact .inl ⟨a,congrArg (fun x=>Value.agg ⟨x⟩) b⟩
  ·refine .inr ⟨A,qx,cx,if qx=none then s10.nx else γx,a,rfl,?_,?_,?_⟩
   ·by_cases e:qx=none
    ·exact G.any e
    ·rw [if_neg e]
     have:=G.ltw w8 e
     exact(G.kp w8 k810 id).kp w10 K15 (by rintro(e|⟨p,e⟩|e);omega;have:=oγa p;omega;omega)
   ·split
    ·omega
    ·omega
   ·by_cases e:qx=none
    ·rw [if_pos e];exact hnF (by omega) (by omega)
    ·rw [if_neg e]
     have:=G.ltw w8 e
     exact hnF (by omega) (by omega)
end Go.Proofs.YtnbdpcpgckfeeaaGreatDoor
