import Derived.Test.YtnbdpcpgckfeeaaGreatDoorZizz
import Derived.Test.YtnbdpcpgckfeeaaGreatDoorCazz
import Derived.Test.YtnbdpcpgckfeeaaGreatDoorFjzz
namespace Go.Sy
open Go Go.Ev
section
variable{X:Fx}{env:Env}{s:St}
theorem Xv.remZ{t t':TypeId}{x y:Operand}{a z:Int}{n:Nat}(hx:ev env x=some (.int .i64 a))(hy:ev env y=some (.int .i64 (.ofNat n)))(hn:n≠0)(hz:a.tmod (Int.ofNat n)=z):Xv X (.binOp .rem t x y t') env s (.int .i64 z) s:=fun tm hf=>by
 show xBin X.P .rem t x y (opd tm x) (opd tm y) s=_
 rw [ev_opd hf hx,ev_opd hf hy]
 have hn':¬(Int.ofNat n=0):=fun h=>hn (Int.ofNat.inj h)
 have e:pureRun X.P (binOp .rem t (.int .i64 a) (.int .i64 (.ofNat n)))=some (.int .i64 z):=by
  show pureRun X.P (Op.intDiv .rem .i64 a (.ofNat n))=_
  unfold Op.intDiv
  rw [if_neg hn',hz];rfl
 have o:ofPure X.P (binOp .rem t (.int .i64 a) (.int .i64 (.ofNat n))) s= .ok (.val (.int .i64 z)) s:=by
  unfold ofPure
  rw [e]
  show fI z (fun n=>Re.ok (.val (.int .i64 n)) s)=_
  rw [fI_eq]
 show ints X.P .rem t .i64 .i64 a (.ofNat n) s=_
 cases a with
 |ofNat m=>
  have hr:arN .rem .i64 m n=some (m%n):=by
   show cond (Nat.beq n 0) none (some (Nat.mod m n))=_
   rw [show Nat.beq n 0=false by cases n with|zero=>exact absurd rfl hn|succ n=>rfl];rfl
  have hz':z=Int.ofNat (m%n):=by rw [←hz];rfl
  show cond true (match arN .rem .i64 m n with|some n=>okN .i64 n s|none=>_) .no=_
  rw [hr,hz']
  show okN .i64 (m%n) s=_
  unfold okN;rw [fN_eq]
 |negSucc m=>exact o
theorem Xv.negZ{t:TypeId}{x:Operand}{a z:Int}(hx:ev env x=some (.int .i64 a))(hz:IntKind.wrap .i64 (0-a)=z):Xv X (.unOp .neg t x) env s (.int .i64 z) s:=fun tm hf=>by
 show xUn X.P .neg (opd tm x) s=_
 rw [ev_opd hf hx]
 show ofPure X.P (Op.unary .neg (.int .i64 a)) s=_
 have e:pureRun X.P (Op.unary .neg (.int .i64 a))=some (.int .i64 z):=by
  show some (Value.int .i64 (IntKind.wrap .i64 (0-a)))=_
  rw [hz]
 unfold ofPure
 rw [e]
 show fI z (fun n=>Re.ok (.val (.int .i64 n)) s)=_
 rw [fI_eq]
end
end Go.Sy
namespace Go.Proofs.YtnbdpcpgckfeeaaGreatDoor
open Go Go.Ev Go.Sy
set_option maxRecDepth 100000
section
variable{s:St}{γ:Nat}
theorem zsecret_ok(w0:Wf s):Cl B (.call 9 [.slice none 0 0]) s fun v s'=> ∃q c γ,v= .slice q 32 c∧Gw s' q 32 c 1 ((List.replicate 32 0).map nB) γ∧s.nx≤γ∧Kn s s':=by
 refine Cl.enter Tryz.f9 fn9 rfl rfl rfl ?_
 refine run1 ?_
 refine W.loop (α:=Nat×St×Option Addr×Nat×Nat) (fun a=>[(0,.slice none 0 0),(3,.slice a.2.2.1 a.1 a.2.2.2.1),(4,nI a.1)]) (fun _=>[]) (fun a=>a.2.1)
  (fun a=>a.1≤32∧Gw a.2.1 a.2.2.1 a.1 a.2.2.2.1 1 ((List.replicate a.1 0).map nB) a.2.2.2.2∧s.nx≤a.2.2.2.2∧Kn s a.2.1) (fun a=>32-a.1) (0,s,none,0,s.nx) ⟨Nat.zero_le _,.nil,Nat.le_refl _,.refl⟩ (.cons rfl (.cons rfl (.cons rfl .nil))) rfl rfl (by show 32-0<_;omega) ?_
 rintro⟨i,t,q,c,γ⟩ ⟨i1,i2,i3,i4⟩
 simp only at i1 i2 i3 i4
 dsimp only
 have wt:Wf t:=i4.wf w0
 by_cases hi:i<32
 ·have hn:¬i<0:=Nat.not_lt_zero _
  refine run1 ?_
  refine mkO (cs:=[nB 0]) fun t1 p1 m1 g1=>?_
  have wt1:Wf t1:=g1.wf wt
  have e1:=g1.le
  have e4:=i4.le
  refine Wo.app rfl rfl rfl rfl rfl rfl rfl rfl rfl wt1 (i2.kp wt g1 id) rfl (cells_at (k:=1) (size:=1) p1.ats rfl (by decide)) rfl (by intro v hv;exact one_nB (A:=[0]) v hv) rfl (by omega) (by omega) ?_
  intro q' c' γ' t2 h1 h2 h3
  refine run1 ?_
  refine rnd.n (i+1,t2,q',c',γ') ⟨hi,?_,?_,(i4.call g1).app h2 i3⟩ (by show 32-(i+1)<32-i;omega) (.cons rfl (.cons rfl (.cons rfl .nil))) rfl rfl
  ·rw [show (List.replicate i 0).map nB++[nB 0]=(List.replicate (i+1) 0).map nB by rw [List.replicate_succ',List.map_append];rfl]at h1
   exact h1
  ·show s.nx≤γ'
   rcases h3 with h|⟨h,_⟩<;>omega
 ·have hie:i=32:=by omega
  subst hie
  refine run1 ?_
  exact Lv.ret rfl ⟨q,c,γ,rfl,i2,i3,i4⟩
theorem zmet_ok{b o r k:Nat}{l:List Value}{M:MpE}(hb:Rw s b l γ)(hm:l[o]? =some (.map (some r)))(hn:l[o+1]? =some (nI k))(hM:Mp s r M):Cl B (.call 47 [.pointer (some ⟨b,o,none⟩)]) s fun v s'=>v= .bool (decide (M.length<k))∧s'=s:=by
 refine Cl.enter Tryz.f47 fn47 rfl rfl rfl ?_
 have gd:good (some ⟨b,o,none⟩):=good_b
 have e:∀j,qadd (some ⟨b,0,none⟩) (o+j)=qadd (some ⟨b,o,none⟩) j:=fun j=>by show some (Addr.mk b (0+(o+j)) none)=some (Addr.mk b (o+j) none);rw [Nat.zero_add]
 have lm:ldq s (qadd (some ⟨b,o,none⟩) 0)=some (.map (some r)):=by rw [←e];exact hb.f1 hm
 have ln:ldq s (qadd (some ⟨b,o,none⟩) 1)=some (nI k):=by rw [←e];exact hb.f1 hn
 refine run1 ?_
 refine W.dr [(0,.none,0),(1,.none,1),(2,.none,3),(3,.reads,7),(4,.none,0),(5,.none,16),(6,.none,48),(7,.reads,112),(8,.reads,240),(9,.none,511),(10,.none,1023)] (by kernel_rfl) rfl (run1 ?_)
 refine Wd.val rfl (Xv.nilC rfl) rfl (Nat.le_refl _) (run1 ?_)
 refine Wd.val rfl (Xv.nilC rfl) rfl (Nat.le_refl _) (run1 ?_)
 refine Wd.read rfl (Xv.ld rfl rfl rfl lm) rfl eqV_mp ⟨Xv.ld rfl rfl rfl lm,trivial⟩ ?_
 refine Wd.read rfl (Xv.lenM rfl rfl hM) rfl eqV_int ⟨Xv.lenM rfl rfl hM,trivial⟩ (run1 ?_)
 exact Lv.ret rfl ⟨rfl,rfl⟩
end
variable{s t:St}{D b P P' m m' u nb c d n δ:Nat}{q r:Option Addr}{A k:List Nat}{Bl Nt:List Nat→Option (List Nat)}{K K' L:List (List Nat)}{F:Nat→Prop}
theorem room_ok{z:Int}:Cl B (.call 6 [.int .i64 z]) s fun v s'=>(∃m:Nat,v=nI m∧1≤m∧m≤12)∧s'=s:=by
 refine Cl.enter Tryz.f6 fn6 rfl rfl rfl ?_
 refine run1 ?_
 obtain⟨y,hy⟩:∃y,y=z.tmod (Int.ofNat 12):=⟨_,rfl⟩
 have hr: -12<y∧y<12:=by
  have h1:=Int.tmod_lt_of_pos z (show (0:Int)<12 by decide)
  have h2:=Int.lt_tmod_of_pos z (show (0:Int)<12 by decide)
  have:(Int.ofNat 12:Int)=12:=rfl
  rw [this]at hy
  omega
 refine Wo.val rfl (Xv.remZ (n:=12) (z:=y) rfl rfl (by decide) hy.symm) rfl (run1 ?_)
 by_cases h0:y<0
 ·obtain⟨n,hn⟩:∃n:Nat, -y=(n:Int):=⟨(-y).toNat,by omega⟩
  refine run1 ?_
  refine Wo.val rfl (Xv.negZ (z:=Int.ofNat n) rfl (by
   show (if(true&&decide (((0-y)%18446744073709551616:Int)≥9223372036854775808))=true then(0-y)%18446744073709551616-18446744073709551616 else(0-y)%18446744073709551616)=_
   rw [if_neg (by simp;omega)]
   show _=(n:Int)
   omega)) rfl ?_
  have:n<12:=by omega
  refine run1 ?_
  exact Lv.ret rfl ⟨⟨n+1,rfl,by omega,by omega⟩,rfl⟩
 ·obtain⟨n,hn⟩:∃n:Nat,y=(n:Int):=⟨y.toNat,by omega⟩
  subst hn
  have:n<12:=by omega
  refine run1 ?_
  exact Lv.ret rfl ⟨⟨n+1,rfl,by omega,by omega⟩,rfl⟩
theorem rhash_ok(w:Wf s)(hT:TabAt s)(ha:Bs s q A)(hA:∀x∈A,x<256)(hl:A.length<2^40):
  Cl B (.call 5 [nI 256,.slice q A.length c]) s fun v s'=>v=hsh (shaOf A)∧Kn s s':=by
 refine Cl.enter Tryz.f5 fn5 rfl rfl rfl ?_
 obtain⟨H,hH⟩:∃H,H=shaOf A:=⟨_,rfl⟩
 have lH:H.length=32:=hH▸shaL
 have bH:∀x∈H,x<256:=hH▸shaB
 have lk:(H.map nB).length=32:=by rw [List.length_map,lH]
 rw [←hH]
 refine run1 ?_
 refine mk_gen (s:=s) (cs:=zh.map nB) (M:=fun s'=>Wo _ _ _ _ _ s' _) fun s1 r1 n1 k1=>?_
 have w1:=k1.wf w
 have hT1:TabAt s1:=fun p hp=>(hT p hp).kn w k1
 have cs:=rsum_ok (c:=c) w1 hT1 (ha.kn w k1) hA hl
 rw [←hH]at cs
 refine run1 ?_
 refine Wo.call rfl (Xc.call ok22 rfl) rfl (cs.mono ?_)
 rintro v s2 ⟨rfl,k2⟩
 have w2:=k2.wf w1
 refine run1 ?_
 refine mk_gen (s:=s2) (cs:=zh.map nB) (M:=fun s'=>Wo _ _ _ _ _ s' _) fun s3 r3 n3 k3=>run1 ?_
 refine Wo.st rfl rfl rfl rfl rfl rfl lk one_nB r3 (by show 0+32≤32;decide) fun s4 r4 n4 k4=>?_
 rw [lov_all lk]at r4
 have k24:Kn s2 s4:=k3.app k4 (Nat.le_refl _)
 have w4:=k24.wf w2
 have lk4:=r4.all (n:=32) lk (by decide)
 have cc:=rcut_ok (n:=256) w4 lH bH (by decide)
 rw [cut256 lH bH]at cc
 refine run1 ?_
 refine Wo.call rfl (Xc.call ok23 rfl) rfl (cc.mono ?_)
 rintro v s5 ⟨rfl,k5⟩
 have k15:Kn s1 s5:=(k2.call k24).call k5
 have r15:=r1.kp w1 k15 id
 refine run1 ?_
 refine Wo.st rfl rfl rfl rfl rfl rfl lk one_nB r15 (by show 0+32≤32;decide) fun s6 r6 n6 k6=>?_
 rw [lov_all lk]at r6
 refine run1 ?_
 have hcl:=cell_at (B:=B) (t:= 26) rfl rfl r6 lk rfl
 refine Lv.ret (vs:=[hsh H]) ?_ ⟨rfl,(k1.call k15).app k6 (Nat.le_refl _)⟩
 show (match cell1 B.P (.pointer (some ⟨s.nx,0,none⟩)) 26 s6,some []with|some v,some vs=>some (v::vs)|_,_=>none)=_
 rw [hcl];rfl
theorem forget_ok(w:Wf s)(h:Sy s D b P P' m m' u nb Bl Nt K K' F):
  Cl B (.call 18 [.pointer (some ⟨P,0,none⟩),.slice none 0 0]) s fun _ s'=> ∃F' G,Sy s' D b P P' m m' u nb Bl Nt [] K' F'∧Nx s s' F F' G:=by
 refine Cl.enter Tryz.f18 fn18 rfl rfl rfl ?_
 have gp:good (some (⟨P,0,none⟩:Addr)):=⟨_,_,rfl⟩
 obtain⟨Cs,Fs,hst,sub,back⟩:=h.sto w
 refine run1 ?_
 refine Wo.val rfl (Xv.pEq rfl rfl rfl) rfl (run1 ?_)
 refine Wo.val rfl (Xv.nilC rfl) rfl (run1 ?_)
 refine Wo.call rfl (Xc.call ok42 rfl) rfl ((empty_ok w hst).mono ?_)
 rintro v s1 ⟨Cs1,Fs1,hst1,hF1,k1⟩
 obtain⟨F1,g1,x1⟩:=back s1 [] Cs1 Fs1 hst1 (fun c e=>.inl (hF1 c e)) k1
 have w1:=k1.wf w
 obtain⟨Cs2,Fs2,⟨γ,γo,rc,rb,qo,co,MC,hx⟩,sub2,back2⟩:=g1.sto w1
 have lb1:ldq s1 (qadd (some ⟨P,0,none⟩) 5)=some (.map (some rb)):=hx.row.f1 rfl
 have crb:Cs2 rb:=(hx.col _).2 (.inr (.inr (.inl rfl)))
 refine run1 ?_
 refine Wo.val rfl (Xv.nilC rfl) rfl (run1 ?_)
 refine Wo.clr rfl rfl rfl rfl hx.bad fun s2 M2 n2 k2=>run1 ?_
 obtain⟨F2,g2,x2⟩:=back2 s2 [] Cs2 Fs2 ⟨γ,γo,rc,rb,qo,co,MC,hx.delb w1 k2 M2⟩ (fun c e=>.inl e) (k2.mono fun c e=>by rw [e];exact crb)
 exact Lv.ret rfl ⟨F2,_,g2,x1.trans x2⟩
theorem hclone_ok{cs:List Value}(w:Wf s)(ha:At s q cs)(hl:cs.length=n*32)(ho:∀v∈cs,Ev.one v=true)(hn:n<2^30)(hq:q=none→n=0∧c=0):
  Cl B (.call 38 [.slice q n c]) s fun v s'=> ∃q' c',v= .slice q' n c'∧At s' q' cs∧Kn s s':=by
 refine Cl.enter Tryz.f38 fn38 rfl rfl rfl ?_
 by_cases hq0:q=none
 ·refine run1 ?_
  obtain⟨rfl,rfl⟩:=hq hq0
  subst hq0
  exact Lv.ret rfl ⟨none,0,rfl,ha,.refl⟩
 ·refine run1 ?_
  refine Wo.app (n:=0) (k:=n) rfl rfl rfl rfl rfl rfl rfl rfl rfl (mkRow_wf w) (Gw.mk0 (cs:=[]) rfl) rfl (cells_at (ha.kn w mkRow_kn) hl (by decide)) hl ho rfl (by omega) (by omega) ?_
  intro q' c' γ' s' h1 h2 h3
  refine run1 ?_
  rw [Nat.zero_add]at h1
  refine Lv.ret rfl ⟨q',c',?_,h1.sl.at,Kn.app mkRow_kn h2 (Nat.le_refl _)⟩
  show Value.slice q' (0+n) c'=_;rw [Nat.zero_add]
theorem cached_ok(w:Wf s)(h:Sy s D b P P' m m' u nb Bl Nt K K' F)(hm:m≤256):
  Cl B (.call 15 [.pointer (some ⟨P,0,none⟩)]) s fun v s'=> ∃q' c',v= .slice q' K.length c'∧At s' q' (K.flatMap (·.map nB))∧Kn s s':=by
 refine Cl.enter Tryz.f15 fn15 rfl rfl rfl ?_
 have gp:good (some (⟨P,0,none⟩:Addr)):=⟨_,_,rfl⟩
 obtain⟨Cs,Fs,⟨γ,γo,rc,rb,qo,co,MC,hx⟩,_,_⟩:=h.sto w
 have lo:ldq s (qadd (qadd (some ⟨P,0,none⟩) 2) 1)=some (.slice qo K.length co):=hx.row.f1 (i:=3) rfl
 have hle:=hx.le
 refine run1 ?_
 refine Wo.val rfl (Xv.pEq rfl rfl rfl) rfl (run1 ?_)
 refine Wo.val rfl (Xv.nilC rfl) rfl (run1 ?_)
 refine Wo.call rfl (Xc.call ok38 rfl) rfl ((hclone_ok w hx.ord.at hx.ord.len (fun v hv=>by obtain⟨y,_,hy⟩:=List.mem_flatMap.1 hv;exact one_nB v hy) (by omega) (fun e=>?_)).mono ?_)
 ·obtain⟨N,l,G,a1,_,_⟩:=hx.ord
  rcases G.at' with⟨_,e2,e3⟩|⟨b,_,e2,_⟩
  ·exact⟨by omega,e3⟩
  ·rw [e]at e2;cases e2
 rintro v s1 ⟨q',c',rfl,a1,k1⟩
 refine run1 ?_
 exact Lv.ret rfl ⟨q',c',rfl,a1,k1⟩
theorem samehs_ok(ha:At s q (L.flatMap (·.map nB)))(hb:At s r (L.flatMap (·.map nB)))(hL:∀x∈L,x.length=32)(hl:L.length<2^40):
  Cl B (.call 14 [.slice q L.length c,.slice r L.length d]) s fun v s'=>v= .bool true∧s'=s:=by
 refine Cl.enter Tryz.f14 fn14 rfl rfl rfl ?_
 have fl:∀{L:List (List Nat)},(∀x∈L,x.length=32)→(L.flatMap (·.map nB)).length=L.length*32:=fun{L} h=>by
  induction L with
  |nil=>rfl
  |cons x L ih=>rw [List.flatMap_cons,List.length_append,List.length_map,h x (by simp),ih fun y hy=>h y (by simp[hy]),List.length_cons];omega
 have nn:¬L.length≠L.length:=fun e=>e rfl
 refine run1 ?_
 refine W.loop (α:=Nat) (fun i=>[(0,.slice q L.length c),(1,.slice r L.length d),(5,nI i)]) (fun _=>[]) (fun _=>s) (fun i=>i≤L.length) (fun i=>L.length-i) 0 (Nat.zero_le _) (.cons rfl (.cons rfl (.cons rfl .nil))) rfl rfl (by omega) ?_
 intro i hi
 by_cases hin:i<L.length
 ·obtain⟨x,hx⟩:∃x,L[i]? =some x:=⟨_,List.getElem?_eq_getElem hin⟩
  have lx:=hL x (List.mem_of_getElem? hx)
  have gq:good q:=ha.good (i:=0) (by rw [fl hL];omega)
  have gr:good r:=hb.good (i:=0) (by rw [fl hL];omega)
  have ld1:ldn s (qadd q (i*32)) 32=some (x.map nB):=by rw [ha.ldn (i:=i*32) (n:=32) (by rw [fl hL];omega) (by decide),flat_at32 hL hx]
  have ld2:ldn s (qadd r (i*32)) 32=some (x.map nB):=by rw [hb.ldn (i:=i*32) (n:=32) (by rw [fl hL];omega) (by decide),flat_at32 hL hx]
  refine run1 ?_
  refine W.dr [(0,.none,0),(1,.none,0),(2,.none,3),(3,.reads,7),(4,.none,0),(5,.none,0),(6,.none,48),(7,.reads,112),(8,.none,255)] (by kernel_rfl) rfl (run1 ?_)
  refine Wd.read rfl (Xv.ldN rfl rfl rfl ld1) rfl eqV_h ⟨Xv.ldN rfl rfl rfl ld1,trivial⟩ (run1 ?_)
  refine Wd.read rfl (Xv.ldN rfl rfl rfl ld2) rfl eqV_h ⟨Xv.ldN rfl rfl rfl ld2,trivial⟩ (run1 ?_)
  refine Wd.val rfl (Xv.neH Hdm rfl rfl rfl lx lx) rfl (Nat.le_refl _) ?_
  rw [show decide (x≠x)=false from decide_eq_false fun e=>e rfl]
  refine run1 ?_
  exact rnd.n (i+1) (by omega) (by omega) (.cons rfl (.cons rfl (.cons rfl .nil))) rfl rfl
 ·refine run1 ?_
  exact Lv.ret rfl ⟨rfl,rfl⟩
theorem sound_yes{nn:Nat}{C:Nat→Prop}(w0:Wf s)(h:Bo s b nn Nt C F):Cl B (.call 20 [.pointer (some ⟨b,0,none⟩)]) s fun v _=>v= .bool true:=by
 obtain⟨γ,r1,r2,r3,S,M,_,h⟩:=h
 have hS:=h.len
 have hcnt:=h.cnt
 refine Cl.enter Tryz.f20 fn20 rfl rfl rfl ?_
 have gd:good (some ⟨b,0,none⟩):=good_b
 refine run1 ?_
 refine Wo.val rfl (Xv.pEq rfl rfl rfl) rfl (run1 ?_)
 refine Wo.val rfl (Xv.nilC rfl) rfl (run1 ?_)
 refine Wo.call rfl (Xc.call ok33 rfl) rfl ((lock_ok (o:=34) w0 h.row (by rw [show 34=34+0 from rfl,bkT_at hS];rfl)).mono ?_)
 rintro v s2 ⟨b2,m2,k2⟩
 rw [show lov (bkT 256 256 S (bl 0 r1 nn r2 0 r3 0)) 34 [Value.int .i32 1]=bkT 256 256 S (bl 1 r1 nn r2 0 r3 0)from bkT_set (i:=0) hS (show 0<8 by decide)]at b2
 have w2:Wf s2:=k2.wf w0
 refine run1 ?_
 refine Wo.val rfl (Xv.nilC rfl) rfl (run1 ?_)
 refine Wo.dfr rfl rfl rfl ?_
 refine run1 ?_
 refine Wo.val rfl (Xv.nilC rfl) rfl (run1 ?_)
 refine Wo.call rfl (Xc.call ok47 rfl) rfl ((zmet_ok (o:=36) (k:=nn) b2 (by rw [show 36=34+2 from rfl,bkT_at hS];rfl) (by rw [show 36+1=34+3 from rfl,bkT_at hS];rfl) (h.m1.kp w0 k2 h.ne.1)).mono ?_)
 rintro v s' ⟨rfl,e'⟩;rw [e'];clear e' s'
 rw [show decide (M.length<nn)=false from decide_eq_false (by omega)]
 refine run1 ?_
 refine Wo.val rfl (Xv.nilC rfl) rfl (run1 ?_)
 refine Wo.call rfl (Xc.call ok47 rfl) rfl ((zmet_ok (o:=38) (k:=0) b2 (by rw [show 38=34+4 from rfl,bkT_at hS];rfl) (by rw [show 38+1=34+5 from rfl,bkT_at hS];rfl) (h.m2.kp w0 k2 h.ne.2.1)).mono ?_)
 rintro v s' ⟨rfl,e'⟩;rw [e'];clear e' s'
 rw [show decide (([]:MpE).length<0)=false from rfl]
 have l41:ldq s2 (qadd (qadd (some ⟨b,0,none⟩) 40) 1)=some (nI 0):=by
  have:=b2.f1 (show (bkT 256 256 S (bl 1 r1 nn r2 0 r3 0))[41]? =some (nI 0)by rw [show 41=34+7 from rfl,bkT_at hS];rfl)
  exact this
 have g40:good (qadd (some ⟨b,0,none⟩) 40):=good_b
 refine run1 ?_
 refine Wo.val rfl (Xv.nilC rfl) rfl (run1 ?_)
 refine Lv.retD (show 1≤100 by decide) ⟨by kernel_rfl,Cl.toLate rfl ((unlock_ok (o:=34) b2 (by rw [show 34=34+0 from rfl,bkT_at hS];rfl)).mono ?_)⟩
 rintro v s8 ⟨b8,m8,k8⟩
 exact⟨[.bool true],rfl,rfl⟩
end Go.Proofs.YtnbdpcpgckfeeaaGreatDoor
namespace Go.Sy
open Go Go.Ev
section
variable{X:Fx}{env:Env}{df:List Deferred}{s:St}{Q:Post}
structure outx{α:Type}(id:Nat)(I:α→Env)(S:α→St)(ok:α→Prop)(df:List Deferred)(e:Ex)(env:Env)(df':List Deferred)(s':St):Prop where
 h:e= .exit id∧∃i,ok i∧Sub (I i) env∧df'=df∧s'=S i
theorem outx.x{α:Type}{id:Nat}{I:α→Env}{S:α→St}{ok:α→Prop}(i:α)(h:ok i)(h1:Sub (I i) env)(h2:s=S i):outx id I S ok df (.exit id) env df s:=⟨rfl,i,h,h1,rfl,h2⟩
theorem W.out{α:Type}{id:Nat}(I:α→Env)(S:α→St)(ok:α→Prop){c rest:Code}(h:W X c env df s (outx id I S ok df))(k:∀i,ok i→W X rest (I i) df (S i) Q):W X c env df s (blk id (andThen X rest Q)):=
 ⟨h.w.mono fun _ _ _ _ m=>by obtain⟨rfl,i,hi,hs,rfl,rfl⟩:=m.h;exact blk.x (andThen.n ((k i hi).sub hs))⟩
theorem Wo.meet0{α:Type}(I:α→Env)(S:α→St)(ok:α→Prop){all ops:List Oper}{c:Code}(h:Wo X all ops env df s (Go.Sy.meet I S ok df))(k:∀i,ok i→W X c (I i) df (S i) Q):Wo X all ops env df s (andThen X c Q):=
 ⟨h.w.mono fun _ _ _ _ m=>m.go k⟩
end
theorem at_cell{s:St}{q:Option Addr}{cs:List Value}{i:Nat}{v:Value}(h:At s q cs)(hv:cs[i]? =some v):good q∧ldq s (qadd q (i*1))=some v:=by
 have hi:i<cs.length:=(List.getElem?_eq_some_iff.1 hv).1
 rw [Nat.mul_one,h.ld hi,←List.getElem?_eq_getElem hi]
 exact⟨h.good hi,hv⟩
end Go.Sy
namespace Go.Proofs.YtnbdpcpgckfeeaaGreatDoor
open Go Go.Ev Go.Sy
set_option maxRecDepth 100000
structure Agh(s:St)(v:Value)(A:List Nat):Prop where
 sl:∃q c δ,v= .slice q A.length c∧Sl s q (A.map nB) δ∧δ<s.nx∧Cap A.length c 1
 by':∀y∈A,y<256
 lt:A.length<2^47
abbrev Zs:=List (Value×List Nat×List Nat)
def blf(l:Zs):List Nat→Option (List Nat):=l.foldl (fun f z key=>if key=z.2.2 then some z.2.1 else f key) fun _=>none
theorem blf_add{l:Zs}{z:Value×List Nat×List Nat}:blf (l++[z])=fun key=>if key=z.2.2 then some z.2.1 else blf l key:=by
 unfold blf;rw [List.foldl_append];rfl
theorem list_snoc{α:Type}{p:List α→Prop}(h0:p [])(h1:∀l x,p l→p (l++[x]))(l:List α):p l:=by
 have:∀r:List α,p r.reverse:=fun r=>by
  induction r with
  |nil=>exact h0
  |cons x r ih=>rw [List.reverse_cons];exact h1 _ _ ih
 rw [←List.reverse_reverse l];exact this _
theorem blf_no{l:Zs}{key:List Nat}:key∉l.map (·.2.2)→blf l key=none:=by
 refine list_snoc (p:=fun l=>key∉l.map (·.2.2)→blf l key=none) (fun _=>rfl) (fun l z ih h=>?_) l
 rw [blf_add]
 rw [List.map_append,List.mem_append]at h
 show (if key=z.2.2 then some z.2.1 else blf l key)=none
 rw [if_neg fun e=>h (.inr (by rw [e];simp)),ih fun e=>h (.inl e)]
theorem blf_yes{l:Zs}{z:Value×List Nat×List Nat}:(l.map (·.2.2)).Nodup→z∈l→blf l z.2.2=some z.2.1:=by
 refine list_snoc (p:=fun l=>(l.map (·.2.2)).Nodup→z∈l→blf l z.2.2=some z.2.1) (fun _ h=>by cases h) (fun l y ih hn hz=>?_) l
 rw [blf_add]
 show (if z.2.2=y.2.2 then some y.2.1 else blf l z.2.2)=_
 rw [List.map_append,List.nodup_append]at hn
 rcases List.mem_append.1 hz with e|e
 ·rw [if_neg fun e2=>hn.2.2 z.2.2 (List.mem_map_of_mem e) y.2.2 (by simp) e2]
  exact ih hn.1 e
 ·rw [List.mem_singleton.1 e,if_pos rfl]
def lastn{α:Type}(m:Nat)(l:List α):List α:=l.drop (l.length-m)
theorem lastn_kup{m:Nat}{l:List (List Nat)}{k:List Nat}(hm:1≤m)(hk:k∉l):kup m (lastn m l) k=lastn m (l++[k]):=by
 have hk':k∉lastn m l:=fun h=>hk (List.mem_of_mem_drop h)
 have hl:(lastn m l).length=min l.length m:=by unfold lastn;rw [List.length_drop];omega
 rw [kup,if_neg hk']
 unfold lastn at hl ⊢
 rw [List.length_append,List.length_cons,List.length_nil]
 by_cases h:l.length<m
 ·rw [if_pos (by omega),show l.length-m=0 by omega,show l.length+1-m=0 by omega];rfl
 ·rw [if_neg (by omega),show l.length+1-m=(l.length-m)+1 by omega,List.drop_append_of_le_length (by omega),←List.tail_drop]
  cases hd:l.drop (l.length-m)with
  |nil=>rw [hd]at hl;simp only[List.length_nil]at hl;omega
  |cons x r=>rfl
section
variable{s t:St}{D b P P' m m' u nb c δ:Nat}{q:Option Addr}{A k:List Nat}{Bl Nt:List Nat→Option (List Nat)}{K K':List (List Nat)}{F:Nat→Prop}
theorem Sy.le(h:Sy s D b P P' m m' u nb Bl Nt K K' F):K.length≤m:=by
 obtain⟨_,_,_,_,_,_,_,_,_,_,_,h⟩:=h
 obtain⟨_,_,_,_,_,_,_,h⟩:=h.st
 exact h.le
theorem shash_ok(w:Wf s)(h:Sy s D b P P' m m' u nb Bl Nt K K' F)(hT:Tk s F)(hs:shaOf A=k)(hN:Nt k=some A)(hq:Sl s q (A.map nB) δ)(hδ:¬F δ)(hA:∀x∈A,x<256)(hc:Cap A.length c 1)(hl:A.length<2^40)(hu:u+1<2^38):
  Cl B (.call 13 [.pointer (some ⟨b,0,none⟩),.slice q A.length c]) s fun v s'=>v=hsh k∧∃F' G,Sy s' D b P P' m m' (u+1) nb Bl Nt K K' F'∧Nx s s' F F' G:=by
 obtain⟨nn,Cb,Fb,hb,hnn,sub,back⟩:=h.book w
 have cb:=bhash_ok w hb (fun s' k'=>hT s' (k'.mono sub)) hq (fun e=>hδ (sub _ e)) hA hc hl (by omega) (by rw [hs];exact .inr hN)
 rw [hs]at cb
 have eN:(fun key=>if key=k then some A else Nt key)=Nt:=funext fun key=>by
  split
  ·rename_i e;rw [e,hN]
  ·rfl
 rw [eN]at cb
 refine cb.mono ?_
 rintro v s2 ⟨rfl,n',Fb',hb',hn',hF',_,k2⟩
 obtain⟨F',g2,x2⟩:=back s2 n' Nt Fb' (by omega) hb' hF' k2
 exact⟨rfl,F',_,g2,x2⟩
theorem smedia_ok(w:Wf s)(h:Sy s D b P P' m m' u nb Bl Nt K K' F)(hl:nb≤64)(hA:∀k A,Bl k=some A→A.length<2^40):Cl B (.call 16 [.pointer (some ⟨D,0,none⟩)]) s fun u s'=> ∃q c b,u= .agg ⟨mdm 64 b (.slice q nb c)⟩∧Kn s s':=by
 obtain⟨na,n,Cd,Fd,hd,_,_,_,_⟩:=h.dev w
 exact media_ok w hd (by omega) hA
end
structure Pl(s0 s:St)(zs:Zs)(q5:Option Addr)(c5 γ5 D b P P' m i:Nat)(q9:Option Addr)(c9 γ9:Nat)(F:Nat→Prop):Prop where
 kp:Kp (fun c=>s0.nx≤c) s0 s
 l5:Gw s q5 zs.length c5 1 (zs.map (·.1)) γ5
 g5:q5≠none→s0.nx≤γ5∧¬F γ5
 k9:Gw s q9 i c9 32 ((zs.take i).flatMap (·.2.2.map nB)) γ9
 g9:q9≠none→s0.nx≤γ9∧¬F γ9∧(q5≠none→γ9≠γ5)
 sy:Sy s D b P P' m 0 (4*i) i (blf (zs.take i)) (blf (zs.take i)) (lastn m ((zs.take i).map (·.2.2))) [] F
 fn:∀c,F c→s0.nx≤c
structure Pz(s0 s:St)(zs:Zs)(q5:Option Addr)(c5 γ5 D b P P' m u:Nat)(q9:Option Addr)(c9 γ9:Nat)(K K':List (List Nat))(F:Nat→Prop):Prop where
 kp:Kp (fun c=>s0.nx≤c) s0 s
 l5:Gw s q5 zs.length c5 1 (zs.map (·.1)) γ5
 g5:q5≠none→s0.nx≤γ5∧¬F γ5
 k9:Gw s q9 zs.length c9 32 (zs.flatMap (·.2.2.map nB)) γ9
 g9:q9≠none→s0.nx≤γ9∧¬F γ9
 sy:Sy s D b P P' m 0 u zs.length (blf zs) (blf zs) K K' F
 fn:∀c,F c→s0.nx≤c
theorem tk_of{s0 s:St}{F:Nat→Prop}(hT:TabAt s0)(w:Wf s0)(k:Kp (fun c=>s0.nx≤c) s0 s)(hF:∀c,F c→s0.nx≤c):Tk s F:=fun _ k'=>hT.kpN w (k.trans (k'.mono hF))
theorem Gw.nx{s s':St}{F F' G:Nat→Prop}{q:Option Addr}{n c size γ:Nat}{cs:List Value}(h:Gw s q n c size cs γ)(w:Wf s)(x:Nx s s' F F' G)(hF:q≠none→¬F γ):Gw s' q n c size cs γ∧(q≠none→¬F' γ):=
 ⟨h.keep w x.kp hF,fun e a=>(x.nw' _ a).elim (hF e) fun a=>by have:=h.ltn w e;omega⟩
theorem Pz.nx{s0 s s':St}{zs:Zs}{q5 q9:Option Addr}{c5 γ5 D b P P' m u u' c9 γ9:Nat}{K K' K1 K1':List (List Nat)}{F F' G:Nat→Prop}(h:Pz s0 s zs q5 c5 γ5 D b P P' m u q9 c9 γ9 K K' F)(w0:Wf s0)(x:Nx s s' F F' G)(sy:Sy s' D b P P' m 0 u' zs.length (blf zs) (blf zs) K1 K1' F'):Pz s0 s' zs q5 c5 γ5 D b P P' m u' q9 c9 γ9 K1 K1' F':=by
 have w:=h.kp.wf w0
 have e:=h.kp.le
 obtain⟨a1,a2⟩:=Gw.nx h.l5 w x fun e=>(h.g5 e).2
 obtain⟨b1,b2⟩:=Gw.nx h.k9 w x fun e=>(h.g9 e).2
 exact⟨h.kp.trans (x.kp.mono h.fn),a1,fun e=>⟨(h.g5 e).1,a2 e⟩,b1,fun e=>⟨(h.g9 e).1,b2 e⟩,sy,fun c a=>(x.nw' c a).elim (h.fn c) fun a=>by omega⟩
theorem Pz.kn{s0 s s':St}{zs:Zs}{q5 q9:Option Addr}{c5 γ5 D b P P' m u c9 γ9:Nat}{K K':List (List Nat)}{F:Nat→Prop}(h:Pz s0 s zs q5 c5 γ5 D b P P' m u q9 c9 γ9 K K' F)(w0:Wf s0)(k:Kn s s'):Pz s0 s' zs q5 c5 γ5 D b P P' m u q9 c9 γ9 K K' F:=by
 have w:=h.kp.wf w0
 exact⟨h.kp.trans (k.mono fun _ e=>e.elim),h.l5.kp w k id,h.g5,h.k9.kp w k id,h.g9,h.sy.kp w k fun _ _=>id,h.fn⟩
end Go.Proofs.YtnbdpcpgckfeeaaGreatDoor
