import Derived.Test.YtnbdpcpgckfeeaaGreatDoorLkzz
import Derived.Test.YtnbdpcpgckfeeaaGreatDoorRezz
import Derived.Test.YtnbdpcpgckfeeaaGreatDoorRazz
import Derived.Test.YtnbdpcpgckfeeaaGreatDoorWnzz
import Derived.Test.YtnbdpcpgckfeeaaGreatDoorBbzz
namespace Go.Proofs.YtnbdpcpgckfeeaaGreatDoor
open Go Go.Ev Go.Sy
set_option maxRecDepth 100000
variable{s:St}{q r:Option Addr}{c d D γ rb rv rs:Nat}{A H:List Nat}{L cs:List Value}{M:MpE}{v:Value}
structure Stl(s:St)(D γ rs n:Nat)(L:List Value)(MS:MpE)(H:List Nat)(v:Value):Prop where
 row:Rw s D L γ
 map:L[41]? =some (.map (some rs))
 mp:Mp s rs MS
 len:H.length=32
 get:∃q c,mget H MS=some (.slice q 1 c)∧At s q (stc (n+1) v true)
 one:Ev.one v=true
 logs:∃q c,L[42]? =some (.slice q n c)
 sm:n<2^39
theorem Stl.kn{t:St}{n:Nat}{MS:MpE}(h:Stl s D γ rs n L MS H v)(w:Wf s)(k:Kn s t):Stl t D γ rs n L MS H v:=
 ⟨h.row.kp w k id,h.map,h.mp.kp w k id,h.len,let ⟨q,c,a,b⟩:=h.get;⟨q,c,a,b.kn w k⟩,h.one,h.logs,h.sm⟩
theorem stc_eqV{a:Nat}{b:Bool}(h:∃q n c,v= .slice q n c):eqV 5 (.agg ⟨stc a v b⟩) (.agg ⟨stc a v b⟩)=true:=by
 obtain⟨q,n,c,rfl⟩:=h
 refine eqV_agg fun u hu=>?_
 unfold stc at hu
 simp only[List.mem_cons,List.not_mem_nil,or_false]at hu
 rcases hu with rfl|rfl|rfl
 ·exact eqV4i
 ·exact eqV4
 ·cases b<;>rfl
set_option maxHeartbeats 1000000 in
theorem settle1_ok{n bx γx:Nat}{MS:MpE}(w:Wf s)(hs:Stl s D γ rs n L MS H v)(hb:Rw s bx [.pointer (some ⟨D,0,none⟩)] γx):
  Cl B (.call 139 [hsh H,.pointer (some ⟨bx,0,none⟩)]) s fun u s'=>u= .bool true∧Kn s s':=by
 obtain⟨qs,c1,hg,hq⟩:=hs.get
 obtain⟨ql,c2,hl⟩:=hs.logs
 have hsm:=hs.sm
 refine Cl.enter Tryz.f139 fn139 rfl rfl rfl ?_
 refine run1 ?_
 refine mk_gen (s:=s) (cs:=H.map nB) (M:=fun s'=>W _ _ _ _ s' _) fun s1 r1 n1 k1=>?_
 have w1:=k1.wf w
 have hs1:=hs.kn w k1
 have lb:ldq s1 (some ⟨bx,0,none⟩)=some (.pointer (some ⟨D,0,none⟩)):=(hb.kp w k1 id).f1 (i:=0) rfl
 have lh:ldn s1 (some ⟨s.nx,0,none⟩) 32=some (H.map nB):=r1.all (by rw [List.length_map,hs.len]) (by decide)
 refine W.dr [(2,.reads,0),(3,.acts,4),(0,.reads,0),(1,.reads,0),(4,.acts,15),(7,.reads,0),(8,.acts,159),(5,.reads,0),(6,.reads,0),(9,.none,415),(10,.acts,1023),(11,.acts,2047),(12,.none,4095),(13,.none,8191)] (by kernel_rfl) rfl ?_
 refine run1 ?_
 refine Wd.call rfl (Xc.call ok141 rfl) rfl ((time_ok hs1.row hl).mono ?_)
 rintro u s' ⟨rfl,e'⟩;rw [e'];clear e' s'
 refine⟨Nat.le_refl _,run1 ?_⟩
 refine Wd.read rfl (Xv.ldN rfl rfl rfl lh) rfl eqV_h ⟨Xv.ldN rfl rfl rfl lh,⟨Xv.ldN rfl rfl rfl lh,trivial⟩⟩ ?_
 refine Wd.call rfl (Xc.call ok140 rfl) rfl ((under_ok (a:=n+1) (b:=true) w1 hs1.row hs.map hs1.mp hs.len hg (hq.kn w k1) hs.one (by have:=hs.sm;omega) (by have:=hs.sm;omega)).mono ?_)
 rintro u s2 ⟨rfl,k2⟩
 rw [if_neg (by omega)]
 have w2:=k2.wf w1
 have hs2:=hs1.kn w1 k2
 have lb2:ldq s2 (some ⟨bx,0,none⟩)=some (.pointer (some ⟨D,0,none⟩)):=((hb.kp w k1 id).kp w1 k2 id).f1 (i:=0) rfl
 have lh2:ldn s2 (some ⟨s.nx,0,none⟩) 32=some (H.map nB):=(r1.kp w1 k2 id).all (by rw [List.length_map,hs.len]) (by decide)
 refine⟨k2.le,run1 ?_⟩
 refine Wd.call rfl (Xc.call ok141 rfl) rfl ((time_ok hs2.row hl).mono ?_)
 rintro u s' ⟨rfl,e'⟩;rw [e'];clear e' s'
 refine⟨Nat.le_refl _,?_⟩
 refine Wd.read rfl (Xv.ld rfl rfl rfl lb2) rfl eqV_ptr ⟨Xv.ld rfl rfl rfl lb2,Xv.ld rfl rfl rfl lb2,Xv.ld rfl rfl rfl lb,Xv.ld rfl rfl rfl lb,trivial⟩ ?_
 refine Wd.read rfl (Xv.ldN rfl rfl rfl lh2) rfl eqV_h ⟨Xv.ldN rfl rfl rfl lh2,Xv.ldN rfl rfl rfl lh2,Xv.ldN rfl rfl rfl lh,Xv.ldN rfl rfl rfl lh,trivial⟩ (run1 ?_)
 refine Wd.call rfl (Xc.call ok140 rfl) rfl ((under_ok (a:=n+1) (τ:=n+1) (b:=true) w2 hs2.row hs.map hs2.mp hs.len hg ((hq.kn w k1).kn w1 k2) hs.one (by have:=hs.sm;omega) (by have:=hs.sm;omega)).mono ?_)
 rintro u s3 ⟨rfl,k3⟩
 rw [if_pos (Nat.le_refl _)]
 have w3:=k3.wf w2
 refine⟨k3.le,run1 ?_⟩
 refine Wd.call rfl (Xc.call ok142 rfl) rfl ((msame_ok (a:=n+1) w3 hs.one).mono ?_)
 rintro u s4 ⟨rfl,k4⟩
 refine⟨k4.le,run1 ?_⟩
 exact Lv.ret rfl ⟨rfl,((k1.trans k2).trans k3).trans k4⟩
theorem idx0_ok{f:Value}:Cl B (.call 96 [.slice none 0 0,f]) s fun u s'=>u= .int .i64 (-1)∧s'=s:=by
 refine Cl.enter Tryz.f96 fn96 rfl rfl rfl ?_
 refine run1 ?_
 refine W.loop (α:=Unit) (fun _=>[(7,nI 0),(8,nI 0)]) (fun _=>[]) (fun _=>s) (fun _=>True) (fun _=>0) () trivial (.cons rfl (.cons rfl .nil)) rfl rfl (by decide) ?_
 rintro _ _
 refine run1 ?_
 exact Lv.ret rfl ⟨rfl,rfl⟩
theorem idx1_ok{n bx γx:Nat}{MS:MpE}(w:Wf s)(hs:Stl s D γ rs n L MS H v)(hb:Rw s bx [.pointer (some ⟨D,0,none⟩)] γx)(hq:At s q (H.map nB)):
  Cl B (.call 96 [.slice q 1 c,.func (.func 139) #[] #[.pointer (some ⟨bx,0,none⟩)]]) s fun u s'=>u=nI 0∧Kn s s':=by
 refine Cl.enter Tryz.f96 fn96 rfl rfl rfl ?_
 have hl:(H.map nB).length=32:=by rw [List.length_map,hs.len]
 have hg:good q:=hq.good (i:=0) (by omega)
 have ld:ldn s (qadd q (0*32)) 32=some (H.map nB):=by
  have:=hq.ldn (i:=0) (n:=32) (by omega) (by decide)
  rw [List.drop_zero,List.take_of_length_le (by omega)]at this
  exact this
 refine run1 ?_
 refine W.loop (α:=Unit) (fun _=>[(0,.slice q 1 c),(1,.func (.func 139) #[] #[.pointer (some ⟨bx,0,none⟩)]),(7,nI 1),(8,nI 0)]) (fun _=>[]) (fun _=>s) (fun _=>True) (fun _=>0) () trivial (.cons rfl (.cons rfl (.cons rfl (.cons rfl .nil)))) rfl rfl (by decide) ?_
 rintro _ _
 refine run1 ?_
 refine Wo.call rfl (Xc.callv rfl ok139 rfl) rfl ((settle1_ok w hs hb).mono ?_)
 rintro u s1 ⟨rfl,k1⟩
 refine run1 ?_
 exact Lv.ret rfl ⟨rfl,k1⟩
theorem con0_ok{f:Value}:Cl B (.call 138 [.slice none 0 0,f]) s fun u s'=>u= .bool false∧s'=s:=by
 refine Cl.enter Tryz.f138 fn138 rfl rfl rfl ?_
 refine run1 ?_
 refine Wo.call rfl (Xc.call ok96 rfl) rfl (idx0_ok.mono ?_)
 rintro u s' ⟨rfl,e'⟩;rw [e'];clear e' s'
 refine run1 ?_
 exact Lv.ret rfl ⟨rfl,rfl⟩
theorem con1_ok{n bx γx:Nat}{MS:MpE}(w:Wf s)(hs:Stl s D γ rs n L MS H v)(hb:Rw s bx [.pointer (some ⟨D,0,none⟩)] γx)(hq:At s q (H.map nB)):
  Cl B (.call 138 [.slice q 1 c,.func (.func 139) #[] #[.pointer (some ⟨bx,0,none⟩)]]) s fun u s'=>u= .bool true∧Kn s s':=by
 refine Cl.enter Tryz.f138 fn138 rfl rfl rfl ?_
 refine run1 ?_
 refine Wo.call rfl (Xc.call ok96 rfl) rfl ((idx1_ok w hs hb hq).mono ?_)
 rintro u s1 ⟨rfl,k1⟩
 refine run1 ?_
 exact Lv.ret rfl ⟨rfl,k1⟩
end Go.Proofs.YtnbdpcpgckfeeaaGreatDoor
namespace Go.Sy
open Go Go.Ev
theorem Gw.ltw{s:St}{q:Option Addr}{n c size:Nat}{cs:List Value}{γ:Nat}(h:Gw s q n c size cs γ)(w:Wf s)(hq:q≠none):γ<s.nx:=by
 rcases h.at' with⟨e1,_⟩|⟨b,g,e1,e2,e3,e4⟩
 ·exact absurd e1 hq
 ·exact(Rw.lt ⟨g,e2,e3⟩ w).2
end Go.Sy
namespace Go.Proofs.YtnbdpcpgckfeeaaGreatDoor
open Go Go.Ev Go.Sy
set_option maxRecDepth 100000
variable{s:St}{q r:Option Addr}{c d D γ rb rv rs:Nat}{A H:List Nat}{L cs:List Value}{M:MpE}{v:Value}
theorem lov1{l:List Value}{i:Nat}{v:Value}(h:i<l.length):lov l i [v]=l.set i v:=by
 rw [List.set_eq_take_append_cons_drop,if_pos h];rfl
theorem set_sameY{l:List Value}{i:Nat}{v:Value}(h:l[i]? =some v):l.set i v=l:=by
 refine List.ext_getElem? fun j=>?_
 rw [List.getElem?_set]
 by_cases e:i=j
 ·subst e
  rw [if_pos rfl,h,if_pos (List.getElem?_eq_some_iff.1 h).1]
 ·rw [if_neg e]
theorem settleG_ok(w:Wf s)(hD:Rw s D L γ)(h3:L[3]? =some (.slice none 0 0))(ht:L[43]? =some (.slice none 0 0))(hl:L.length=44):
  Cl B (.call 105 [.pointer (some ⟨D,0,none⟩),.slice none 0 0]) s fun _ s'=>Rw s' D L γ∧Kp (fun c=>c=γ) s s':=by
 refine Cl.enter Tryz.f105 fn105 rfl rfl rfl ?_
 refine run1 ?_
 refine mk_gen (s:=s) (cs:=[.pointer (some ⟨D,0,none⟩)]) (M:=fun s'=>Wo _ _ _ _ _ s' _) fun s1 r1 n1 k1=>?_
 have w1:=k1.wf w
 have hD1:=hD.kp w k1 id
 have lb:ldq s1 (some ⟨s.nx,0,none⟩)=some (.pointer (some ⟨D,0,none⟩)):=r1.f1 (i:=0) rfl
 have gd:good (some (⟨D,0,none⟩:Addr)):=⟨_,_,rfl⟩
 have lt:ldq s1 (qadd (some ⟨D,0,none⟩) 43)=some (.slice none 0 0):=hD1.f1 ht
 refine run1 ?_
 refine Wo.val rfl (Xv.nilC rfl) rfl (run1 ?_)
 refine Wo.val rfl (Xv.mkF rfl rfl rfl) rfl (run1 ?_)
 refine Wo.call rfl (Xc.call ok138 rfl) rfl (con0_ok.mono ?_)
 rintro u s' ⟨rfl,e'⟩;rw [e'];clear e' s'
 refine run1 ?_
 refine Wo.val rfl (Xv.nilC rfl) rfl (run1 ?_)
 refine Wo.st (vs:=[.slice none 0 0]) rfl rfl rfl rfl rfl rfl rfl (by intro v hv;rw [List.mem_singleton.1 hv];rfl) hD1 (by omega) fun s2 r2 n2 k2=>?_
 rw [Nat.zero_add,lov1 (by omega),set_sameY ht]at r2
 have w2:=k2.wf w1
 have hDl:=(hD.lt w).2
 have lb2:ldq s2 (some ⟨s.nx,0,none⟩)=some (.pointer (some ⟨D,0,none⟩)):=(r1.kp w1 k2 (by omega)).f1 (i:=0) rfl
 have l3:ldq s2 (qadd (some ⟨D,0,none⟩) 3)=some (.slice none 0 0):=r2.f1 h3
 refine run1 ?_
 refine Wo.val rfl (Xv.nilC rfl) rfl (run1 ?_)
 refine Wo.call rfl (Xc.call ok60 rfl) rfl ((mbequal_ok (A:=[]) (H:=[]) (fun _ h=>by cases h) (fun _ h=>by cases h) (.inl ⟨rfl,.inl rfl⟩) (.inl ⟨rfl,.inl rfl⟩)).mono ?_)
 rintro u s' ⟨rfl,e'⟩;rw [e'];clear e' s'
 refine run1 ?_
 exact Lv.nrm rfl ⟨r2,(k1.mono fun _ e=>e.elim).trans k2⟩
theorem settleP_ok{n:Nat}{MS:MpE}{qg:Option Addr}{cg γg:Nat}{csg:List Value}(w:Wf s)(hs:Stl s D γ rs n L MS H v)(hl:L.length=44)(ht:L[43]? =some (.slice q 1 c))(hq:At s q (H.map nB))(h42:L[42]? =some (.slice qg n cg))(hG:Gw s qg n cg 1 csg γg)(hγ:0<n→γg≠γ)(hn0:0<n∨qg=none)(hgn:0<n→γg<s.nx):
  Cl B (.call 105 [.pointer (some ⟨D,0,none⟩),.slice none 0 0]) s fun _ s'=> ∃q' c' γ',Rw s' D ((L.set 43 (.slice none 0 0)).set 42 (.slice q' (n+1) c')) γ∧Gw s' q' (n+1) c' 1 (csg++[.slice none 0 0]) γ'∧((0<n∧γ'=γg)∨s.nx≤γ')∧γ'<s'.nx∧q'≠none∧Kp (fun c=>c=γ∨(0<n∧c=γg)) s s':=by
 refine Cl.enter Tryz.f105 fn105 rfl rfl rfl ?_
 refine run1 ?_
 refine mk_gen (s:=s) (cs:=[.pointer (some ⟨D,0,none⟩)]) (M:=fun s'=>Wo _ _ _ _ _ s' _) fun s1 r1 n1 k1=>?_
 have w1:=k1.wf w
 have hs1:=hs.kn w k1
 have lb:ldq s1 (some ⟨s.nx,0,none⟩)=some (.pointer (some ⟨D,0,none⟩)):=r1.f1 (i:=0) rfl
 have gd:good (some (⟨D,0,none⟩:Addr)):=⟨_,_,rfl⟩
 have lt:ldq s1 (qadd (some ⟨D,0,none⟩) 43)=some (.slice q 1 c):=hs1.row.f1 ht
 refine run1 ?_
 refine Wo.val rfl (Xv.nilC rfl) rfl (run1 ?_)
 refine Wo.val rfl (Xv.mkF rfl rfl rfl) rfl (run1 ?_)
 refine Wo.call rfl (Xc.call ok138 rfl) rfl ((con1_ok w1 hs1 r1 (hq.kn w k1)).mono ?_)
 rintro u s2 ⟨rfl,k2⟩
 have w2:=k2.wf w1
 have hs2:=hs1.kn w1 k2
 have rb2:=r1.kp w1 k2 id
 have lb2:ldq s2 (some ⟨s.nx,0,none⟩)=some (.pointer (some ⟨D,0,none⟩)):=rb2.f1 (i:=0) rfl
 refine run1 ?_
 refine Wo.val rfl (Xv.nilC rfl) rfl (run1 ?_)
 refine Wo.st (vs:=[.slice none 0 0]) rfl rfl rfl rfl rfl rfl rfl (by intro v hv;rw [List.mem_singleton.1 hv];rfl) hs2.row (by omega) fun s3 r3 n3 k3=>?_
 rw [Nat.zero_add,lov1 (by omega)]at r3
 have w3:=k3.wf w2
 have hDl:=(hs.row.lt w).2
 have lb3:ldq s3 (some ⟨s.nx,0,none⟩)=some (.pointer (some ⟨D,0,none⟩)):=(rb2.kp w2 k3 (by omega)).f1 (i:=0) rfl
 have lg3:ldq s3 (qadd (some ⟨D,0,none⟩) 42)=some (.slice qg n cg):=r3.f1 (by rw [List.getElem?_set_ne (by decide)];exact h42)
 have hG3:Gw s3 qg n cg 1 csg γg:=((hG.kp w k1 id).kp w1 k2 id).keep w2 k3 (fun e=>hγ (hn0.resolve_right e))
 refine run1 ?_
 refine W.dr [(1,.reads,0),(2,.none,2),(3,.none,6),(4,.reads,14),(5,.none,0),(6,.makes,32),(7,.acts,126),(0,.reads,0),(8,.none,255),(9,.none,511),(10,.acts,1023)] (by kernel_rfl) rfl (run1 ?_)
 refine Wd.val rfl (Xv.nilC rfl) rfl (Nat.le_refl _) (run1 ?_)
 refine mk_gen (s:=s3) (cs:=[.slice none 0 0]) (M:=fun s'=>Wd _ _ _ _ _ _ s' _) fun s4 r4 n4 k4=>?_
 have w4:=k4.wf w3
 have nz:n<2^39:=hs.sm
 refine Wd.app2 (k:=1) rfl rfl rfl rfl rfl rfl rfl rfl rfl w4 (hG3.kp w3 k4 id) rfl (cells_at (k:=1) (size:=1) r4.ats rfl (by decide)) rfl (by intro v hv;rw [List.mem_singleton.1 hv];rfl) rfl (by omega) (by omega) ?_
 intro q5 c5 γ5 s5 G5 k5 hγ5
 have w5:=k5.wf w4
 have hk5:Kp (fun c=>0<n∧c=γg) s4 s5:=k5.mono fun c h=>⟨hn0.resolve_right h.1,h.2⟩
 have no5:¬(0<n∧s.nx=γg):=fun h=>by have:=hgn h.1;omega
 have noD:¬(0<n∧γ=γg):=fun h=>hγ h.1 h.2.symm
 have lb5:ldq s5 (some ⟨s.nx,0,none⟩)=some (.pointer (some ⟨D,0,none⟩)):=(((rb2.kp w2 k3 (by omega)).kp w3 k4 id).kp w4 hk5 no5).f1 (i:=0) rfl
 have R5:=(r3.kp w3 k4 id).kp w4 hk5 noD
 refine run1 ?_
 refine Wd.val rfl (Xv.nilC rfl) rfl (Nat.le_refl _) (run1 ?_)
 refine Wd.st (vs:=[.slice q5 (n+1) c5]) rfl rfl rfl rfl rfl rfl rfl (by intro v hv;rw [List.mem_singleton.1 hv];rfl) R5 (by rw [List.length_set];omega) fun s6 r6 n6 k6=>?_
 rw [Nat.zero_add,lov1 (by rw [List.length_set];omega)]at r6
 refine run1 ?_
 have e1:=k1.le
 have e2:=k2.le
 have e3:=k3.le
 have e5:=k5.le
 have hg5:γ5≠γ:=by
  rcases hγ5 with⟨h,e⟩|e
  ·rw [e];exact hγ (hn0.resolve_right h)
  ·omega
 have hq5:q5≠none:=fun e=>by
  rcases G5.at' with⟨_,h,_⟩|⟨_,_,h,_⟩
  ·omega
  ·rw [e]at h;cases h
 refine Lv.nrm rfl ⟨q5,c5,γ5,r6,G5.kp w5 k6 hg5,?_,?_,hq5,?_⟩
 ·rcases hγ5 with⟨h,e⟩|e
  ·exact .inl ⟨hn0.resolve_right h,e⟩
  ·exact .inr (by omega)
 ·rw [n6];exact G5.ltw w5 hq5
 ·exact(((((k1.mono fun _ e=>e.elim).trans (k2.mono fun _ e=>e.elim)).trans (k3.mono fun _ e=>.inl e)).trans (k4.mono fun _ e=>e.elim)).trans (hk5.mono fun _ e=>.inr e)).trans (k6.mono fun _ e=>.inl e)
end Go.Proofs.YtnbdpcpgckfeeaaGreatDoor
namespace Go.Sy
open Go Go.Ev
theorem sl_end{X:Fx}{env:Env}{s:St}{t t0 n0 e t1 size:Nat}{z0 z:Option (List Value)}{ke:Sh}{x y:Operand}(ht:tk X.B.T t=some ⟨t0,n0,.sl e,z0⟩)(he:tk X.B.T e=some ⟨t1,size,ke,z⟩)(hx:ev env x=some (.slice none 0 0))(hy:ev env y=some (nI 0)):Xv X (.slice t x (some y) none none) env s (.slice none 0 0) s:=(Xv.slN ht he hx hy).2
end Go.Sy
namespace Go.Proofs.YtnbdpcpgckfeeaaGreatDoor
open Go Go.Ev Go.Sy
set_option maxRecDepth 100000
variable{s:St}{p γ δ n c:Nat}{q:Option Addr}{S M A D O R:List Nat}{nb cb r1 n1 r2 n2 r3 n3:Nat}
theorem insert0_ok{v:Value}{ql:Option Addr}{cl:Nat}(w0:Wf s)(hl:At s ql [v])(hv:Ev.one v=true):
  Cl B (.call 69 [.slice none 0 0,nI 0,.slice ql 1 cl]) s fun u s'=> ∃q' c' γ',u= .slice q' 1 c'∧Gw s' q' 1 c' 1 [v] γ'∧s.nx≤γ'∧Kn s s':=by
 refine Cl.enter Tryz.f69 fn69 rfl rfl rfl ?_
 refine run1 ?_
 refine Wo.val rfl (sl_end rfl rfl rfl rfl) rfl (run1 ?_)
 refine Wo.app rfl rfl rfl rfl rfl rfl rfl rfl rfl w0 (Gw.nil (γ:=s.nx)) rfl (cells_at (k:=1) (size:=1) hl rfl (by decide)) rfl (by intro u hu;rw [List.mem_singleton.1 hu];exact hv) rfl (by decide) (by decide) ?_
 intro q' c' γ' s' h1 h2 h3
 refine run1 ?_
 refine Lv.ret rfl ⟨q',c',γ',rfl,h1,?_,Kn.app .refl h2 (Nat.le_refl _)⟩
 rcases h3 with h|⟨h,_⟩<;>omega
theorem At.one{b o:Nat}{l:List Value}{v:Value}(h:Rw s b l γ)(hv:l[o]? =some v){i:Nat}(ho:o=i):ldq s (some ⟨b,i,none⟩)=some v:=by
 subst ho
 have:=h.f1 hv
 have e:qadd (some ⟨b,0,none⟩) o=some ⟨b,o,none⟩:=by show some (Addr.mk b (0+o) none)=_;rw [Nat.zero_add]
 rw [e]at this;exact this
theorem add_new{b o k:Nat}{l:List Value}{r:Nat}{M:MpE}{H:List Nat}(w0:Wf s)(hb:Rw s b l γ)(hm:l[o]? =some (.map (some r)))(hn:l[o+1]? =some (nI k))(hM:Mp s r M)(hr:r≠γ)(hH:H.length=32)(hHb:∀y∈H,y<256)(hno:mget H M=none)(hq:At s q (A.map nB))(hA:A.length<2^40)(hk:k<2^60):
  Cl B (.call 37 [.pointer (some ⟨b,o,none⟩),hsh H,.slice q A.length c]) s fun _ s'=> ∃ql cl qa ca γl γa,Mp s' r (mput H (.slice ql 1 cl) M)∧Rw s' b (l.set (o+1) (nI (k+1))) γ∧Sl s' ql [.slice qa A.length ca] γl∧s.nx≤γl∧Sl s' qa (A.map nB) γa∧s.nx≤γa∧Kp (fun c=>c=γ∨c=r) s s':=by
 refine Cl.enter Tryz.f37 fn37 rfl rfl rfl ?_
 have gd:good (some ⟨b,o,none⟩):=good_b
 refine run1 ?_
 refine mkO (cs:=H.map nB) fun s1 r1 n1 k1=>?_
 have w1:Wf s1:=k1.wf w0
 have b1:=hb.kp w0 k1 id
 have hM1:=hM.kp w0 k1 id
 have q1:=hq.kn w0 k1
 have lh1:=r1.all (n:=32) (by rw [List.length_map,hH]) (by decide)
 refine run1 ?_
 refine Wo.call rfl (Xc.call ok68 rfl) rfl ((place_ok (ql:=none) (m:=0) (cl:=0) (i:=0) (f:=false) w1 b1 hm hM1 hH (by rw [hno];rfl) (fun s' _=>bs0_ok)).mono ?_)
 rintro v s2 ⟨rfl,k2⟩
 have w2:Wf s2:=k2.wf w1
 have k12:Kn s1 s2:=k2
 refine run1 ?_
 refine W.dr [(12,.none,0),(13,.acts,4096),(5,.none,0),(6,.none,32),(7,.none,96),(8,.reads,224),(9,.reads,0),(10,.reads,992),(11,.none,0),(14,.makes,12288),(15,.acts,32736),(0,.none,0),(1,.none,1),(2,.none,3),(3,.reads,7),(4,.reads,0),(16,.acts,65535)] (by kernel_rfl) rfl (run1 ?_)
 refine Wd.call rfl (Xc.call ok39 rfl) rfl ((clone_ok w2 (q1.kn w1 k2) (by omega)).mono ?_)
 rintro v s3 ⟨qa,ca,γa,rfl,ga,k3,la⟩
 refine⟨k3.le,?_⟩
 have w3:Wf s3:=k3.wf w2
 have k13:Kn s1 s3:=k2.call k3
 have lm2:ldq s2 (qadd (some ⟨b,o,none⟩) 0)=some (.map (some r)):=At.one (b1.kp w1 k2 id) hm (by omega)
 have lm3:ldq s3 (qadd (some ⟨b,o,none⟩) 0)=some (.map (some r)):=At.one (b1.kp w1 k13 id) hm (by omega)
 have lh2:=(r1.kp w1 k2 id).all (n:=32) (by rw [List.length_map,hH]) (by decide)
 have lh3:=(r1.kp w1 k13 id).all (n:=32) (by rw [List.length_map,hH]) (by decide)
 have hM2:=hM1.kp w1 k2 id
 have hM3:=hM1.kp w1 k13 id
 refine run1 ?_
 refine Wd.val rfl (Xv.nilC rfl) rfl (Nat.le_refl _) (run1 ?_)
 refine Wd.read rfl (Xv.ld rfl rfl rfl lm3) rfl eqV_mp ⟨Xv.ld rfl rfl rfl lm3,⟨Xv.ld rfl rfl rfl lm2,trivial⟩⟩ ?_
 refine Wd.read rfl (Xv.ldN rfl rfl rfl lh3) rfl eqV_h ⟨Xv.ldN rfl rfl rfl lh3,⟨Xv.ldN rfl rfl rfl lh2,trivial⟩⟩ ?_
 have lk:∀{X:Fx} {env:Env} {x y:Operand} {t:St},Mp t r M→X.B=B→ev env x=some (.map (some r))→ev env y=some (hsh H)→Xv X (.lookup 62 x y false) env t (.slice none 0 0) t:=fun{X env x y t} hM hB hx hy=>by
  have:=Xv.look (X:=X) (ok:=false) (t:= 62) (key:= 26) (elt:= 22) (e:= 5) (z:=.slice none 0 0) (by rw [hB];rfl) (by show HT X.B.P _ _;rw [hB];exact HH) (by show zeroOf X.B.P _=_;rw [hB];exact zsl) rfl hx hy hH hM
  rw [hno]at this;exact this
 refine Wd.read rfl (lk hM3 rfl rfl rfl) rfl eqV_slice ⟨lk hM3 rfl rfl rfl,⟨lk hM2 rfl rfl rfl,trivial⟩⟩ (run1 ?_)
 refine mk_gen (M:=fun s'=>Wd _ _ _ _ _ _ s' _) fun s4 q4 n4 k4=>?_
 have w4:Wf s4:=k4.wf w3
 refine Wd.call rfl (Xc.call ok69 rfl) rfl ((insert0_ok w4 q4.ats rfl).mono ?_)
 rintro v s5 ⟨ql,cl,γl,rfl,gl,ll,k5⟩
 refine⟨k5.le,?_⟩
 have w5:Wf s5:=k5.wf w4
 have k35:Kn s3 s5:=k4.call k5
 have k15:Kn s1 s5:=k13.call k35
 have lm5:ldq s5 (qadd (some ⟨b,o,none⟩) 0)=some (.map (some r)):=At.one (b1.kp w1 k15 id) hm (by omega)
 have lh5:=(r1.kp w1 k15 id).all (n:=32) (by rw [List.length_map,hH]) (by decide)
 refine run1 ?_
 refine Wd.val rfl (Xv.nilC rfl) rfl (Nat.le_refl _) (run1 ?_)
 refine Wd.read rfl (Xv.ld rfl rfl rfl lm5) rfl eqV_mp ⟨Xv.ld rfl rfl rfl lm5,⟨Xv.ld rfl rfl rfl lm3,⟨Xv.ld rfl rfl rfl lm2,trivial⟩⟩⟩ ?_
 refine Wd.read rfl (Xv.ldN rfl rfl rfl lh5) rfl eqV_h ⟨Xv.ldN rfl rfl rfl lh5,⟨Xv.ldN rfl rfl rfl lh3,⟨Xv.ldN rfl rfl rfl lh2,trivial⟩⟩⟩ ?_
 refine Wd.put (h:=H) rfl rfl rfl HH rfl rfl rfl hH hHb (hM1.kp w1 k15 id) fun s6 m6 n6 k6=>?_
 have w6:Wf s6:=k6.wf w5
 have b6:Rw s6 b l γ:=(b1.kp w1 k15 id).kp w5 k6 (Ne.symm hr)
 have ln6:ldq s6 (qadd (some ⟨b,o,none⟩) 1)=some (nI k):=At.one b6 hn rfl
 have ho:o+1<l.length:=(List.getElem?_eq_some_iff.1 hn).1
 refine run1 ?_
 refine Wo.val rfl (Xv.nilC rfl) rfl (run1 ?_)
 refine Wo.val rfl (Xv.nilC rfl) rfl (run1 ?_)
 refine Wo.st rfl rfl rfl rfl rfl rfl rfl (by intro v hv;rw [List.mem_singleton.1 hv];rfl) b6 (by show o+1+1≤_;omega) fun s7 r7 n7 k7=>?_
 rw [lov_one ho]at r7
 refine run1 ?_
 have g3:s.nx≤γa:=Nat.le_trans k1.le (Nat.le_trans k2.le la)
 have hrs:=hM1.lt w1
 have hgs:=b1.lt w1
 have hrs0:=hM.lt w0
 have hgs0:=hb.lt w0
 have ga6:Sl s6 qa (A.map nB) γa:=((ga.sl.kp w3 k35 id).kp w5 k6 (by omega))
 have gl6:Sl s6 ql [.slice qa A.length ca] γl:=gl.sl.kp w5 k6 (by have:=k4.le;have:=k3.le;have:=k2.le;have:=k1.le;omega)
 refine Lv.nrm rfl ⟨ql,cl,qa,ca,γl,γa,m6.kp w6 k7 hr,r7,gl6.kp w6 k7 (by have:=k4.le;have:=k3.le;have:=k2.le;have:=k1.le;omega),(by have:=k4.le;have:=k3.le;have:=k2.le;have:=k1.le;omega),ga6.kp w6 k7 (by omega),g3,?_⟩
 have k05:Kn s s5:=k1.call k15
 exact((k05.w).trans (k6.mono fun c h=>.inr h)).trans (k7.mono fun c h=>.inl h)
theorem add_old{b o:Nat}{l:List Value}{r:Nat}{M:MpE}{H:List Nat}{ql qa:Option Addr}{cl ca:Nat}(w0:Wf s)(hb:Rw s b l γ)(hm:l[o]? =some (.map (some r)))(hM:Mp s r M)(hH:H.length=32)(hV:mget H M=some (.slice ql 1 cl))(hl:At s ql [.slice qa A.length ca])(ha:At s qa (A.map nB))(hq:At s q (A.map nB)):
  Cl B (.call 37 [.pointer (some ⟨b,o,none⟩),hsh H,.slice q A.length c]) s fun _ s'=>Kn s s':=by
 refine Cl.enter Tryz.f37 fn37 rfl rfl rfl ?_
 have gd:good (some ⟨b,o,none⟩):=good_b
 refine run1 ?_
 refine mkO (cs:=H.map nB) fun s1 r1 n1 k1=>?_
 have w1:Wf s1:=k1.wf w0
 have lh1:=r1.all (n:=32) (by rw [List.length_map,hH]) (by decide)
 refine run1 ?_
 refine Wo.call rfl (Xc.call ok68 rfl) rfl ((place_ok (ql:=ql) (m:=1) (cl:=cl) (i:=0) (f:=true) w1 (hb.kp w0 k1 id) hm (hM.kp w0 k1 id) hH (by rw [hV];rfl) (fun s' k=>bs1_ok (hl.kn w0 (k1.call k)) (ha.kn w0 (k1.call k)) (hq.kn w0 (k1.call k)))).mono ?_)
 rintro v s2 ⟨rfl,k2⟩
 refine run1 ?_
 exact Lv.ret rfl (k1.call k2)
end Go.Proofs.YtnbdpcpgckfeeaaGreatDoor
namespace Go.Sy
open Go Go.Ev
theorem Wo.dfr{X:Fx}{env:Env}{df:List Deferred}{s:St}{Q:Post}{all os:List Oper}{ty:TypeId}{pos:String}{af:Array Edge}{g:Option (Nat×Bool)}{f:FuncId}{args:Array Operand}{ts:Array TypeId}{vs:List Value}(hg:wantsE all env g=some true)(hrd:X.rd=none)(ha:evs env args.toList=some vs)
  (k:Wo X all os env (⟨.fn (.func f) #[],⟨vs⟩⟩::df) s Q):Wo X all (⟨none,.defer ⟨.value (.func f),args,ts⟩,ty,pos,af,g⟩::os) env df s Q:=by
 constructor;intro tm hf
 have hx:exec X.P (.defer ⟨.value (.func f),args,ts⟩) tm s= .ok (.defer ⟨.fn (.func f) #[],⟨vs⟩⟩) s:=by
  show Re.ok (.defer ⟨.fn (.func f) #[],⟨appO [] (opds tm args.toList)⟩⟩) s=_
  rw [evs_opds hf ha,appO_eq,List.nil_append]
 have ho:∀rec,oper X.P rec X.rd all ⟨none,.defer ⟨.value (.func f),args,ts⟩,ty,pos,af,g⟩ (.mk X.nt tm df) s= .ok (.mk X.nt tm (⟨.fn (.func f) #[],⟨vs⟩⟩::df)) s:=fun rec=>by
  unfold oper
  simp only[wants_ok hf hg,hx,after,hrd]
  rfl
 obtain⟨e,env',tm',df',s2,k1,k2,k3⟩:=(k).w tm hf
 exact⟨e,env',tm',df',s2,k1.mono fun m a=>by dsimp only at a;show asN (thenO (oper _ _ _ _ _ _ _) _)=_;rw [ho];exact a,k2,k3⟩
theorem Cl.toLate{B:Bx}{f:FuncId}{args:List Value}{s:St}{Q:Value→St→Prop}(hk:B.hook f=none)(h:Cl B (.call f args) s Q):Cl B (.late f args) s Q:=by
 obtain⟨v,s',h1,h2⟩:=h
 refine⟨v,s',h1.mono fun m hm=>?_,h2⟩
 cases m with
 |zero=>cases hm
 |succ m=>
  have hm':(match B.hook f with|some h=>orElse (h args s) (Ev.enter B.P (run B.P B.hook m) f args) s|none=>Ev.enter B.P (run B.P B.hook m) f args s)= .ok v s':=hm
  rw [hk]at hm'
  exact hm'
theorem Lv.retD{B:Bx}{rs:List ResultVar}{Q:Value→St→Prop}{env:Env}{df:List Deferred}{s:St}(hl:df.length≤100)(h:Dfr B df s fun s=> ∃vs,resE B.P env s rs=some vs∧Q (rv vs) s):Lv B rs Q .ret env df s:=⟨⟨hl,h⟩⟩
end Go.Sy
namespace Go.Proofs.YtnbdpcpgckfeeaaGreatDoor
open Go Go.Ev Go.Sy
set_option maxRecDepth 100000
variable{s:St}{p γ δ n c:Nat}{q:Option Addr}{S M A D O R:List Nat}{nb cb r1 n1 r2 n2 r3 n3:Nat}
open Go Go.Ev Go.Sy
set_option maxRecDepth 100000
variable{s s0:St}{p γ δ n c m N d:Nat}{q:Option Addr}{A D F:List Nat}{L cs:List Value}
def z3:List Value:=[.bool false,.slice none 0 0,.slice none 0 0]
open Go Go.Ev Go.Sy
set_option maxRecDepth 100000
variable{s s0:St}{p γ δ n c m N d:Nat}{q:Option Addr}{A D F:List Nat}{L cs:List Value}
open Go Go.Ev Go.Sy
set_option maxRecDepth 100000
variable{s s0:St}{p γ δ n c m N d:Nat}{q:Option Addr}{A D F:List Nat}{L cs:List Value}
end Go.Proofs.YtnbdpcpgckfeeaaGreatDoor
namespace Go.Sy
open Go Go.Ev
end Go.Sy
namespace Go.Proofs.YtnbdpcpgckfeeaaGreatDoor
open Go Go.Ev Go.Sy
set_option maxRecDepth 100000
variable{s s0:St}{p γ δ n c m N d:Nat}{q:Option Addr}{A D F:List Nat}{L cs:List Value}
open Go Go.Ev Go.Sy
set_option maxRecDepth 100000
variable{s:St}{q r:Option Addr}{c d:Nat}{M N:List Nat}
theorem rcommon_ok(ha:Bs s q M)(hb:Bs s r N)(hA:M.length<2^60)(_hB:N.length<2^60):
  Cl B (.call 48 [.slice q M.length c,.slice r N.length d]) s fun v s'=>v=nI (com M N)∧s'=s:=by
 refine Cl.enter Tryz.f48 fn48 rfl rfl rfl ?_
 refine run1 ?_
 refine W.loop (α:=Nat) (fun i=>[(0,.slice q M.length c),(1,.slice r N.length d),(5,nI i)]) (fun _=>[]) (fun _=>s)
  (fun i=>i≤M.length∧com M N=i+com (M.drop i) (N.drop i)) (fun i=>M.length-i) 0 ⟨Nat.zero_le _,(Nat.zero_add _).symm⟩ (.cons rfl (.cons rfl (.cons rfl .nil))) rfl rfl (by omega) ?_
 intro i ⟨h1,h2⟩
 refine run1 ?_
 refine W.dr [(0,.none,0),(1,.none,0),(2,.none,2),(3,.none,7),(4,.none,15),(5,.none,31),(6,.none,31),(7,.none,95),(8,.none,255),(9,.none,511),(10,.none,1023),(11,.none,2047),(12,.none,2047),(13,.none,8191),(14,.reads,16383),(15,.none,2047),(16,.none,2047),(17,.none,100351),(18,.reads,231423),(19,.none,524287),(20,.none,1048575)] (by kernel_rfl) rfl ?_
 by_cases k1:i<M.length
 ·by_cases k2:i<N.length
  ·by_cases k3:M.getD i 0=N.getD i 0
   ·refine run1 ?_
    refine rnd.n (i+1) ⟨by omega,?_⟩ (by omega) (.cons rfl (.cons rfl (.cons rfl .nil))) rfl rfl
    rw [h2,com_drop k1 k2,if_pos k3,Nat.add_assoc,Nat.add_comm 1]
   ·refine run1 ?_
    refine Lv.ret rfl ⟨congrArg nI ?_,rfl⟩
    rw [h2,com_drop k1 k2,if_neg k3];rfl
  ·refine run1 ?_
   refine Lv.ret rfl ⟨congrArg nI ?_,rfl⟩
   rw [h2,com_end (.inr (by omega))];rfl
 ·refine run1 ?_
  refine Lv.ret rfl ⟨congrArg nI ?_,rfl⟩
  rw [h2,com_end (.inl (by omega))];rfl
theorem rcompare_ok(ha:Bs s q M)(hb:Bs s r N)(hA:M.length<2^60)(hB:N.length<2^60):
  Cl B (.call 21 [.slice q M.length c,.slice r N.length d]) s fun v s'=>v= .int .i64 (cmp M N)∧s'=s:=by
 refine Cl.enter Tryz.f21 fn21 rfl rfl rfl ?_
 refine run1 ?_
 refine Wo.call rfl (Xc.call ok48 rfl) rfl ((rcommon_ok ha hb hA hB).mono ?_)
 rintro v s' ⟨rfl,rfl⟩
 obtain⟨l1,l2⟩:=com_le M N
 by_cases k1:com M N=M.length
 ·by_cases k2:com M N=N.length
  ·refine run1 ?_
   exact Lv.ret rfl ⟨by rw [cmp,if_pos ⟨k1,k2⟩];rfl,rfl⟩
  ·refine run1 ?_
   exact Lv.ret rfl ⟨by rw [cmp,if_neg fun h=>k2 h.2,if_pos k1];rfl,rfl⟩
 ·by_cases k2:com M N=N.length
  ·refine run1 ?_
   exact Lv.ret rfl ⟨by rw [cmp,if_neg fun h=>k1 h.1,if_neg k1,if_pos k2];rfl,rfl⟩
  ·refine run1 ?_
   refine W.dr [(0,.none,0),(1,.none,0),(2,.none,3),(3,.reads,7),(4,.none,0),(5,.none,0),(6,.none,48),(7,.reads,112),(8,.none,255),(9,.none,511)] (by kernel_rfl) rfl ?_
   by_cases k3:M.getD (com M N) 0<N.getD (com M N) 0
   ·refine run1 ?_
    exact Lv.ret rfl ⟨by rw [cmp,if_neg fun h=>k1 h.1,if_neg k1,if_neg k2,if_pos k3];rfl,rfl⟩
   ·refine run1 ?_
    exact Lv.ret rfl ⟨by rw [cmp,if_neg fun h=>k1 h.1,if_neg k1,if_neg k2,if_neg k3];rfl,rfl⟩
theorem same_ok(ha:Bs s q M)(hb:Bs s r N)(hA:M.length<2^60)(hB:N.length<2^60):
  Cl B (.call 4 [.slice q M.length c,.slice r N.length d]) s fun v s'=>v= .bool (decide (M=N))∧s'=s:=by
 refine Cl.enter Tryz.f4 fn4 rfl rfl rfl ?_
 refine run1 ?_
 refine Wo.call rfl (Xc.call ok21 rfl) rfl ((rcompare_ok ha hb hA hB).mono ?_)
 rintro v s' ⟨rfl,rfl⟩
 refine run1 ?_
 exact Lv.ret rfl ⟨congrArg Value.bool (decide_eq_decide.2 cmp_zero),rfl⟩
end Go.Proofs.YtnbdpcpgckfeeaaGreatDoor
