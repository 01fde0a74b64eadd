import Derived.Test.YtnbdpcpgckfeeaaGreatDoorFjzz
namespace Go.Sy
open Go Go.Ev
section
variable{X:Fx}{env:Env}{s:St}
theorem Xv.sub56{t t':TypeId}{x y:Operand}{h:Nat}(hx:ev env x=some (nI 56))(hy:ev env y=some (nI h))(h2:h<64){z:Int}(hz:z=56-(h:Int)):Xv X (.binOp .sub t x y t') env s (.int .i64 z) s:=by
 subst hz
 by_cases h1:h≤56
 ·have:=Xv.subI (X:=X) (s:=s) (t:=t) (t':=t') hx hy h1 (by decide)
  rw [show (56-(h:Int))=Int.ofNat (56-h)by show _=((56-h:Nat):Int);omega]
  exact this
 intro tm hf
 show xBin X.P .sub t x y (opd tm x) (opd tm y) s=_
 rw [ev_opd hf hx,ev_opd hf hy]
 have:h=57∨h=58∨h=59∨h=60∨h=61∨h=62∨h=63:=by omega
 rcases this with rfl|rfl|rfl|rfl|rfl|rfl|rfl<;>rfl
theorem Xv.add64{t t':TypeId}{x y:Operand}{h:Nat}{z:Int}(hx:ev env x=some (.int .i64 z))(hy:ev env y=some (nI 64))(h1:56≤h)(h2:h<64)(hz:z=56-(h:Int)):Xv X (.binOp .add t x y t') env s (nI (120-h)) s:=fun tm hf=>by
 subst hz
 show xBin X.P .add t x y (opd tm x) (opd tm y) s=_
 rw [ev_opd hf hx,ev_opd hf hy]
 have:h=56∨h=57∨h=58∨h=59∨h=60∨h=61∨h=62∨h=63:=by omega
 rcases this with rfl|rfl|rfl|rfl|rfl|rfl|rfl|rfl<;>rfl
end
end Go.Sy
namespace Go.Proofs.YtnbdpcpgckfeeaaGreatDoor
open Go Go.Ev Go.Sy
set_option maxRecDepth 100000
variable{s:St}{n:Nat}
def zend(n:Nat):Nat:=if n%64<56 then 56-n%64 else 120-n%64
def pdN(n:Nat):Nat→List Nat
 |0=>(List.replicate 72 0).set 0 128
 |i+1=>(pdN n i).set (zend n+i) (((8*n)>>>(56-8*i))%256)
theorem pdN_length:∀{i:Nat},(pdN n i).length=72
 |0=>rfl
 |i+1=>by rw [pdN,List.length_set,pdN_length]
theorem lay_set{L:List Nat}{i x:Nat}(hi:i<L.length):lov (L.map nB) i [nB x]=(L.set i x).map nB:=by
 unfold lov
 rw [List.set_eq_take_append_cons_drop,if_pos hi,List.map_append,List.map_take,List.map_cons,List.map_drop];rfl
theorem zend_lt:zend n≤64:=by unfold zend;split<;>omega
theorem pad_ok(w0:Wf s)(hn:n<2^60):Cl B (.call 91 [nI n]) s fun v s'=>v= .tuple ⟨[.agg ⟨(pdN n 8).map nB⟩,nI (zend n+8)]⟩∧Kn s s':=by
 refine Cl.enter Tryz.f91 fn91 rfl rfl rfl ?_
 refine run1 ?_
 obtain⟨s1,hs1⟩:∃s1,s1=mkRow s ((List.replicate 72 0).map nB):=⟨_,rfl⟩
 have c1:Rw s1 s.nx ((List.replicate 72 0).map nB) s.nx:=by rw [hs1];exact mkRow_rw
 have c2:s1.nx=s.nx+1:=by rw [hs1];rfl
 have c3:Kn s s1:=by rw [hs1];exact mkRow_kn
 have e1:∀{X all os env df Q},Wo X all os env df s1 Q→Wo X all os env df (mkRow s ((List.replicate 72 0).map nB)) Q:=fun h=>by rw [←hs1];exact h
 refine e1 ?_
 clear e1 hs1
 obtain⟨h,hh⟩:∃h,h=n%64:=⟨_,rfl⟩
 have hm:n.mod 64=h:=hh.symm
 have h64:h<64:=by omega
 rw [hm]
 obtain⟨z,hz⟩:∃z:Int,z=56-(h:Int):=⟨_,rfl⟩
 refine Wo.val rfl (Xv.sub56 rfl rfl h64 hz) rfl (run1 ?_)
 refine W.meet (α:=Unit) (fun _=>[(0,nI n),(2,.pointer (some ⟨s.nx,0,none⟩)),(4,nI (zend n))]) (fun _=>s1) (fun _=>True) ?_ ?_
 ·refine W.cond rfl (fun h0=>?_) (fun h0=>?_)
  ·have h1:56≤h:=by have:z<1:=h0;omega
   refine run1 ?_
   refine Wo.val rfl (Xv.add64 rfl rfl h1 h64 hz) rfl (run1 ?_)
   have ez:120-h=zend n:=by unfold zend;rw [←hh,if_neg (by omega)]
   rw [ez]
   exact meet.n () trivial (.cons rfl (.cons rfl (.cons rfl .nil))) rfl
  ·have h1:h<56:=by have:¬z<1:=h0;omega
   refine run1 ?_
   have ez:z=Int.ofNat (zend n):=by rw [hz];unfold zend;rw [←hh,if_pos h1];show _=((56-h:Nat):Int);omega
   rw [ez]
   exact meet.n () trivial (.cons rfl (.cons rfl (.cons rfl .nil))) rfl
 rintro _ _
 clear hz z hh hm h64 h
 refine run1 ?_
 obtain⟨s2,hs2⟩:∃s2,s2=mkRow s1 ((List.replicate 72 0).map nB):=⟨_,rfl⟩
 have d1:Rw s2 s1.nx ((List.replicate 72 0).map nB) s1.nx:=by rw [hs2];exact mkRow_rw
 have d2:s2.nx=s1.nx+1:=by rw [hs2];rfl
 have d3:Kn s1 s2:=by rw [hs2];exact mkRow_kn
 have e2:∀{X all os env df Q},Wo X all os env df s2 Q→Wo X all os env df (mkRow s1 ((List.replicate 72 0).map nB)) Q:=fun h=>by rw [←hs2];exact h
 refine e2 ?_
 clear e2 hs2
 have w1:Wf s1:=c3.wf w0
 have w2:Wf s2:=d3.wf w1
 refine Wo.val rfl (Xv.iaP (i:=0) rfl rfl rfl rfl (by decide)) rfl (run1 ?_)
 refine Wo.st rfl rfl rfl rfl rfl rfl rfl (by intro v hv;rw [List.mem_singleton]at hv;rw [hv];rfl) d1 (by rw [List.length_map,List.length_replicate];decide) ?_
 intro s3 j1 j2 j3
 have j1':Rw s3 s1.nx ((pdN n 0).map nB) s1.nx:=by
  have:lov ((List.replicate 72 0).map nB) (0+0*1) [nB 128]=(pdN n 0).map nB:=by rw [Nat.zero_mul,Nat.zero_add,lay_set (by rw [List.length_replicate];decide)];rfl
  rw [←this];exact j1
 clear j1
 have k3:Kp (fun c=>c=s1.nx) s1 s3:=(d3.w).trans j3
 have c1':Rw s3 s.nx ((List.replicate 72 0).map nB) s.nx:=c1.kp w1 k3 (by omega)
 refine run1 ?_
 have hz:=zend_lt (n:=n)
 refine W.loop (α:=Nat×St) (fun p=>[(2,.pointer (some ⟨s.nx,0,none⟩)),(4,nI (zend n)),(5,.pointer (some ⟨s1.nx,0,none⟩)),(6,.int .u64 (.ofNat (8*n))),(19,nI p.1)]) (fun _=>[]) (fun p=>p.2)
  (fun p=>p.1≤8∧Rw p.2 s1.nx ((pdN n p.1).map nB) s1.nx∧p.2.nx=s3.nx∧Kp (fun c=>c=s1.nx) s1 p.2) (fun p=>8-p.1) (0,s3) ⟨Nat.zero_le _,j1',rfl,k3⟩ (.cons rfl (.cons rfl (.cons rfl (.cons ?_ (.cons rfl .nil))))) rfl rfl (by show 8-0<_;omega) ?_
 ·have e8:(Nat.mul 8 (n.mod 18446744073709551616)).mod 18446744073709551616=8*n:=by
   rw [show n.mod 18446744073709551616=n from Nat.mod_eq_of_lt (by omega)]
   exact Nat.mod_eq_of_lt (by show 8*n<_;omega)
  show some (Value.int .u64 (.ofNat ((Nat.mul 8 (n.mod 18446744073709551616)).mod 18446744073709551616)))=_
  rw [e8]
 rintro⟨i,s4⟩ ⟨i1,i2,i3,i4⟩
 simp only at i1 i2 i3 i4
 dsimp only
 by_cases hi:i<8
 ·refine run1 ?_
  have hsh:arN .shr .u64 (8*n) (56-8*i)=some ((8*n)>>>(56-8*i)):=by
   show cond (Nat.ble (56-8*i) 64) (some _) none=_
   rw [show Nat.ble (56-8*i) 64=true from Nat.ble_eq_true_of_le (by omega)];rfl
  refine Wo.val rfl (Xv.ar (k:=.u64) (k':=.i64) rfl rfl rfl hsh) rfl (run1 ?_)
  refine Wo.val rfl (Xv.iaP rfl rfl rfl rfl (show zend n+i<72 by omega)) rfl (run1 ?_)
  refine Wo.st rfl rfl rfl rfl rfl rfl rfl (by intro v hv;rw [List.mem_singleton]at hv;rw [hv];rfl) i2 (by rw [List.length_map,pdN_length];omega) ?_
  intro s5 m1 m2 m3
  have m1':Rw s5 s1.nx ((pdN n (i+1)).map nB) s1.nx:=by
   rw [pdN,←lay_set (by rw [pdN_length];omega),show zend n+i=0+(zend n+i)*1 by omega]
   exact m1
  refine run1 ?_
  exact rnd.n (i+1,s5) ⟨hi,m1',m2.trans i3,i4.trans m3⟩ (by show 8-(i+1)<8-i;omega) (.cons rfl (.cons rfl (.cons rfl (.cons rfl (.cons rfl .nil))))) rfl rfl
 ·have e:i=8:=by omega
  subst e
  have w4:Wf s4:=i4.wf w1
  have c4:Rw s4 s.nx ((List.replicate 72 0).map nB) s.nx:=c1.kp w1 i4 (by omega)
  have hld:ldn s4 (some ⟨s1.nx,0,none⟩) 72=some ((pdN n 8).map nB):=by
   have:=(Rw.ats i2).ldn (i:=0) (n:=72) (by rw [List.length_map,pdN_length];omega) (by decide)
   rw [List.drop_zero,List.take_of_length_le (by rw [List.length_map,pdN_length];omega)]at this
   exact this
  refine run1 ?_
  refine Wo.st rfl rfl rfl rfl rfl rfl (by rw [List.length_map,pdN_length]) (by intro v hv;obtain⟨x,_,rfl⟩:=List.mem_map.1 hv;rfl) c4 (by rw [List.length_map,List.length_replicate];decide) ?_
  intro s5 m1 m2 m3
  rw [lov_all (by rw [List.length_map,List.length_map,pdN_length,List.length_replicate])]at m1
  refine run1 ?_
  have hc:=cell_at (B:=B) (t:= 154) (n:=72) (k:=.ar 72 5) rfl rfl m1 (by rw [List.length_map,pdN_length]) rfl
  refine Lv.ret (vs:=[.agg ⟨(pdN n 8).map nB⟩,nI (zend n+8)]) ?_ ⟨rfl,?_⟩
  ·show (match cell1 B.P (.pointer (some ⟨s.nx,0,none⟩)) 154 s5,some [nI (zend n+8)]with|some v,some vs=>some (v::vs)|_,_=>none)=_
   rw [hc]
  ·exact Kp.new (N:=s.nx) .refl (((c3.w).trans (i4.mono fun c h=>by subst h;omega)).trans (m3.mono fun c h=>by subst h;exact Nat.le_refl _)) (Nat.le_refl _)
open Go Go.Ev Go.Sy
set_option maxRecDepth 100000
variable{s:St}{p γ n:Nat}{w:W8}{R:List Nat}{E:List Value}
def wl(w:W8):List Nat:=[w.a,w.b,w.c,w.d,w.e,w.f,w.g,w.h]
def sumN(w:W8):Nat→List Nat
 |0=>List.replicate 32 0
 |i+1=>((((sumN w i).set (4*i) (((wl w).getD i 0>>>24)%256)).set (4*i+1) (((wl w).getD i 0>>>16)%256)).set (4*i+2) (((wl w).getD i 0>>>8)%256)).set (4*i+3) ((wl w).getD i 0%256)
theorem sumN_length:∀{i:Nat},(sumN w i).length=32
 |0=>rfl
 |i+1=>by simp only[sumN,List.length_set];exact sumN_length
theorem set_byte{l:List Nat}{i x:Nat}(h:∀y∈l,y<256)(hx:x<256):∀y∈l.set i x,y<256:=fun y hy=>by
 rcases List.mem_or_eq_of_mem_set hy with h'|h'
 ·exact h y h'
 ·rw [h'];exact hx
theorem sumN_byte:∀{i:Nat},∀y∈sumN w i,y<256
 |0=>fun y hy=>by rw [List.eq_of_mem_replicate hy];decide
 |i+1=>set_byte (set_byte (set_byte (set_byte sumN_byte (Nat.mod_lt _ (by decide))) (Nat.mod_lt _ (by decide))) (Nat.mod_lt _ (by decide))) (Nat.mod_lt _ (by decide))
theorem pdN_byte:∀{i:Nat},∀y∈pdN n i,y<256
 |0=>set_byte (fun y hy=>by rw [List.eq_of_mem_replicate hy];decide) (by decide)
 |i+1=>set_byte pdN_byte (Nat.mod_lt _ (by decide))
theorem wv_get{i:Nat}(hi:i<8):(wv w)[i*1]? =some (.int .u32 (.ofNat ((wl w).getD i 0))):=by
 have:i=0∨i=1∨i=2∨i=3∨i=4∨i=5∨i=6∨i=7:=by omega
 rcases this with rfl|rfl|rfl|rfl|rfl|rfl|rfl|rfl<;>rfl
def padL(n:Nat):List Nat:=(pdN n 8).take (zend n+8)
theorem padL_length:(padL n).length=zend n+8:=by have:=zend_lt (n:=n);unfold padL;rw [List.length_take,pdN_length];omega
def endW(w:W8)(R:List Nat)(n:Nat):W8:=fwN ((n%64+(padL n).length)/64) w (R.take (n%64)++padL n)
theorem sc_front(h:R.length=64):(sc E w R n).take 73=sc [] w R n:=by
 unfold sc
 have e:wv w++(R.map nB++nI n::E)=(wv w++(R.map nB++[nI n]))++E:=by simp
 rw [e,List.take_left' (by simp[wv,h])]
set_option maxHeartbeats 2000000 in
theorem ssum_ok(w0:Wf s)(hT:TabAt s)(h:Sst s p γ E w R n)(hn:n<2^59):Cl B (.call 67 [.pointer (some ⟨p,0,none⟩)]) s fun v s'=>v=hsh (sumN (endW w R n) 8)∧Kn s s':=by
 have hlen:=h.len
 have hgd:good (some ⟨p,0,none⟩):=⟨_,_,rfl⟩
 refine Cl.enter Tryz.f67 fn67 rfl rfl rfl ?_
 refine run1 ?_
 refine mkO (cs:=(List.replicate 32 0).map nB) ?_
 intro s1 c1 c2 c3
 have w1:Wf s1:=c3.wf w0
 have h1:Rw s1 p (sc E w R n) γ:=h.rw.kp w0 c3 id
 refine Wo.val rfl (Xv.pEq rfl rfl rfl) rfl (run1 ?_)
 refine Wo.val rfl (Xv.nilC rfl) rfl ?_
 have hl1:ldn s1 (some ⟨p,0,none⟩) 73=some (sc [] w R n):=by
  have:=(Rw.ats h1).ldn (i:=0) (n:=73) (sc_le hlen (by decide)) (by decide)
  rw [List.drop_zero,sc_front hlen]at this
  exact this
 refine run1 ?_
 refine mkO (cs:=sc [] ⟨0,0,0,0,0,0,0,0⟩ (List.replicate 64 0) 0) ?_
 intro s2 d1 d2 d3
 have w2:Wf s2:=d3.wf w1
 refine Wo.st rfl rfl rfl rfl rfl rfl (by rw [sc_length,hlen];rfl) (by
  intro v hv
  unfold sc wv at hv
  rcases List.mem_append.1 hv with hv|hv
  ·simp only[List.mem_cons,List.not_mem_nil,or_false]at hv;rcases hv with rfl|rfl|rfl|rfl|rfl|rfl|rfl|rfl<;>rfl
  ·rcases List.mem_append.1 hv with hv|hv
   ·obtain⟨x,_,rfl⟩:=List.mem_map.1 hv;rfl
   ·rw [List.mem_singleton]at hv;rw [hv];rfl) d1 (sc_le rfl (by decide)) ?_
 intro s3 j1 j2 j3
 rw [lov_all (by rw [sc_length,sc_length,hlen];rfl)]at j1
 have w3:Wf s3:=j3.wf w2
 have k13:Kp (fun c=>s1.nx≤c) s1 s3:=(d3.w).trans (j3.mono fun c h=>by subst h;exact Nat.le_refl _)
 have h3:Rw s3 p (sc E w R n) γ:=by
  obtain⟨gg,g1,g2⟩:=h1
  exact Rw.kp ⟨gg,g1,g2⟩ w1 k13 (by have:=(w1.lt p _ g1).2;rw [show colr p (.row (sc E w R n) gg)=γ from g2]at this;omega)
 have hld:ldq s3 (qadd (some ⟨p,0,none⟩) 72)=some (nI n):=by
  rw [(Rw.ats h3).ld (i:=72) (by rw [sc_length];omega)]
  congr 1
  simp only[sc]
  rw [List.getElem_append_right (by simp[wv]),List.getElem_append_right (by simp[wv];omega)]
  simp[wv,hlen]
 refine run1 ?_
 refine Wo.val rfl (Xv.nilC rfl) rfl (run1 ?_)
 refine Wo.call rfl (Xc.call ok91 rfl) rfl ((pad_ok w3 (by omega)).mono ?_)
 rintro v s4 ⟨rfl,k4⟩
 have w4:Wf s4:=k4.wf w3
 refine run1 ?_
 refine mkO (cs:=(List.replicate 72 0).map nB) ?_
 intro s5 m1 m2 m3
 have w5:Wf s5:=m3.wf w4
 refine Wo.st rfl rfl rfl rfl rfl rfl (by rw [List.length_map,pdN_length]) (by intro v hv;obtain⟨x,_,rfl⟩:=List.mem_map.1 hv;rfl) m1 (by rw [List.length_map,List.length_replicate];decide) ?_
 intro s6 n1 n2 n3
 rw [lov_all (by rw [List.length_map,List.length_map,pdN_length,List.length_replicate])]at n1
 have w6:Wf s6:=n3.wf w5
 have hz:=zend_lt (n:=n)
 refine run1 ?_
 refine Wo.val rfl ((Xv.slP (b:=s4.nx) (o:=0) rfl rfl rfl (by decide)).2.2 rfl (show zend n+8≤72 by omega)) rfl (run1 ?_)
 have nx3:s3.nx=s1.nx+1:=j2.trans d2
 have nx4:s3.nx≤s4.nx:=k4.le
 have nx6:s6.nx=s4.nx+1:=n2.trans m2
 have hst:Rw s6 s1.nx (sc [] w R n) s1.nx:=((j1.kp w3 k4 id).kp w4 m3 id).kp w5 n3 (by omega)
 have kb6:Kp (fun c=>s.nx≤c) s s6:=((((c3.w).trans (k13.mono fun c h=>Nat.le_trans (by omega) h)).trans (k4.w)).trans (m3.w)).trans (n3.mono fun c h=>by subst h;omega)
 have hdat:Sl s6 (some ⟨s4.nx,0,none⟩) ((padL n).map nB) s4.nx:=by
  have:=(n1.sl (o:=0) (n:=((pdN n 8).map nB).length) (Nat.le_of_eq (Nat.zero_add _))).take (n:=zend n+8)
  rw [List.drop_zero,List.take_length,←List.map_take]at this
  exact this
 have hwr:=write_ok (c:=sure 72) (A:=padL n) w6 (fun s' k=>hT.kpN w0 (kb6.trans (k.mono fun c h=>by subst h;omega))) ⟨hst,h.ok,hlen,h.by'⟩ hdat (by omega) (Cap.sure (by rw [padL_length];omega)) (fun x hx=>pdN_byte x (List.mem_of_mem_take hx)) (by omega) (by rw [padL_length];omega)
 rw [padL_length]at hwr
 refine Wo.call rfl (Xc.call ok66 rfl) rfl (hwr.mono ?_)
 rintro v s7 ⟨⟨R',o1,_⟩,o2,o3⟩
 rw [←padL_length]at o1
 obtain⟨w',hw'⟩:∃w',w'=endW w R n:=⟨_,rfl⟩
 have o1':Rw s7 s1.nx (sc [] w' R' (n+(padL n).length)) s1.nx:=by rw [hw'];exact o1.rw
 rw [←hw']
 have w7:Wf s7:=o3.wf w6
 have hgd1:good (some ⟨s1.nx,0,none⟩):=⟨_,_,rfl⟩
 refine run1 ?_
 refine mkO (cs:=(List.replicate 32 0).map nB) ?_
 intro s8 p1 p2 p3
 have w8:Wf s8:=p3.wf w7
 have hlw:=sc_ldw (o1'.kp w7 p3 id)
 have kb8:Kp (fun c=>s.nx≤c) s s8:=(kb6.trans (o3.mono fun c h=>by subst h;omega)).trans (p3.w)
 refine run1 ?_
 have c8:Rw s8 s.nx ((List.replicate 32 0).map nB) s.nx:=((((((c1.kp w1 k13 (by omega)).kp w3 k4 id).kp w4 m3 id).kp w5 n3 (by omega)).kp w6 o3 (by omega)).kp w7 p3 id)
 have nx8:s8.nx=s7.nx+1:=p2
 refine W.loop (α:=Nat×St) (fun q=>[(2,.pointer (some ⟨s.nx,0,none⟩)),(6,.pointer (some ⟨s7.nx,0,none⟩)),(27,.agg ⟨wv w'⟩),(28,nI q.1)]) (fun _=>[]) (fun q=>q.2)
  (fun q=>q.1≤8∧Rw q.2 s7.nx ((sumN w' q.1).map nB) s7.nx∧q.2.nx=s8.nx∧Kp (fun c=>c=s7.nx) s8 q.2) (fun q=>8-q.1) (0,s8) ⟨Nat.zero_le _,p1,rfl,.refl⟩ (.cons rfl (.cons rfl (.cons rfl (.cons rfl .nil)))) rfl rfl (by show 8-0<_;omega) ?_
 rintro⟨i,t0⟩ ⟨i1,i2,i3,i4⟩
 simp only at i1 i2 i3 i4
 dsimp only
 by_cases hi:i<8
 ·refine run1 ?_
  refine Wo.val rfl (Xv.ixA rfl rfl rfl rfl rfl hi (wv_get hi)) rfl (run1 ?_)
  refine Wo.val rfl (Xv.iaP rfl rfl rfl rfl (show 4*i<32 by omega)) rfl (run1 ?_)
  refine Wo.st rfl rfl rfl rfl rfl rfl rfl (by intro v hv;rw [List.mem_singleton]at hv;rw [hv];rfl) i2 (by rw [List.length_map];simp only[sumN_length];omega) ?_
  intro u0 x0 y0 z0
  have x0':Rw u0 s7.nx (((sumN w' i).set (4*i) (((wl w').getD i 0>>>24)%256)).map nB) s7.nx:=by
   rw [←lay_set (by simp only[sumN_length];omega),show 4*i=0+(4*i)*1 by omega]
   exact x0
  clear x0
  refine run1 ?_
  refine Wo.val rfl (Xv.iaP rfl rfl rfl rfl (show 4*i+1<32 by omega)) rfl (run1 ?_)
  refine Wo.st rfl rfl rfl rfl rfl rfl rfl (by intro v hv;rw [List.mem_singleton]at hv;rw [hv];rfl) x0' (by rw [List.length_map];simp only[List.length_set,sumN_length];omega) ?_
  intro u1 x1 y1 z1
  have x1':Rw u1 s7.nx ((((sumN w' i).set (4*i) (((wl w').getD i 0>>>24)%256)).set (4*i+1) (((wl w').getD i 0>>>16)%256)).map nB) s7.nx:=by
   rw [←lay_set (by simp only[List.length_set,sumN_length];omega),show 4*i+1=0+(4*i+1)*1 by omega]
   exact x1
  clear x1
  refine run1 ?_
  refine Wo.val rfl (Xv.iaP rfl rfl rfl rfl (show 4*i+2<32 by omega)) rfl (run1 ?_)
  refine Wo.st rfl rfl rfl rfl rfl rfl rfl (by intro v hv;rw [List.mem_singleton]at hv;rw [hv];rfl) x1' (by rw [List.length_map];simp only[List.length_set,sumN_length];omega) ?_
  intro u2 x2 y2 z2
  have x2':Rw u2 s7.nx (((((sumN w' i).set (4*i) (((wl w').getD i 0>>>24)%256)).set (4*i+1) (((wl w').getD i 0>>>16)%256)).set (4*i+2) (((wl w').getD i 0>>>8)%256)).map nB) s7.nx:=by
   rw [←lay_set (by simp only[List.length_set,sumN_length];omega),show 4*i+2=0+(4*i+2)*1 by omega]
   exact x2
  clear x2
  refine run1 ?_
  refine Wo.val rfl (Xv.iaP rfl rfl rfl rfl (show 4*i+3<32 by omega)) rfl (run1 ?_)
  refine Wo.st rfl rfl rfl rfl rfl rfl rfl (by intro v hv;rw [List.mem_singleton]at hv;rw [hv];rfl) x2' (by rw [List.length_map];simp only[List.length_set,sumN_length];omega) ?_
  intro u3 x3 y3 z3
  have x3':Rw u3 s7.nx ((((((sumN w' i).set (4*i) (((wl w').getD i 0>>>24)%256)).set (4*i+1) (((wl w').getD i 0>>>16)%256)).set (4*i+2) (((wl w').getD i 0>>>8)%256)).set (4*i+3) ((wl w').getD i 0%256)).map nB) s7.nx:=by
   rw [←lay_set (by simp only[List.length_set,sumN_length];omega),show 4*i+3=0+(4*i+3)*1 by omega]
   exact x3
  clear x3
  refine run1 ?_
  exact rnd.n (i+1,u3) ⟨hi,x3',(((y3.trans y2).trans y1).trans y0).trans i3,(((i4.trans z0).trans z1).trans z2).trans z3⟩ (by show 8-(i+1)<8-i;omega) (.cons rfl (.cons rfl (.cons rfl (.cons rfl .nil)))) rfl rfl
 ·have e:i=8:=by omega
  subst e
  obtain⟨D,hD⟩:∃D,D=sumN w' 8:=⟨_,rfl⟩
  have hDl:D.length=32:=by rw [hD];exact sumN_length
  rw [←hD]at i2 ⊢
  have hls:ldn t0 (some ⟨s7.nx,0,none⟩) 32=some (D.map nB):=by
   have:=(Rw.ats i2).ldn (i:=0) (n:=32) (by rw [List.length_map,hDl];omega) (by decide)
   rw [List.drop_zero,List.take_of_length_le (by rw [List.length_map,hDl];omega)]at this
   exact this
  refine run1 ?_
  refine Wo.st rfl rfl rfl rfl rfl rfl (by rw [List.length_map,hDl]) (by intro v hv;obtain⟨x,_,rfl⟩:=List.mem_map.1 hv;rfl) (c8.kp w8 i4 (by have:=w7.one;have:=o2;omega)) (by rw [List.length_map,List.length_replicate];decide) ?_
  intro t1 q1 q2 q3
  rw [lov_all (by rw [List.length_map,List.length_map,hDl,List.length_replicate])]at q1
  refine run1 ?_
  have hc:=cell_at (B:=B) (t:= 26) (n:=32) (k:=.ar 32 5) rfl rfl q1 (by rw [List.length_map,hDl]) rfl
  refine Lv.ret (vs:=[.agg ⟨D.map nB⟩]) ?_ ⟨rfl,?_⟩
  ·show (match cell1 B.P (.pointer (some ⟨s.nx,0,none⟩)) 26 t1,some []with|some v,some vs=>some (v::vs)|_,_=>none)=_
   rw [hc]
  ·exact Kp.new (N:=s.nx) .refl ((kb8.trans (i4.mono fun c h=>by subst h;have:=o2;omega)).trans (q3.mono fun c h=>by subst h;exact Nat.le_refl _)) (Nat.le_refl _)
end Go.Proofs.YtnbdpcpgckfeeaaGreatDoor
