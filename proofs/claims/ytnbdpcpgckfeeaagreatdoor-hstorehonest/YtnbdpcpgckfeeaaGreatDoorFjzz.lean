import Derived.Test.YtnbdpcpgckfeeaaGreatDoorBbzz
import Derived.Test.YtnbdpcpgckfeeaaGreatDoorWgzz
import Derived.Test.YtnbdpcpgckfeeaaGreatDoorWnzz
import Derived.Test.YtnbdpcpgckfeeaaGreatDoorKjzz
namespace Go.Proofs.YtnbdpcpgckfeeaaGreatDoor
open Go Go.Ev Go.Sy
set_option maxRecDepth 100000
def TabAt(s:St):Prop:= ∀p∈Dg.tabs,At s (some ⟨p.1,0,none⟩) p.2
theorem TabAt.kpN{s0 s:St}(h:TabAt s0)(w:Wf s0)(k:Kp (fun c=>s0.nx≤c) s0 s):TabAt s:=fun p hp=>by
 obtain⟨γ,h1,h2⟩:=(h p hp).sl
 exact(h1.kp w k (by have:=h2 w;omega)).at
abbrev W8:=Dg.W8
def wv(w:W8):List Value:=[.int .u32 (.ofNat w.a),.int .u32 (.ofNat w.b),.int .u32 (.ofNat w.c),.int .u32 (.ofNat w.d),.int .u32 (.ofNat w.e),.int .u32 (.ofNat w.f),.int .u32 (.ofNat w.g),.int .u32 (.ofNat w.h)]
theorem bytesN_map:∀{A:List Nat},(∀x∈A,x<256)→Dg.bytesN (A.map nB)=some A
 |[],_=>rfl
 |a::A,h=>by
  show (match Dg.bytesN (A.map nB)with|some r=>cond (Nat.blt a 256) (some (a::r)) none|none=>none)=_
  rw [bytesN_map fun x hx=>h x (List.mem_cons_of_mem _ hx)]
  simp only[show Nat.blt a 256=true from Nat.ble_eq_true_of_le (h a List.mem_cons_self),cond_true]
theorem nats_wv{w:W8}(h:Dg.Ok8 w):Dg.nats (wv w)=some [w.a,w.b,w.c,w.d,w.e,w.f,w.g,w.h]:=by
 have lt:∀{n},n<4294967296→Nat.blt n 4294967296=true:=fun h=>Nat.ble_eq_true_of_le h
 unfold wv
 simp only[Dg.nats,lt h.a,lt h.b,lt h.c,lt h.d,lt h.e,lt h.f,lt h.g,lt h.h,cond_true]
theorem eb_ok{w:W8}{A:List Nat}(hl:A.length=64):Dg.Ok8 (Dg.eb w A):=by
 have hr:A=(List.range 64).map fun i=>A.getD i 0:=by
  apply List.ext_getElem?
  intro i
  rw [List.getElem?_map]
  rcases Nat.lt_or_ge i 64 with hi|hi
  ·rw [List.getElem?_range hi,List.getElem?_eq_getElem (by omega),Option.map_some,List.getD_eq_getElem?_getD,List.getElem?_eq_getElem (by omega)];rfl
  ·rw [List.getElem?_eq_none (by omega),List.getElem?_eq_none (by simpa using hi)];rfl
 rw [hr,Dg.eb_eq]
 exact Dg.fold1_ok _ _
theorem folded_ok{s:St}{w:W8}{A:List Nat}{q:Option Addr}{c:Nat}(hw:Dg.Ok8 w)(hT:TabAt s)(hb:At s q (A.map nB))(hl:A.length=64)(hA:∀x∈A,x<256):Cl B (.call 90 [.agg ⟨wv w⟩,.slice q 64 c]) s fun v s'=>v= .agg ⟨wv (Dg.eb w A)⟩∧s'=s:=by
 have hne:A.map nB≠[]:=fun e=>by have:=congrArg List.length e;rw [List.length_map,hl]at this;simp at this
 rcases hb with⟨e,_⟩|⟨b,o,rfl,hr⟩
 ·exact absurd e hne
 have ht:=hT (2,Dg.KV) (by simp[Dg.tabs])
 rcases ht with⟨e,_⟩|⟨b',o',e,ht⟩
 ·cases e
 cases e
 refine Cl.hook (g:=Dg.mixH 2) rfl ?_ ⟨rfl,rfl⟩
 rw [List.length_map,hl]at hr
 show cond (Nat.beq 64 64) (Dg.mixN (Dg.nats (wv w)) (Dg.bytesO (readAt s b o 64)) (Dg.sameO (readAt s 2 0 64)) s) .no=_
 rw [hr,show readAt s 2 0 64=some Dg.KV from ht,nats_wv hw]
 show cond true (Dg.mixN _ (Dg.bytesN (A.map nB)) (sameL Dg.KV Dg.KV) s) .no=_
 rw [bytesN_map hA,show sameL Dg.KV Dg.KV=true by kernel_rfl]
 rfl
end Go.Proofs.YtnbdpcpgckfeeaaGreatDoor
namespace Go.Sy
open Go Go.Ev
section
variable{X:Fx}{env:Env}{s:St}
theorem Xv.remI{t t':TypeId}{x y:Operand}{a b:Nat}(hx:ev env x=some (nI a))(hy:ev env y=some (nI b))(hb:0<b):Xv X (.binOp .rem t x y t') env s (nI (a%b)) s:=
 Xv.ar hx hy rfl (by
  show cond (Nat.beq b 0) none (some (Nat.mod a b))=_
  rw [show Nat.beq b 0=false from by cases b with|zero=>omega|succ n=>rfl]
  rfl)
end
end Go.Sy
namespace Go.Proofs.YtnbdpcpgckfeeaaGreatDoor
open Go Go.Ev Go.Sy
set_option maxRecDepth 100000
variable{s:St}{q:Option Addr}{c p γ δ n:Nat}{w:W8}{R A:List Nat}{E:List Value}
def sc(E:List Value)(w:W8)(R:List Nat)(n:Nat):List Value:=wv w++(R.map nB++nI n::E)
theorem sc_length:(sc E w R n).length=R.length+9+E.length:=by simp[sc,wv];omega
theorem sc_le{k:Nat}(h:R.length=64)(hk:k≤73):k≤(sc E w R n).length:=by rw [sc_length];omega
structure Sst(s:St)(p γ:Nat)(E:List Value)(w:W8)(R:List Nat)(n:Nat):Prop where
 rw:Rw s p (sc E w R n) γ
 ok:Dg.Ok8 w
 len:R.length=64
 by':∀x∈R,x<256
def fwN:Nat→W8→List Nat→W8
 |0,w,_=>w
 |k+1,w,l=>fwN k (Dg.eb w (l.take 64)) (l.drop 64)
theorem fwN_succ:∀{k:Nat} {w:W8} {l:List Nat},fwN (k+1) w l=Dg.eb (fwN k w l) ((l.drop (k*64)).take 64)
 |0,w,l=>by simp[fwN]
 |k+1,w,l=>by
  have ih:=fwN_succ (k:=k) (w:=Dg.eb w (l.take 64)) (l:=l.drop 64)
  show fwN (k+1) (Dg.eb w (l.take 64)) (l.drop 64)=_
  rw [ih,List.drop_drop]
  show Dg.eb (fwN k _ _) _=Dg.eb (fwN k _ _) _
  rw [show 64+k*64=(k+1)*64 by omega]
theorem eqV_wv{w:W8}:eqV 5 (.agg ⟨wv w⟩) (.agg ⟨wv w⟩)=true:=by
 show eqL (eqV 4) (wv w) (wv w)=true
 simp only[wv,eqL,eqV4i,cond_true]
theorem wv_length{w:W8}:(wv w).length=8:=rfl
theorem sc_words{w':W8}:lov (sc E w R n) 0 (wv w')=sc E w' R n:=by
 have:=lov_app (a:=[]) (b:=wv w) (c:=R.map nB++nI n::E) (vs:=wv w') (o:=0) rfl rfl
 simpa[sc]using this
theorem sc_len{m:Nat}(h:R.length=64):lov (sc E w R n) 72 [nI m]=sc E w R m:=by
 have:=lov_app (a:=wv w++R.map nB) (b:=[nI n]) (c:=E) (vs:=[nI m]) (o:=72) (by rw [List.length_append,wv_length,List.length_map,h]) rfl
 simpa[sc]using this
theorem sc_rest{D:List Nat}{g:Nat}(h:R.length=64)(hg:g+D.length≤64):lov (sc E w R n) (8+g) (D.map nB)=sc E w (R.take g++(D++R.drop (g+D.length))) n:=by
 have:=lov_app (a:=wv w++(R.take g).map nB) (b:=((R.drop g).take D.length).map nB) (c:=(R.drop (g+D.length)).map nB++nI n::E) (vs:=D.map nB) (o:=8+g) (by rw [List.length_append,wv_length,List.length_map,List.length_take];omega) (by rw [List.length_map,List.length_map,List.length_take,List.length_drop];omega)
 have e:R.map nB=(R.take g).map nB++(((R.drop g).take D.length).map nB++(R.drop (g+D.length)).map nB):=by
  rw [←List.map_append,←List.map_append,←List.drop_drop,List.take_append_drop,List.take_append_drop]
 unfold sc
 rw [e]
 simp only[List.append_assoc,List.map_append]at this ⊢
 exact this
theorem sc_ldw(h:Rw s p (sc E w R n) γ):ldn s (qadd (some ⟨p,0,none⟩) 0) 8=some (wv w):=by
 rw [(Rw.ats h).ldn (i:=0) (n:=8) (by rw [sc_length];omega) (by decide)];rfl
theorem sc_ldr(h:Rw s p (sc E w R n) γ)(hl:R.length=64):At s (some ⟨p,8,none⟩) (R.map nB):=by
 have:=(h.sl (o:=8) (n:=64) (sc_le hl (by decide))).at
 have e:((sc E w R n).drop 8).take 64=R.map nB:=by
  show (R.map nB++nI n::E).take 64=_
  rw [←hl,←List.length_map (f:=nB),List.take_left]
 rwa[e]at this
theorem write_ok(w0:Wf s)(hT:∀s',Kp (fun c=>c=γ) s s'→TabAt s')(h:Sst s p γ E w R n)(hd:Sl s q (A.map nB) δ)(hne:δ≠γ)(hc:Cap A.length c 1)(hA:∀x∈A,x<256)(hn:n<2^60)(hl:A.length<2^60):
  Cl B (.call 66 [.pointer (some ⟨p,0,none⟩),.slice q A.length c]) s fun _ s'=>
   (∃R',Sst s' p γ E (fwN ((n%64+A.length)/64) w (R.take (n%64)++A)) R' (n+A.length)∧R'.take ((n%64+A.length)%64)=(R.take (n%64)++A).drop ((n%64+A.length)/64*64))∧s'.nx=s.nx∧Kp (fun c=>c=γ) s s':=by
 have hlen:=h.len
 have hld:ldq s (qadd (some ⟨p,0,none⟩) 72)=some (nI n):=by
  have ha:At s (some ⟨p,0,none⟩) (sc E w R n):=by
   have:=(h.rw.sl (o:=0) (n:=(sc E w R n).length) (by omega)).at
   rwa[List.drop_zero,List.take_length]at this
  rw [ha.ld (i:=72) (by rw [sc_length];omega)]
  congr 1
  simp only[sc]
  rw [List.getElem_append_right (by simp[wv]),List.getElem_append_right (by simp[wv];omega)]
  simp[wv,hlen]
 have hgd:good (some ⟨p,0,none⟩):=⟨_,_,rfl⟩
 obtain⟨g,hg⟩:∃g,g=n%64:=⟨_,rfl⟩
 have hg64:g<64:=by omega
 have hgm:n.mod 64=g:=hg.symm
 rw [←hg]
 have one8:∀{D:List Nat},∀v∈D.map nB,Ev.one v=true:=fun v hv=>by obtain⟨x,_,rfl⟩:=List.mem_map.1 hv;rfl
 obtain⟨L,hL⟩:∃L,L=R.take g++A:=⟨_,rfl⟩
 have hLl:L.length=g+A.length:=by rw [hL,List.length_append,List.length_take];omega
 have hLb:∀x∈L,x<256:=fun x hx=>by
  rw [hL]at hx
  rcases List.mem_append.1 hx with hx|hx
  ·exact h.by' x (List.mem_of_mem_take hx)
  ·exact hA x hx
 rw [←hL,←hLl]
 refine Cl.enter Tryz.f66 fn66 rfl rfl rfl ?_
 refine run1 ?_
 refine Wo.val rfl (Xv.pEq rfl rfl rfl) rfl ?_
 refine run1 ?_
 refine Wo.val rfl (Xv.nilC rfl) rfl (run1 ?_)
 refine Wo.val rfl (Xv.nilC rfl) rfl (run1 ?_)
 refine Wo.val rfl (Xv.nilC rfl) rfl (run1 ?_)
 refine Wo.st rfl rfl rfl rfl rfl rfl rfl (by intro v hv;rw [List.mem_singleton]at hv;rw [hv];rfl) h.rw (sc_le hlen (by decide)) ?_
 intro s1 j1 j2 j3
 have j1':Rw s1 p (sc E w R (n+A.length)) γ:=by rw [←sc_len hlen];exact j1
 clear j1 hld
 have hd1:Sl s1 q (A.map nB) δ:=hd.kp w0 j3 hne
 rw [hgm]
 refine run1 ?_
 by_cases he:0<g∧g+A.length<64
 ·refine W.cond rfl (fun h0=>?_) (fun h0=>absurd he.1 h0)
  refine run1 ?_
  refine Wo.val rfl (Xv.nilC rfl) rfl (run1 ?_)
  refine Wo.val rfl ((Xv.slP (b:=p) (o:=8) rfl rfl rfl (by decide)).2.1 rfl hg64) rfl (run1 ?_)
  refine Wo.cpy rfl rfl rfl rfl rfl rfl rfl j1' hd1.at (by rw [List.length_map,Nat.mul_one]) one8 (by rw [sc_length,hlen];omega) ?_
  intro s2 k1 k2 k3
  have hmin:min A.length (64-g)=A.length:=by omega
  simp only[hmin,Nat.mul_one,←List.map_take,List.take_length]at k1
  rw [sc_rest hlen (by omega)]at k1
  rw [hmin]
  have hlt:g+A.length<64:=he.2
  refine run1 ?_
  have e0:L.length/64=0:=by omega
  have e1:L.length%64=L.length:=by omega
  rw [e0,e1]
  refine Lv.ret rfl ⟨⟨_,⟨k1,h.ok,?_,?_⟩,?_⟩,k2.trans j2,j3.trans k3⟩
  ·simp only[List.length_append,List.length_take,List.length_drop];omega
  ·intro x hx
   rcases List.mem_append.1 hx with hx|hx
   ·exact h.by' x (List.mem_of_mem_take hx)
   ·rcases List.mem_append.1 hx with hx|hx
    ·exact hA x hx
    ·exact h.by' x (List.mem_of_mem_drop hx)
  ·rw [←List.append_assoc,←hL,List.take_left];rfl
 refine W.meet (α:=St×Option Addr×Nat×Nat) (fun a=>[(0,.pointer (some ⟨p,0,none⟩)),(1,.slice a.2.1 (L.length-a.2.2.2*64) a.2.2.1)]) (fun a=>a.1)
  (fun a=>a.2.2.2*64≤L.length∧(∃R1,Sst a.1 p γ E (fwN a.2.2.2 w L) R1 (n+A.length))∧Sl a.1 a.2.1 ((L.drop (a.2.2.2*64)).map nB) δ∧Cap (L.length-a.2.2.2*64) a.2.2.1 1∧a.1.nx=s.nx∧Kp (fun c=>c=γ) s a.1) ?_ ?_
 ·refine W.cond rfl (fun h0=>?_) (fun h0=>?_)
  ·have h0':0<g:=h0
   have hge:64≤g+A.length:=by omega
   refine run1 ?_
   refine Wo.val rfl (Xv.nilC rfl) rfl (run1 ?_)
   refine Wo.val rfl ((Xv.slP (b:=p) (o:=8) rfl rfl rfl (by decide)).2.1 rfl hg64) rfl (run1 ?_)
   refine Wo.cpy rfl rfl rfl rfl rfl rfl rfl j1' hd1.at (by rw [List.length_map,Nat.mul_one]) one8 (by rw [sc_length,hlen];omega) ?_
   intro s2 k1 k2 k3
   have hmin:min A.length (64-g)=64-g:=by omega
   have hlt':(A.take (64-g)).length=64-g:=by rw [List.length_take];omega
   simp only[hmin,Nat.mul_one,←List.map_take]at k1
   rw [sc_rest hlen (by omega)]at k1
   have eR:R.take g++(A.take (64-g)++R.drop (g+(A.take (64-g)).length))=L.take 64:=by
    rw [hlt',List.drop_eq_nil_of_le (by omega),List.append_nil,hL,List.take_append,List.length_take,List.take_take]
    rw [show min 64 g=g by omega,show 64-min g R.length=64-g by omega]
   rw [eR]at k1
   rw [hmin]
   have hs:¬g+(64-g)<64:=by omega
   refine run1 ?_
   have hd2:Sl s2 q (A.map nB) δ:=hd1.kp (j3.wf w0) k3 hne
   have hTl:(L.take 64).length=64:=by rw [List.length_take];omega
   have hTb:∀x∈L.take 64,x<256:=fun x hx=>hLb x (List.mem_of_mem_take hx)
   have hw2:=sc_ldw k1
   refine W.dr [(1,.none,0),(2,.none,2),(3,.none,6),(4,.reads,14),(5,.none,0),(6,.none,32),(7,.none,96),(8,.none,224),(9,.acts,510),(0,.none,0),(10,.none,1023),(11,.none,2047),(12,.acts,4095)] (by kernel_rfl) rfl (run1 ?_)
   refine Wd.val rfl (Xv.nilC rfl) rfl (Nat.le_refl _) (run1 ?_)
   refine Wd.read rfl (Xv.ldN rfl rfl rfl hw2) rfl eqV_wv ⟨Xv.ldN rfl rfl rfl hw2,trivial⟩ (run1 ?_)
   refine Wd.val rfl (Xv.nilC rfl) rfl (Nat.le_refl _) (run1 ?_)
   refine Wd.val rfl (Xv.slP (b:=p) (o:=8) rfl rfl rfl (by decide)).1 rfl (Nat.le_refl _) (run1 ?_)
   refine Wd.call rfl (Xc.call ok90 rfl) rfl ((folded_ok h.ok (hT s2 (j3.trans k3)) (sc_ldr k1 hTl) hTl hTb).mono ?_)
   rintro v s' ⟨rfl,e'⟩;rw [e'];clear e' s'
   refine⟨Nat.le_refl _,run1 ?_⟩
   refine Wd.val rfl (Xv.nilC rfl) rfl (Nat.le_refl _) (run1 ?_)
   refine Wd.st rfl rfl rfl rfl rfl rfl rfl (by intro v hv;simp only[wv,List.mem_cons,List.not_mem_nil,or_false]at hv;rcases hv with rfl|rfl|rfl|rfl|rfl|rfl|rfl|rfl<;>rfl) k1 (sc_le hTl (by decide)) ?_
   intro s3 m1 m2 m3
   have m1':Rw s3 p (sc E (Dg.eb w (L.take 64)) (L.take 64) (n+A.length)) γ:=by rw [←sc_words (w:=w)];exact m1
   have hd3:Sl s3 q (A.map nB) δ:=hd2.kp (k3.wf (j3.wf w0)) m3 hne
   refine run1 ?_
   obtain⟨b,o,rfl⟩:=hd3.pos (fun e=>by have:=congrArg List.length e;rw [List.length_map]at this;simp at this;rw [this]at hge;simp at hge;omega)
   refine Wo.slL rfl rfl rfl rfl rfl rfl hd3 (by rw [List.length_map,Nat.mul_one]) hc (by omega) ?_
   intro q' c' r1 r2
   have eD:A.drop (64-g)=L.drop 64:=by
    have en:(R.take g).drop 64=[]:=List.drop_eq_nil_of_le (by rw [List.length_take];omega)
    rw [hL,List.drop_append,en,List.length_take,List.nil_append,show min g R.length=g by omega]
   have el:A.length-(64-g)=L.length-1*64:=by omega
   rw [Nat.mul_one,←List.map_drop,eD]at r1
   rw [el]at r2 ⊢
   refine run1 ?_
   exact meet.n (s3,q',c',1) ⟨by show 1*64≤_;omega,⟨L.take 64,m1',eb_ok hTl,hTl,hTb⟩,r1,r2,(m2.trans k2).trans j2,(j3.trans k3).trans m3⟩ (.cons rfl (.cons rfl .nil)) rfl
  ·refine run1 ?_
   have g0:g=0:=Nat.eq_zero_of_not_pos h0
   have eL:L=A:=by rw [hL,g0];rfl
   have el:L.length-0*64=A.length:=by rw [eL];omega
   refine meet.n (s1,q,c,0) ⟨by show 0*64≤_;omega,⟨R,j1',h.ok,hlen,h.by'⟩,?_,?_,j2,j3⟩ (.cons rfl (.cons ?_ .nil)) rfl
   ·rw [Nat.zero_mul,List.drop_zero,eL];exact hd1
   ·rw [el];exact hc
   ·simp only[el];rfl
 ·rintro a ha
  refine run1 ?_
  refine W.loop (α:=St×Option Addr×Nat×Nat) (fun a=>[(0,.pointer (some ⟨p,0,none⟩)),(1,.slice a.2.1 (L.length-a.2.2.2*64) a.2.2.1)]) (fun _=>[]) (fun a=>a.1)
   (fun a=>a.2.2.2*64≤L.length∧(∃R1,Sst a.1 p γ E (fwN a.2.2.2 w L) R1 (n+A.length))∧Sl a.1 a.2.1 ((L.drop (a.2.2.2*64)).map nB) δ∧Cap (L.length-a.2.2.2*64) a.2.2.1 1∧a.1.nx=s.nx∧Kp (fun c=>c=γ) s a.1)
   (fun a=>L.length-a.2.2.2*64) a ha (.cons rfl (.cons rfl .nil)) rfl rfl (by show L.length-_<_;omega) ?_
  clear ha a
  rintro⟨s2,q2,c2,k⟩ ⟨i1,⟨R1,i2⟩,i3,i4,i5,i6⟩
  simp only at i1 i2 i3 i4 i5 i6
  dsimp only
  have wf2:=i6.wf w0
  by_cases h64:64≤L.length-k*64
  ·have hDl:((L.drop (k*64)).take 64).length=64:=by rw [List.length_take,List.length_drop];omega
   have hDb:∀x∈(L.drop (k*64)).take 64,x<256:=fun x hx=>hLb x (List.mem_of_mem_drop (List.mem_of_mem_take hx))
   obtain⟨b,o,rfl⟩:=i3.pos (fun e=>by have:=congrArg List.length e;rw [List.length_map,List.length_drop]at this;simp at this;omega)
   have hw2:=sc_ldw i2.rw
   have hb2:At s2 (some ⟨b,o,none⟩) (((L.drop (k*64)).take 64).map nB):=by rw [List.map_take];exact(i3.take (n:=64)).at
   refine run1 ?_
   refine W.dr [(1,.none,0),(2,.none,2),(3,.none,6),(4,.reads,14),(5,.none,0),(6,.none,32),(7,.acts,126),(0,.none,0),(8,.none,255),(9,.none,511),(10,.acts,1023)] (by kernel_rfl) rfl (run1 ?_)
   refine Wd.val rfl (Xv.nilC rfl) rfl (Nat.le_refl _) (run1 ?_)
   refine Wd.read rfl (Xv.ldN rfl rfl rfl hw2) rfl eqV_wv ⟨Xv.ldN rfl rfl rfl hw2,trivial⟩ (run1 ?_)
   refine Wd.val rfl (Xv.slH (h:=64) rfl rfl rfl rfl i4 h64) rfl (Nat.le_refl _) (run1 ?_)
   refine Wd.call rfl (Xc.call ok90 rfl) rfl ((folded_ok i2.ok (hT s2 i6) hb2 hDl hDb).mono ?_)
   rintro v s' ⟨rfl,e'⟩;rw [e'];clear e' s'
   refine⟨Nat.le_refl _,run1 ?_⟩
   refine Wd.val rfl (Xv.nilC rfl) rfl (Nat.le_refl _) (run1 ?_)
   refine Wd.st rfl rfl rfl rfl rfl rfl rfl (by intro v hv;simp only[wv,List.mem_cons,List.not_mem_nil,or_false]at hv;rcases hv with rfl|rfl|rfl|rfl|rfl|rfl|rfl|rfl<;>rfl) i2.rw (sc_le i2.len (by decide)) ?_
   intro s3 m1 m2 m3
   have m1':Rw s3 p (sc E (fwN (k+1) w L) R1 (n+A.length)) γ:=by rw [fwN_succ,←sc_words (w:=fwN k w L)];exact m1
   have hd3:Sl s3 (some ⟨b,o,none⟩) ((L.drop (k*64)).map nB) δ:=i3.kp wf2 m3 hne
   refine run1 ?_
   refine Wo.slL (l:=64) rfl rfl rfl rfl rfl rfl hd3 (by rw [List.length_map,List.length_drop,Nat.mul_one]) i4 h64 ?_
   intro q' c' r1 r2
   have el:L.length-k*64-64=L.length-(k+1)*64:=by omega
   rw [show 64*1=64 from rfl,←List.map_drop,List.drop_drop,show k*64+64=(k+1)*64 by omega]at r1
   rw [el]at r2 ⊢
   refine run1 ?_
   exact rnd.n (s3,q',c',k+1) ⟨by show (k+1)*64≤_;omega,⟨R1,m1',by rw [fwN_succ];exact eb_ok hDl,i2.len,i2.by'⟩,r1,r2,m2.trans i5,i6.trans m3⟩ (by show L.length-(k+1)*64<L.length-k*64;omega) (.cons rfl (.cons rfl .nil)) rfl rfl
  ·refine run1 ?_
   refine Wo.val rfl (Xv.nilC rfl) rfl (run1 ?_)
   refine Wo.val rfl (Xv.slP (b:=p) (o:=8) rfl rfl rfl (by decide)).1 rfl (run1 ?_)
   refine Wo.cpy rfl rfl rfl rfl rfl rfl rfl i2.rw i3.at (by rw [List.length_map,List.length_drop,Nat.mul_one]) one8 (sc_le i2.len (by decide)) ?_
   intro s3 m1 m2 m3
   have hmin:min (L.length-k*64) 64=L.length-k*64:=by omega
   have hDl:(L.drop (k*64)).length=L.length-k*64:=List.length_drop
   simp only[hmin,Nat.mul_one,←List.map_take]at m1
   rw [←hDl,List.take_length]at m1
   have m1':=m1
   rw [show 8=8+0 from rfl,sc_rest i2.len (by rw [hDl];omega)]at m1'
   refine run1 ?_
   have e0:L.length/64=k:=by omega
   have e1:L.length%64=(L.drop (k*64)).length:=by rw [hDl];omega
   rw [e0,e1]
   refine Lv.nrm rfl ⟨⟨_,⟨m1',i2.ok,?_,?_⟩,?_⟩,m2.trans i5,i6.trans m3⟩
   ·simp only[List.length_append,List.length_take,List.length_drop,i2.len];omega
   ·intro x hx
    rcases List.mem_append.1 hx with hx|hx
    ·exact i2.by' x (List.mem_of_mem_take hx)
    ·rcases List.mem_append.1 hx with hx|hx
     ·exact hLb x (List.mem_of_mem_drop hx)
     ·exact i2.by' x (List.mem_of_mem_drop hx)
   ·rw [List.take_zero,List.nil_append,List.take_left]
open Go Go.Ev Go.Sy Go.RowKit
set_option maxRecDepth 100000
theorem hasT_mem:∀{l:List (Nat×List Value)} {s:St},hasT s l=true→∀p∈l,readAt s p.1 0 p.2.length=some p.2∨p.2=[]
 |[],_,_,p,hp=>by cases hp
 |(g,t)::r,s,h,p,hp=>by
  have h':(sameL (match readAt s g 0 t.length with|some cs=>cs|none=>[]) t&&hasT s r)=true:=h
  simp only[Bool.and_eq_true]at h'
  rcases List.mem_cons.1 hp with rfl|hp
  ·have e:=sameL_eq h'.1
   cases hr:readAt s g 0 t.length with
   |none=>rw [hr]at e;exact .inr e.symm
   |some cs=>rw [hr]at e;exact .inl (congrArg some e)
  ·exact hasT_mem h'.2 p hp
theorem fixK_ok{N:Nat}:HookOk N Tryz.prog fixK:=by
 intro f g hf args args' s s' v E w h ha hx
 unfold fixK at hf
 cases h1:Nat.beq f 10 with
 |false=>rw [h1]at hf;exact keysK_ok Dg.hooks_ok hf h ha hx
 |true=>
  rw [h1]at hf
  cases hf
  obtain rfl:=Nat.eq_of_beq_eq_true h1
  unfold fixH at hx
  split at hx
  case h_2=>cases hx
  cases hT:hasT s Dg.tabs with
  |false=>rw [hT]at hx;cases hx
  |true=>
   rw [hT]at hx
   cases hx
   cases ha
   have ht:∀p∈Dg.tabs,p.1<1000∧∃c t fr,w.heap[p.1]? =some (.cells c t fr)∧∀(i:Nat) (v:Value),p.2[i]? =some v→c[i]? =some v∧plain 1 v=true:=fun p hp=>by
    have hlt:p.1<1000:=(show ∀p∈Dg.tabs,p.1<1000 by decide) p hp
    have hpl:∀v∈p.2,plain 1 v=true:=fun v hv=>List.all_eq_true.1 (List.all_eq_true.1 (show (Dg.tabs.all fun p=>p.2.all (plain 1))=true by kernel_rfl) p hp) v hv
    have hne:p.2≠[]:=fun e=>by
     have:(Dg.tabs.all fun p=>!p.2.isEmpty)=true:=by kernel_rfl
     have:=List.all_eq_true.1 this p hp
     rw [e]at this;cases this
    have hr:=(hasT_mem hT p hp).resolve_right hne
    obtain⟨t',j1,j2⟩:=readAt_cell Tryz.prog h.obs hr
    have e3:t'=p.2:=VRs.plain_eq (p:=plain 1) (fun v v'=>plain_eq 1 v v') _ _ (List.all_eq_true.2 hpl) j1
    subst e3
    obtain⟨i1,i2⟩:=h.base p.1 hlt
    rw [i1,i2]at j2
    have h0:∃v0,p.2[0]? =some v0:=⟨p.2[0]'(List.length_pos_iff.2 hne),List.getElem?_eq_getElem _⟩
    obtain⟨v0,hv0⟩:=h0
    have hc0:=j2 0 v0 hv0
    unfold World.cell? at hc0
    split at hc0
    case h_2=>cases hc0
    rename_i c t fr hw
    refine⟨hlt,c,t,fr,hw,fun i v hv=>⟨?_,hpl v (List.mem_of_getElem? hv)⟩⟩
    have hc:=j2 i v hv
    unfold World.cell? at hc
    simp only at hw hc
    rw [hw]at hc
    simpa using hc
   refine(closed Dg.mixed Dg.hooks_ok ht whole).mono fun e w' ⟨he,hb⟩=>⟨E,_,he,.bool _,stp_below h hb⟩
theorem TabAt.has{s:St}(h:TabAt s):hasT s Dg.tabs=true:=by
 have key:∀l:List (Nat×List Value),(∀p∈l,At s (some ⟨p.1,0,none⟩) p.2)→(l.all fun p=>sameL p.2 p.2)=true→hasT s l=true:=fun l=>by
  induction l with
  |nil=>intro _ _;rfl
  |cons p l ih=>
   intro h hs
   obtain⟨g,t⟩:=p
   have hs':(sameL t t&&l.all fun p=>sameL p.2 p.2)=true:=hs
   simp only[Bool.and_eq_true]at hs'
   have h1:=h (g,t) List.mem_cons_self
   show (sameL (match readAt s g 0 t.length with|some cs=>cs|none=>[]) t&&hasT s l)=true
   rw [ih (fun q hq=>h q (List.mem_cons_of_mem _ hq)) hs'.2,Bool.and_true]
   rcases h1 with⟨_,h1⟩|⟨b,o,h1,h2⟩
   ·rcases h1 with h1|⟨_,_,_,h1⟩<;>cases h1
   ·cases h1;rw [show readAt s g 0 t.length=some t from h2];exact hs'.1
 exact key _ h (by kernel_rfl)
theorem fixed_ok{s:St}(h:TabAt s):Cl B (.call 10 []) s fun v s'=>v= .bool true∧s'=s:=
 Cl.hook (g:=fixH) rfl (by show cond (hasT s Dg.tabs) _ _=_;rw [h.has];rfl) ⟨rfl,rfl⟩
end Go.Proofs.YtnbdpcpgckfeeaaGreatDoor
