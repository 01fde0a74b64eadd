import Derived.Test.YtnbdpcpgckfeeaaGreatDoorRhzz
import Derived.Test.YtnbdpcpgckfeeaaGreatDoorZazz
namespace Go.Proofs.YtnbdpcpgckfeeaaGreatDoor
open Go Go.Ev Go.Sy
set_option maxRecDepth 100000
variable{s:St}{n c d:Nat}{q r:Option Addr}{M A S D H:List Nat}
theorem three_mk{cs ds es:List Value}(w0:Wf s):∃s3 b4 b5,mkRow (mkRow (mkRow s cs) ds) es=s3∧(mkRow s cs).nx=b4∧(mkRow (mkRow s cs) ds).nx=b5∧b4=s.nx+1∧b5=s.nx+2∧Rw s3 s.nx cs s.nx∧Rw s3 b4 ds b4∧Rw s3 b5 es b5∧Kn s s3:=
 ⟨_,_,_,rfl,rfl,rfl,rfl,rfl,(mkRow_rw.kp (mkRow_wf w0) mkRow_kn id).kp (mkRow_wf (mkRow_wf w0)) mkRow_kn id,mkRow_rw.kp (mkRow_wf (mkRow_wf w0)) mkRow_kn id,mkRow_rw,(mkRow_kn.call mkRow_kn).call mkRow_kn⟩
def co(H:List Nat)(n i:Nat):Nat:=cb1 (n-8*i) (H.getD i 0)
def cl(H:List Nat)(n i:Nat):List Nat:=(List.range i).map (co H n)++List.replicate (32-i) 0
theorem cl_len{i:Nat}(h:i≤32):(cl H n i).length=32:=by unfold cl;rw [List.length_append,List.length_map,List.length_range,List.length_replicate];omega
theorem cl_set{i:Nat}(h:i<32):lov ((cl H n i).map nB) (0+i*1) [nB (co H n i)]=(cl H n (i+1)).map nB:=by
 have e:=lov_app (a:=((List.range i).map (co H n)).map nB) (b:=[nB 0]) (c:=(List.replicate (32-(i+1)) 0).map nB) (vs:=[nB (co H n i)]) (o:=0+i*1) (by simp) rfl
 have e1:(cl H n i).map nB=((List.range i).map (co H n)).map nB++([nB 0]++(List.replicate (32-(i+1)) 0).map nB):=by
  unfold cl
  rw [show 32-i=(32-(i+1))+1 by omega,List.replicate_succ,List.map_append];rfl
 have e2:(cl H n (i+1)).map nB=((List.range i).map (co H n)).map nB++([nB (co H n i)]++(List.replicate (32-(i+1)) 0).map nB):=by
  unfold cl
  rw [List.range_succ,List.map_append,List.map_append,List.map_append,List.append_assoc];rfl
 rw [e1,e,e2]
theorem cl_same{i:Nat}(h:i<32)(h0:co H n i=0):cl H n (i+1)=cl H n i:=by
 unfold cl
 rw [show 32-i=(32-(i+1))+1 by omega,List.replicate_succ,List.range_succ,List.map_append,List.map_cons,h0];simp
set_option maxHeartbeats 1600000 in
theorem rcut_ok(w0:Wf s)(hH:H.length=32)(hb:∀x∈H,x<256)(hn:n<2^40):
  Cl B (.call 23 [nI n,hsh H]) s fun v s'=>v=hsh (cutOf H n)∧Kn s s':=by
 refine Cl.enter Tryz.f23 fn23 rfl rfl rfl ?_
 refine run1 ?_
 obtain⟨z,hz⟩:∃z:List Value,z=(List.replicate 32 0).map nB:=⟨_,rfl⟩
 have hzl:z.length=32:=by rw [hz];rfl
 obtain⟨s3,b4,b5,f1,f2,f3,hb4,hb5,rH,r4,r5,k3⟩:=three_mk (cs:=H.map nB) (ds:=z) (es:=z) w0
 rw [show mkRow (mkRow (mkRow s _) _) _=s3 from(by rw [←f1,hz];rfl),show (mkRow (mkRow s _) _).nx=b5 from(by rw [←f3,hz];rfl),show (mkRow s _).nx=b4 from f2]
 have w3:Wf s3:=k3.wf w0
 have r5':Rw s3 b5 ((cl H n 0).map nB) b5:=by rw [hz]at r5;exact r5
 refine W.loop (α:=Nat×St) (fun a=>[(0,nI n),(3,.pointer (some ⟨s.nx,0,none⟩)),(4,.pointer (some ⟨b4,0,none⟩)),(5,.pointer (some ⟨b5,0,none⟩)),(6,nI a.1)]) (fun _=>[]) (fun a=>a.2)
  (fun a=>a.1≤32∧Rw a.2 b5 ((cl H n a.1).map nB) b5∧Kp (fun c=>c=b5) s3 a.2) (fun a=>32-a.1) (0,s3) ⟨Nat.zero_le _,r5',.refl⟩ (.cons rfl (.cons rfl (.cons rfl (.cons rfl (.cons rfl .nil))))) rfl rfl (by show 32-0<_;decide) ?_
 rintro⟨i,t0⟩ ⟨i1,i2,i3⟩
 simp only at i1 i2 i3
 dsimp only
 have wt:Wf t0:=i3.wf w3
 by_cases hi:i<32
 ·obtain⟨zz,hzz⟩:∃zz:Int,zz=(n:Int)-((8*i:Nat):Int):=⟨_,rfl⟩
  have hx:H.getD i 0<256:=by rw [List.getD_eq_getElem?_getD,List.getElem?_eq_getElem (by omega)];exact hb _ (List.getElem_mem _)
  obtain⟨x,ex⟩:∃x,x=H.getD i 0:=⟨_,rfl⟩
  have rHt:=rH.kp w3 i3 (by omega)
  have hld:ldq t0 (some ⟨s.nx,0+i*1,none⟩)=some (nB x):=by
   have:=Bs.ld (A:=H) (i:=i) rHt.ats (by omega)
   rw [ex];exact this
  rw [←ex]at hx
  have hco:co H n i=cb1 (n-8*i) x:=by rw [co,ex]
  refine run1 ?_
  refine Wo.val rfl (Xv.subZ rfl rfl (by omega) (by omega) hzz) rfl (run1 ?_)
  by_cases h8:(8:Int)≤zz
  ·have hc:co H n i=x:=by rw [hco,cb1,if_pos (by omega)]
   refine W.condA rfl h8 (run1 ?_)
   refine Wo.val rfl (Xv.iaP rfl rfl rfl rfl hi) rfl (run1 ?_)
   refine Wo.val rfl (Xv.iaP rfl rfl rfl rfl hi) rfl ?_
   refine Wo.st rfl rfl rfl rfl rfl rfl rfl (by intro v hv;rw [List.mem_singleton.1 hv];rfl) i2 (by rw [List.length_map,cl_len i1];show 0+i*1+1≤32;omega) fun t1 y1 y2 y3=>?_
   rw [←hc,cl_set hi]at y1
   refine run1 ?_
   exact rnd.n (i+1,t1) ⟨hi,y1,i3.trans y3⟩ (by show 32-(i+1)<32-i;omega) (.cons rfl (.cons rfl (.cons rfl (.cons rfl (.cons rfl .nil))))) rfl rfl
  ·refine W.condN rfl h8 (run1 ?_)
   by_cases h0:(0:Int)<zz
   ·obtain⟨l,hl⟩:∃l,l=n-8*i:=⟨_,rfl⟩
    have ezz:zz=Int.ofNat l:=by show zz=(l:Int);omega
    have hc:co H n i=x-x%2^(8-l):=by rw [hco,←hl,cb1,if_neg (by omega),if_pos (by omega)]
    have hl1:1≤l:=by omega
    have hl8:l<8:=by omega
    refine W.condA rfl h0 (run1 ?_)
    rw [ezz]
    refine W.loop (α:=Nat) (fun j=>[(0,nI n),(3,.pointer (some ⟨s.nx,0,none⟩)),(4,.pointer (some ⟨b4,0,none⟩)),(5,.pointer (some ⟨b5,0,none⟩)),(6,nI i),(8,nB (2^(j-l))),(9,nI j)]) (fun _=>[]) (fun _=>t0)
     (fun j=>l≤j∧j≤8) (fun j=>8-j) l ⟨Nat.le_refl _,by omega⟩ (.cons rfl (.cons rfl (.cons rfl (.cons rfl (.cons rfl (.cons ?_ (.cons rfl .nil))))))) rfl rfl (by show 8-l<_;omega) ?_
    ·show some (nB 1)=some (nB (2^(l-l)))
     rw [Nat.sub_self]
    intro j hj
    have hj1:=hj.1
    have hj2:=hj.2
    by_cases hj8:j<8
    ·refine run1 ?_
     refine rnd.n (j+1) ⟨by omega,by omega⟩ (by omega) (.cons rfl (.cons rfl (.cons rfl (.cons rfl (.cons rfl (.cons ?_ (.cons rfl .nil))))))) rfl rfl
     show some (nB ((2^(j-l)*2)%256))=some (nB (2^(j+1-l)))
     have e:2^(j+1-l)=2^(j-l)*2:=by rw [show j+1-l=(j-l)+1 by omega,Nat.pow_succ]
     have hlt:2^(j-l)*2<256:=by
      rw [←e]
      exact Nat.pow_lt_pow_right (a:=2) (by decide) (show j+1-l<8 by omega)
     rw [e,Nat.mod_eq_of_lt hlt]
    ·obtain rfl:j=8:=by omega
     obtain⟨K,hK⟩:∃K,K=2^(8-l):=⟨_,rfl⟩
     have hKp:0<K:=by rw [hK];exact Nat.pow_pos (by decide)
     rw [←hK]at hc ⊢
     have hmod:x%K≤x:=Nat.mod_le _ _
     refine run1 ?_
     refine W.dr [(0,.none,0),(1,.none,0),(2,.none,2),(3,.reads,6),(4,.none,0),(5,.none,16),(6,.reads,48),(7,.none,0),(8,.none,240),(9,.none,510),(10,.none,1023),(11,.acts,2047)] (by kernel_rfl) rfl (run1 ?_)
     refine Wd.val rfl (Xv.iaP rfl rfl rfl rfl hi) rfl (Nat.le_refl _) (run1 ?_)
     refine Wd.val rfl (Xv.iaP rfl rfl rfl rfl hi) rfl (Nat.le_refl _) (run1 ?_)
     refine Wd.val rfl (Xv.ar (r:=x%K) rfl rfl rfl (by show cond (Nat.beq K 0) none (some (x%K))=_;rw [show Nat.beq K 0=false by cases hq:Nat.beq K 0 with|false=>rfl|true=>exact absurd (Nat.eq_of_beq_eq_true hq) (by omega)];rfl)) rfl (Nat.le_refl _) ?_
     refine Wd.val rfl (Xv.ar (r:=x-x%K) rfl rfl rfl (by show cond (Nat.ble (x%K) x) (some ((x-x%K)%256)) _=_;rw [Nat.ble_eq_true_of_le hmod,Nat.mod_eq_of_lt (by omega)];rfl)) rfl (Nat.le_refl _) ?_
     refine Wd.val rfl (Xv.iaP rfl rfl rfl rfl hi) rfl (Nat.le_refl _) ?_
     refine Wd.st rfl rfl rfl rfl rfl rfl rfl (by intro v hv;rw [List.mem_singleton.1 hv];rfl) i2 (by rw [List.length_map,cl_len i1];show 0+i*1+1≤32;omega) fun t1 y1 y2 y3=>?_
     rw [←hc,cl_set hi]at y1
     refine run1 ?_
     exact rnd.n (i+1,t1) ⟨hi,y1,i3.trans y3⟩ (by show 32-(i+1)<32-i;omega) (.cons rfl (.cons rfl (.cons rfl (.cons rfl (.cons rfl .nil))))) rfl rfl
   ·have hc:co H n i=0:=by rw [hco,cb1,if_neg (by omega),if_neg (by omega)]
    refine W.condN rfl h0 (run1 ?_)
    exact rnd.n (i+1,t0) ⟨hi,by show Rw t0 b5 ((cl H n (i+1)).map nB) b5;rw [cl_same hi hc];exact i2,i3⟩ (by show 32-(i+1)<32-i;omega) (.cons rfl (.cons rfl (.cons rfl (.cons rfl (.cons rfl .nil))))) rfl rfl
 ·have e:i=32:=by omega
  subst e
  have ecl:cl H n 32=cutOf H n:=by rw [cutOf_eq hH hb];unfold cl;rw [Nat.sub_self,List.replicate_zero,List.append_nil];rfl
  rw [ecl]at i2
  obtain⟨F,hF⟩:∃F,F=cutOf H n:=⟨_,rfl⟩
  have hFl:F.length=32:=by rw [hF];exact ctN_length.trans hH
  rw [←hF]at i2 ⊢
  have lF:=i2.all (n:=32) (by rw [List.length_map,hFl]) (by decide)
  refine run1 ?_
  refine Wo.st rfl rfl rfl rfl rfl rfl (by rw [List.length_map,hFl]) one_nB (r4.kp w3 i3 (by omega)) (by rw [hzl];decide) fun s7 r7 n7 k7=>?_
  rw [lov_all (by rw [List.length_map,hFl,hzl])]at r7
  refine run1 ?_
  have hcl:=cell_at (B:=B) (t:= 26) (n:=32) (k:=.ar 32 5) rfl rfl r7 (by rw [List.length_map,hFl]) rfl
  refine Lv.ret (vs:=[hsh F]) ?_ ⟨rfl,(k3.app i3 (by omega)).app k7 (by omega)⟩
  show (match cell1 B.P (.pointer (some ⟨b4,0,none⟩)) 26 s7,some []with|some v,some vs=>some (v::vs)|_,_=>none)=_
  rw [hcl];rfl
end Go.Proofs.YtnbdpcpgckfeeaaGreatDoor
namespace Go.Sy
open Go Go.Ev
end Go.Sy
namespace Go.Proofs.YtnbdpcpgckfeeaaGreatDoor
open Go Go.Ev Go.Sy
set_option maxRecDepth 100000
variable{s t:St}{b n c δ:Nat}{q:Option Addr}{A:List Nat}{Nt:List Nat→Option (List Nat)}{C E F:Nat→Prop}
theorem cut256{H:List Nat}(hH:H.length=32)(hb:∀x∈H,x<256):cutOf H 256=H:=by
 rw [cutOf_eq hH hb]
 refine List.ext_getElem? fun i=>?_
 rw [List.getElem?_map]
 by_cases hi:i<32
 ·rw [List.getElem?_range hi,List.getElem?_eq_getElem (by omega)]
  show some (cb1 (256-8*i) (H.getD i 0))=some H[i]
  rw [List.getD_eq_getElem?_getD,List.getElem?_eq_getElem (by omega)]
  unfold cb1
  rw [if_pos (by omega)];rfl
 ·rw [List.getElem?_eq_none (show H.length≤i by omega),List.getElem?_eq_none (show (List.range 32).length≤i by rw [List.length_range];omega)];rfl
structure BoX(s:St)(b n γ r1 r2 r3:Nat)(S:List Nat)(M:MpE)(Nt:List Nat→Option (List Nat))(F:Nat→Prop):Prop where
 row:Rw s b (bkT 256 256 S (bl 0 r1 n r2 0 r3 0)) γ
 len:S.length=32
 m1:Mp s r1 M
 m2:Mp s r2 []
 cnt:M.length=n
 get:∀k,match mget k M with
  |none=>Nt k=none
  |some v=> ∃A ql cl qa ca γl γa,Nt k=some A∧v= .slice ql 1 cl∧Sl s ql [.slice qa A.length ca] γl∧Sl s qa (A.map nB) γa∧F γl∧F γa∧γl≠γ∧γl≠r1∧γa≠γ∧γa≠r1
 fg:F γ∧F r1∧F r2
 old:∀c,F c→c<s.nx
 ne:r1≠γ∧r2≠γ∧r2≠r1
def Bo(s:St)(b n:Nat)(Nt:List Nat→Option (List Nat))(C F:Nat→Prop):Prop:= ∃γ r1 r2 r3 S M,(∀c,C c↔c=γ∨c=r1)∧BoX s b n γ r1 r2 r3 S M Nt F
theorem BoX.kp{γ r1 r2 r3:Nat}{S:List Nat}{M:MpE}(h:BoX s b n γ r1 r2 r3 S M Nt F)(w:Wf s)(k:Kp E s t)(hE:∀c,F c→¬E c):BoX t b n γ r1 r2 r3 S M Nt F:=by
 refine⟨h.row.kp w k (hE _ h.fg.1),h.len,h.m1.kp w k (hE _ h.fg.2.1),h.m2.kp w k (hE _ h.fg.2.2),h.cnt,fun key=>?_,h.fg,fun c hc=>Nat.lt_of_lt_of_le (h.old c hc) k.le,h.ne⟩
 have g:=h.get key
 revert g
 cases mget key M with
 |none=>exact id
 |some v=>rintro⟨A,ql,cl,qa,ca,γl,γa,a,b,d,e,f,g,i⟩;exact⟨A,ql,cl,qa,ca,γl,γa,a,b,d.kp w k (hE _ f),e.kp w k (hE _ g),f,g,i⟩
theorem Bo.kp(h:Bo s b n Nt C F)(w:Wf s)(k:Kp E s t)(hE:∀c,F c→¬E c):Bo t b n Nt C F:=
 let ⟨γ,r1,r2,r3,S,M,e,h⟩:=h;⟨γ,r1,r2,r3,S,M,e,h.kp w k hE⟩
theorem Bo.sub(h:Bo s b n Nt C F)(c:Nat)(hc:C c):F c:=by
 obtain⟨γ,r1,r2,r3,S,M,e,h⟩:=h
 rcases(e c).1 hc with rfl|rfl
 ·exact h.fg.1
 ·exact h.fg.2.1
theorem Bo.old(h:Bo s b n Nt C F)(c:Nat)(hc:F c):c<s.nx:=let ⟨_,_,_,_,_,_,_,h⟩:=h;h.old c hc
theorem bhash_ok(w:Wf s)(h:Bo s b n Nt C F)(hT:∀s',Kp C s s'→TabAt s')(hq:Sl s q (A.map nB) δ)(hδ:¬C δ)(hA:∀x∈A,x<256)(hc:Cap A.length c 1)(hl:A.length<2^40)(hn:n<2^59)(hN:Nt (shaOf A)=none∨Nt (shaOf A)=some A):
  Cl B (.call 13 [.pointer (some ⟨b,0,none⟩),.slice q A.length c]) s fun v s'=>v=hsh (shaOf A)∧∃n' F',Bo s' b n' (fun k=>if k=shaOf A then some A else Nt k) C F'∧n'≤n+1∧(∀c,F' c→F c∨s.nx≤c)∧(∀c,F c→F' c)∧Kp C s s':=by
 obtain⟨γ,r1,r2,r3,S,M,hC,h⟩:=h
 have lH:(shaOf A).length=32:=shaL
 have bH:∀x∈shaOf A,x<256:=shaB
 have eH:shaOf A=cutOf (shaOf A) 256:=(cut256 lH bH).symm
 have hT':∀s',Kp (fun c=>c=γ) s s'→TabAt s':=fun s' k=>hT s' (k.mono fun c e=>(hC c).2 (.inl e))
 have hδ':δ≠γ:=fun e=>hδ ((hC δ).2 (.inl e))
 have o1:=h.old _ h.fg.1
 have o2:=h.old _ h.fg.2.1
 have o3:=h.old _ h.fg.2.2
 have g:=h.get (shaOf A)
 obtain⟨H,hH⟩:∃H,H=shaOf A:=⟨_,rfl⟩
 cases hm:mget (shaOf A) M with
 |none=>
  rw [hm]at g
  rw [←hH]at hm g ⊢
  refine(hash_new w hT' h.row h.m1 h.ne.1 h.len hq hδ' hA hc hl (Nat.le_refl _) (by omega) (hH.trans eH) (hH▸lH) (hH▸bH) hm).mono ?_
  rintro v s' ⟨rfl,ql,cl,qa,ca,γl,γa,b1,M1,L1,lo1,A1,lo2,k⟩
  have w':=k.wf w
  have kC:Kp C s s':=k.mono fun c e=>(hC c).2 e
  have gl:γl<s'.nx:=by
   have:=L1.at.sl
   rcases L1 with⟨e,_⟩|⟨b,o,ob,l,rfl,e1,e2,e3,_⟩
   ·cases e
   ·rw [←e3];exact(w'.lt b ob e1).2
  refine⟨rfl,n+1,fun c=>F c∨c=γl∨(c=γa∧γa<s'.nx),⟨γ,r1,r2,r3,S,_,hC,b1,h.len,M1,h.m2.kp w k (by rintro(e|e);exact h.ne.2.1 e;exact h.ne.2.2 e),by rw [mput_len hm,h.cnt],fun key=>?_,⟨.inl h.fg.1,.inl h.fg.2.1,.inl h.fg.2.2⟩,fun c e=>?_,h.ne⟩,Nat.le_refl _,fun c e=>?_,fun c e=>.inl e,kC⟩
  ·rw [mget_put]
   by_cases e:key=H
   ·rw [if_pos e]
    show ∃A' ql' cl' qa' ca' γl' γa',(if key=H then some A else Nt key)=some A'∧_
    rw [if_pos e]
    by_cases hγ:γa<s'.nx
    ·exact⟨A,ql,cl,qa,ca,γl,γa,rfl,rfl,L1,A1,.inr (.inl rfl),.inr (.inr ⟨rfl,hγ⟩),by omega,by omega,by omega,by omega⟩
    ·refine⟨A,ql,cl,qa,ca,γl,γl,rfl,rfl,L1,?_,.inr (.inl rfl),.inr (.inl rfl),by omega,by omega,by omega,by omega⟩
     rcases A1 with a|⟨b,o,ob,l,rfl,e1,e2,e3,_⟩
     ·exact .inl a
     ·exact absurd (e3▸(w'.lt b ob e1).2) hγ
   ·rw [if_neg e]
    have g:=h.get key
    revert g
    cases mget key M with
    |none=>intro g;show (if key=H then some A else Nt key)=none;rw [if_neg e];exact g
    |some v=>
     rintro⟨A',ql',cl',qa',ca',γl',γa',a1,a2,a3,a4,a5,a6,a7,a8,a9,a10⟩
     refine⟨A',ql',cl',qa',ca',γl',γa',?_,a2,a3.kp w k (by rintro(e|e);exact a7 e;exact a8 e),a4.kp w k (by rintro(e|e);exact a9 e;exact a10 e),.inl a5,.inl a6,a7,a8,a9,a10⟩
     show (if key=H then some A else Nt key)=_
     rw [if_neg e];exact a1
  ·have:=k.le
   rcases e with e|e|e
   ·have:=h.old c e;omega
   ·omega
   ·omega
  ·rcases e with e|e|e
   ·exact .inl e
   ·exact .inr (by omega)
   ·exact .inr (by omega)
 |some v0=>
  rw [hm]at g
  obtain⟨A',ql,cl,qa,ca,γl,γa,a1,rfl,a3,a4,a5,a6,a7,a8,a9,a10⟩:=g
  obtain rfl:A=A':=by
   rcases hN with e|e
   ·rw [e]at a1;cases a1
   ·rw [e]at a1;cases a1;rfl
  have eN:(fun k=>if k=shaOf A then some A else Nt k)=Nt:=funext fun k=>by
   split
   ·rename_i e;rw [e,a1]
   ·rfl
  rw [eN]
  rw [←hH]at hm ⊢
  refine(hash_old w hT' h.row h.m1 h.ne.1 h.len hq hδ' hA hc hl (Nat.le_refl _) (hH.trans eH) (hH▸lH) (hH▸bH) hm a3 a7 a4 a9).mono ?_
  rintro v s' ⟨rfl,b1,k⟩
  have kC:Kp C s s':=k.mono fun c e=>(hC c).2 (.inl e)
  refine⟨rfl,n,F,⟨γ,r1,r2,r3,S,M,hC,b1,h.len,h.m1.kp w k h.ne.1,h.m2.kp w k h.ne.2.1,h.cnt,fun key=>?_,h.fg,fun c e=>Nat.lt_of_lt_of_le (h.old c e) k.le,h.ne⟩,by omega,fun c e=>.inl e,fun c e=>e,kC⟩
  have g:=h.get key
  revert g
  cases mget key M with
  |none=>exact id
  |some v=>
   rintro⟨A',ql',cl',qa',ca',γl',γa',a1,a2,a3,a4,a5,a6,a7,a8,a9,a10⟩
   exact⟨A',ql',cl',qa',ca',γl',γa',a1,a2,a3.kp w k a7,a4.kp w k a9,a5,a6,a7,a8,a9,a10⟩
end Go.Proofs.YtnbdpcpgckfeeaaGreatDoor
