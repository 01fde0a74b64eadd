import Derived.Test.YtnbdpcpgckfeeaaGreatDoorLkzz
import Derived.Test.YtnbdpcpgckfeeaaGreatDoorRazz
namespace Go.Sy
open Go Go.Ev
theorem Wo.mkM{X:Fx}{env:Env}{df:List Deferred}{s:St}{Q:Post}{all os:List Oper}{d:Option Nat}{ty:TypeId}{pos:String}{af:Array Edge}{gd:Option (Nat×Bool)}{t:Nat}(hg:wantsE all env gd=some true)(hd:dOk X d=true)
  (K:∀s',Mp s' s.nx []→s'.nx=s.nx+1→Kn s s'→Wo X all os (up d (.map (some s.nx)) env) df s' Q):Wo X all (⟨d,.makeMap t none,ty,pos,af,gd⟩::os) env df s Q:=by
 obtain⟨s',a,b,c,e⟩:=Xv.mkM (X:=X) (env:=env) (s:=s) (t:=t)
 exact Wo.val hg a hd (K s' b c e)
end Go.Sy
namespace Go.Proofs.YtnbdpcpgckfeeaaGreatDoor
open Go Go.Ev Go.Sy
set_option maxRecDepth 100000
variable{s:St}{p γ δ n c:Nat}{q:Option Addr}{S M A D O R:List Nat}
theorem HH:HT B.P 26 5 :=⟨B.un (t:= 26) rfl,B.un (t:= 5) rfl,B.sz (t:= 5) rfl⟩
theorem bmay_ok(_hn:n<2^60):Cl B (.call 25 [nI n]) s fun v s'=>v= .bool (decide (8≤n∧n≤256))∧s'=s:=by
 refine Cl.enter Tryz.f25 fn25 rfl rfl rfl ?_
 by_cases h:8≤n
 ·refine run1 ?_
  refine Lv.ret rfl ⟨?_,rfl⟩
  exact congrArg Value.bool (decide_eq_decide.2 ⟨fun k=>⟨h,k⟩,fun k=>k.2⟩)
 ·refine run1 ?_
  refine Lv.ret rfl ⟨?_,rfl⟩
  exact congrArg Value.bool (decide_eq_false fun k=>h k.1).symm
theorem blank_ok(w0:Wf s):Cl B (.call 26 []) s fun v s'=> ∃r,v= .agg ⟨[.map (some r),nI 0]⟩∧s.nx≤r∧Mp s' r []∧Kn s s':=by
 refine Cl.enter Tryz.f26 fn26 rfl rfl rfl ?_
 refine run1 ?_
 refine mk_gen (M:=fun s'=>Wo _ _ _ _ _ s' _) fun s1 r1 n1 k1=>?_
 have w1:Wf s1:=k1.wf w0
 refine Wo.mkM rfl rfl fun s2 m2 n2 k2=>?_
 have w2:Wf s2:=k2.wf w1
 refine run1 ?_
 refine Wo.st rfl rfl rfl rfl rfl rfl rfl (by intro v hv;simp at hv;rcases hv with rfl|rfl<;>rfl) (r1.kp w1 k2 id) (by decide) fun s3 r3 n3 k3=>?_
 have r3':Rw s3 s.nx [.map (some s1.nx),nI 0] s.nx:=r3
 refine run1 ?_
 have hcl:=cell_at (B:=B) (t:= 64) rfl rfl r3' rfl rfl
 refine Lv.ret (vs:=[.agg ⟨[.map (some s1.nx),nI 0]⟩]) ?_ ⟨s1.nx,rfl,by omega,m2.kp w2 k3 (by omega),(k1.call k2).app k3 (Nat.le_refl _)⟩
 show (match cell1 B.P (.pointer (some ⟨s.nx,0,none⟩)) 64 s3,some []with|some v,some vs=>some (v::vs)|_,_=>none)=_
 rw [hcl]
def bkV(nb cb:Nat)(S:List Nat)(r1 n1 r2 n2 r3 n3:Nat):List Value:=
 nI nb::nI cb::(S.map nB++[.int .i32 0,.int .u32 0,.map (some r1),nI n1,.map (some r2),nI n2,.map (some r3),nI n3])
theorem bk_len{nb cb r1 n1 r2 n2 r3 n3:Nat}(hS:S.length=32):(bkV nb cb S r1 n1 r2 n2 r3 n3).length=42:=by simp[bkV,hS]
variable{nb cb r1 n1 r2 n2 r3 n3:Nat}
theorem bk_sec{z:List Nat}(h:z.length=32)(hS:S.length=32):lov (bkV nb cb z r1 n1 r2 n2 r3 n3) 2 (S.map nB)=bkV nb cb S r1 n1 r2 n2 r3 n3:=
 lov_app (a:=[nI nb,nI cb]) (b:=z.map nB) (c:=[.int .i32 0,.int .u32 0,.map (some r1),nI n1,.map (some r2),nI n2,.map (some r3),nI n3]) (vs:=S.map nB) (o:=2) rfl (by rw [List.length_map,List.length_map,h,hS])
theorem lov_right{a l vs:List Value}{i:Nat}:lov (a++l) (a.length+i) vs=a++lov l i vs:=by
 unfold lov
 rw [List.take_length_add_append,Nat.add_assoc,List.drop_length_add_append,List.append_assoc]
theorem lov_one{l:List Value}{i:Nat}{v:Value}(h:i<l.length):lov l i [v]=l.set i v:=by
 rw [List.set_eq_take_append_cons_drop,if_pos h];rfl
def bkT(nb cb:Nat)(S:List Nat)(l:List Value):List Value:=(nI nb::nI cb::S.map nB)++l
def bl(g:Int)(r1 n1 r2 n2 r3 n3:Nat):List Value:=[.int .i32 g,.int .u32 0,.map (some r1),nI n1,.map (some r2),nI n2,.map (some r3),nI n3]
theorem bk_eq:bkV nb cb S r1 n1 r2 n2 r3 n3=bkT nb cb S (bl 0 r1 n1 r2 n2 r3 n3):=by simp[bkV,bkT,bl]
theorem bkT_at{i:Nat}{l:List Value}(hS:S.length=32):(bkT nb cb S l)[34+i]? =l[i]?:=by
 unfold bkT
 rw [List.getElem?_append_right (by simp[hS])]
 simp[hS]
theorem bkT_set{i:Nat}{v:Value}{l:List Value}(hS:S.length=32)(hi:i<l.length):lov (bkT nb cb S l) (34+i) [v]=bkT nb cb S (l.set i v):=by
 have:=lov_right (a:=nI nb::nI cb::S.map nB) (l:=l) (vs:=[v]) (i:=i)
 rw [lov_one hi,show (nI nb::nI cb::S.map nB).length=34 by simp[hS]]at this
 exact this
theorem bkT_len{l:List Value}(hS:S.length=32):(bkT nb cb S l).length=34+l.length:=by simp[bkT,hS];omega
theorem dnew_ok{nb cb:Nat}(w0:Wf s)(hq:At s q (S.map nB))(hS:S.length=32)(h1:8≤nb∧nb≤256)(h2:8≤cb∧cb≤256):
  Cl B (.call 8 [nI nb,nI cb,.slice q 32 c]) s fun v s'=> ∃b r1 r2 r3,v= .tuple ⟨[.pointer (some ⟨b,0,none⟩),nI 0]⟩∧Rw s' b (bkV nb cb S r1 0 r2 0 r3 0) b∧Mp s' r1 []∧Mp s' r2 []∧Mp s' r3 []∧s.nx≤r1∧r1<r2∧r2<r3∧r3<b∧Kn s s':=by
 refine Cl.enter Tryz.f8 fn8 rfl rfl rfl ?_
 refine run1 ?_
 refine Wo.call rfl (Xc.call ok25 rfl) rfl ((bmay_ok (by omega)).mono ?_)
 rintro v s' ⟨rfl,e'⟩;rw [e'];clear e' s'
 rw [decide_eq_true h1]
 refine run1 ?_
 refine Wo.call rfl (Xc.call ok25 rfl) rfl ((bmay_ok (by omega)).mono ?_)
 rintro v s' ⟨rfl,e'⟩;rw [e'];clear e' s'
 rw [decide_eq_true h2]
 refine run1 ?_
 refine Wo.call rfl (Xc.call ok26 rfl) rfl ((blank_ok w0).mono ?_)
 rintro v s1 ⟨r1,rfl,g1,m1,k1⟩
 have w1:Wf s1:=k1.wf w0
 refine run1 ?_
 refine Wo.call rfl (Xc.call ok26 rfl) rfl ((blank_ok w1).mono ?_)
 rintro v s2 ⟨r2,rfl,g2,m2,k2⟩
 have w2:Wf s2:=k2.wf w1
 refine run1 ?_
 refine Wo.call rfl (Xc.call ok26 rfl) rfl ((blank_ok w2).mono ?_)
 rintro v s3 ⟨r3,rfl,g3,m3,k3⟩
 have w3:Wf s3:=k3.wf w2
 have l1:=m1.lt w1
 have l2:=m2.lt w2
 have l3:=m3.lt w3
 obtain⟨z,hz⟩:∃z:List Nat,z=List.replicate 32 0:=⟨_,rfl⟩
 refine Wo.val rfl (Xv.build (cs:=bkV nb cb (List.replicate 32 0) r1 0 r2 0 r3 0) rfl rfl) rfl ?_
 rw [←hz]
 have hzl:z.length=32:=by rw [hz];rfl
 refine run1 ?_
 refine mkO (cs:=bkV nb cb z r1 0 r2 0 r3 0) fun s4 q4 n4 k4=>?_
 have w4:Wf s4:=k4.wf w3
 have gd:good (some ⟨s3.nx,0,none⟩):=good_b
 refine Wo.val rfl (Xv.nilC rfl) rfl (run1 ?_)
 refine Wo.val rfl (Xv.slP (b:=s3.nx) (o:=2) rfl rfl rfl (by decide)).1 rfl (run1 ?_)
 have k04:Kn s s4:=k1.call (k2.call (k3.call k4))
 refine Wo.cpy rfl rfl rfl rfl rfl rfl rfl q4 (hq.kn w0 k04) (by rw [List.length_map,hS]) one_nB (by rw [bk_len hzl];decide) fun s5 q5 n5 k5=>?_
 rw [show (S.map nB).take (min 32 32*1)=S.map nB from List.take_of_length_le (by rw [List.length_map,hS];decide),bk_sec hzl hS]at q5
 refine run1 ?_
 have e1:=k1.le
 have e2:=k2.le
 have e3:=k3.le
 refine Lv.ret rfl ⟨s3.nx,r1,r2,r3,rfl,q5,?_,?_,?_,g1,by omega,by omega,by omega,k04.app k5 (by omega)⟩
 ·exact((m1.kp w1 (k2.call (k3.call k4)) id).kp w4 k5 (by omega))
 ·exact((m2.kp w2 (k3.call k4) id).kp w4 k5 (by omega))
 ·exact((m3.kp w3 k4 id).kp w4 k5 (by omega))
theorem bcmp_self:bcmp A A=0:=by
 unfold bcmp Extern.BytealgCompare.cmp
 have:∀l:List Nat,l.find? (fun i=>(⟨⟨A.map UInt8.ofNat⟩⟩:ByteArray)[i]! !=(⟨⟨A.map UInt8.ofNat⟩⟩:ByteArray)[i]!)=none:=fun l=>List.find?_eq_none.2 fun x _=>by simp
 rw [this]
 simp
theorem eqV_mp{r:Option Nat}:eqV 5 (.map r) (.map r)=true:=by
 show (r==r)=true
 exact beq_self_eq_true r
theorem bs0_ok{r:Option Addr}{d:Nat}:Cl B (.call 92 [.slice none 0 0,.slice r A.length d,bcf]) s fun v s'=>v= .tuple ⟨[nI 0,.bool false]⟩∧s'=s:=by
 refine Cl.enter Tryz.f92 fn92 rfl rfl rfl ?_
 refine run1 ?_
 refine W.loop (α:=Unit) (fun _=>[(0,.slice none 0 0),(1,.slice r A.length d),(2,bcf),(8,nI 0),(9,nI 0),(10,nI 0)]) (fun _=>[]) (fun _=>s)
  (fun _=>True) (fun _=>0) () trivial (.cons rfl (.cons rfl (.cons rfl (.cons rfl (.cons rfl (.cons rfl .nil)))))) rfl rfl (by decide) ?_
 rintro⟨⟩ _
 have h0:¬0<0:=by decide
 refine run1 ?_
 exact Lv.ret rfl ⟨rfl,rfl⟩
theorem bs1_ok{r ql q1:Option Addr}{d k1 cl:Nat}(hl:At s ql [.slice q1 A.length k1])(h1:At s q1 (A.map nB))(h2:At s r (A.map nB)):Cl B (.call 92 [.slice ql 1 cl,.slice r A.length d,bcf]) s fun v s'=>v= .tuple ⟨[nI 0,.bool true]⟩∧s'=s:=by
 refine Cl.enter Tryz.f92 fn92 rfl rfl rfl ?_
 have hgood:good ql:=hl.good (i:=0) (Nat.zero_lt_one)
 have hld:ldq s (qadd ql (0*1))=some (.slice q1 A.length k1):=hl.ld (i:=0) (Nat.zero_lt_one)
 refine run1 ?_
 refine W.loop (α:=Nat) (fun j=>[(0,.slice ql 1 cl),(1,.slice r A.length d),(2,bcf),(8,nI 1),(9,nI 0),(10,nI j)]) (fun _=>[]) (fun _=>s)
  (fun j=>j≤1) (fun j=>j) 1 (Nat.le_refl _) (.cons rfl (.cons rfl (.cons rfl (.cons rfl (.cons rfl (.cons rfl .nil)))))) rfl rfl (by decide) ?_
 intro j hj
 by_cases h:0<j
 ·obtain rfl:j=1:=by have:j≤1:=hj;omega
  refine run1 ?_
  refine Wo.call rfl (Xc.callv rfl ok77 rfl) rfl ((bcompare_ok h1 h2).mono ?_)
  rintro v s' ⟨rfl,e'⟩;rw [e'];clear e' s'
  rw [bcmp_self]
  have hz:¬(0:Int)<0:=by decide
  refine run1 ?_
  exact rnd.n 0 (Nat.zero_le _) Nat.zero_lt_one (.cons rfl (.cons rfl (.cons rfl (.cons rfl (.cons rfl (.cons rfl .nil)))))) rfl rfl
 ·obtain rfl:j=0:=by omega
  have hlt:0<1:=Nat.zero_lt_one
  have h0:¬0<0:=by decide
  refine run1 ?_
  refine Wo.call (gT rfl hlt) (Xc.callv rfl ok77 rfl) rfl ((bcompare_ok h1 h2).mono ?_)
  rintro v s' ⟨rfl,e'⟩;rw [e'];clear e' s'
  rw [bcmp_self]
  refine run1 ?_
  exact Lv.ret rfl ⟨rfl,rfl⟩
theorem zsl:zeroOf B.P 22 =some (.slice none 0 0):=by kernel_rfl
theorem place_ok{b o:Nat}{l:List Value}{r:Nat}{M:MpE}{H:List Nat}{ql:Option Addr}{m cl i:Nat}{f:Bool}(w0:Wf s)(hb:Rw s b l γ)(hm:l[o]? =some (.map (some r)))(hM:Mp s r M)(hH:H.length=32)(hV:(mget H M).getD (.slice none 0 0)= .slice ql m cl)
  (hs:∀s',Kn s s'→Cl B (.call 92 [.slice ql m cl,.slice q A.length c,bcf]) s' fun v s''=>v= .tuple ⟨[nI i,.bool f]⟩∧s''=s'):
  Cl B (.call 68 [.pointer (some ⟨b,o,none⟩),hsh H,.slice q A.length c]) s fun v s'=>v= .tuple ⟨[nI i,.bool f]⟩∧Kn s s':=by
 refine Cl.enter Tryz.f68 fn68 rfl rfl rfl ?_
 have gd:good (some ⟨b,o,none⟩):=good_b
 refine run1 ?_
 refine mk_gen (cs:=H.map nB) (M:=fun s'=>W _ _ _ _ s' _) fun s1 r1 n1 k1=>?_
 have w1:Wf s1:=k1.wf w0
 have b1:=hb.kp w0 k1 id
 have lm:ldq s1 (qadd (some ⟨b,o,none⟩) 0)=some (.map (some r)):=by
  have:=b1.f1 hm
  have e:qadd (some ⟨b,0,none⟩) o=qadd (some ⟨b,o,none⟩) 0:=by show some (Addr.mk b (0+o) none)=some (Addr.mk b (o+0) none);rw [Nat.zero_add,Nat.add_zero]
  rw [e]at this;exact this
 have lh:=r1.all (n:=32) (by rw [List.length_map,hH]) (by decide)
 have hM1:=hM.kp w0 k1 id
 refine W.dr [(0,.none,0),(1,.none,1),(2,.none,3),(3,.reads,7),(4,.reads,0),(5,.reads,31),(6,.none,0),(7,.acts,127),(8,.none,255),(9,.none,255),(10,.none,1023),(11,.none,2047)] (by kernel_rfl) rfl (run1 ?_)
 refine Wd.val rfl (Xv.nilC rfl) rfl (Nat.le_refl _) (run1 ?_)
 refine Wd.read rfl (Xv.ld rfl rfl rfl lm) rfl eqV_mp ⟨Xv.ld rfl rfl rfl lm,trivial⟩ ?_
 refine Wd.read rfl (Xv.ldN rfl rfl rfl lh) rfl eqV_h ⟨Xv.ldN rfl rfl rfl lh,trivial⟩ ?_
 have lk:∀{X:Fx} {env:Env} {x y:Operand},X.B=B→ev env x=some (.map (some r))→ev env y=some (hsh H)→Xv X (.lookup 62 x y false) env s1 (.slice ql m cl) s1:=fun{X env x y} hB hx hy=>by
  have:=Xv.look (X:=X) (ok:=false) (t:= 62) (key:= 26) (elt:= 22) (e:= 5) (z:=.slice none 0 0) (by rw [hB];rfl) (by show HT X.B.P _ _;rw [hB];exact HH) (by show zeroOf X.B.P _=_;rw [hB];exact zsl) rfl hx hy hH hM1
  rw [←hV];exact this
 refine Wd.read rfl (lk rfl rfl rfl) rfl eqV_slice ⟨lk rfl rfl rfl,trivial⟩ (run1 ?_)
 refine Wd.call rfl (Xc.call ok92 rfl) rfl ((hs s1 k1).mono ?_)
 rintro v s2 ⟨rfl,e'⟩;rw [e'];clear e' s2
 refine⟨Nat.le_refl _,run1 ?_⟩
 exact Lv.ret rfl ⟨rfl,k1⟩
end Go.Proofs.YtnbdpcpgckfeeaaGreatDoor
namespace Go.Sy
open Go Go.Ev
theorem Xv.slLH{X:Fx}{env:Env}{s:St}{t t0 n0 e t1 size:Nat}{z0 z:Option (List Value)}{ke:Sh}{x y u:Operand}{k k':IntKind}{b n c l h γ:Nat}{cs:List Value}(ht:tk X.B.T t=some ⟨t0,n0,.sl e,z0⟩)(he:tk X.B.T e=some ⟨t1,size,ke,z⟩)(hx:ev env x=some (.slice (some ⟨b,0,none⟩) n c))(hy:ev env y=some (.int k (.ofNat l)))(hu:ev env u=some (.int k' (.ofNat h)))(hg:Gw s (some ⟨b,0,none⟩) n c size cs γ)(hlh:l<h)(hh:h≤n)(hn:n<2^60):
  ∃c',Xv X (.slice t x (some y) (some u) none) env s (.slice (some ⟨b,l*size,none⟩) (h-l) c') s:=by
 obtain⟨b',hb',_,hc⟩:=hg.rw (by omega)
 cases hb'
 have base:∀tm,Fits env tm→exec X.P (.slice t x (some y) (some u) none) tm s=ofO (slice2 size b 0 c l h) s:=fun tm hf=>by
  show xSlice X.P t (opd tm x) (some (opd tm y)) (some (opd tm u)) none s=_
  rw [ev_opd hf hx,ev_opd hf hy,ev_opd hf hu]
  unfold xSlice
  simp only[show X.P.underlying t=_ from X.B.un ht,show sizeOfT X.P e=_ from X.B.sz he]
  rfl
 rcases hc with rfl|rfl
 ·obtain⟨a1,a2,a3⟩:=cap_least (n:=n) (es:=size) (by omega)
  by_cases h0:l=0
  ·subst h0
   refine⟨least n size,fun tm hf=>?_⟩
   rw [base tm hf];unfold slice2
   rw [a1,a2,Nat.ble_eq_true_of_le (Nat.le_of_lt hlh),Nat.ble_eq_true_of_le hh]
   show ofO (mkSl b 0 h (least n size)) s=_
   rw [mkSl_eq,Nat.zero_mul];rfl
  ·refine⟨least (n-l) size,fun tm hf=>?_⟩
   rw [base tm hf];unfold slice2
   rw [a1,a2,a3,Nat.ble_eq_true_of_le (Nat.le_of_lt hlh),Nat.ble_eq_true_of_le hh,show Nat.beq l 0=false by cases hq:Nat.beq l 0 with|false=>rfl|true=>exact absurd (Nat.eq_of_beq_eq_true hq) h0,show Nat.blt l n=true from Nat.ble_eq_true_of_le (by omega),Nat.beq_refl]
   show ofO (mkSl b (0+l*size) (h-l) (least (n-l) size)) s=_
   rw [mkSl_eq,Nat.zero_add];rfl
 ·obtain⟨a1,a2⟩:=cap_sure (n:=n)
  refine⟨sure (n-l),fun tm hf=>?_⟩
  rw [base tm hf];unfold slice2
  rw [a1,a2,Nat.ble_eq_true_of_le (Nat.le_of_lt hlh),Nat.ble_eq_true_of_le hh,show Nat.beq n l=false by cases hq:Nat.beq n l with|false=>rfl|true=>exact absurd (Nat.eq_of_beq_eq_true hq) (by omega)]
  show ofO (mkSl b (0+l*size) (h-l) (sure (n-l))) s=_
  rw [mkSl_eq,Nat.zero_add];rfl
end Go.Sy
namespace Go.Proofs.YtnbdpcpgckfeeaaGreatDoor
open Go Go.Ev Go.Sy
set_option maxRecDepth 100000
variable{s:St}{n c:Nat}{q:Option Addr}{M A:List Nat}
def lb(n i:Nat):Nat:=((8*n)>>>(56-8*i))%256
def lbs(n i:Nat):List Nat:=(List.range i).map (lb n)
theorem lbs_succ{i:Nat}:lbs n (i+1)=lbs n i++[lb n i]:=by simp[lbs,List.range_succ]
theorem lbs_len{i:Nat}:(lbs n i).length=i:=by simp[lbs]
theorem zend_pos:1≤zend n:=by unfold zend;split<;>omega
theorem zend_mod:(n+zend n)%64=56:=by unfold zend;split<;>omega
theorem pdN_eq:∀{i:Nat},i≤8→pdN n i=(128::List.replicate (zend n-1) 0)++(lbs n i++List.replicate (72-zend n-i) 0)
 |0,_=>by
  have h1:=zend_pos (n:=n)
  have h2:=zend_lt (n:=n)
  show (List.replicate 72 0).set 0 128=(128::List.replicate (zend n-1) 0)++([]++List.replicate (72-zend n-0) 0)
  rw [List.nil_append,List.cons_append,List.replicate_append_replicate,show zend n-1+(72-zend n-0)=71 by omega]
  rfl
 |i+1,h=>by
  have h1:=zend_pos (n:=n)
  have h2:=zend_lt (n:=n)
  rw [pdN,pdN_eq (i:=i) (by omega),lbs_succ]
  have e:72-zend n-i=(72-zend n-(i+1))+1:=by omega
  rw [e,List.replicate_succ,List.set_append_right _ _ (by simp;omega),List.set_append_right _ _ (by simp[lbs_len];omega)]
  have e2:zend n+i-(128::List.replicate (zend n-1) 0).length-(lbs n i).length=0:=by rw [lbs_len];simp;omega
  rw [e2,List.set_cons_zero,List.append_assoc];rfl
theorem padL_eq:padL n=(128::List.replicate (zend n-1) 0)++lbs n 8:=by
 have h1:=zend_pos (n:=n)
 unfold padL
 rw [pdN_eq (Nat.le_refl _),←List.append_assoc,List.take_left' (by rw [List.length_append,lbs_len];simp;omega)]
def zJ(j:Nat):Value:=match j with
 |8=>.int .i64 (.negSucc 7)
 |j=>nI (56-8*j)
set_option maxHeartbeats 1000000 in
theorem padded_ok(w0:Wf s)(ha:Bs s q M)(hM:M.length<2^40):
  Cl B (.call 49 [.slice q M.length c]) s fun v s'=> ∃q' c' γ,v= .slice q' (M++padL M.length).length c'∧Gw s' q' (M++padL M.length).length c' 1 ((M++padL M.length).map nB) γ∧s.nx≤γ∧Kn s s':=by
 have hz1:=zend_pos (n:=M.length)
 have hz2:=zend_lt (n:=M.length)
 have hzm:=zend_mod (n:=M.length)
 refine Cl.enter Tryz.f49 fn49 rfl rfl rfl ?_
 refine run1 ?_
 refine Wo.app rfl rfl rfl rfl rfl rfl rfl rfl rfl (mkRow_wf w0) (Gw.mk0 rfl) rfl (ha.kn w0 mkRow_kn).cells (by simp) one_nB rfl (by omega) (by omega) ?_
 intro q1 c1 γ1 s1 h1 h2 h3
 have k1:Kn s s1:=Kn.app mkRow_kn h2 (Nat.le_refl _)
 have g1:s.nx≤γ1:=by
  rcases h3 with h|⟨h,_⟩
  ·exact Nat.le_of_eq h.symm
  ·rw [h];exact Nat.le_succ _
 rw [Nat.zero_add,List.nil_append]at h1
 have w1:Wf s1:=k1.wf w0
 rw [Nat.zero_add]
 refine run1 ?_
 refine Wo.app rfl rfl rfl rfl rfl rfl rfl rfl rfl (mkRow_wf w1) (h1.kp w1 (mkRow_kn (cs:=[nB 128])) id) rfl (cells_at mkRow_sl.at rfl (by decide)) rfl (by intro v hv;exact one_nB (A:=[128]) v hv) rfl (by omega) (by omega) ?_
 intro q2 c2 γ2 s2 j1 j2 j3
 have k2:Kn s s2:=Kn.app (k1.call mkRow_kn) j2 g1
 have g2:s.nx≤γ2:=by
  rcases j3 with h|⟨h,_⟩
  ·rw [h];exact g1
  ·rw [h];exact Nat.le_trans k1.le (Nat.le_succ _)
 have j1':Gw s2 q2 (M++128::List.replicate 0 0).length c2 1 ((M++128::List.replicate 0 0).map nB) γ2:=by
  have e:M.length+1=(M++128::List.replicate 0 0).length:=by simp
  rw [←e,List.map_append];exact j1
 refine run1 ?_
 refine W.loop (α:=Nat×Option Addr×Nat×Nat×St) (fun a=>[(0,.slice q M.length c),(3,.slice a.2.1 (M++128::List.replicate a.1 0).length a.2.2.1)]) (fun _=>[]) (fun a=>a.2.2.2.2)
  (fun a=>a.1≤zend M.length-1∧Gw a.2.2.2.2 a.2.1 (M++128::List.replicate a.1 0).length a.2.2.1 1 ((M++128::List.replicate a.1 0).map nB) a.2.2.2.1∧s.nx≤a.2.2.2.1∧Kn s a.2.2.2.2) (fun a=>zend M.length-a.1) (0,q2,c2,γ2,s2) ⟨Nat.zero_le _,j1',g2,k2⟩ (.cons rfl (.cons ?_ .nil)) rfl rfl (by show zend M.length-0<_;omega) ?_
 ·show some (Value.slice q2 (M.length+1) c2)=some (Value.slice q2 (M++128::List.replicate 0 0).length c2)
  simp
 rintro⟨k,q3,c3,γ3,t0⟩ ⟨i1,i2,i3,i4⟩
 simp only at i1 i2 i3 i4
 dsimp only
 have wt:Wf t0:=i4.wf w0
 have hlk:(M++128::List.replicate k 0).length=M.length+1+k:=by simp;omega
 obtain⟨l3,hl3⟩:∃l,l=(M++128::List.replicate k 0).length:=⟨_,rfl⟩
 rw [←hl3]at i2 hlk ⊢
 by_cases h:l3%64≠56
 ·have h':Nat.mod l3 64≠56:=h
  refine run1 ?_
  refine Wo.app rfl rfl rfl rfl rfl rfl rfl rfl rfl (mkRow_wf wt) (i2.kp wt (mkRow_kn (cs:=[nB 0])) id) rfl (cells_at mkRow_sl.at rfl (by decide)) rfl (by intro v hv;exact one_nB (A:=[0]) v hv) rfl (by omega) (by omega) ?_
  intro q4 c4 γ4 t1 y1 y2 y3
  have k4:Kn s t1:=Kn.app (i4.call mkRow_kn) y2 i3
  have g4:s.nx≤γ4:=by
   rcases y3 with h|⟨h,_⟩
   ·rw [h];exact i3
   ·rw [h];exact Nat.le_trans i4.le (Nat.le_succ _)
  have el:l3+1=(M++128::List.replicate (k+1) 0).length:=by simp;omega
  have em:(M++128::List.replicate k 0).map nB++[nB 0]=(M++128::List.replicate (k+1) 0).map nB:=by
   rw [List.replicate_succ',List.map_append,List.map_append];simp
  have y1':Gw t1 q4 (M++128::List.replicate (k+1) 0).length c4 1 ((M++128::List.replicate (k+1) 0).map nB) γ4:=by
   rw [←el,←em];exact y1
  refine run1 ?_
  refine rnd.n (k+1,q4,c4,γ4,t1) ⟨?_,y1',g4,k4⟩ ?_ (.cons rfl (.cons ?_ .nil)) rfl rfl
  ·show k+1≤zend M.length-1
   have:M.length+1+k≠M.length+zend M.length:=fun e=>h (by rw [hlk,e];exact hzm)
   omega
  ·show zend M.length-(k+1)<zend M.length-k
   omega
  ·show some (Value.slice q4 (l3+1) c4)=some (Value.slice q4 (M++128::List.replicate (k+1) 0).length c4)
   rw [el]
 ·have h':¬Nat.mod l3 64≠56:=h
  have hk:k=zend M.length-1:=by
   have h5:l3%64=56:=by omega
   rw [hlk]at h5
   omega
  refine run1 ?_
  have e0:l3=(M++128::List.replicate k 0++lbs M.length 0).length:=by rw [hl3];simp[lbs]
  have i2':Gw t0 q3 (M++128::List.replicate k 0++lbs M.length 0).length c3 1 ((M++128::List.replicate k 0++lbs M.length 0).map nB) γ3:=by
   rw [←e0,show M++128::List.replicate k 0++lbs M.length 0=M++128::List.replicate k 0 by simp[lbs]];exact i2
  refine W.loop (α:=Nat×Option Addr×Nat×Nat×St) (fun a=>[(3,.slice a.2.1 (M++128::List.replicate k 0++lbs M.length a.1).length a.2.2.1),(4,.int .u64 (.ofNat (8*M.length))),(5,zJ a.1)]) (fun _=>[]) (fun a=>a.2.2.2.2)
   (fun a=>a.1≤8∧Gw a.2.2.2.2 a.2.1 (M++128::List.replicate k 0++lbs M.length a.1).length a.2.2.1 1 ((M++128::List.replicate k 0++lbs M.length a.1).map nB) a.2.2.2.1∧s.nx≤a.2.2.2.1∧Kn s a.2.2.2.2) (fun a=>8-a.1) (0,q3,c3,γ3,t0) ⟨Nat.zero_le _,i2',i3,i4⟩ (.cons ?_ (.cons ?_ (.cons rfl .nil))) rfl rfl (by show 8-0<_;decide) ?_
  ·show some (Value.slice q3 l3 c3)=some (Value.slice q3 (M++128::List.replicate k 0++lbs M.length 0).length c3)
   rw [e0]
  ·show some (Value.int .u64 (Int.ofNat ((M.length%18446744073709551616*8)%18446744073709551616)))=some (Value.int .u64 (Int.ofNat (8*M.length)))
   rw [show (M.length%18446744073709551616*8)%18446744073709551616=8*M.length by omega]
  clear i2 i2' i3 i4 wt
  rintro⟨j,q5,c5,γ5,t2⟩ ⟨i1',i2,i3,i4⟩
  simp only at i1' i2 i3 i4
  dsimp only
  have wt:Wf t2:=i4.wf w0
  have hlj:(M++128::List.replicate k 0++lbs M.length j).length=l3+j:=by rw [List.length_append,←hl3,lbs_len]
  by_cases hj:j=8
  ·subst hj
   have hneg:¬(0:Int)≤Int.negSucc 7:=by decide
   show W _ _ [(3,_),(4,_),(5,.int .i64 (.negSucc 7))] _ _ _
   refine run1 ?_
   have e:M++128::List.replicate k 0++lbs M.length 8=M++padL M.length:=by rw [padL_eq,hk];simp
   rw [e]at i2 ⊢
   exact Lv.ret rfl ⟨q5,c5,γ5,rfl,i2,i3,i4⟩
  ·have ej:zJ j=nI (56-8*j):=by
    have:j=0∨j=1∨j=2∨j=3∨j=4∨j=5∨j=6∨j=7:=by omega
    rcases this with rfl|rfl|rfl|rfl|rfl|rfl|rfl|rfl<;>rfl
   rw [ej]
   obtain⟨l5,hl5⟩:∃l,l=(M++128::List.replicate k 0++lbs M.length j).length:=⟨_,rfl⟩
   rw [←hl5]at i2 hlj ⊢
   have hp:0≤56-8*j:=Nat.zero_le _
   refine run1 ?_
   refine Wo.val rfl (Xv.ar (r:=(8*M.length)>>>(56-8*j)) rfl rfl rfl (by show cond (Nat.ble (56-8*j) 64) (some (Nat.shiftRight _ _)) none=_;rw [Nat.ble_eq_true_of_le (by omega)];rfl)) rfl (run1 ?_)
   refine Wo.app rfl rfl rfl rfl rfl rfl rfl rfl rfl (mkRow_wf wt) (i2.kp wt (mkRow_kn (cs:=[nB (lb M.length j)])) id) rfl (cells_at mkRow_sl.at rfl (by decide)) rfl (by intro v hv;exact one_nB (A:=[lb M.length j]) v hv) rfl (by omega) (by omega) ?_
   intro q4 c4 γ4 t1 y1 y2 y3
   have k4:Kn s t1:=Kn.app (i4.call mkRow_kn) y2 i3
   have g4:s.nx≤γ4:=by
    rcases y3 with h|⟨h,_⟩
    ·rw [h];exact i3
    ·rw [h];exact Nat.le_trans i4.le (Nat.le_succ _)
   have el:l5+1=(M++128::List.replicate k 0++lbs M.length (j+1)).length:=by rw [lbs_succ,←List.append_assoc,List.length_append,←hl5];rfl
   have em:(M++128::List.replicate k 0++lbs M.length j).map nB++[nB (lb M.length j)]=(M++128::List.replicate k 0++lbs M.length (j+1)).map nB:=by
    rw [lbs_succ,←List.append_assoc (M++128::List.replicate k 0),List.map_append (l₂:=[lb M.length j])];rfl
   have y1':Gw t1 q4 (M++128::List.replicate k 0++lbs M.length (j+1)).length c4 1 ((M++128::List.replicate k 0++lbs M.length (j+1)).map nB) γ4:=by
    rw [←el,←em];exact y1
   refine run1 ?_
   refine Wo.val rfl (Xv.subZ rfl rfl (by omega) (by omega) rfl) rfl ?_
   have ez:(Value.int .i64 (((56-8*j:Nat):Int)-((8:Nat):Int)))=zJ (j+1):=by
    have:j=0∨j=1∨j=2∨j=3∨j=4∨j=5∨j=6∨j=7:=by omega
    rcases this with rfl|rfl|rfl|rfl|rfl|rfl|rfl|rfl<;>rfl
   rw [ez]
   refine run1 ?_
   refine rnd.n (j+1,q4,c4,γ4,t1) ⟨by show j+1≤8;omega,y1',g4,k4⟩ (by show 8-(j+1)<8-j;omega) (.cons ?_ (.cons rfl (.cons rfl .nil))) rfl rfl
   show some (Value.slice q4 (l5+1) c4)=some (Value.slice q4 (M++128::List.replicate k 0++lbs M.length (j+1)).length c4)
   rw [el]
theorem rmixed_ok{w:W8}{_o:Nat}(hw:Dg.Ok8 w)(hT:TabAt s)(hb:At s q (A.map nB))(hl:A.length=64)(hA:∀x∈A,x<256):Cl B (.call 50 [.agg ⟨wv w⟩,.slice q 64 c]) s fun v s'=>v= .agg ⟨wv (Dg.eb w A)⟩∧s'=s:=by
 have hne:A.map nB≠[]:=fun e=>by have:=congrArg List.length e;rw [List.length_map,hl]at this;simp at this
 rcases hb with⟨e,_⟩|⟨b,o,rfl,hr⟩
 ·exact absurd e hne
 have ht:=hT (0,Dg.KV) (by simp[Dg.tabs])
 rcases ht with⟨e,_⟩|⟨b',o',e,ht⟩
 ·cases e
 cases e
 refine Cl.hook (g:=Dg.mixH 0) rfl ?_ ⟨rfl,rfl⟩
 rw [List.length_map,hl]at hr
 show cond (Nat.beq 64 64) (Dg.mixN (Dg.nats (wv w)) (Dg.bytesO (readAt s b o 64)) (Dg.sameO (readAt s 0 0 64)) s) .no=_
 rw [hr,show readAt s 0 0 64=some Dg.KV from ht,nats_wv hw]
 show cond true (Dg.mixN _ (Dg.bytesN (A.map nB)) (sameL Dg.KV Dg.KV) s) .no=_
 rw [bytesN_map hA,show sameL Dg.KV Dg.KV=true by kernel_rfl]
 rfl
def sb(w:W8)(i:Nat):Nat:=((wl w).getD (i/4) 0>>>(24-8*(i%4)))%256
theorem set4{P Z:List Nat}{k a b c d:Nat}(h:P.length=k):((((P++0::0::0::0::Z).set k a).set (k+1) b).set (k+2) c).set (k+3) d=P++a::b::c::d::Z:=by
 subst h
 rw [List.set_append_right _ _ (Nat.le_refl _),Nat.sub_self,List.set_append_right _ _ (by omega),Nat.add_sub_cancel_left,List.set_append_right _ _ (by omega),Nat.add_sub_cancel_left,List.set_append_right _ _ (by omega),Nat.add_sub_cancel_left]
 rfl
theorem sum_eq{w:W8}:∀{i:Nat},i≤8→sumN w i=(List.range (4*i)).map (sb w)++List.replicate (32-4*i) 0
 |0,_=>rfl
 |i+1,h=>by
  rw [sumN,sum_eq (i:=i) (by omega),show 32-4*i=(32-4*(i+1))+1+1+1+1 by omega,List.replicate_succ,List.replicate_succ,List.replicate_succ,List.replicate_succ,set4 (by simp),show 4*(i+1)=4*i+1+1+1+1 by omega,List.range_succ,List.range_succ,List.range_succ,List.range_succ]
  have e0:sb w (4*i)=((wl w).getD i 0>>>24)%256:=by unfold sb;rw [show 4*i/4=i by omega,show 24-8*(4*i%4)=24 by omega]
  have e1:sb w (4*i+1)=((wl w).getD i 0>>>16)%256:=by unfold sb;rw [show (4*i+1)/4=i by omega,show 24-8*((4*i+1)%4)=16 by omega]
  have e2:sb w (4*i+1+1)=((wl w).getD i 0>>>8)%256:=by unfold sb;rw [show (4*i+1+1)/4=i by omega,show 24-8*((4*i+1+1)%4)=8 by omega]
  have e3:sb w (4*i+1+1+1)=(wl w).getD i 0%256:=by unfold sb;rw [show (4*i+1+1+1)/4=i by omega,show 24-8*((4*i+1+1+1)%4)=0 by omega];rfl
  simp only[List.map_append,List.map_cons,List.map_nil,e0,e1,e2,e3,List.append_assoc,List.cons_append,List.nil_append]
theorem sum_bytes{w:W8}:sumN w 8=(List.range 32).map (sb w):=by
 rw [sum_eq (Nat.le_refl _)];simp
theorem sha_all:fwN ((M++padL M.length).length/64) Dg.H0 (M++padL M.length)=fwN ((M.length%64+(padL M.length).length)/64) (mw M) (mr M++padL M.length):=by
 rw [mw_app];rfl
theorem pad_mod:(M++padL M.length).length%64=0:=by
 have:=zend_mod (n:=M.length)
 rw [List.length_append,padL_length];omega
end Go.Proofs.YtnbdpcpgckfeeaaGreatDoor
