import Derived.Test.YtnbdpcpgckfeeaaGreatDoorW6zz
namespace Go.Sy
open Go Go.Ev
section
variable{X:Fx}{env:Env}{df:List Deferred}{s:St}{Q:Post}
theorem gT{ops:List Oper}{g:Option (Nat×Bool)}{p:Prop} [Decidable p](h:wantsE ops env g=some (eqB true (decide p)))(hp:p):wantsE ops env g=some true:=by rw [h,decide_eq_true hp];rfl
theorem gF{ops:List Oper}{g:Option (Nat×Bool)}{p:Prop} [Decidable p](h:wantsE ops env g=some (eqB true (decide p)))(hp:¬p):wantsE ops env g=some false:=by rw [h,decide_eq_false hp];rfl
theorem gT'{ops:List Oper}{g:Option (Nat×Bool)}{p:Prop} [Decidable p](h:wantsE ops env g=some (eqB false (decide p)))(hp:¬p):wantsE ops env g=some true:=by rw [h,decide_eq_false hp];rfl
theorem gF'{ops:List Oper}{g:Option (Nat×Bool)}{p:Prop} [Decidable p](h:wantsE ops env g=some (eqB false (decide p)))(hp:p):wantsE ops env g=some false:=by rw [h,decide_eq_true hp];rfl
theorem Xv.pickT{c x y:Operand}{p:Prop} [Decidable p]{v:Value}(hc:ev env c=some (.bool (decide p)))(hp:p)(hx:ev env x=some v):Xv X (.pick c x y) env s v s:=fun tm hf=>by
 show xPick (opd tm c) (opd tm x) (opd tm y) s=_;rw [ev_opd hf hc,ev_opd hf hx,decide_eq_true hp];rfl
theorem Xv.pickF{c x y:Operand}{p:Prop} [Decidable p]{v:Value}(hc:ev env c=some (.bool (decide p)))(hp:¬p)(hy:ev env y=some v):Xv X (.pick c x y) env s v s:=fun tm hf=>by
 show xPick (opd tm c) (opd tm x) (opd tm y) s=_;rw [ev_opd hf hc,ev_opd hf hy,decide_eq_false hp];rfl
theorem Xv.pickC{c x y:Operand}{v:Value}(hc:ev env c=some (.bool true))(hx:ev env x=some v):Xv X (.pick c x y) env s v s:=fun tm hf=>by
 show xPick (opd tm c) (opd tm x) (opd tm y) s=_;rw [ev_opd hf hc,ev_opd hf hx];rfl
theorem Xv.pickD{c x y:Operand}{v:Value}(hc:ev env c=some (.bool false))(hy:ev env y=some v):Xv X (.pick c x y) env s v s:=fun tm hf=>by
 show xPick (opd tm c) (opd tm x) (opd tm y) s=_;rw [ev_opd hf hc,ev_opd hf hy];rfl
theorem Xv.notD{t:TypeId}{x:Operand}{p:Prop} [Decidable p](hx:ev env x=some (.bool (decide p))):Xv X (.unOp .not t x) env s (.bool (decide (¬p))) s:=by
 have:=Xv.not (X:=X) (s:=s) (t:=t) hx
 rwa[←decide_not]at this
theorem Xv.eqN{t t0 n e:Nat}{z:Option (List Value)}{t':TypeId}{x y:Operand}{q:Option Addr}{l c:Nat}(ht:tk X.B.T t=some ⟨t0,n,.sl e,z⟩)(hx:ev env x=some (.slice q l c))(hy:ev env y=some (.slice none 0 0)):Xv X (.binOp .eql t x y t') env s (.bool (decide (q=none))) s:=fun tm hf=>by
 show xBin X.P .eql t x y (opd tm x) (opd tm y) s=_
 rw [ev_opd hf hx,ev_opd hf hy]
 show eqA X.P .eql t x y (.slice q l c) (.slice none 0 0) s=_
 have hu:X.P.underlying t=some (.slice e):=X.B.un ht
 unfold eqA
 rw [hu]
 cases q<;>rfl
theorem cmZ{P:Program}{op:BinOp}{t:TypeId}{k:IntKind}{a b:Int}{r:Bool}{s:St}(hp:pureRun P (binOp op t (.int k a) (.int k b))=some (.bool r))(hn:∀m n,a= .ofNat m→b= .ofNat n→arN op k m n=none∧cmN op m n=some r):ints P op t k k a b s= .ok (.val (.bool r)) s:=by
 have hk:kinds op k k=true:=by unfold kinds;split<;>first|rfl|exact Nat.beq_refl _
 have key:ofPure P (binOp op t (.int k a) (.int k b)) s= .ok (.val (.bool r)) s:=by unfold ofPure;rw [hp];show okB r s=_;cases r<;>rfl
 unfold ints
 split
 ·rename_i m n
  obtain⟨h1,h2⟩:=hn m n rfl rfl
  unfold intsN
  rw [hk,h1,h2]
  show okB r s=_
  cases r<;>rfl
 ·exact key
section
variable{t t':TypeId}{x y:Operand}{k:IntKind}{a b:Int}(hx:ev env x=some (.int k a))(hy:ev env y=some (.int k b))
include hx hy
theorem Xv.eqZ:Xv X (.binOp .eql t x y t') env s (.bool (decide (a=b))) s:=fun tm hf=>by
 show xBin X.P .eql t x y (opd tm x) (opd tm y) s=_
 rw [ev_opd hf hx,ev_opd hf hy]
 refine cmZ (by simp[binOp,Op.intCmp];rfl) fun m n h1 h2=>?_
 subst h1 h2
 exact⟨rfl,congrArg some (by rw [beq_dec];exact decide_eq_decide.2 ⟨fun h=>by rw [h],fun h=>by injection h⟩)⟩
theorem Xv.ltZ:Xv X (.binOp .lss t x y t') env s (.bool (decide (a<b))) s:=fun tm hf=>by
 show xBin X.P .lss t x y (opd tm x) (opd tm y) s=_
 rw [ev_opd hf hx,ev_opd hf hy]
 refine cmZ (by simp[binOp,Op.intCmp];rfl) fun m n h1 h2=>?_
 subst h1 h2
 exact⟨rfl,congrArg some (by rw [blt_dec];exact decide_eq_decide.2 Int.ofNat_lt.symm)⟩
theorem Xv.geZ:Xv X (.binOp .geq t x y t') env s (.bool (decide (b≤a))) s:=fun tm hf=>by
 show xBin X.P .geq t x y (opd tm x) (opd tm y) s=_
 rw [ev_opd hf hx,ev_opd hf hy]
 refine cmZ (by simp[binOp,Op.intCmp];rfl) fun m n h1 h2=>?_
 subst h1 h2
 exact⟨rfl,congrArg some (by rw [ble_dec];exact decide_eq_decide.2 Int.ofNat_le.symm)⟩
theorem Xv.gtZ:Xv X (.binOp .gtr t x y t') env s (.bool (decide (b<a))) s:=fun tm hf=>by
 show xBin X.P .gtr t x y (opd tm x) (opd tm y) s=_
 rw [ev_opd hf hx,ev_opd hf hy]
 refine cmZ (by simp[binOp,Op.intCmp];rfl) fun m n h1 h2=>?_
 subst h1 h2
 exact⟨rfl,congrArg some (by rw [blt_dec];exact decide_eq_decide.2 Int.ofNat_lt.symm)⟩
end
section
variable{all:List Oper}{d:Option Nat}{op:Op}{ty:TypeId}{pos:String}{af:Array Edge}{g:Option (Nat×Bool)}{i m:Nat}{l:List Sp}{past:Past}
theorem Wd.skn(hg:wantsE all env g=some false)(hd:dOk X d=true)(k:Wd X all l past (up d undef env) df s Q):Wd X all (.mk .none i ⟨d,op,ty,pos,af,g⟩ m::l) past env df s Q:=by
 constructor;intro tm hf
 obtain⟨tm1,h1,h2⟩:=oper_skip (all:=all) (op:=op) (ty:=ty) (pos:=pos) (af:=af) (df:=df) (s:=s) hf hg hd
 obtain⟨e,env',tm',df',s2,k1,k2,k3⟩:=k.w tm1 h1
 exact⟨e,env',tm',df',s2,k1.mono fun m a=>by dsimp only;rw [walk_cons (h2 _) (Nat.le_refl _)];exact a,k2,k3⟩
theorem Wd.skr(hg:wantsE all env g=some false)(hd:dOk X d=true)(k:Wd X all l past (up d undef env) df s Q):Wd X all (.mk .reads i ⟨d,op,ty,pos,af,g⟩ m::l) past env df s Q:=by
 constructor;intro tm hf
 obtain⟨tm1,h1,h2⟩:=oper_skip (all:=all) (op:=op) (ty:=ty) (pos:=pos) (af:=af) (df:=df) (s:=s) hf hg hd
 obtain⟨e,env',tm',df',s2,k1,k2,k3⟩:=k.w tm1 h1
 exact⟨e,env',tm',df',s2,k1.mono fun m a=>by
   dsimp only
   rw [walk_cons (h2 _) (Nat.le_refl _)]
   show asN (cond (stoodO X.P all past _ _ _ _) _ _)=_
   have:∀m,stoodO X.P all past ⟨d,op,ty,pos,af,g⟩ m (.mk X.nt tm df) (.mk X.nt tm1 df)=true:=fun m=>by unfold stoodO;simp only[wants_ok hf hg]
   rw [this];exact a,k2,k3⟩
theorem Wd.ska(hg:wantsE all env g=some false)(hd:dOk X d=true)(k:Wd X all l ((some i,s)::past) (up d undef env) df s Q):Wd X all (.mk .acts i ⟨d,op,ty,pos,af,g⟩ m::l) past env df s Q:=by
 constructor;intro tm hf
 obtain⟨tm1,h1,h2⟩:=oper_skip (all:=all) (op:=op) (ty:=ty) (pos:=pos) (af:=af) (df:=df) (s:=s) hf hg hd
 obtain⟨e,env',tm',df',s2,k1,k2,k3⟩:=k.w tm1 h1
 exact⟨e,env',tm',df',s2,k1.mono fun m a=>by dsimp only;rw [walk_cons (h2 _) (Nat.le_refl _)];exact a,k2,k3⟩
end
theorem W.condT{c:Operand}{x y:Code}(hc:ev env c=some (.bool true))(h:W X x env df s Q):W X (.cond c x y) env df s Q:=W.condB hc (fun _=>h) fun e=>by cases e
theorem W.condF{c:Operand}{x y:Code}(hc:ev env c=some (.bool false))(h:W X y env df s Q):W X (.cond c x y) env df s Q:=W.condB hc (fun e=>by cases e) fun _=>h
theorem W.condA{c:Operand}{x y:Code}{p:Prop} [Decidable p](hc:ev env c=some (.bool (decide p)))(hp:p)(h:W X x env df s Q):W X (.cond c x y) env df s Q:=W.cond hc (fun _=>h) fun e=>absurd hp e
theorem W.condN{c:Operand}{x y:Code}{p:Prop} [Decidable p](hc:ev env c=some (.bool (decide p)))(hp:¬p)(h:W X y env df s Q):W X (.cond c x y) env df s Q:=W.cond hc (fun e=>absurd e hp) fun _=>h
end
theorem run1{G G':Prop}(h':G')(h:Im G' G:=by
  (repeat (first
   |apply Im.l (Wo.val (by first|exact rfl|exact gT (by exact rfl) (by assumption)|exact gT' (by exact rfl) (by assumption)) (Xv.move (by exact rfl)) (by exact rfl))
   |apply Im.l (Wd.val (by first|exact rfl|exact gT (by exact rfl) (by assumption)|exact gT' (by exact rfl) (by assumption)) (Xv.move (by exact rfl)) (by exact rfl) (Nat.le_refl _))
   |apply Im.l (Wo.val (by first|exact rfl|exact gT (by exact rfl) (by assumption)|exact gT' (by exact rfl) (by assumption)) (Xv.assign (by exact rfl)) (by exact rfl))
   |apply Im.l (Wd.val (by first|exact rfl|exact gT (by exact rfl) (by assumption)|exact gT' (by exact rfl) (by assumption)) (Xv.assign (by exact rfl)) (by exact rfl) (Nat.le_refl _))
   |apply Im.l W.seq
   |apply Im.l W.reg
   |apply Im.l Wo.nil
   |apply Im.l Wd.nil
   |apply Im.l andThen.n
   |apply Im.l andThen.x
   |apply Im.l andThen.r
   |apply Im.l W.block
   |apply Im.l W.skip
   |apply Im.l W.exit
   |apply Im.l W.ret
   |apply Im.l blk.n
   |apply Im.l blk.r
   |apply Im.l blk.x
   |apply Im.l rnd.r
   |apply Im.l rnd.x
   |apply Im.l (W.condT (by exact rfl))
   |apply Im.l (W.condF (by exact rfl))
   |apply Im.l (W.condA (by exact rfl) (by assumption))
   |apply Im.l (W.condN (by exact rfl) (by assumption))
   |apply Im.l (Wo.val (by first|exact rfl|exact gT (by exact rfl) (by assumption)|exact gT' (by exact rfl) (by assumption)) (Xv.lenS (by exact rfl) (by exact rfl)) (by exact rfl))
   |apply Im.l (Wd.val (by first|exact rfl|exact gT (by exact rfl) (by assumption)|exact gT' (by exact rfl) (by assumption)) (Xv.lenS (by exact rfl) (by exact rfl)) (by exact rfl) (Nat.le_refl _))
   |apply Im.l (Wo.val (by first|exact rfl|exact gT (by exact rfl) (by assumption)|exact gT' (by exact rfl) (by assumption)) (Xv.addI (by exact rfl) (by exact rfl) (by omega)) (by exact rfl))
   |apply Im.l (Wd.val (by first|exact rfl|exact gT (by exact rfl) (by assumption)|exact gT' (by exact rfl) (by assumption)) (Xv.addI (by exact rfl) (by exact rfl) (by omega)) (by exact rfl) (Nat.le_refl _))
   |apply Im.l (Wo.val (by first|exact rfl|exact gT (by exact rfl) (by assumption)|exact gT' (by exact rfl) (by assumption)) (Xv.subI (by exact rfl) (by exact rfl) (by omega) (by omega)) (by exact rfl))
   |apply Im.l (Wd.val (by first|exact rfl|exact gT (by exact rfl) (by assumption)|exact gT' (by exact rfl) (by assumption)) (Xv.subI (by exact rfl) (by exact rfl) (by omega) (by omega)) (by exact rfl) (Nat.le_refl _))
   |apply Im.l (Wo.val (by first|exact rfl|exact gT (by exact rfl) (by assumption)|exact gT' (by exact rfl) (by assumption)) (Xv.lt (by exact rfl) (by exact rfl)) (by exact rfl))
   |apply Im.l (Wd.val (by first|exact rfl|exact gT (by exact rfl) (by assumption)|exact gT' (by exact rfl) (by assumption)) (Xv.lt (by exact rfl) (by exact rfl)) (by exact rfl) (Nat.le_refl _))
   |apply Im.l (Wo.val (by first|exact rfl|exact gT (by exact rfl) (by assumption)|exact gT' (by exact rfl) (by assumption)) (Xv.le (by exact rfl) (by exact rfl)) (by exact rfl))
   |apply Im.l (Wd.val (by first|exact rfl|exact gT (by exact rfl) (by assumption)|exact gT' (by exact rfl) (by assumption)) (Xv.le (by exact rfl) (by exact rfl)) (by exact rfl) (Nat.le_refl _))
   |apply Im.l (Wo.val (by first|exact rfl|exact gT (by exact rfl) (by assumption)|exact gT' (by exact rfl) (by assumption)) (Xv.gt (by exact rfl) (by exact rfl)) (by exact rfl))
   |apply Im.l (Wd.val (by first|exact rfl|exact gT (by exact rfl) (by assumption)|exact gT' (by exact rfl) (by assumption)) (Xv.gt (by exact rfl) (by exact rfl)) (by exact rfl) (Nat.le_refl _))
   |apply Im.l (Wo.val (by first|exact rfl|exact gT (by exact rfl) (by assumption)|exact gT' (by exact rfl) (by assumption)) (Xv.ge (by exact rfl) (by exact rfl)) (by exact rfl))
   |apply Im.l (Wd.val (by first|exact rfl|exact gT (by exact rfl) (by assumption)|exact gT' (by exact rfl) (by assumption)) (Xv.ge (by exact rfl) (by exact rfl)) (by exact rfl) (Nat.le_refl _))
   |apply Im.l (Wo.val (by first|exact rfl|exact gT (by exact rfl) (by assumption)|exact gT' (by exact rfl) (by assumption)) (Xv.eq (by exact rfl) (by exact rfl)) (by exact rfl))
   |apply Im.l (Wd.val (by first|exact rfl|exact gT (by exact rfl) (by assumption)|exact gT' (by exact rfl) (by assumption)) (Xv.eq (by exact rfl) (by exact rfl)) (by exact rfl) (Nat.le_refl _))
   |apply Im.l (Wo.val (by first|exact rfl|exact gT (by exact rfl) (by assumption)|exact gT' (by exact rfl) (by assumption)) (Xv.ne (by exact rfl) (by exact rfl)) (by exact rfl))
   |apply Im.l (Wd.val (by first|exact rfl|exact gT (by exact rfl) (by assumption)|exact gT' (by exact rfl) (by assumption)) (Xv.ne (by exact rfl) (by exact rfl)) (by exact rfl) (Nat.le_refl _))
   |apply Im.l (Wo.val (by first|exact rfl|exact gT (by exact rfl) (by assumption)|exact gT' (by exact rfl) (by assumption)) (Xv.eqN (by exact rfl) (by exact rfl) (by exact rfl)) (by exact rfl))
   |apply Im.l (Wd.val (by first|exact rfl|exact gT (by exact rfl) (by assumption)|exact gT' (by exact rfl) (by assumption)) (Xv.eqN (by exact rfl) (by exact rfl) (by exact rfl)) (by exact rfl) (Nat.le_refl _))
   |apply Im.l (Wo.val (by first|exact rfl|exact gT (by exact rfl) (by assumption)|exact gT' (by exact rfl) (by assumption)) (Xv.pickT (by exact rfl) (by assumption) (by exact rfl)) (by exact rfl))
   |apply Im.l (Wd.val (by first|exact rfl|exact gT (by exact rfl) (by assumption)|exact gT' (by exact rfl) (by assumption)) (Xv.pickT (by exact rfl) (by assumption) (by exact rfl)) (by exact rfl) (Nat.le_refl _))
   |apply Im.l (Wo.val (by first|exact rfl|exact gT (by exact rfl) (by assumption)|exact gT' (by exact rfl) (by assumption)) (Xv.pickF (by exact rfl) (by assumption) (by exact rfl)) (by exact rfl))
   |apply Im.l (Wd.val (by first|exact rfl|exact gT (by exact rfl) (by assumption)|exact gT' (by exact rfl) (by assumption)) (Xv.pickF (by exact rfl) (by assumption) (by exact rfl)) (by exact rfl) (Nat.le_refl _))
   |apply Im.l (Wo.val (by first|exact rfl|exact gT (by exact rfl) (by assumption)|exact gT' (by exact rfl) (by assumption)) (Xv.pickC (by exact rfl) (by exact rfl)) (by exact rfl))
   |apply Im.l (Wd.val (by first|exact rfl|exact gT (by exact rfl) (by assumption)|exact gT' (by exact rfl) (by assumption)) (Xv.pickC (by exact rfl) (by exact rfl)) (by exact rfl) (Nat.le_refl _))
   |apply Im.l (Wo.val (by first|exact rfl|exact gT (by exact rfl) (by assumption)|exact gT' (by exact rfl) (by assumption)) (Xv.pickD (by exact rfl) (by exact rfl)) (by exact rfl))
   |apply Im.l (Wd.val (by first|exact rfl|exact gT (by exact rfl) (by assumption)|exact gT' (by exact rfl) (by assumption)) (Xv.pickD (by exact rfl) (by exact rfl)) (by exact rfl) (Nat.le_refl _))
   |apply Im.l (Wo.val (by first|exact rfl|exact gT (by exact rfl) (by assumption)|exact gT' (by exact rfl) (by assumption)) (Xv.notD (by exact rfl)) (by exact rfl))
   |apply Im.l (Wd.val (by first|exact rfl|exact gT (by exact rfl) (by assumption)|exact gT' (by exact rfl) (by assumption)) (Xv.notD (by exact rfl)) (by exact rfl) (Nat.le_refl _))
   |apply Im.l (Wo.val (by first|exact rfl|exact gT (by exact rfl) (by assumption)|exact gT' (by exact rfl) (by assumption)) (Xv.not (by exact rfl)) (by exact rfl))
   |apply Im.l (Wd.val (by first|exact rfl|exact gT (by exact rfl) (by assumption)|exact gT' (by exact rfl) (by assumption)) (Xv.not (by exact rfl)) (by exact rfl) (Nat.le_refl _))
   |apply Im.l (Wo.val (by first|exact rfl|exact gT (by exact rfl) (by assumption)|exact gT' (by exact rfl) (by assumption)) (Xv.iaB (by exact rfl) (by exact rfl) (by exact rfl) (by exact rfl) (by assumption) (by omega) (by omega)) (by exact rfl))
   |apply Im.l (Wd.val (by first|exact rfl|exact gT (by exact rfl) (by assumption)|exact gT' (by exact rfl) (by assumption)) (Xv.iaB (by exact rfl) (by exact rfl) (by exact rfl) (by exact rfl) (by assumption) (by omega) (by omega)) (by exact rfl) (Nat.le_refl _))
   |apply Im.l (Wo.val (by first|exact rfl|exact gT (by exact rfl) (by assumption)|exact gT' (by exact rfl) (by assumption)) (Xv.iaS (by exact rfl) (by exact rfl) (by exact rfl) (by exact rfl) (by omega) (by assumption)) (by exact rfl))
   |apply Im.l (Wd.val (by first|exact rfl|exact gT (by exact rfl) (by assumption)|exact gT' (by exact rfl) (by assumption)) (Xv.iaS (by exact rfl) (by exact rfl) (by exact rfl) (by exact rfl) (by omega) (by assumption)) (by exact rfl) (Nat.le_refl _))
   |apply Im.l (Wo.val (by first|exact rfl|exact gT (by exact rfl) (by assumption)|exact gT' (by exact rfl) (by assumption)) (Xv.fa (by exact rfl) (by exact rfl) (by exact rfl) (by exact rfl) (by exact rfl) (by first|assumption|exact good_qadd (by assumption))) (by exact rfl))
   |apply Im.l (Wd.val (by first|exact rfl|exact gT (by exact rfl) (by assumption)|exact gT' (by exact rfl) (by assumption)) (Xv.fa (by exact rfl) (by exact rfl) (by exact rfl) (by exact rfl) (by exact rfl) (by first|assumption|exact good_qadd (by assumption))) (by exact rfl) (Nat.le_refl _))
   |apply Im.l (Wo.val (by first|exact rfl|exact gT (by exact rfl) (by assumption)|exact gT' (by exact rfl) (by assumption)) (Xv.ext (by exact rfl) (by exact rfl)) (by exact rfl))
   |apply Im.l (Wd.val (by first|exact rfl|exact gT (by exact rfl) (by assumption)|exact gT' (by exact rfl) (by assumption)) (Xv.ext (by exact rfl) (by exact rfl)) (by exact rfl) (Nat.le_refl _))
   |apply Im.l (Wo.val (by first|exact rfl|exact gT (by exact rfl) (by assumption)|exact gT' (by exact rfl) (by assumption)) (Xv.fld (by exact rfl) (by exact rfl) (by exact rfl) (by exact rfl) (by exact rfl) (by exact rfl)) (by exact rfl))
   |apply Im.l (Wd.val (by first|exact rfl|exact gT (by exact rfl) (by assumption)|exact gT' (by exact rfl) (by assumption)) (Xv.fld (by exact rfl) (by exact rfl) (by exact rfl) (by exact rfl) (by exact rfl) (by exact rfl)) (by exact rfl) (Nat.le_refl _))
   |apply Im.l (Wo.val (by first|exact rfl|exact gT (by exact rfl) (by assumption)|exact gT' (by exact rfl) (by assumption)) (Xv.build (by exact rfl) (by exact rfl)) (by exact rfl))
   |apply Im.l (Wd.val (by first|exact rfl|exact gT (by exact rfl) (by assumption)|exact gT' (by exact rfl) (by assumption)) (Xv.build (by exact rfl) (by exact rfl)) (by exact rfl) (Nat.le_refl _))
   |apply Im.l (Wo.val (by first|exact rfl|exact gT (by exact rfl) (by assumption)|exact gT' (by exact rfl) (by assumption)) (Xv.cv (by exact rfl) (by exact rfl) (by exact rfl) (by exact rfl)) (by exact rfl))
   |apply Im.l (Wd.val (by first|exact rfl|exact gT (by exact rfl) (by assumption)|exact gT' (by exact rfl) (by assumption)) (Xv.cv (by exact rfl) (by exact rfl) (by exact rfl) (by exact rfl)) (by exact rfl) (Nat.le_refl _))
   |apply Im.l (Wo.val (by first|exact rfl|exact gT (by exact rfl) (by assumption)|exact gT' (by exact rfl) (by assumption)) (Xv.eqZ (by exact rfl) (by exact rfl)) (by exact rfl))
   |apply Im.l (Wd.val (by first|exact rfl|exact gT (by exact rfl) (by assumption)|exact gT' (by exact rfl) (by assumption)) (Xv.eqZ (by exact rfl) (by exact rfl)) (by exact rfl) (Nat.le_refl _))
   |apply Im.l (Wo.val (by first|exact rfl|exact gT (by exact rfl) (by assumption)|exact gT' (by exact rfl) (by assumption)) (Xv.ltZ (by exact rfl) (by exact rfl)) (by exact rfl))
   |apply Im.l (Wd.val (by first|exact rfl|exact gT (by exact rfl) (by assumption)|exact gT' (by exact rfl) (by assumption)) (Xv.ltZ (by exact rfl) (by exact rfl)) (by exact rfl) (Nat.le_refl _))
   |apply Im.l (Wo.val (by first|exact rfl|exact gT (by exact rfl) (by assumption)|exact gT' (by exact rfl) (by assumption)) (Xv.geZ (by exact rfl) (by exact rfl)) (by exact rfl))
   |apply Im.l (Wd.val (by first|exact rfl|exact gT (by exact rfl) (by assumption)|exact gT' (by exact rfl) (by assumption)) (Xv.geZ (by exact rfl) (by exact rfl)) (by exact rfl) (Nat.le_refl _))
   |apply Im.l (Wo.val (by first|exact rfl|exact gT (by exact rfl) (by assumption)|exact gT' (by exact rfl) (by assumption)) (Xv.gtZ (by exact rfl) (by exact rfl)) (by exact rfl))
   |apply Im.l (Wd.val (by first|exact rfl|exact gT (by exact rfl) (by assumption)|exact gT' (by exact rfl) (by assumption)) (Xv.gtZ (by exact rfl) (by exact rfl)) (by exact rfl) (Nat.le_refl _))
   |apply Im.l (Wo.val (by first|exact rfl|exact gT (by exact rfl) (by assumption)|exact gT' (by exact rfl) (by assumption)) (Xv.ar (by exact rfl) (by exact rfl) (by exact rfl) (by exact rfl)) (by exact rfl))
   |apply Im.l (Wd.val (by first|exact rfl|exact gT (by exact rfl) (by assumption)|exact gT' (by exact rfl) (by assumption)) (Xv.ar (by exact rfl) (by exact rfl) (by exact rfl) (by exact rfl)) (by exact rfl) (Nat.le_refl _))
   |apply Im.l (Wo.val (by first|exact rfl|exact gT (by exact rfl) (by assumption)|exact gT' (by exact rfl) (by assumption)) (Xv.minI (by exact rfl) (by exact rfl)) (by exact rfl))
   |apply Im.l (Wd.val (by first|exact rfl|exact gT (by exact rfl) (by assumption)|exact gT' (by exact rfl) (by assumption)) (Xv.minI (by exact rfl) (by exact rfl)) (by exact rfl) (Nat.le_refl _))
   |apply Im.l (Wo.val (by first|exact rfl|exact gT (by exact rfl) (by assumption)|exact gT' (by exact rfl) (by assumption)) (Xv.mulI (by exact rfl) (by exact rfl) (by omega)) (by exact rfl))
   |apply Im.l (Wd.val (by first|exact rfl|exact gT (by exact rfl) (by assumption)|exact gT' (by exact rfl) (by assumption)) (Xv.mulI (by exact rfl) (by exact rfl) (by omega)) (by exact rfl) (Nat.le_refl _))
   |apply Im.l (Wo.val (by first|exact rfl|exact gT (by exact rfl) (by assumption)|exact gT' (by exact rfl) (by assumption)) (Xv.quoI (by exact rfl) (by exact rfl) (by omega) (by omega)) (by exact rfl))
   |apply Im.l (Wd.val (by first|exact rfl|exact gT (by exact rfl) (by assumption)|exact gT' (by exact rfl) (by assumption)) (Xv.quoI (by exact rfl) (by exact rfl) (by omega) (by omega)) (by exact rfl) (Nat.le_refl _))
   |apply Im.l (Wo.val (by first|exact rfl|exact gT (by exact rfl) (by assumption)|exact gT' (by exact rfl) (by assumption)) (Xv.box (by exact rfl) (by exact rfl)) (by exact rfl))
   |apply Im.l (Wd.make (by first|exact rfl|exact gT (by exact rfl) (by assumption)|exact gT' (by exact rfl) (by assumption)) (Xv.box (by exact rfl) (by exact rfl)) (by exact rfl) (Nat.le_succ _))
   |apply Im.l (Wo.val (by first|exact rfl|exact gT (by exact rfl) (by assumption)|exact gT' (by exact rfl) (by assumption)) (Xv.alloc (by exact rfl)) (by exact rfl))
   |apply Im.l (Wd.make (by first|exact rfl|exact gT (by exact rfl) (by assumption)|exact gT' (by exact rfl) (by assumption)) (Xv.alloc (by exact rfl)) (by exact rfl) (Nat.le_succ _))
   |apply Im.l (Wo.val (by first|exact rfl|exact gT (by exact rfl) (by assumption)|exact gT' (by exact rfl) (by assumption)) (Xv.bsl (by exact rfl) (by exact rfl) (by exact rfl) (by exact rfl)) (by exact rfl))
   |apply Im.l (Wd.make (by first|exact rfl|exact gT (by exact rfl) (by assumption)|exact gT' (by exact rfl) (by assumption)) (Xv.bsl (by exact rfl) (by exact rfl) (by exact rfl) (by exact rfl)) (by exact rfl) (Nat.le_succ _))
   |apply Im.l (Wo.val (by first|exact rfl|exact gT (by exact rfl) (by assumption)|exact gT' (by exact rfl) (by assumption)) (Xv.ld (by exact rfl) (by exact rfl) (by exact rfl) (by exact Bs.ld (by assumption) (by omega))) (by exact rfl))
   |apply Im.l (Wd.read (by first|exact rfl|exact gT (by exact rfl) (by assumption)|exact gT' (by exact rfl) (by assumption)) (Xv.ld (by exact rfl) (by exact rfl) (by exact rfl) (by exact Bs.ld (by assumption) (by omega))) (by exact rfl) eqV_int (by exact⟨Xv.ld rfl rfl rfl (Bs.ld (by assumption) (by omega)),trivial⟩))
   |apply Im.l (Wo.val (by first|exact rfl|exact gT (by exact rfl) (by assumption)|exact gT' (by exact rfl) (by assumption)) (Xv.ld (by exact rfl) (by exact rfl) (by exact rfl) (by assumption)) (by exact rfl))
   |apply Im.l (Wd.read (by first|exact rfl|exact gT (by exact rfl) (by assumption)|exact gT' (by exact rfl) (by assumption)) (Xv.ld (by exact rfl) (by exact rfl) (by exact rfl) (by assumption)) (by exact rfl) (by first|exact eqV_int|exact eqV_slice|exact eqV_ptr|exact eqV_bool) (by first|exact⟨Xv.ld rfl rfl rfl (by assumption),trivial⟩|exact⟨Xv.ld rfl rfl rfl (by assumption),Xv.ld rfl rfl rfl (by assumption),trivial⟩|exact⟨Xv.ld rfl rfl rfl (by assumption),Xv.ld rfl rfl rfl (by assumption),Xv.ld rfl rfl rfl (by assumption),trivial⟩))
   |apply Im.l (Wo.val (by first|exact rfl|exact gT (by exact rfl) (by assumption)|exact gT' (by exact rfl) (by assumption)) (Xv.ldN (by exact rfl) (by exact rfl) (by exact rfl) (by assumption)) (by exact rfl))
   |apply Im.l (Wo.skip (by first|exact rfl|exact gF (by exact rfl) (by assumption)|exact gF' (by exact rfl) (by assumption)) (by exact rfl))
   |apply Im.l (Wd.skn (by first|exact rfl|exact gF (by exact rfl) (by assumption)|exact gF' (by exact rfl) (by assumption)) (by exact rfl))
   |apply Im.l (Wd.skr (by first|exact rfl|exact gF (by exact rfl) (by assumption)|exact gF' (by exact rfl) (by assumption)) (by exact rfl))
   |apply Im.l (Wd.ska (by first|exact rfl|exact gF (by exact rfl) (by assumption)|exact gF' (by exact rfl) (by assumption)) (by exact rfl))))
  exact Im.r):G:=h h'
end Go.Sy
