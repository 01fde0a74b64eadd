import Derived.Test.YtnbdpcpgckfeeaaGreatDoorE6zz
import Derived.Laws.BitsLemmas
import Derived.Laws.Bits64
namespace Go.Ev
open Go
theorem pureRun_run{α:Type}{P:Program}:∀{m:Sem α} {a:α},pureRun P m=some a→∀w,m.run P w= .ok a w:=by
 intro m
 induction m with
 |pure b=>intro a h w;cases h;rfl
 |program k ih=>intro a h w;exact ih P (show pureRun P (k P)=some a from h) w
 |load=>intro a h;cases h
 |store=>intro a h;cases h
 |new=>intro a h;cases h
 |shape=>intro a h;cases h
 |freeze=>intro a h;cases h
 |frozen=>intro a h;cases h
 |getObj=>intro a h;cases h
 |setObj=>intro a h;cases h
 |choose=>intro a h;cases h
 |sys=>intro a h;cases h
 |mark=>intro a h;cases h
 |halt=>intro a h;cases h
section
variable{P:Program}{t:TypeId}(w:World)
theorem run_sizeOf{n:Nat}(h:sizeOfT P t=some n):(sizeOf t).run P w= .ok n w:=by
 unfold sizeOfT at h
 split at h
 ·rename_i i hi;cases h;simp[sizeOf,typeInfo,hi]
 ·cases h
theorem run_zeroValue{v:Value}(h:zeroOf P t=some v):(zeroValue t).run P w= .ok v w:=by
 unfold zeroOf at h
 split at h
 ·rename_i i hi;simp[zeroValue,typeInfo,hi,h]
 ·cases h
theorem run_isAgg{b:Bool}(h:isAggT P t=some b):(isAgg t).run P w= .ok b w:=by
 unfold isAggT at h
 cases hd:P.underlying t with
 |none=>rw [hd]at h;cases h
 |some d=>
  rw [hd]at h
  cases d<;>cases h<;>simp[isAgg,underlying,hd]
end
def PuY(P:Program)(E:En)(f:St→Re)(m:Sem Value):Prop:=
 (∀s,f s= .no)∨∃v v',(∀s,f s= .ok (.val v) s)∧VR E v v'∧∀w,m.run P w= .ok v' w
theorem PuY.no{P:Program}{E:En}{f:St→Re}{m:Sem Value}(h:∀s,f s= .no):PuY P E f m:=.inl h
theorem PuY.yes{P:Program}{E:En}{f:St→Re}{m:Sem Value}{v v':Value}(h:∀s,f s= .ok (.val v) s)(hv:VR E v v')(hm:∀w,m.run P w= .ok v' w):PuY P E f m:=.inr ⟨v,v',h,hv,hm⟩
theorem PuY.ofO{P:Program}{E:En}{o:Option Value}{m:Sem Value}(h:∀v,o=some v→∃v',VR E v v'∧∀w,m.run P w= .ok v' w):PuY P E (fun s=>Ev.ofO o s) m:=by
 cases o with
 |none=>exact .no fun _=>rfl
 |some v=>obtain⟨v',h1,h2⟩:=h v rfl;exact .yes (fun _=>rfl) h1 h2
theorem okB_eq(b:Bool)(s:St):okB b s= .ok (.val (.bool b)) s:=by cases b<;>rfl
theorem okN_eq(k:IntKind)(n:Nat)(s:St):okN k n s= .ok (.val (.int k (.ofNat n))) s:=fN_eq n _
theorem ofI_eq(k:IntKind)(n:Int)(s:St):ofI k n s= .ok (.val (.int k n)) s:=fI_eq n _
theorem PuY.ofV{P:Program}{E:En}(v:Value){m:Sem Value}(h:∀w,m.run P w= .ok v w):PuY P E (fun s=>Ev.ofV v s) m:=by
 cases v with
 |int k n=>exact .yes (v:=.int k n) (fun s=>ofI_eq k n s) (.int k n) h
 |bool b=>exact .yes (v:=.bool b) (fun s=>okB_eq b s) (.bool b) h
 |string t=>exact .yes (v:=.string t) (fun s=>rfl) (.str t) h
 |slice a l c=>cases a with
  |none=>exact .yes (v:=.slice none l c) (fun s=>rfl) (.snil l c) h
  |some a=>exact .no fun _=>rfl
 |float=>exact .no fun _=>rfl
 |complex=>exact .no fun _=>rfl
 |pointer=>exact .no fun _=>rfl
 |map=>exact .no fun _=>rfl
 |chan=>exact .no fun _=>rfl
 |func=>exact .no fun _=>rfl
 |nilFunc=>exact .no fun _=>rfl
 |iface=>exact .no fun _=>rfl
 |nilIface=>exact .no fun _=>rfl
 |agg=>exact .no fun _=>rfl
 |tuple=>exact .no fun _=>rfl
theorem PuY.ofPure{P:Program}{E:En}{m m':Sem Value}(h:∀v,pureRun P m=some v→∀w,m'.run P w= .ok v w):PuY P E (fun s=>Ev.ofPure P m s) m':=by
 unfold Ev.ofPure
 cases e:pureRun P m with
 |none=>exact .no fun _=>rfl
 |some v=>exact PuY.ofV v (h v e)
theorem PuY.self{P:Program}{E:En}{m:Sem Value}:PuY P E (fun s=>Ev.ofPure P m s) m:=PuY.ofPure fun _ h=>pureRun_run h
theorem wrapN_sound{k:IntKind}{n m:Nat}(h:wrapN k n=some m):k.wrap (n:Int)=(m:Int):=by
 cases k<;>simp only[wrapN]at h
 case u8=>cases h;rw [IntKind.wrap_u8];show (n:Int)%256=((n%256:Nat):Int);omega
 case u16=>cases h;simp only[IntKind.wrap,IntKind.bits,IntKind.signed];show (if(false&&_)=true then _ else(n:Int)%65536)=((n%65536:Nat):Int);simp
 case u32=>cases h;rw [IntKind.wrap_u32];show (n:Int)%4294967296=((n%4294967296:Nat):Int);omega
 case u64=>cases h;rw [IntKind.wrap_u64];show (n:Int)%18446744073709551616=((n%18446744073709551616:Nat):Int);omega
 case i64=>
  cases e:Nat.blt n 9223372036854775808 with
  |false=>rw [e]at h;cases h
  |true=>
   rw [e]at h;cases h
   have:n<9223372036854775808:=Nat.le_of_ble_eq_true e
   rw [IntKind.wrap_i64];omega
 case i32=>
  cases e:Nat.blt n 2147483648 with
  |false=>rw [e]at h;cases h
  |true=>
   rw [e]at h;cases h
   have:n<2147483648:=Nat.le_of_ble_eq_true e
   rw [IntKind.wrap_i32];omega
 all_goals cases h
theorem modulus_bits{k:IntKind}(h:Nat.beq (modulus k) 0=false):k.signed=false∧modulus k=2^k.bits:=by
 cases k<;>simp[modulus,IntKind.signed,IntKind.bits]at *
theorem wrap_add_mod{k:IntKind}(hs:k.signed=false)(x:Int):k.wrap (x+2^k.bits)=k.wrap x:=by
 simp[IntKind.wrap,hs]
theorem bits_eq{k:IntKind}{n m:Nat}(h:wrapN k n=some m):bitsN k=k.bits:=by
 cases k<;>first|rfl|(simp[wrapN]at h)
theorem kinds_eq{op:BinOp}{k k':IntKind}(h:kinds op k k'=true)(h1:op≠ .shl)(h2:op≠ .shr):k=k':=by
 have:Nat.beq (kNum k) (kNum k')=true:=by
  cases op<;>first|exact h|exact absurd rfl h1|exact absurd rfl h2
 have:=Nat.eq_of_beq_eq_true this
 revert this
 cases k<;>cases k'<;>simp[kNum]
theorem ofInt_nat(w n:Nat):BitVec.ofInt w (n:Int)=BitVec.ofNat w n:=by simp
theorem arN_sound{P:Program}{op:BinOp}{t:TypeId}{k k':IntKind}{a b n:Nat}(hk:kinds op k k'=true)(h:arN op k a b=some n)(w:World):
  (binOp op t (.int k (.ofNat a)) (.int k' (.ofNat b))).run P w= .ok (.int k (.ofNat n)) w:=by
 have hM:∀(x y:Nat),(BitVec.ofInt k.bits (Int.ofNat x)).toNat=x%2^k.bits:=fun x _=>by
  show (BitVec.ofInt k.bits (x:Int)).toNat=_
  rw [ofInt_nat];simp
 have bitop:∀(f:Nat→Nat→Nat) (x y:Nat),(∀m,f (x%2^m) (y%2^m)=f x y%2^m)→wrapN k (f x y)=some n→k.wrap ((f (x%2^k.bits) (y%2^k.bits):Nat):Int)=(n:Int):=by
  intro f x y hf hw
  rw [hf]
  have h1:=wrapN_sound hw
  rw [←h1]
  have e:(((f x y%2^k.bits:Nat)):Int)=(f x y:Int)%(2^k.bits:Int):=by simp
  rw [e]
  simp[IntKind.wrap]
 cases op with
 |add=>
  obtain rfl:=kinds_eq hk (by decide) (by decide)
  simp only[binOp,ne_eq,not_true_eq_false,if_false,Op.intArith,Sem.run_pure]
  have:=wrapN_sound (show wrapN k (a+b)=some n from h)
  rw [show (Int.ofNat a+Int.ofNat b)=((a+b:Nat):Int)by simp,this];rfl
 |mul=>
  obtain rfl:=kinds_eq hk (by decide) (by decide)
  simp only[binOp,ne_eq,not_true_eq_false,if_false,Op.intArith,Sem.run_pure]
  have:=wrapN_sound (show wrapN k (a*b)=some n from h)
  rw [show (Int.ofNat a*Int.ofNat b)=((a*b:Nat):Int)by simp,this];rfl
 |sub=>
  obtain rfl:=kinds_eq hk (by decide) (by decide)
  simp only[binOp,ne_eq,not_true_eq_false,if_false,Op.intArith,Sem.run_pure]
  have h':subN k a b=some n:=h
  unfold subN at h'
  cases e:Nat.ble b a with
  |true=>
   rw [e]at h'
   have hle:=Nat.le_of_ble_eq_true e
   have:=wrapN_sound (show wrapN k (a-b)=some n from h')
   rw [show (Int.ofNat a-Int.ofNat b)=((a-b:Nat):Int)by simp only[Int.ofNat_eq_natCast];omega,this];rfl
  |false=>
   rw [e]at h'
   cases e1:Nat.beq (modulus k) 0 with
   |true=>rw [e1]at h';cases h'
   |false=>
    rw [e1]at h'
    cases e2:Nat.ble b (Nat.add a (modulus k))with
    |false=>rw [e2]at h';cases h'
    |true=>
     rw [e2]at h'
     have hle:b≤a+modulus k:=Nat.le_of_ble_eq_true e2
     obtain⟨hs,hm⟩:=modulus_bits e1
     have:=wrapN_sound (show wrapN k (a+modulus k-b)=some n from h')
     rw [←wrap_add_mod hs]
     rw [show (Int.ofNat a-Int.ofNat b+2^k.bits)=((a+modulus k-b:Nat):Int)by
      have e3:((2^k.bits:Nat):Int)=(2:Int)^k.bits:=by simp
      rw [←e3,←hm];simp only[Int.ofNat_eq_natCast];omega,this];rfl
 |and=>
  obtain rfl:=kinds_eq hk (by decide) (by decide)
  simp only[binOp,ne_eq,not_true_eq_false,if_false,Op.intBits,Sem.run_pure,BitVec.toNat_and,hM _ 0]
  rw [bitop (fun x y=>x&&&y) a b (fun m=>(Nat.and_mod_two_pow).symm) h];rfl
 |or=>
  obtain rfl:=kinds_eq hk (by decide) (by decide)
  simp only[binOp,ne_eq,not_true_eq_false,if_false,Op.intBits,Sem.run_pure,BitVec.toNat_or,hM _ 0]
  rw [bitop (fun x y=>x|||y) a b (fun m=>(Nat.or_mod_two_pow).symm) h];rfl
 |xor=>
  obtain rfl:=kinds_eq hk (by decide) (by decide)
  simp only[binOp,ne_eq,not_true_eq_false,if_false,Op.intBits,Sem.run_pure,BitVec.toNat_xor,hM _ 0]
  rw [bitop (fun x y=>x^^^y) a b (fun m=>(Nat.xor_mod_two_pow).symm) h];rfl
 |quo=>
  obtain rfl:=kinds_eq hk (by decide) (by decide)
  have h':cond (Nat.beq b 0) none (wrapN k (a/b))=some n:=h
  cases e:Nat.beq b 0 with
  |true=>rw [e]at h';cases h'
  |false=>
   rw [e]at h'
   have hb:b≠0:=fun e2=>by subst e2;cases e
   have:=wrapN_sound (show wrapN k (a/b)=some n from h')
   have hb':(Int.ofNat b)≠0:=by simp only[Int.ofNat_eq_natCast];omega
   simp only[binOp,ne_eq,not_true_eq_false,if_false,Op.intDiv,hb',Sem.run_pure]
   rw [show (Int.ofNat a).tdiv (Int.ofNat b)=((a/b:Nat):Int)by simp,this];rfl
 |rem=>
  obtain rfl:=kinds_eq hk (by decide) (by decide)
  have h':cond (Nat.beq b 0) none (some (a%b))=some n:=h
  cases e:Nat.beq b 0 with
  |true=>rw [e]at h';cases h'
  |false=>
   rw [e]at h'
   cases h'
   have hb:b≠0:=fun e2=>by subst e2;cases e
   have hb':(Int.ofNat b)≠0:=by simp only[Int.ofNat_eq_natCast];omega
   simp only[binOp,ne_eq,not_true_eq_false,if_false,Op.intDiv,hb',Sem.run_pure]
   rw [show (Int.ofNat a).tmod (Int.ofNat b)=((a%b:Nat):Int)from(Int.ofNat_tmod a b).symm];rfl
 |shl=>
  have h':cond (Nat.ble b (bitsN k)) (wrapN k (a<<<b)) none=some n:=h
  cases e:Nat.ble b (bitsN k)with
  |false=>rw [e]at h';cases h'
  |true=>
   rw [e]at h'
   have h2:wrapN k (a<<<b)=some n:=h'
   have hb:b≤k.bits:=by rw [←bits_eq h2];exact Nat.le_of_ble_eq_true e
   have:=wrapN_sound h2
   simp only[binOp,Op.shift]
   rw [if_neg (by simp),show (Int.ofNat b).toNat=b from rfl,Nat.min_eq_left hb]
   simp only[Sem.run_pure]
   rw [show (Int.ofNat a*2^b)=((a<<<b:Nat):Int)by simp[Nat.shiftLeft_eq],this];rfl
 |shr=>
  have h':cond (Nat.ble b (bitsN k)) (some (a>>>b)) none=some n:=h
  cases e:Nat.ble b (bitsN k)with
  |false=>rw [e]at h';cases h'
  |true=>
   rw [e]at h'
   cases h'
   have hbn:bitsN k≤k.bits:=by cases k<;>simp[bitsN,IntKind.bits]
   have hb:b≤k.bits:=Nat.le_trans (Nat.le_of_ble_eq_true e) hbn
   simp only[binOp,Op.shift]
   rw [if_neg (by simp),show (Int.ofNat b).toNat=b from rfl,Nat.min_eq_left hb]
   simp only[Sem.run_pure]
   rw [show (Int.ofNat a).fdiv (2^b)=((a>>>b:Nat):Int)by
    rw [Int.fdiv_eq_ediv_of_nonneg _ (by exact Int.pow_nonneg (by omega))]
    simp[Nat.shiftRight_eq_div_pow]];rfl
 |andNot=>cases h
 |eql=>cases h
 |neq=>cases h
 |lss=>cases h
 |leq=>cases h
 |gtr=>cases h
 |geq=>cases h
theorem cmN_sound{P:Program}{op:BinOp}{t:TypeId}{k k':IntKind}{a b:Nat}{r:Bool}(hk:kinds op k k'=true)(h:cmN op a b=some r)(w:World):
  (binOp op t (.int k (.ofNat a)) (.int k' (.ofNat b))).run P w= .ok (.bool r) w:=by
 have blt:∀x y:Nat,Nat.blt x y=decide (x<y):=fun x y=>by
  cases e:Nat.blt x y with
  |true=>exact(decide_eq_true (Nat.le_of_ble_eq_true e)).symm
  |false=>exact(decide_eq_false (fun hl=>by have:=Nat.ble_eq_true_of_le (show x+1≤y from hl);rw [show Nat.ble (x+1) y=Nat.blt x y from rfl,e]at this;cases this)).symm
 have ble:∀x y:Nat,Nat.ble x y=decide (x≤y):=fun x y=>by
  cases e:Nat.ble x y with
  |true=>exact(decide_eq_true (Nat.le_of_ble_eq_true e)).symm
  |false=>exact(decide_eq_false (fun hl=>by have:=Nat.ble_eq_true_of_le hl;rw [e]at this;cases this)).symm
 have beq:∀x y:Nat,Nat.beq x y=decide (x=y):=fun x y=>by
  cases e:Nat.beq x y with
  |true=>exact(decide_eq_true (Nat.eq_of_beq_eq_true e)).symm
  |false=>exact(decide_eq_false (fun hl=>by subst hl;rw [Nat.beq_refl]at e;cases e)).symm
 have ieq:(Int.ofNat a==Int.ofNat b)=decide (a=b):=by
  by_cases e:a=b
  ·subst e;simp
  ·rw [decide_eq_false e]
   exact beq_eq_false_iff_ne.2 (fun h=>e (Int.ofNat.inj h))
 cases op<;>first|(cases h;done)|skip
 all_goals
  obtain rfl:=kinds_eq hk (by decide) (by decide)
  cases h
  simp only[binOp,ne_eq,not_true_eq_false,if_false,Op.intCmp,Sem.run_pure,beq,blt,ble,bne,ieq]
  try simp only[Int.ofNat_eq_natCast,Int.ofNat_lt,Int.ofNat_le,gt_iff_lt,ge_iff_le]
theorem ints_sound(P:Program)(E:En)(op:BinOp)(t:TypeId)(k k':IntKind)(a b:Int):PuY P E (fun s=>ints P op t k k' a b s) (binOp op t (.int k a) (.int k' b)):=by
 have main:∀a b:Nat,PuY P E (fun s=>intsN P op t k k' a b s) (binOp op t (.int k (.ofNat a)) (.int k' (.ofNat b))):=by
  intro a b
  unfold intsN
  cases hk:kinds op k k' with
  |false=>exact .no fun _=>rfl
  |true=>
   simp only[cond]
   cases e:arN op k a b with
   |some n=>exact .yes (fun s=>okN_eq k n s) (.int _ _) (arN_sound hk e)
   |none=>
    cases e2:cmN op a b with
    |some r=>exact .yes (fun s=>okB_eq r s) (.bool r) (cmN_sound hk e2)
    |none=>exact .self
 cases a with
 |ofNat a=>cases b with
  |ofNat b=>exact main a b
  |negSucc b=>exact .self
 |negSucc a=>exact .self
end Go.Ev
namespace Go.Ev
open Go
def PuO(P:Program)(E:En)(f:St→Re)(m:Sem Next):Prop:=
 (∀s,f s= .no)∨∃v v',(∀s,f s= .ok (.val v) s)∧VR E v v'∧∀w,m.run P w= .ok (.value v') w
theorem PuO.no{P:Program}{E:En}{f:St→Re}{m:Sem Next}(h:∀s,f s= .no):PuO P E f m:=.inl h
theorem PuO.yes{P:Program}{E:En}{f:St→Re}{m:Sem Next}{v v':Value}(h:∀s,f s= .ok (.val v) s)(hv:VR E v v')(hm:∀w,m.run P w= .ok (.value v') w):PuO P E f m:=.inr ⟨v,v',h,hv,hm⟩
theorem PuY.o{P:Program}{E:En}{f:St→Re}{m:Sem Value}(h:PuY P E f m):PuO P E f (do pure (.value (←m))):=by
 rcases h with h|⟨v,v',h1,h2,h3⟩
 ·exact .no h
 ·exact .yes h1 h2 fun w=>by simp[h3 w]
inductive OR(E:En):Option Value→Option Value→Prop
 |none:OR E none none
 |some (v v':Value):VR E v v'→OR E (some v) (some v')
theorem natOf_some{v:Value}{n:Nat}(h:natOf v=some n):∃k,v= .int k (.ofNat n):=by
 unfold natOf at h
 split at h
 ·rename_i k m;cases h;exact⟨k,rfl⟩
 ·cases h
theorem VR.int_inv{E:En}{k:IntKind}{n:Int}{v':Value}(h:VR E (.int k n) v'):v'= .int k n:=by cases h;rfl
theorem VR.bool_inv{E:En}{b:Bool}{v':Value}(h:VR E (.bool b) v'):v'= .bool b:=by cases h;rfl
theorem VR.str_inv{E:En}{t:ByteArray}{v':Value}(h:VR E (.string t) v'):v'= .string t:=by cases h;rfl
theorem VR.ptr_inv{E:En}{b o:Nat}{v':Value}(h:VR E (.pointer (some ⟨b,o,none⟩)) v'):b<E.nx∧v'= .pointer (some ⟨E.ι b,E.sh b+o,none⟩):=by cases h;exact⟨by assumption,rfl⟩
theorem VR.ptr_any{E:En}{a:Option Addr}{v':Value}(h:VR E (.pointer a) v'):∃a',v'= .pointer a'∧a'.isNone=a.isNone:=by
 cases h
 ·exact⟨none,rfl,rfl⟩
 ·exact⟨_,rfl,rfl⟩
theorem VR.slice_any{E:En}{a:Option Addr}{n c:Nat}{v':Value}(h:VR E (.slice a n c) v'):∃a' c',v'= .slice a' n c'∧a'.isNone=a.isNone:=by
 cases h
 ·exact⟨none,_,rfl,rfl⟩
 ·exact⟨_,_,rfl,rfl⟩
 ·exact⟨_,_,rfl,rfl⟩
 ·exact⟨_,_,rfl,rfl⟩
theorem VR.map_any{E:En}{r:Option Nat}{v':Value}(h:VR E (.map r) v'):∃r',v'= .map r'∧r'.isNone=r.isNone:=by
 cases h
 ·exact⟨none,rfl,rfl⟩
 ·exact⟨_,rfl,rfl⟩
theorem VR.func_any{E:En}{f:Fn}{x y:Array Value}{v':Value}(h:VR E (.func f x y) v'):∃f' x' y',v'= .func f' x' y':=by
 cases h<;>exact⟨_,_,_,rfl⟩
theorem VR.func_inv{E:En}{f:FuncId}{x y:Array Value}{v':Value}(h:VR E (.func (.func f) x y) v'):∃x' y',v'= .func (.func f) ⟨x'⟩ ⟨y'⟩∧VRs E x.toList x'∧VRs E y.toList y':=by
 cases h;exact⟨_,_,rfl,by assumption,by assumption⟩
theorem VR.meth_inv{E:En}{f:String}{x y:Array Value}{v':Value}(h:VR E (.func (.method f) x y) v'):∃x' y',v'= .func (.method f) ⟨x'⟩ ⟨y'⟩∧VRs E x.toList x'∧VRs E y.toList y':=by
 cases h;exact⟨_,_,rfl,by assumption,by assumption⟩
theorem VR.yld_inv{E:En}{l:Nat}{x y:Array Value}{v':Value}(h:VR E (.func (.yield l) x y) v'):l<E.nx∧∃x' y',v'= .func (.yield (E.ι l)) ⟨x'⟩ ⟨y'⟩∧VRs E x.toList x'∧VRs E y.toList y':=by
 cases h;exact⟨by assumption,_,_,rfl,by assumption,by assumption⟩
theorem VR.iface_inv{E:En}{t:TypeId}{v v':Value}(h:VR E (.iface t v) v'):∃u,v'= .iface t u∧VR E v u:=by cases h;exact⟨_,rfl,by assumption⟩
theorem VR.agg_inv{E:En}{cs:Array Value}{v':Value}(h:VR E (.agg cs) v'):∃l',v'= .agg ⟨l'⟩∧VRs E cs.toList l':=by cases h;exact⟨_,rfl,by assumption⟩
theorem VR.tup_inv{E:En}{cs:Array Value}{v':Value}(h:VR E (.tuple cs) v'):∃l',v'= .tuple ⟨l'⟩∧VRs E cs.toList l':=by cases h;exact⟨_,rfl,by assumption⟩
theorem capSure_sure(c:Nat):capSure (sure c)=true:=by
 unfold capSure sure
 have:Nat.mod (Nat.succ (Nat.mul 2 c)) 2=1:=by show (2*c+1)%2=1;omega
 rw [this];rfl
theorem capOf_sure(c:Nat):capOf (sure c)=c:=by
 unfold capOf
 rw [capSure_sure]
 show (2*c+1)/2=c
 omega
theorem VR.sl_inv{E:En}{b o n c:Nat}{v':Value}(h:VR E (.slice (some ⟨b,o,none⟩) n c) v'):
  b<E.nx∧∃c',v'= .slice (some ⟨E.ι b,E.sh b+o,none⟩) n c'∧capOf c≤c'∧((capSure c=true∧c=sure c'∧capOf c=c')∨(capSure c=false∧E.sh b+o+c'*esOf c≤E.sz b)):=by
 cases h with
 |slS b o n c hb=>exact⟨hb,c,rfl,by rw [capOf_sure];exact Nat.le_refl _,.inl ⟨capSure_sure c,rfl,capOf_sure c⟩⟩
 |slM b o n c c' hb hu hc hs=>exact⟨hb,c',rfl,hc,.inr ⟨hu,hs⟩⟩
theorem xPick_sound(P:Program){E:En}{c c' x x' y y':Value}(hc:VR E c c')(hx:VR E x x')(hy:VR E y y'):
  PuO P E (fun s=>xPick c x y s) (do pure (.value (if ←asBool c' then x' else y'))):=by
 unfold xPick
 split
 ·obtain rfl:=hc.bool_inv
  exact .yes (fun _=>rfl) hx fun w=>by simp[asBool]
 ·obtain rfl:=hc.bool_inv
  exact .yes (fun _=>rfl) hy fun w=>by simp[asBool]
 ·exact .no fun _=>rfl
theorem sameB_sound{P:Program}{E:En}{op:BinOp}{t:TypeId}{x y:Operand}{a' b':Value}{r:Bool}(hg:∀w,(eqGuard op t x y a' b').run P w= .ok () w)
  (h1:op= .eql→∀w,(binOp op t a' b').run P w= .ok (.bool r) w) (h2:op= .neq→∀w,(binOp op t a' b').run P w= .ok (.bool !r) w):
  PuY P E (fun s=>sameB op r s) (do eqGuard op t x y a' b';binOp op t a' b'):=by
 unfold sameB
 split
 ·exact .yes (fun s=>okB_eq r s) (.bool r) fun w=>by simp[hg w,h1 rfl w]
 ·exact .yes (fun s=>okB_eq (!r) s) (.bool _) fun w=>by simp[hg w,h2 rfl w]
 ·exact .no fun _=>rfl
section
variable{P:Program}{t:TypeId}(d:Nat)(w:World)
theorem eq_ptr1{e:TypeId}(hu:P.underlying t=some (.pointer e))(b:Option Addr):(Op.equalIn (d+1) t (.pointer none) (.pointer b)).run P w= .ok b.isNone w:=by simp[Op.equalIn,run_underlying hu]
theorem eq_ptr2{e:TypeId}(hu:P.underlying t=some (.pointer e))(a:Addr):(Op.equalIn (d+1) t (.pointer (some a)) (.pointer none)).run P w= .ok false w:=by simp[Op.equalIn,run_underlying hu]
theorem eq_sl1{e:TypeId}(hu:P.underlying t=some (.slice e))(l c:Nat)(b:Option Addr)(l' c':Nat):(Op.equalIn (d+1) t (.slice none l c) (.slice b l' c')).run P w= .ok b.isNone w:=by simp[Op.equalIn,run_underlying hu]
theorem eq_sl2{e:TypeId}(hu:P.underlying t=some (.slice e))(a:Addr)(l c l' c':Nat):(Op.equalIn (d+1) t (.slice (some a) l c) (.slice none l' c')).run P w= .ok false w:=by simp[Op.equalIn,run_underlying hu]
theorem eq_map1{k e:TypeId}(hu:P.underlying t=some (.map k e))(b:Option Nat):(Op.equalIn (d+1) t (.map none) (.map b)).run P w= .ok b.isNone w:=by simp[Op.equalIn,run_underlying hu]
theorem eq_map2{k e:TypeId}(hu:P.underlying t=some (.map k e))(a:Nat):(Op.equalIn (d+1) t (.map (some a)) (.map none)).run P w= .ok false w:=by simp[Op.equalIn,run_underlying hu]
theorem eq_fn1{x y:Array TypeId}{v:Bool}(hu:P.underlying t=some (.func x y v))(f:Fn)(p q:Array Value):(Op.equalIn (d+1) t .nilFunc (.func f p q)).run P w= .ok false w:=by simp[Op.equalIn,run_underlying hu]
theorem eq_fn2{x y:Array TypeId}{v:Bool}(hu:P.underlying t=some (.func x y v))(f:Fn)(p q:Array Value):(Op.equalIn (d+1) t (.func f p q) .nilFunc).run P w= .ok false w:=by simp[Op.equalIn,run_underlying hu]
theorem eq_if1{ms:Array (String×TypeId)}(hu:P.underlying t=some (.interface ms))(u:TypeId)(v:Value):(Op.equalIn (d+1) t .nilIface (.iface u v)).run P w= .ok false w:=by simp[Op.equalIn,run_underlying hu]
theorem eq_if2{ms:Array (String×TypeId)}(hu:P.underlying t=some (.interface ms))(u:TypeId)(v:Value):(Op.equalIn (d+1) t (.iface u v) .nilIface).run P w= .ok false w:=by simp[Op.equalIn,run_underlying hu]
end
theorem sameB_eq{P:Program}{E:En}{op:BinOp}{t:TypeId}{x y:Operand}{a' b':Value}{r:Bool}(hg:∀w,(eqGuard op t x y a' b').run P w= .ok () w)
  (e1:binOp .eql t a' b'=(do pure (.bool (←Op.equal t a' b')))) (e2:binOp .neq t a' b'=(do pure (.bool (!(←Op.equal t a' b'))))) (hr:∀w,(Op.equal t a' b').run P w= .ok r w):
  PuY P E (fun s=>sameB op r s) (do eqGuard op t x y a' b';binOp op t a' b'):=by
 refine sameB_sound hg (fun e w=>?_) (fun e w=>?_)
 ·subst e;rw [e1];simp[hr w]
 ·subst e;rw [e2];simp[hr w]
theorem eqNil_sound(P:Program){E:En}(op:BinOp)(t:TypeId)(x y:Operand){a a' b b':Value}{r:Bool}(ha:VR E a a')(hb:VR E b b')(hr:eqNil (P.underlying t) a b=some r):
  PuY P E (fun s=>sameB op r s) (do eqGuard op t x y a' b';binOp op t a' b'):=by
 unfold eqNil at hr
 split at hr
 ·rename_i hu
  cases hr
  obtain rfl:=plain_eq 1 _ _ rfl ha
  obtain⟨q',rfl,hq⟩:=hb.ptr_any
  rw [←hq]
  exact sameB_eq (fun w=>by cases op<;>rfl) rfl rfl fun w=>eq_ptr1 9999 w hu _
 ·rename_i hu
  cases hr
  obtain⟨q',rfl,hq⟩:=ha.ptr_any
  obtain rfl:=plain_eq 1 _ _ rfl hb
  cases q' with
  |none=>cases hq
  |some q=>exact sameB_eq (fun w=>by cases op<;>rfl) rfl rfl fun w=>eq_ptr2 9999 w hu _
 ·rename_i hu
  cases hr
  obtain rfl:=plain_eq 1 _ _ rfl ha
  obtain⟨q',c',rfl,hq⟩:=hb.slice_any
  rw [←hq]
  exact sameB_eq (fun w=>by cases op<;>rfl) rfl rfl fun w=>eq_sl1 9999 w hu _ _ _ _ _
 ·rename_i hu
  cases hr
  obtain⟨q',c',rfl,hq⟩:=ha.slice_any
  obtain rfl:=plain_eq 1 _ _ rfl hb
  cases q' with
  |none=>cases hq
  |some q=>exact sameB_eq (fun w=>by cases op<;>rfl) rfl rfl fun w=>eq_sl2 9999 w hu _ _ _ _ _
 ·rename_i hu
  cases hr
  obtain rfl:=plain_eq 1 _ _ rfl ha
  obtain⟨q',rfl,hq⟩:=hb.map_any
  rw [←hq]
  exact sameB_eq (fun w=>by cases op<;>rfl) rfl rfl fun w=>eq_map1 9999 w hu _
 ·rename_i hu
  cases hr
  obtain⟨q',rfl,hq⟩:=ha.map_any
  obtain rfl:=plain_eq 1 _ _ rfl hb
  cases q' with
  |none=>cases hq
  |some q=>exact sameB_eq (fun w=>by cases op<;>rfl) rfl rfl fun w=>eq_map2 9999 w hu _
 ·rename_i hu
  cases hr
  obtain rfl:=plain_eq 1 _ _ rfl ha
  obtain⟨f',x',y',rfl⟩:=hb.func_any
  exact sameB_eq (fun w=>by cases op<;>rfl) rfl rfl fun w=>eq_fn1 9999 w hu _ _ _
 ·rename_i hu
  cases hr
  obtain⟨f',x',y',rfl⟩:=ha.func_any
  obtain rfl:=plain_eq 1 _ _ rfl hb
  exact sameB_eq (fun w=>by cases op<;>rfl) rfl rfl fun w=>eq_fn2 9999 w hu _ _ _
 ·rename_i hu
  cases hr
  obtain rfl:=plain_eq 1 _ _ rfl ha
  obtain⟨u,rfl,_⟩:=hb.iface_inv
  exact sameB_eq (fun w=>by cases op<;>rfl) rfl rfl fun w=>eq_if1 9999 w hu _ _
 ·rename_i hu
  cases hr
  obtain⟨u,rfl,_⟩:=ha.iface_inv
  obtain rfl:=plain_eq 1 _ _ rfl hb
  exact sameB_eq (fun w=>by cases op<;>rfl) rfl rfl fun w=>eq_if2 9999 w hu _ _
 ·cases hr
theorem eqA_sound(P:Program){E:En}(op:BinOp)(t:TypeId)(x y:Operand){a a' b b':Value}(ha:VR E a a')(hb:VR E b b'):
  PuY P E (fun s=>eqA P op t x y a b s) (do eqGuard op t x y a' b';binOp op t a' b'):=by
 unfold eqA
 cases h:eqNil (P.underlying t) a b with
 |some r=>exact eqNil_sound P op t x y ha hb h
 |none=>
  cases e:(plain 5 a&&plain 5 b)with
  |false=>exact .no fun _=>rfl
  |true=>
   simp only[Bool.and_eq_true]at e
   obtain rfl:=plain_eq 5 _ _ e.1 ha
   obtain rfl:=plain_eq 5 _ _ e.2 hb
   exact .self
theorem xBin_sound(P:Program){E:En}(op:BinOp)(t:TypeId)(x y:Operand){a a' b b':Value}(ha:VR E a a')(hb:VR E b b'):
  PuY P E (fun s=>xBin P op t x y a b s) (do eqGuard op t x y a' b';binOp op t a' b'):=by
 unfold xBin
 split
 ·rename_i k m k' n
  obtain rfl:=ha.int_inv
  obtain rfl:=hb.int_inv
  rcases ints_sound P E op t k k' m n with h|⟨v,v',h1,h2,h3⟩
  ·exact .no h
  ·refine .yes h1 h2 fun w=>?_
   have hg:(eqGuard op t x y (.int k m) (.int k' n)).run P w= .ok () w:=by cases op<;>rfl
   simp only[Sem.run_bind,hg,Result.andThen_ok,h3 w]
 ·rename_i m n
  obtain rfl:=ha.str_inv
  obtain rfl:=hb.str_inv
  refine PuY.ofPure fun v hv w=>?_
  have e:binOp op t (.string m) (.string n)=Op.stringOp op m n:=by cases op<;>rfl
  have hg:(eqGuard op t x y (.string m) (.string n)).run P w= .ok () w:=by cases op<;>rfl
  simp only[Sem.run_bind,hg,Result.andThen_ok,e,pureRun_run hv w]
 ·exact eqA_sound P op t x y ha hb
theorem xUn_sound(P:Program){E:En}(op:UnOp){a a':Value}(ha:VR E a a'):PuY P E (fun s=>xUn P op a s) (Op.unary op a'):=by
 unfold xUn
 split
 ·obtain rfl:=ha.int_inv;exact .self
 ·obtain rfl:=ha.bool_inv;exact .self
 ·exact .no fun _=>rfl
theorem intTo_sound(P:Program){E:En}(src dst:TypeId)(k:IntKind)(n:Int):PuY P E (fun s=>intTo P src dst k n s (P.underlying dst)) (convert src dst (.int k n)):=by
 unfold intTo
 split
 ·rename_i j m hd
  cases hs:P.underlying src with
  |none=>exact .self
  |some d=>
   simp only[Option.isSome_some,cond]
   cases e:wrapN j m with
   |none=>exact .self
   |some r=>
    refine .yes (fun s=>okN_eq j r s) (.int j _) fun w=>?_
    have:=wrapN_sound e
    simp only[convert,Sem.run_bind,run_underlying hs,run_underlying hd,Result.andThen_ok,Conv.intToInt,Sem.run_pure]
    rw [show (Int.ofNat m)=(m:Int)from rfl,this];rfl
 ·exact .self
section
variable{P:Program}{E:En}
theorem partT_sound{t:TypeId}{cs cs':List Value}{off:Nat}{v:Value}(h:VRs E cs cs')(hv:partT P t cs off=some v):∃v',VR E v v'∧∀w,(part t ⟨cs'⟩ off).run P w= .ok v' w:=by
 unfold partT partG at hv
 split at hv
 ·rename_i ha
  split at hv
  ·rename_i n hn
   split at hv
   ·rename_i r hr
    cases hv
    rw [dropL_eq]at hr
    obtain⟨h1,rfl⟩:=takeO_some.1 hr
    refine⟨_,.agg _ _ ((h.drop off).take n),fun w=>?_⟩
    simp[part,run_isAgg w ha,run_sizeOf w hn]
   ·cases hv
  ·cases hv
 ·rename_i ha
  rw [dropL_eq,headO_eq,List.getElem?_drop]at hv
  obtain⟨v',h1,h2⟩:=h.get hv
  refine⟨v',h2,fun w=>?_⟩
  have:(⟨cs'⟩:Array Value)[off]? =some v':=by simpa using h1
  simp[part,run_isAgg w ha,this]
 ·cases hv
theorem xField_sound(t:TypeId)(f:Nat){a a':Value}(ha:VR E a a'):PuY P E (fun s=>xField P t f a s) (Instr.field t a' f):=by
 unfold xField
 split
 ·rename_i cs
  obtain⟨l',rfl,hl⟩:=ha.agg_inv
  split
  ·rename_i fs hu
   split
   ·rename_i fd hf
    refine PuY.ofO fun v hv=>?_
    obtain⟨v',h1,h2⟩:=partT_sound hl hv
    exact⟨v',h1,fun w=>by simp[Instr.field,run_underlying hu,hf,asAgg,h2 w]⟩
   ·exact .no fun _=>rfl
  ·exact .no fun _=>rfl
 ·exact .no fun _=>rfl
theorem okPt_eq(b o:Nat)(s:St):okPt b o s= .ok (.val (.pointer (some ⟨b,o,none⟩))) s:=fN_eq o _
theorem xFieldAddr_sound(t:TypeId)(f:Nat){a a':Value}(ha:VR E a a'):PuY P E (fun s=>xFieldAddr P t f a s) (Instr.fieldAt t a' f):=by
 unfold xFieldAddr
 split
 ·rename_i b off
  obtain⟨hb,rfl⟩:=ha.ptr_inv
  split
  ·rename_i fs hu
   split
   ·rename_i fd hf
    cases e:sizeOfT P fd.type with
    |none=>exact .no fun _=>rfl
    |some n=>
     show PuY P E (fun s=>cond (Nat.blt 0 n) (okPt b (Nat.add off fd.offset) s) .no) _
     cases e2:Nat.blt 0 n with
     |false=>exact .no fun _=>rfl
     |true=>
      have hn:n≠0:=by have:=Nat.le_of_ble_eq_true e2;omega
      refine .yes (fun s=>okPt_eq b _ s) (.ptr b _ hb) fun w=>?_
      simp only[Instr.fieldAt,Sem.run_bind,run_underlying hu,Result.andThen_ok,hf,Instr.sureAddr,Sem.run_pure,fieldPlace,run_sizeOf w e,hn,if_false,add_eq]
      rw [show E.sh b+off+fd.offset=E.sh b+Nat.add off fd.offset by show _=E.sh b+(off+fd.offset);omega]
   ·exact .no fun _=>rfl
  ·exact .no fun _=>rfl
 ·exact .no fun _=>rfl
theorem atI_sound{e:TypeId}{b off n i:Nat}(hb:b<E.nx){m:Sem Value}(h:∀size,sizeOfT P e=some size→i<n→∀w,m.run P w= .ok (.pointer (some ⟨E.ι b,E.sh b+off+i*size,none⟩)) w):
  PuY P E (fun s=>atI P e b off n i s) m:=by
 unfold atI
 split
 ·rename_i size hs
  cases e2:Nat.blt i n with
  |false=>exact .no fun _=>rfl
  |true=>
   refine .yes (fun s=>okPt_eq b _ s) (.ptr b _ hb) fun w=>?_
   rw [h size hs (Nat.le_of_ble_eq_true e2) w]
   rw [show E.sh b+off+i*size=E.sh b+Nat.add off (Nat.mul i size)by show _=E.sh b+(off+i*size);omega]
 ·exact .no fun _=>rfl
theorem xIndexAddr_sound(t:TypeId){a a' x x':Value}(ha:VR E a a')(hx:VR E x x'):PuY P E (fun s=>xIndexAddr P t a (natOf x) s) (Instr.indexAt t a' x'):=by
 unfold xIndexAddr
 split
 ·rename_i b off i hi
  obtain⟨hb,rfl⟩:=ha.ptr_inv
  obtain⟨k,rfl⟩:=natOf_some hi
  obtain rfl:=hx.int_inv
  split
  ·rename_i n e hu
   refine atI_sound hb fun size hs hin w=>?_
   have hin':(0:Int)≤Int.ofNat i∧Int.ofNat i<(n:Int):=by simp only[Int.ofNat_eq_natCast];omega
   simp only[Instr.indexAt,asIntOf,Sem.run_bind,Sem.run_pure,Result.andThen_ok,run_underlying hu,Instr.sureAddr,hin',and_self,if_true,run_sizeOf w hs,add_eq]
   simp
  ·exact .no fun _=>rfl
 ·rename_i b off n c i hi
  obtain⟨hb,c',rfl,_⟩:=ha.sl_inv
  obtain⟨k,rfl⟩:=natOf_some hi
  obtain rfl:=hx.int_inv
  split
  ·rename_i e hu
   refine atI_sound hb fun size hs hin w=>?_
   have hin':(0:Int)≤Int.ofNat i∧Int.ofNat i<(n:Int):=by simp only[Int.ofNat_eq_natCast];omega
   simp only[Instr.indexAt,asIntOf,Sem.run_bind,Sem.run_pure,Result.andThen_ok,run_underlying hu,hin',and_self,if_true,run_sizeOf w hs,add_eq]
   simp
  ·exact .no fun _=>rfl
 ·exact .no fun _=>rfl
theorem xIndex_sound(t:TypeId){a a' x x':Value}(ha:VR E a a')(hx:VR E x x'):PuY P E (fun s=>xIndex P t a x s) (Instr.index t a' x'):=by
 unfold xIndex
 split
 ·rename_i cs
  obtain⟨l',rfl,hl⟩:=ha.agg_inv
  split
  ·rename_i n e i hu hi
   obtain⟨k,rfl⟩:=natOf_some hi
   obtain rfl:=hx.int_inv
   split
   ·rename_i size hs
    cases e2:Nat.blt i n with
    |false=>exact .no fun _=>rfl
    |true=>
     have hin:i<n:=Nat.le_of_ble_eq_true e2
     have hin':(0:Int)≤Int.ofNat i∧Int.ofNat i<(n:Int):=by simp only[Int.ofNat_eq_natCast];omega
     refine PuY.ofO fun v hv=>?_
     obtain⟨v',h1,h2⟩:=partT_sound hl hv
     refine⟨v',h1,fun w=>?_⟩
     simp only[Instr.index,asIntOf,Sem.run_bind,Sem.run_pure,Result.andThen_ok,run_underlying hu,hin',and_self,if_true,run_sizeOf w hs]
     exact h2 w
   ·exact .no fun _=>rfl
  ·exact .no fun _=>rfl
 ·obtain rfl:=ha.str_inv
  split
  ·obtain rfl:=hx.int_inv;exact .self
  ·exact .no fun _=>rfl
 ·exact .no fun _=>rfl
theorem xExtract_sound(i:Nat){a a':Value}(ha:VR E a a'):PuY P E (fun s=>xExtract a i s) (Instr.extract a' i):=by
 unfold xExtract
 split
 ·rename_i vs
  obtain⟨l',rfl,hl⟩:=ha.tup_inv
  refine PuY.ofO fun v hv=>?_
  rw [dropL_eq,headO_eq,List.getElem?_drop]at hv
  obtain⟨v',h1,h2⟩:=hl.get hv
  refine⟨v',h2,fun w=>?_⟩
  have:(⟨l'⟩:Array Value)[i]? =some v':=by simpa using h1
  simp[Instr.extract,this]
 ·exact .no fun _=>rfl
theorem xNil_sound{ρ:Operand→Value}{o:Oper}{x:Operand}{a:Value}(ha:VR E a (ρ x))(ho:o.op= .nilCheck x):PuO P E (fun s=>xNil a s) (execOp ρ o):=by
 unfold xNil
 have key:∀v',ρ x=v'→(∀w,(match v' with
  | .pointer none| .nilIface| .nilFunc=>runtimePanic .nilDeref
  | .func (.method name) first captured=>
   match (first[0]? :Option Value)with
   |some .nilIface=>runtimePanic .nilDeref
   |some (.iface t w)=>do
    if(←nilAhead ((←program).types.size+Made.depth) t w name) !=some false then
     unsupported (.noEntry "op/nilCheck.the method's receiver behind this interface value is a nil pointer, or cannot be seen to be none, and the arguments act or may panic (ledger 612)")
    pure (.value (.func (.method name) first captured))
   |_=>pure (.value (.func (.method name) first captured))
  |x=>pure (.value x):Sem Next).run P w= .ok (.value v') w)→∀w,(execOp ρ o).run P w= .ok (.value v') w:=by
  intro v' hv h w
  have:=h w
  unfold execOp
  rw [ho]
  simp only
  rw [hv]
  exact this
 split
 ·rename_i a
  obtain⟨a',h1,h2⟩:=ha.ptr_any
  cases a' with
  |none=>cases h2
  |some a'=>exact .yes (fun _=>rfl) (h1▸ha) (key _ h1 fun w=>rfl)
 ·obtain⟨x',y',h1,_⟩:=ha.func_inv
  exact .yes (fun _=>rfl) (h1▸ha) (key _ h1 fun w=>rfl)
 ·obtain⟨_,x',y',h1,_⟩:=ha.yld_inv
  exact .yes (fun _=>rfl) (h1▸ha) (key _ h1 fun w=>rfl)
 ·rename_i t v
  obtain⟨u,h1,h2⟩:=ha.iface_inv
  exact .yes (fun _=>rfl) (h1▸ha) (key _ h1 fun w=>rfl)
 ·exact .no fun _=>rfl
end
end Go.Ev
