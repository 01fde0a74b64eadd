import Derived.Test.YtnbdpcpgckfeeaaGreatDoorEv0zz
import Derived.Laws.Cells
namespace Go.Ev
open Go
def dv(x:D4):Nat:=D4.casesOn x 0 1 2 3
def valP:List D4→Nat
  |[]=>0
  |x::p=>4*valP p+dv x+1
theorem consD_eq(x:D4)(l:List D4):consD x l=x::l:=by cases x<;>cases l<;>rfl
theorem dv_dig{k:Nat}(h:k<4):dv (dig k)=k:=by
  rcases(show k=0∨k=1∨k=2∨k=3 by omega)with rfl|rfl|rfl|rfl<;>rfl
theorem pathN_succ(n k:Nat):pathN (n+1) k=cond (Nat.beq k 0) [] (consD (dig (Nat.mod (Nat.sub k 1) 4)) (pathN n (Nat.div (Nat.sub k 1) 4))):=rfl
theorem pathN_val:∀(n k:Nat),(pathN n k).length<n→valP (pathN n k)=k
  |0,k,h=>by omega
  |n+1,k,h=>by
    rw [pathN_succ]at h ⊢
    cases e:Nat.beq k 0 with
    |true=>exact(Nat.eq_of_beq_eq_true e).symm
    |false=>
      have hk:k≠0:=Nat.ne_of_beq_eq_false e
      rw [e]at h
      simp only[cond,consD_eq,List.length_cons]at h ⊢
      have ih:=pathN_val n (Nat.div (Nat.sub k 1) 4) (by omega)
      have h1:Nat.div (Nat.sub k 1) 4=(k-1)/4:=rfl
      have h2:Nat.mod (Nat.sub k 1) 4=(k-1)%4:=rfl
      rw [valP,ih,h1,h2,dv_dig (Nat.mod_lt _ (by decide))]
      omega
def topP:Nat→Nat
  |0=>0
  |m+1=>4*topP m+4
theorem pathN_len:∀(n m k:Nat),k≤topP m→(pathN n k).length≤m
  |0,m,k,_=>Nat.zero_le _
  |n+1,m,k,h=>by
    rw [pathN_succ]
    cases e:Nat.beq k 0 with
    |true=>exact Nat.zero_le _
    |false=>
      have hk:k≠0:=Nat.ne_of_beq_eq_false e
      cases m with
      |zero=>exact absurd (Nat.le_zero.1 h) hk
      |succ m=>
        simp only[cond,consD_eq,List.length_cons]
        have h':k≤4*topP m+4:=h
        have:=pathN_len n m (Nat.div (Nat.sub k 1) 4) (by show (k-1)/4≤topP m;omega)
        omega
theorem topP_ge:∀m,m≤topP m
  |0=>Nat.le_refl _
  |m+1=>by show m+1≤4*topP m+4;have:=topP_ge m;omega
theorem path_val(k:Nat):valP (path k)=k:=pathN_val (k+1) k (by have:=pathN_len (k+1) k k (topP_ge k);omega)
theorem path_inj{j k:Nat}(h:path j=path k):j=k:=by rw [←path_val j,h,path_val k]
section
variable{α:Type}{v:Option α}{a b c d:Tr α}
theorem nodeA_eq:nodeA v a b c d= .node v a b c d:=by cases a<;>rfl
theorem nodeB_eq:nodeB v a b c d= .node v a b c d:=by cases b<;>rfl
theorem nodeC_eq:nodeC v a b c d= .node v a b c d:=by cases c<;>rfl
theorem nodeD_eq:nodeD v a b c d= .node v a b c d:=by cases d<;>rfl
end
theorem getP_nil{α:Type}:∀(p:List D4),getP p (Tr.nil:Tr α)=none
  |[]=>rfl
  |_::_=>rfl
theorem getP_set{α:Type}(x:α):∀(p:List D4) (t:Tr α) (q:List D4),(q=p→getP q (setP x p t)=some x)∧(q≠p→getP q (setP x p t)=getP q t)
  |[],t,q=>by
    refine⟨fun e=>?_,fun h=>?_⟩
    · subst e;cases t<;>rfl
    · cases q with
      |nil=>exact absurd rfl h
      |cons y q=>cases t with
        |nil=>cases y<;>exact getP_nil q
        |node v a b c d=>rfl
  |y::p,t,q=>by
    have ih:=fun t q=>getP_set x p t q
    cases q with
    |nil=>
      refine⟨fun e=>(by cases e),fun _=>?_⟩
      cases t with
      |nil=>
        cases y
        · show getP [] (nodeA none _ _ _ _)=_;rw [nodeA_eq];rfl
        · show getP [] (nodeB none _ _ _ _)=_;rw [nodeB_eq];rfl
        · show getP [] (nodeC none _ _ _ _)=_;rw [nodeC_eq];rfl
        · show getP [] (nodeD none _ _ _ _)=_;rw [nodeD_eq];rfl
      |node v a b c d=>
        cases y
        · show getP [] (nodeA v _ _ _ _)=_;rw [nodeA_eq];rfl
        · show getP [] (nodeB v _ _ _ _)=_;rw [nodeB_eq];rfl
        · show getP [] (nodeC v _ _ _ _)=_;rw [nodeC_eq];rfl
        · show getP [] (nodeD v _ _ _ _)=_;rw [nodeD_eq];rfl
    |cons z q=>
      have key:∀(v:Option α) (a b c d:Tr α),t= .node v a b c d∨(t= .nil∧v=none∧a= .nil∧b= .nil∧c= .nil∧d= .nil)→
          (z::q=y::p→getP (z::q) (setP x (y::p) t)=some x)∧(z::q≠y::p→getP (z::q) (setP x (y::p) t)=getP (z::q) t):=by
        intro v a b c d ht
        have hg:getP (z::q) t=D4.casesOn (motive:=fun _=>Option α) z (getP q a) (getP q b) (getP q c) (getP q d):=by
          rcases ht with rfl|⟨rfl,_,rfl,rfl,rfl,rfl⟩
          · rfl
          · cases z<;>exact(getP_nil q).symm
        have hs:setP x (y::p) t=D4.casesOn (motive:=fun _=>Tr α) y (.node v (setP x p a) b c d) (.node v a (setP x p b) c d) (.node v a b (setP x p c) d) (.node v a b c (setP x p d)):=by
          rcases ht with rfl|⟨rfl,rfl,rfl,rfl,rfl,rfl⟩<;>cases y<;>first|exact nodeA_eq|exact nodeB_eq|exact nodeC_eq|exact nodeD_eq
        rw [hg,hs]
        refine⟨fun e=>?_,fun h=>?_⟩
        · cases e
          cases y
          · exact(ih a p).1 rfl
          · exact(ih b p).1 rfl
          · exact(ih c p).1 rfl
          · exact(ih d p).1 rfl
        · cases y<;>cases z<;>first
            |rfl
            |exact(ih a q).2 (fun e=>h (by rw [e]))
            |exact(ih b q).2 (fun e=>h (by rw [e]))
            |exact(ih c q).2 (fun e=>h (by rw [e]))
            |exact(ih d q).2 (fun e=>h (by rw [e]))
      cases t with
      |nil=>exact key none .nil .nil .nil .nil (.inr ⟨rfl,rfl,rfl,rfl,rfl,rfl⟩)
      |node v a b c d=>exact key v a b c d (.inl rfl)
theorem mkG_eq{α:Type}:∀(p:List D4) (t:Tr α),(mkG p).f t=getP p t
  |[],_=>rfl
  |x::p,t=>by cases t<;>cases x<;>first|rfl|exact mkG_eq p _
theorem mkS_eq{α:Type}(x:α):∀(p:List D4) (t:Tr α),(mkS p).f x t=setP x p t
  |[],_=>rfl
  |y::p,t=>by
    have ih:=mkS_eq x p
    cases t<;>cases y
    · show nodeA none ((mkS p).f x .nil) _ _ _=nodeA none (setP x p .nil) _ _ _;rw [ih]
    · show nodeB none _ ((mkS p).f x .nil) _ _=nodeB none _ (setP x p .nil) _ _;rw [ih]
    · show nodeC none _ _ ((mkS p).f x .nil) _=nodeC none _ _ (setP x p .nil) _;rw [ih]
    · show nodeD none _ _ _ ((mkS p).f x .nil)=nodeD none _ _ _ (setP x p .nil);rw [ih]
    · show nodeA _ ((mkS p).f x _) _ _ _=nodeA _ (setP x p _) _ _ _;rw [ih]
    · show nodeB _ _ ((mkS p).f x _) _ _=nodeB _ _ (setP x p _) _ _;rw [ih]
    · show nodeC _ _ _ ((mkS p).f x _) _=nodeC _ _ _ (setP x p _) _;rw [ih]
    · show nodeD _ _ _ _ ((mkS p).f x _)=nodeD _ _ _ _ (setP x p _);rw [ih]
theorem Tr.get_eq{α:Type}(t:Tr α)(k:Nat):t.get k=getP (path k) t:=mkG_eq _ _
theorem Tr.set_eq{α:Type}(t:Tr α)(x:α)(k:Nat):t.set x k=setP x (path k) t:=mkS_eq _ _ _
theorem Tr.get_nil{α:Type}{n:Nat}:(Tr.nil:Tr α).get n=none:=by rw [Tr.get_eq];exact getP_nil _
theorem Tr.get_set{α:Type}(x:α)(t:Tr α)(k:Nat)(_:k<k+1)(j:Nat):(t.set x k).get j=if j=k then some x else t.get j:=by
  rw [Tr.set_eq,Tr.get_eq,Tr.get_eq]
  have h:=getP_set x (path k) t (path j)
  by_cases e:j=k
  · rw [if_pos e];exact h.1 (by rw [e])
  · rw [if_neg e];exact h.2 fun q=>e (path_inj q)
theorem fN_eq{α:Type}(n:Nat)(k:Nat→α):fN n k=k n:=by cases n<;>rfl
theorem fI_eq{α:Type}(n:Int)(k:Int→α):fI n k=k n:=by cases n with
  |ofNat m=>exact fN_eq m fun m=>k (.ofNat m)
  |negSucc m=>exact fN_eq m fun m=>k (.negSucc m)
theorem fV_eq{β:Type}(v:Value)(c:Value→β):fV v c=c v:=by
  cases v<;>try rfl
  rename_i b
  cases b<;>rfl
theorem consO_some{x:Value}{o:Option (List Value)}{l:List Value}:consO x o=some l↔∃ys,o=some ys∧l=x::ys:=by
  cases o with
  |none=>
      constructor
      · intro h;cases h
      · rintro⟨_,h,_⟩;cases h
  |some ys=>
      constructor
      · intro h;cases h;exact⟨ys,rfl,rfl⟩
      · rintro⟨zs,h,rfl⟩;cases h;rfl
theorem take1_some:∀{n:Nat} {l r:List Value},take1 n l=some r↔n≤l.length∧r=l.take n:=by
  intro n
  induction n with
  |zero=>
      intro l r;constructor
      · intro h;cases h;exact⟨by omega,by simp⟩
      · rintro⟨_,rfl⟩;simp;rfl
  |succ n ih=>
    intro l r
    cases l with
    |nil=>
        constructor
        · intro h;cases h
        · rintro⟨h,_⟩;simp at h
    |cons x xs=>
      show consO x (take1 n xs)=some r↔_
      rw [consO_some]
      constructor
      · rintro⟨ys,h,rfl⟩
        obtain⟨h1,rfl⟩:=ih.1 h
        exact⟨by simpa using h1,by simp⟩
      · rintro⟨h,rfl⟩
        exact⟨xs.take n,ih.2 ⟨by simpa using h,rfl⟩,by simp⟩
theorem drop1_eq:∀(n:Nat) (l:List Value),drop1 n l=l.drop n:=by
  intro n
  induction n with
  |zero=>intro l;rfl
  |succ n ih=>intro l;cases l with
    |nil=>rfl
    |cons x xs=>exact ih xs
theorem sp8_some(f:List Value→Option (List Value)):∀(k:Nat) (l r:List Value),sp8 f k l=some r↔8*k≤l.length∧∃r0,f (l.drop (8*k))=some r0∧r=l.take (8*k)++r0
  |0,l,r=>by
    show f l=some r↔_
    simp
  |k+1,l,r=>by
    have no:∀{l:List Value},l.length<8→sp8 f (k+1) l=none→(sp8 f (k+1) l=some r↔8*(k+1)≤l.length∧∃r0,f (l.drop (8*(k+1)))=some r0∧r=l.take (8*(k+1))++r0):=by
      intro l h1 h2
      rw [h2]
      exact⟨fun h=>(by cases h),fun h=>(by omega)⟩
    rcases l with _|⟨a,_|⟨b,_|⟨c,_|⟨d,_|⟨e,_|⟨g,_|⟨h,_|⟨i,l⟩⟩⟩⟩⟩⟩⟩⟩
    case cons.cons.cons.cons.cons.cons.cons.cons=>
      have ih:=sp8_some f k l
      have e1:sp8 f (k+1) (a::b::c::d::e::g::h::i::l)=Option.casesOn (motive:=fun _=>Option (List Value)) (sp8 f k l) none fun l=>some (a::b::c::d::e::g::h::i::l):=rfl
      have e2:List.drop (8*(k+1)) (a::b::c::d::e::g::h::i::l)=l.drop (8*k):=rfl
      have e3:List.take (8*(k+1)) (a::b::c::d::e::g::h::i::l)=a::b::c::d::e::g::h::i::l.take (8*k):=rfl
      have e4:8*(k+1)≤(a::b::c::d::e::g::h::i::l).length↔8*k≤l.length:=by simp only[List.length_cons];omega
      rw [e1,e2,e3,e4]
      cases hq:sp8 f k l with
      |none=>
        refine⟨fun h=>(by cases h),fun⟨h1,r0,h2,h3⟩=>?_⟩
        have:=(ih (l.take (8*k)++r0)).2 ⟨h1,r0,h2,rfl⟩
        rw [hq]at this
        cases this
      |some y=>
        obtain⟨h1,r0,h2,h3⟩:=(ih y).1 hq
        constructor
        · intro h
          cases h
          exact⟨h1,r0,h2,by rw [h3];rfl⟩
        · rintro⟨_,r1,h4,rfl⟩
          rw [h2]at h4
          cases h4
          rw [h3]
          rfl
    all_goals exact no (by simp) rfl
theorem drop8_eq:∀(k:Nat) (l:List Value),drop8 k l=l.drop (8*k)
  |0,l=>rfl
  |k+1,l=>by
    have no:∀{l:List Value},l.length<8→drop8 (k+1) l=[]→drop8 (k+1) l=l.drop (8*(k+1)):=by
      intro l h1 h2
      rw [h2,List.drop_eq_nil_of_le (by omega)]
    rcases l with _|⟨a,_|⟨b,_|⟨c,_|⟨d,_|⟨e,_|⟨g,_|⟨h,_|⟨i,l⟩⟩⟩⟩⟩⟩⟩⟩
    case cons.cons.cons.cons.cons.cons.cons.cons=>exact drop8_eq k l
    all_goals exact no (by simp) rfl
theorem dropL_eq(n:Nat)(l:List Value):dropL n l=l.drop n:=by
  unfold dropL
  rw [drop1_eq,drop8_eq,List.drop_drop]
  congr 1
  show 8*(n/8)+n%8=n
  omega
theorem takeO_some{n:Nat}{l r:List Value}:takeO n l=some r↔n≤l.length∧r=l.take n:=by
  have hn:8*(n/8)+n%8=n:=by omega
  unfold takeO
  rw [sp8_some]
  show 8*(n/8)≤l.length∧(∃r0,take1 (n%8) (l.drop (8*(n/8)))=some r0∧r=l.take (8*(n/8))++r0)↔_
  constructor
  · rintro⟨h1,r0,h2,rfl⟩
    obtain⟨h3,rfl⟩:=take1_some.1 h2
    rw [List.length_drop]at h3
    refine⟨by omega,?_⟩
    rw [←List.take_add,hn]
  · rintro⟨h1,rfl⟩
    refine⟨by omega,_,take1_some.2 ⟨by rw [List.length_drop];omega,rfl⟩,?_⟩
    rw [←List.take_add,hn]
theorem headO_eq(l:List Value):headO l=l[0]?:=by cases l<;>rfl
theorem over_some:∀{vs xs r:List Value},over vs xs=some r→vs.length≤xs.length∧r=vs++xs.drop vs.length∧∀v∈vs,one v=true:=by
  intro vs
  induction vs with
  |nil=>intro xs r h;cases h;exact⟨by simp,by simp,by simp⟩
  |cons v vs ih=>
    intro xs r h
    cases xs with
    |nil=>cases h
    |cons x xs=>
      have h':cond (one v) (consO v (over vs xs)) none=some r:=h
      cases hv:one v with
      |false=>rw [hv]at h';cases h'
      |true=>
        rw [hv]at h'
        obtain⟨ys,h1,rfl⟩:=consO_some.1 (show consO v (over vs xs)=some r from h')
        obtain⟨h2,rfl,h3⟩:=ih h1
        refine⟨by simpa using h2,by simp,fun u hu=>?_⟩
        rcases List.mem_cons.1 hu with rfl|hu
        · exact hv
        · exact h3 u hu
theorem splice1_some{vs:List Value}:∀{n:Nat} {xs r:List Value},splice1 vs n xs=some r→n+vs.length≤xs.length∧r=xs.take n++(vs++xs.drop (n+vs.length))∧∀v∈vs,one v=true:=by
  intro n
  induction n with
  |zero=>intro xs r h;obtain⟨h1,rfl,h3⟩:=over_some (show over vs xs=some r from h);exact⟨by omega,by simp,h3⟩
  |succ n ih=>
    intro xs r h
    cases xs with
    |nil=>cases h
    |cons x xs=>
      obtain⟨ys,h1,rfl⟩:=consO_some.1 (show consO x (splice1 vs n xs)=some r from h)
      obtain⟨h2,rfl,h3⟩:=ih h1
      exact⟨by simp;omega,by simp[Nat.succ_add],h3⟩
theorem splice_some{vs:List Value}{n:Nat}{xs r:List Value}(h:splice vs n xs=some r):n+vs.length≤xs.length∧r=xs.take n++(vs++xs.drop (n+vs.length))∧∀v∈vs,one v=true:=by
  have hn:8*(n/8)+n%8=n:=by omega
  unfold splice at h
  obtain⟨h1,r0,h2,rfl⟩:=(sp8_some _ _ _ _).1 h
  replace h1:8*(n/8)≤xs.length:=h1
  replace h2:splice1 vs (n%8) (xs.drop (8*(n/8)))=some r0:=h2
  obtain⟨h3,rfl,h4⟩:=splice1_some h2
  rw [List.length_drop]at h3
  refine⟨by omega,?_,h4⟩
  show xs.take (8*(n/8))++_=_
  rw [←List.append_assoc,←List.take_add,hn,List.drop_drop,show 8*(n/8)+(n%8+vs.length)=n+vs.length by omega]
theorem consS_eq(x:Value)(l:List Value):consS x l=x::l:=by cases l<;>rfl
theorem appO_eq:∀(xs ys:List Value),appO xs ys=xs++ys:=by
  intro xs ys
  induction xs with
  |nil=>rfl
  |cons x xs ih=>show consS x (appO xs ys)=_;rw [consS_eq,ih];rfl
theorem repO_eq(z:List Value):∀n,repO z n=(List.replicate n z).flatten:=by
  intro n
  induction n with
  |zero=>rfl
  |succ n ih=>show appO z (repO z n)=_;rw [appO_eq,ih,List.replicate_succ,List.flatten_cons]
structure En where
  nx:Nat
  ι:Nat→Nat
  sh:Nat→Nat
  sz:Nat→Nat
mutual
inductive VR(E:En):Value→Value→Prop
  |any (v:Value):VR E (.chan none) v
  |top (v:Value):one v=true→VR E (.chan (some 0)) v
  |bool (b:Bool):VR E (.bool b) (.bool b)
  |int (k:IntKind) (n:Int):VR E (.int k n) (.int k n)
  |float (k:FloatKind) (n:Nat):VR E (.float k n) (.float k n)
  |str (s:ByteArray):VR E (.string s) (.string s)
  |pnil:VR E (.pointer none) (.pointer none)
  |ptr (b o:Nat):b<E.nx→VR E (.pointer (some ⟨b,o,none⟩)) (.pointer (some ⟨E.ι b,E.sh b+o,none⟩))
  |snil (n c:Nat):VR E (.slice none n c) (.slice none n c)
  |slS (b o n c:Nat):b<E.nx→VR E (.slice (some ⟨b,o,none⟩) n (sure c)) (.slice (some ⟨E.ι b,E.sh b+o,none⟩) n c)
  |slM (b o n c c':Nat):b<E.nx→capSure c=false→capOf c≤c'→E.sh b+o+c'*esOf c≤E.sz b→VR E (.slice (some ⟨b,o,none⟩) n c) (.slice (some ⟨E.ι b,E.sh b+o,none⟩) n c')
  |slV (b o c':Nat) (a:Addr):VR E (.slice (some ⟨b,0,some 0⟩) 0 0) (.slice (some a) 0 c')
  |mnil:VR E (.map none) (.map none)
  |mp (b:Nat):b<E.nx→VR E (.map (some b)) (.map (some (E.ι b)))
  |fnil:VR E .nilFunc .nilFunc
  |inil:VR E .nilIface .nilIface
  |func (f:FuncId) (x y x' y':List Value):VRs E x x'→VRs E y y'→VR E (.func (.func f) ⟨x⟩ ⟨y⟩) (.func (.func f) ⟨x'⟩ ⟨y'⟩)
  |meth (f:String) (x y x' y':List Value):VRs E x x'→VRs E y y'→VR E (.func (.method f) ⟨x⟩ ⟨y⟩) (.func (.method f) ⟨x'⟩ ⟨y'⟩)
  |yld (l:Nat) (x y x' y':List Value):l<E.nx→VRs E x x'→VRs E y y'→VR E (.func (.yield l) ⟨x⟩ ⟨y⟩) (.func (.yield (E.ι l)) ⟨x'⟩ ⟨y'⟩)
  |ifc (t:TypeId) (v v':Value):VR E v v'→VR E (.iface t v) (.iface t v')
  |agg (l l':List Value):VRs E l l'→VR E (.agg ⟨l⟩) (.agg ⟨l'⟩)
  |tup (l l':List Value):VRs E l l'→VR E (.tuple ⟨l⟩) (.tuple ⟨l'⟩)
inductive VRs(E:En):List Value→List Value→Prop
  |nil:VRs E [] []
  |cons (v v':Value) (l l':List Value):VR E v v'→VRs E l l'→VRs E (v::l) (v'::l')
end
structure Ext(E E':En):Prop where
  nx:E.nx≤E'.nx
  ι:∀b,b<E.nx→E'.ι b=E.ι b
  sh:∀b,b<E.nx→E'.sh b=E.sh b
  sz:∀b,b<E.nx→E'.sz b=E.sz b
theorem Ext.refl(E:En):Ext E E:=⟨Nat.le_refl _,fun _ _=>rfl,fun _ _=>rfl,fun _ _=>rfl⟩
theorem Ext.trans{A B C:En}(h:Ext A B)(k:Ext B C):Ext A C:=
  ⟨Nat.le_trans h.nx k.nx,fun b hb=>(k.ι b (Nat.lt_of_lt_of_le hb h.nx)).trans (h.ι b hb),fun b hb=>(k.sh b (Nat.lt_of_lt_of_le hb h.nx)).trans (h.sh b hb),
   fun b hb=>(k.sz b (Nat.lt_of_lt_of_le hb h.nx)).trans (h.sz b hb)⟩
mutual
theorem VR.ext{E E':En}(X:Ext E E'){v v':Value}(h:VR E v v'):VR E' v v':=by
  cases h with
  |any=>exact .any _
  |top _ h=>exact .top _ h
  |bool=>exact .bool _
  |int=>exact .int _ _
  |float=>exact .float _ _
  |str=>exact .str _
  |pnil=>exact .pnil
  |ptr b o hb=>rw [←X.ι b hb,←X.sh b hb];exact .ptr b o (Nat.lt_of_lt_of_le hb X.nx)
  |snil=>exact .snil _ _
  |slS b o n c hb=>rw [←X.ι b hb,←X.sh b hb];exact .slS b o n c (Nat.lt_of_lt_of_le hb X.nx)
  |slM b o n c c' hb hu hc hs=>rw [←X.ι b hb,←X.sh b hb];exact .slM b o n c c' (Nat.lt_of_lt_of_le hb X.nx) hu hc (by rw [X.sh b hb,X.sz b hb];exact hs)
  |slV b o c' a=>exact .slV b o c' a
  |mnil=>exact .mnil
  |mp b hb=>rw [←X.ι b hb];exact .mp b (Nat.lt_of_lt_of_le hb X.nx)
  |fnil=>exact .fnil
  |inil=>exact .inil
  |func f x y x' y' hx hy=>exact .func f x y x' y' (hx.ext X) (hy.ext X)
  |meth f x y x' y' hx hy=>exact .meth f x y x' y' (hx.ext X) (hy.ext X)
  |yld l x y x' y' hl hx hy=>rw [←X.ι l hl];exact .yld l x y x' y' (Nat.lt_of_lt_of_le hl X.nx) (hx.ext X) (hy.ext X)
  |ifc t v v' hv=>exact .ifc t v v' (hv.ext X)
  |agg l l' hl=>exact .agg l l' (hl.ext X)
  |tup l l' hl=>exact .tup l l' (hl.ext X)
theorem VRs.ext{E E':En}(X:Ext E E'){l l':List Value}(h:VRs E l l'):VRs E' l l':=by
  cases h with
  |nil=>exact .nil
  |cons v v' l l' hv hl=>exact .cons v v' l l' (hv.ext X) (hl.ext X)
end
theorem VRs.length{E:En}:∀{l l':List Value},VRs E l l'→l.length=l'.length
  |_,_,.nil=>rfl
  |_,_,.cons _ _ _ _ _ h=>by simp[h.length]
theorem VRs.get{E:En}:∀{l l':List Value},VRs E l l'→∀{i:Nat} {v:Value},l[i]? =some v→∃v',l'[i]? =some v'∧VR E v v'
  |_,_,.nil,i,v,h=>by simp at h
  |_,_,.cons v v' l l' hv hl,i,u,h=>by
    cases i with
    |zero=>simp at h;subst h;exact⟨v',by simp,hv⟩
    |succ i=>simp at h;obtain⟨w,h1,h2⟩:=hl.get h;exact⟨w,by simpa using h1,h2⟩
theorem VRs.of_get{E:En}:∀{l l':List Value},l.length=l'.length→(∀(i:Nat) v,l[i]? =some v→∃v',l'[i]? =some v'∧VR E v v')→VRs E l l'
  |[],[],_,_=>.nil
  |[],_::_,h,_=>by simp at h
  |_::_,[],h,_=>by simp at h
  |v::l,v'::l',h,k=>by
    refine .cons v v' l l' ?_ (VRs.of_get (by simpa using h) fun i u hu=>?_)
    · obtain⟨w,h1,h2⟩:=k 0 v (by simp)
      simp at h1;subst h1;exact h2
    · obtain⟨w,h1,h2⟩:=k (i+1) u (by simpa using hu)
      exact⟨w,by simpa using h1,h2⟩
theorem VRs.append{E:En}:∀{l l' m m':List Value},VRs E l l'→VRs E m m'→VRs E (l++m) (l'++m')
  |_,_,_,_,.nil,k=>k
  |_,_,_,_,.cons v v' _ _ hv hl,k=>.cons v v' _ _ hv (hl.append k)
theorem VRs.take{E:En}:∀(n:Nat) {l l':List Value},VRs E l l'→VRs E (l.take n) (l'.take n)
  |0,_,_,_=>by simpa using VRs.nil
  |_+1,_,_,.nil=>.nil
  |n+1,_,_,.cons v v' _ _ hv hl=>.cons v v' _ _ hv (VRs.take n hl)
theorem VRs.drop{E:En}:∀(n:Nat) {l l':List Value},VRs E l l'→VRs E (l.drop n) (l'.drop n)
  |0,_,_,h=>h
  |_+1,_,_,.nil=>.nil
  |n+1,_,_,.cons _ _ _ _ _ hl=>VRs.drop n hl
theorem VRs.rep{E:En}{z z':List Value}(h:VRs E z z'):∀n,VRs E (List.replicate n z).flatten (List.replicate n z').flatten
  |0=>.nil
  |n+1=>by simpa[List.replicate_succ]using h.append (VRs.rep h n)
theorem plain_succ(n:Nat)(v:Value):plain (n+1) v=(match v with
    | .bool _| .int _ _| .float _ _| .string _| .pointer none| .slice none _ _| .map none| .nilFunc| .nilIface=>true
    | .iface _ v=>plain n v
    | .agg cs=>cs.toList.all (plain n)
    | .tuple cs=>cs.toList.all (plain n)
    |_=>false):=rfl
theorem VRs.self{E:En}{p:Value→Bool}(hp:∀v,p v=true→VR E v v):∀(l:List Value),l.all p=true→VRs E l l
  |[],_=>.nil
  |v::l,h=>by
    simp only[List.all_cons,Bool.and_eq_true]at h
    exact .cons v v l l (hp v h.1) (VRs.self hp l h.2)
theorem plain_VR(E:En):∀(n:Nat) (v:Value),plain n v=true→VR E v v:=by
  intro n
  induction n with
  |zero=>intro v h;cases h
  |succ n ih=>
    intro v h
    rw [plain_succ]at h
    cases v with
    |bool b=>exact .bool b
    |int k n=>exact .int k n
    |float k n=>exact .float k n
    |string s=>exact .str s
    |pointer a=>cases a with
      |none=>exact .pnil
      |some a=>cases h
    |slice a l c=>cases a with
      |none=>exact .snil l c
      |some a=>cases h
    |map r=>cases r with
      |none=>exact .mnil
      |some r=>cases h
    |nilFunc=>exact .fnil
    |nilIface=>exact .inil
    |iface t v=>exact .ifc t v v (ih v h)
    |agg cs=>obtain⟨l⟩:=cs;exact .agg l l (VRs.self ih l h)
    |tuple cs=>obtain⟨l⟩:=cs;exact .tup l l (VRs.self ih l h)
    |complex k a b=>cases h
    |chan r=>cases h
    |func f x y=>cases h
theorem VRs.plain_eq{E:En}{p:Value→Bool}(hp:∀v v',p v=true→VR E v v'→v'=v):∀(l l':List Value),l.all p=true→VRs E l l'→l'=l
  |[],_,_,h=>by cases h;rfl
  |v::l,_,h,k=>by
    cases k with
    |cons _ v' _ l' hv hl=>
      simp only[List.all_cons,Bool.and_eq_true]at h
      rw [hp v v' h.1 hv,VRs.plain_eq hp l l' h.2 hl]
theorem plain_eq{E:En}:∀(n:Nat) (v v':Value),plain n v=true→VR E v v'→v'=v:=by
  intro n
  induction n with
  |zero=>intro v v' h;cases h
  |succ n ih=>
    intro v v' h hv
    rw [plain_succ]at h
    cases hv with
    |any=>cases h
    |top=>cases h
    |bool=>rfl
    |int=>rfl
    |float=>rfl
    |str=>rfl
    |pnil=>rfl
    |ptr=>cases h
    |snil=>rfl
    |slS=>cases h
    |slM=>cases h
    |slV=>cases h
    |mnil=>rfl
    |mp=>cases h
    |fnil=>rfl
    |inil=>rfl
    |func=>cases h
    |meth=>cases h
    |yld=>cases h
    |ifc t v v' hv=>rw [ih v v' h hv]
    |agg l l' hl=>rw [VRs.plain_eq ih _ _ h hl]
    |tup l l' hl=>rw [VRs.plain_eq ih _ _ h hl]
theorem VR.undef{E:En}:VR E undef undef:=.tup [] [] .nil
theorem constV_VR(E:En)(v:Value):VR E (constV v) v:=by
  unfold constV
  cases h:plain 5 v with
  |true=>exact plain_VR E 5 v h
  |false=>exact .any v
theorem VR.one{E:En}{v v':Value}(h:VR E v v')(hv:one v=true):one v'=true:=by
  cases h<;>first|assumption|rfl|(cases hv)
end Go.Ev
