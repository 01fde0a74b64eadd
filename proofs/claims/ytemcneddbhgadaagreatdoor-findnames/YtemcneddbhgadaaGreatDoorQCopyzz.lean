import Derived.Test.YtemcneddbhgadaaGreatDoorQRWordszz
import Derived.Laws.CopyOwn
namespace Go.Proofs.YtemcneddbhgadaaGreatDoor
inductive It where
 | mk (l:Bool) (b:List Nat) (xs:List It)
theorem It.ind {P:It→Prop} (h:∀l b xs,(∀x∈xs,P x)→P (.mk l b xs)):∀x,P x :=
 fun x=>It.rec (motive_1:=P) (motive_2:=fun xs=>∀x∈xs,P x) (fun l b xs ih=>h l b xs ih) (by simp) (fun a t ha ht=>by
  intro x hx
  rcases List.mem_cons.1 hx with rfl | hx
  ·exact ha
  ·exact ht x hx) x
def It.l:It→Bool | .mk l _ _=>l
def It.b:It→List Nat | .mk _ b _=>b
def It.xs:It→List It | .mk _ _ xs=>xs
theorem It.eta (x:It):x=.mk x.l x.b x.xs:=by cases x;rfl
def gd (s:List Nat) (i:Nat):Nat:=s.getD i 0
mutual
def dp:It→Nat
 | .mk l _ xs=>if l then 1+dpL xs else 0
def dpL:List It→Nat
 | []=>0
 | x::xs=>max (dp x) (dpL xs)
end
theorem qgu (l b xs):dp (.mk l b xs)=if l then 1+dpL xs else 0:=by rw [dp]
theorem qgy:dpL []=0:=by rw [dpL]
theorem qe9 (x xs):dpL (x::xs)=max (dp x) (dpL xs):=by rw [dpL]
theorem qgz {x:It} {xs:List It} (h:x∈xs):dp x≤dpL xs:=by
 induction xs with
 | nil=>cases h
 | cons a t ih =>
  rw [qe9]
  rcases List.mem_cons.1 h with rfl | h
  ·omega
  ·have:=ih h;omega
mutual
def may:It→Bool
 | .mk l b xs=>if l then (b.isEmpty && mayL xs) else xs.isEmpty
def mayL:List It→Bool
 | []=>true
 | x::xs=>may x && mayL xs
end
theorem qck (l b xs):may (.mk l b xs)=if l then (b.isEmpty && mayL xs) else xs.isEmpty:=by rw [may]
theorem qiq:mayL []=true:=by rw [mayL]
theorem qjp (x xs):mayL (x::xs)=(may x && mayL xs):=by rw [mayL]
theorem qcu (xs:List It):mayL xs=true↔∀x∈xs,may x=true:=by
 induction xs with
 | nil=>simp [qiq]
 | cons a t ih=>rw [qjp];simp [ih]
def dg:Nat→Nat→List Nat
 | 0,_=>[]
 | f+1,n=>if n=0 then [] else dg f (n / 256)++[n % 256]
def digs (n:Nat):List Nat:=dg n n
theorem qvb (f g n:Nat) (h1:n≤f) (h2:n≤g):dg f n=dg g n:=by
  induction f generalizing g n with
  | zero => obtain rfl : n = 0 := by omega
            cases g <;> simp [dg]
  | succ f ih =>
    cases g with
    | zero => obtain rfl : n = 0 := by omega
              simp [dg]
    | succ g =>
      unfold dg
      by_cases h:n=0
      · simp [h]
      · rw [if_neg h,if_neg h,ih g (n / 256) (by omega) (by omega)]
theorem qb6:digs 0=[]:=rfl
theorem qb3 {n:Nat} (h:0<n):digs n=digs (n / 256)++[n % 256]:=by
 unfold digs
 cases n with
 | zero=>omega
 | succ n=>rw [dg,if_neg (by omega),qvb n ((n+1) / 256) _ (by omega) (by omega)]
def num (s:List Nat):Nat:=s.foldl (fun n x=>n*256+x) 0
theorem qfa (s:List Nat) (x:Nat):num (s++[x])=num s*256+x:=by simp [num]
theorem qsb (n:Nat):num (digs n)=n:=by
 induction n using Nat.strongRecOn with
 | _ n ih =>
  by_cases h:n=0
  ·subst h;rfl
  ·rw [qb3 (by omega),qfa,ih _ (by omega)];omega
theorem qot (n:Nat):∀x∈digs n,x<256:=by
 induction n using Nat.strongRecOn with
 | _ n ih =>
  by_cases h:n=0
  ·subst h;simp [qb6]
  ·rw [qb3 (by omega)]
   intro x hx
   rcases List.mem_append.1 hx with hx | hx
   ·exact ih _ (by omega) x hx
   ·have:x=n % 256:=by simpa using hx
    omega
theorem qgf {n:Nat} (h:0<n):0<(digs n).length:=by rw [qb3 h];simp
theorem qni {n:Nat} (h:0<n):gd (digs n) 0≠0:=by
 induction n using Nat.strongRecOn with
 | _ n ih =>
  rw [qb3 h]
  by_cases k:n / 256=0
  ·rw [k,qb6]
   simp [gd]
   omega
  ·have:=ih (n / 256) (by omega) (by omega)
   have l:=qgf (n:=n / 256) (by omega)
   unfold gd at this ⊢
   rw [List.getD_eq_getElem?_getD] at this ⊢
   rw [List.getElem?_append_left l]
   exact this
theorem qa4 {n k:Nat} (h:n<256 ^ k):(digs n).length≤k:=by
  induction k generalizing n with
  | zero => obtain rfl : n = 0 := by simpa using h
            simp [qb6]
  | succ k ih =>
    by_cases h0:n=0
    · subst h0;simp [qb6]
    · rw [qb3 (by omega),List.length_append]
      have:=ih (n:=n / 256) (by rw [Nat.pow_succ] at h;omega)
      simp
      omega
theorem qjq {s:List Nat} (hb:∀x∈s,x<256) (hf:gd s 0≠0∨s=[]):digs (num s)=s:=by
  suffices ∀(m:Nat) (s:List Nat),s.length=m→(∀x∈s,x<256)→(gd s 0≠0∨s=[])→digs (num s)=s∧(s≠[]→0<num s) from (this _ s rfl hb hf).1
  intro m
  induction m with
  | zero => intro s h _ _
            obtain rfl:s=[]:=List.eq_nil_of_length_eq_zero h
            exact ⟨rfl,fun h=>absurd rfl h⟩
  | succ m ih =>
    intro s hl hb hf
    obtain ⟨t,x,rfl⟩:∃t x,s=t++[x]:=⟨s.dropLast,s.getLast (by intro e;simp [e] at hl),(List.dropLast_concat_getLast _).symm⟩
    have lt:t.length=m:=by simpa using hl
    have hx:x<256:=hb x (by simp)
    have ht:gd t 0≠0∨t=[]:=by
      cases t with
      | nil=>exact Or.inr rfl
      | cons y t => left; rcases hf with hf | hf
                    · simpa [gd] using hf
                    · simp at hf
    obtain ⟨h1,h2⟩:=ih t lt (fun y hy=>hb y (by simp [hy])) ht
    have hp:0<num (t++[x]):=by
      rw [qfa]
      by_cases e:t=[]
      · subst e
        have : x ≠ 0 := by rcases hf with hf | hf
                           · simpa [gd] using hf
                           · simp at hf
        omega
      · have:=h2 e;omega
    refine ⟨?_,fun _=>hp⟩
    rw [qb3 hp,qfa,show (num t*256+x) / 256=num t by omega,show (num t*256+x) % 256=x by omega,h1]
def alone (b:List Nat):Bool:=decide (b.length=1) && decide (gd b 0<128)
def hdr (base n:Nat):List Nat:=if n<56 then [base+n] else (base+55+(digs n).length)::digs n
mutual
def form:It→List Nat
 | .mk l b xs=>if l then hdr 192 (qag xs).length++qag xs else if alone b then b else hdr 128 b.length++b
def qag:List It→List Nat
 | []=>[]
 | x::xs=>form x++qag xs
end
theorem qaq (l b xs):form (.mk l b xs)=if l then hdr 192 (qag xs).length++qag xs else if alone b then b else hdr 128 b.length++b:=by rw [form]
theorem qar:qag []=[]:=by rw [qag]
theorem qak (x xs):qag (x::xs)=form x++qag xs:=by rw [qag]
theorem qdw (xs ys:List It):qag (xs++ys)=qag xs++qag ys:=by
 induction xs with
 | nil=>simp [qar]
 | cons a t ih=>rw [List.cons_append,qak,qak,ih,List.append_assoc]
theorem qf1 (base n:Nat):0<(hdr base n).length:=by unfold hdr;split <;> simp
theorem qeh (x:It):0<(form x).length:=by
 cases x with
 | mk l b xs =>
  rw [qaq]
  split
  ·have:=qf1 192 (qag xs).length;simp;omega
  ·split
   ·rename_i h;simp [alone] at h;omega
   ·have:=qf1 128 b.length;simp;omega
inductive Rd where
 | ok (x:It) (e:Nat)
 | bad (p e:Nat)
def cut (s:List Nat) (a e:Nat):List Nat:=(s.take e).drop a
inductive Hd where
 | ok (a e:Nat)
 | bad (e:Nat)
def qca (s:List Nat) (p e m:Nat):Hd :=
 if m<56 then (if e - (p+1)<m then .bad 50 else .ok (p+1) (p+1+m))
 else if e - (p+1)<m - 55 then .bad 50
 else if gd s (p+1)=0 then .bad 52
 else if 1048576<num (cut s (p+1) (p+1+(m - 55))) then .bad 54
 else if num (cut s (p+1) (p+1+(m - 55)))<56 then .bad 52
 else if e - (p+1+(m - 55))<num (cut s (p+1) (p+1+(m - 55))) then .bad 50
 else .ok (p+1+(m - 55)) (p+1+(m - 55)+num (cut s (p+1) (p+1+(m - 55))))
def rdL (f:Nat→Nat→Rd):Nat→Nat→Nat→List It→Rd
 | 0,_,e,acc=>.ok (.mk true [] acc) e
 | n+1,a,e,acc =>
  if a<e then
   match f a e with
   | .bad p c=>.bad p c
   | .ok y a'=>rdL f n a' e (acc++[y])
  else .ok (.mk true [] acc) e
def rdG (s:List Nat) (sub:Option (Nat→Nat→Rd)) (p e:Nat):Rd :=
 if p=e then .bad p 50
 else if gd s p<128 then .ok (.mk false [gd s p] []) (p+1)
 else if gd s p<192 then
  match qca s p e (gd s p - 128) with
  | .bad c=>.bad p c
  | .ok a z=>if z=a+1∧gd s a<128 then .bad p 52 else .ok (.mk false (cut s a z) []) z
 else
  match sub with
  | none=>.bad p 53
  | some f =>
   match qca s p e (gd s p - 192) with
   | .bad c=>.bad p c
   | .ok a z=>rdL f (z - a) a z []
def rd (s:List Nat):Nat→Nat→Nat→Rd
 | 0=>rdG s none
 | d+1=>rdG s (some (rd s d))
theorem qf2 (s : List Nat) (d p e : Nat) : rd s d p e =
    if p=e then .bad p 50
    else if gd s p<128 then .ok (.mk false [gd s p] []) (p+1)
    else if gd s p<192 then
      match qca s p e (gd s p - 128) with
      | .bad c=>.bad p c
      | .ok a z=>if z=a+1∧gd s a<128 then .bad p 52 else .ok (.mk false (cut s a z) []) z
    else if d=0 then .bad p 53
    else
        match qca s p e (gd s p - 192) with
        | .bad c=>.bad p c
        | .ok a z=>rdL (rd s (d - 1)) (z - a) a z []:=by
  cases d with
  | zero=>rw [rd,rdG,if_pos (rfl:0=0)]
  | succ d=>rw [rd,rdG,if_neg (Nat.succ_ne_zero d),Nat.add_sub_cancel]
inductive Dec where
 | ok (x:It)
 | bad (p e:Nat)
def dec (s:List Nat):Dec :=
 if 1048576<s.length then .bad 0 54
 else match rd s 80 0 s.length with
  | .bad p e=>.bad p e
  | .ok x e=>if e<s.length then .bad e 51 else .ok x
def encE (x:It):Nat:=if 80<dp x then 53 else if may x=false then 52 else if 1048576<(form x).length then 54 else 0
def enc (x:It):List Nat:=if encE x=0 then form x else []
theorem qao {s:List Nat} {a e:Nat} (h:e≤s.length):(cut s a e).length=e - a:=by simp [cut,Nat.min_eq_left h]
theorem qb7 {s:List Nat} {a e i:Nat} (hi:a+i<e):gd (cut s a e) i=gd s (a+i):=by
 unfold gd cut
 rw [List.getD_eq_getElem?_getD,List.getD_eq_getElem?_getD,List.getElem?_drop,List.getElem?_take,if_pos hi]
theorem gd_get {s:List Nat} {i:Nat} (h:i<s.length):s[i]=gd s i:=by
 unfold gd
 rw [List.getD_eq_getElem?_getD,List.getElem?_eq_getElem h]
 rfl
theorem ext_gd {s t:List Nat} (hl:s.length=t.length) (h:∀i,i<s.length→gd s i=gd t i):s=t :=
 List.ext_getElem hl (fun i h1 h2=>by rw [gd_get h1,gd_get h2,h i h1])
theorem qdf {s t:List Nat} {i:Nat} (h:i<s.length):gd (s++t) i=gd s i:=by
 unfold gd;rw [List.getD_eq_getElem?_getD,List.getD_eq_getElem?_getD,List.getElem?_append_left h]
theorem qdg {s t:List Nat} {i:Nat}:gd (s++t) (s.length+i)=gd t i:=by
 unfold gd;rw [List.getD_eq_getElem?_getD,List.getD_eq_getElem?_getD,List.getElem?_append_right (by omega),Nat.add_sub_cancel_left]
theorem qdx {s:List Nat} {a e x:Nat} (h:x∈cut s a e):x∈s:=List.mem_of_mem_take (List.mem_of_mem_drop h)
theorem qvc (s:List Nat):cut s 0 s.length=s:=by simp [cut]
theorem qg0 {s:List Nat} {a b c:Nat} (h1:a≤b) (h2:b≤c) (h3:c≤s.length):cut s a b++cut s b c=cut s a c:=by
 apply ext_gd
 ·rw [List.length_append,qao (by omega),qao h3,qao h3];omega
 ·intro i hi
  rw [List.length_append,qao (by omega),qao h3] at hi
  by_cases h:i<b - a
  ·rw [qdf (by rw [qao (by omega)];exact h),qb7 (by omega),qb7 (by omega)]
  ·have lc:(cut s a b).length=b - a:=qao (by omega)
   obtain ⟨j,rfl⟩:∃j,i=(cut s a b).length+j:=⟨i - (b - a),by omega⟩
   rw [qdg,lc,qb7 (by omega),qb7 (by omega)]
   congr 1
   omega
theorem qir {s:List Nat} {p:Nat} (h:p<s.length):cut s p (p+1)=[gd s p]:=by
 apply ext_gd
 ·rw [qao (by omega)];simp
 ·intro i hi
  rw [qao (by omega)] at hi
  obtain rfl:i=0:=by omega
  rw [qb7 (by omega)]
  rfl
def At (t:List Nat) (p:Nat) (s:List Nat):Prop:=∀i,i<s.length→gd t (p+i)=gd s i
theorem At.left {t s u:List Nat} {p:Nat} (h:At t p (s++u)):At t p s:=fun i hi=>by rw [h i (by simp;omega),qdf hi]
theorem At.right {t s u:List Nat} {p:Nat} (h:At t p (s++u)):At t (p+s.length) u:=fun i hi=>by rw [Nat.add_assoc,h (s.length+i) (by simp;omega),qdg]
theorem At.cut {t s:List Nat} {p:Nat} (h:At t p s) (hl:p+s.length≤t.length):cut t p (p+s.length)=s:=ext_gd (by rw [qao hl];omega) (fun i hi=>by
 rw [qao hl] at hi
 rw [qb7 (by omega),h i (by omega)])
theorem At.self (s:List Nat):At s 0 s:=fun i _=>by rw [Nat.zero_add]
theorem qgg {base n:Nat} (hn:n≤1048576) (hb:base≤192):∀x∈hdr base n,x<256:=by
 unfold hdr
 have:=qa4 (n:=n) (k:=3) (by omega)
 split
 ·simp;omega
 ·intro x hx
  rcases List.mem_cons.1 hx with rfl | hx
  ·omega
  ·exact qot n x hx
theorem qhx {t:List Nat} {p e base n:Nat} (hn:n≤1048576) (h:At t p (hdr base n)) (hl:p+(hdr base n).length≤t.length) (he:p+(hdr base n).length≤e) :
 base≤gd t p∧gd t p≤base+58∧qca t p e (gd t p - base)=if e<p+(hdr base n).length+n then .bad 50 else .ok (p+(hdr base n).length) (p+(hdr base n).length+n):=by
 have h0:=h 0 (qf1 base n)
 rw [Nat.add_zero] at h0
 by_cases hs:n<56
 ·have e1:hdr base n=[base+n]:=by unfold hdr;rw [if_pos hs]
  rw [e1] at h0 hl he ⊢
  have e0:gd t p=base+n:=h0
  simp only [List.length_singleton] at *
  refine ⟨by omega,by omega,?_⟩
  unfold qca
  rw [e0,show base+n - base=n by omega,if_pos hs]
  by_cases q:e<p+1+n
  ·rw [if_pos q,if_pos (by omega)]
  ·rw [if_neg q,if_neg (by omega)]
 ·have e1:hdr base n=(base+55+(digs n).length)::digs n:=by unfold hdr;rw [if_neg hs]
  have dl:=qgf (n:=n) (by omega)
  have dl3:=qa4 (n:=n) (k:=3) (by omega)
  rw [e1] at h0 hl he h ⊢
  have e0:gd t p=base+55+(digs n).length:=h0
  have hr:At t (p+1) (digs n):=At.right (s:=[base+55+(digs n).length]) h
  simp only [List.length_cons] at *
  refine ⟨by omega,by omega,?_⟩
  have hc:cut t (p+1) (p+1+(digs n).length)=digs n:=hr.cut (by omega)
  have hf:gd t (p+1)≠0:=by
   have:=hr 0 dl
   rw [Nat.add_zero] at this
   rw [this]
   exact qni (by omega)
  unfold qca
  rw [e0,show base+55+(digs n).length - base=55+(digs n).length by omega,if_neg (by omega),show 55+(digs n).length - 55=(digs n).length by omega,if_neg (by omega),if_neg hf,hc,qsb,if_neg (by omega),if_neg (by omega)]
  by_cases q:e<p+((digs n).length+1)+n
  ·rw [if_pos q,if_pos (by omega)]
  ·rw [if_neg q,if_neg (by omega),show p+1+(digs n).length=p+((digs n).length+1) by omega]
theorem qdy {x:It} (hm:may x=true):(x.l=true→x.b=[])∧(x.l=false→x.xs=[]):=by
 cases x with
 | mk l b xs =>
  rw [qck] at hm
  cases l <;> simp_all [It.l,It.b,It.xs]
theorem qvd:∀(x:It) (t:List Nat) (d p e:Nat),may x=true→dp x≤d→(form x).length≤1048576→At t p (form x)→p+(form x).length≤e→e≤t.length→rd t d p e=.ok x (p+(form x).length):=by
 refine It.ind (fun l b xs ih=>?_)
 intro t d p e hm hd hl hat hpe het
 have fp:=qeh (.mk l b xs)
 rw [qf2,if_neg (by omega)]
 cases l with
 | false =>
  have hx:xs=[]:=by rw [qck] at hm;simpa using hm
  subst hx
  have ef:form (.mk false b [])=if alone b then b else hdr 128 b.length++b:=by rw [qaq];simp
  rw [ef] at hat hl hpe ⊢
  by_cases ha:alone b=true
  ·rw [if_pos ha] at hat hl hpe ⊢
   obtain ⟨l1,l2⟩:b.length=1∧gd b 0<128:=by simpa [alone] using ha
   have g0:gd t p=gd b 0:=by have:=hat 0 (by omega);simpa using this
   rw [g0,if_pos l2,l1]
   congr 1
   have:b=[gd b 0]:=ext_gd (by simp [l1]) (fun i hi=>by
    obtain rfl:i=0:=by omega
    rfl)
   rw [←this]
  ·rw [if_neg ha] at hat hl hpe ⊢
   rw [List.length_append] at hl hpe ⊢
   obtain ⟨k1,k2,k3⟩:=qhx (base:=128) (n:=b.length) (e:=e) (by omega) hat.left (by omega) (by omega)
   rw [if_neg (by omega)] at k3
   rw [if_neg (by omega),if_pos (by omega),k3]
   have hr:=hat.right
   have hc:=hr.cut (by omega)
   dsimp only
   rw [if_neg ?_,hc,Nat.add_assoc]
   rintro ⟨q1,q2⟩
   have hb1:b.length=1:=by omega
   have:=hr 0 (by omega)
   rw [Nat.add_zero] at this
   rw [this] at q2
   exact ha (by simp [alone,hb1,q2])
 | true =>
  have hb:b=[]∧mayL xs=true:=by rw [qck] at hm;simpa using hm
  obtain ⟨rfl,hmx⟩:=hb
  have ef:form (.mk true [] xs)=hdr 192 (qag xs).length++qag xs:=by rw [qaq];simp
  rw [qgu] at hd
  simp only [if_true] at hd
  rw [ef] at hat hl hpe ⊢
  rw [List.length_append] at hl hpe ⊢
  obtain ⟨k1,k2,k3⟩:=qhx (base:=192) (n:=(qag xs).length) (e:=e) (by omega) hat.left (by omega) (by omega)
  rw [if_neg (by omega)] at k3
  rw [if_neg (by omega),if_neg (by omega),if_neg (by omega),k3]
  dsimp only
  have hr:=hat.right
  suffices ∀(ys:List It) (acc:List It) (n a z:Nat),(∀y∈ys,y∈xs)→At t a (qag ys)→z=a+(qag ys).length→z≤t.length→(qag ys).length≤n→(qag ys).length≤1048576→rdL (rd t (d - 1)) n a z acc=.ok (.mk true [] (acc++ys)) z by
   rw [this xs [] _ _ _ (fun y hy=>hy) hr rfl (by omega) (by omega) (by omega)]
   simp [Nat.add_assoc]
  intro ys
  induction ys with
  | nil =>
   intro acc n a z _ _ hz _ _ _
   rw [qar] at hz
   cases n with
   | zero=>simp [rdL]
   | succ n=>rw [rdL,if_neg (by simp at hz;omega)];simp
  | cons y ys ih2 =>
   intro acc n a z hin hat2 hz hzt hn hl2
   rw [qak] at hat2 hz hn hl2
   rw [List.length_append] at hz hn hl2
   have yp:=qeh y
   cases n with
   | zero=>omega
   | succ n =>
    have hy:=hin y (by simp)
    rw [rdL,if_pos (by omega),ih y hy t (d - 1) a z ((qcu xs).1 hmx y hy) (by have:=qgz hy;omega) (by omega) hat2.left (by omega) (by omega)]
    dsimp only
    rw [ih2 (acc++[y]) n _ z (fun q hq=>hin q (by simp [hq])) hat2.right (by omega) hzt (by omega) (by omega)]
    simp
theorem qdz {s:List Nat} {p e m a z base:Nat} (hs:∀x∈s,x<256) (he:e≤s.length) (hp:p<e) (hg:gd s p=base+m) (hm:m<64) (h:qca s p e m=.ok a z):p<a∧a≤z∧z≤e∧z - a≤1048576+55∧hdr base (z - a)=cut s p a:=by
 unfold qca at h
 by_cases h1:m<56
 ·rw [if_pos h1] at h
  by_cases h2:e - (p+1)<m
  ·rw [if_pos h2] at h;cases h
  ·rw [if_neg h2] at h
   injection h with ha hz
   subst ha
   subst hz
   refine ⟨by omega,by omega,by omega,by omega,?_⟩
   unfold hdr
   rw [show p+1+m - (p+1)=m by omega,if_pos h1,qir (by omega),hg]
 ·rw [if_neg h1] at h
  by_cases h2:e - (p+1)<m - 55
  ·rw [if_pos h2] at h;cases h
  ·rw [if_neg h2] at h
   by_cases h3:gd s (p+1)=0
   ·rw [if_pos h3] at h;cases h
   ·rw [if_neg h3] at h
    by_cases h4:1048576<num (cut s (p+1) (p+1+(m - 55)))
    ·rw [if_pos h4] at h;cases h
    ·rw [if_neg h4] at h
     by_cases h5:num (cut s (p+1) (p+1+(m - 55)))<56
     ·rw [if_pos h5] at h;cases h
     ·rw [if_neg h5] at h
      by_cases h6:e - (p+1+(m - 55))<num (cut s (p+1) (p+1+(m - 55)))
      ·rw [if_pos h6] at h;cases h
      ·rw [if_neg h6] at h
       injection h with ha hz
       subst ha
       subst hz
       refine ⟨by omega,by omega,by omega,by omega,?_⟩
       have hd:=qjq (s:=cut s (p+1) (p+1+(m - 55))) (fun x hx=>hs x (qdx hx)) (Or.inl (by rw [qb7 (by omega)];exact h3))
       have hln:(cut s (p+1) (p+1+(m - 55))).length=m - 55:=by rw [qao (by omega)];omega
       unfold hdr
       rw [Nat.add_sub_cancel_left,if_neg h5,hd,hln,←qg0 (s:=s) (a:=p) (b:=p+1) (c:=p+1+(m - 55)) (by omega) (by omega) (by omega),qir (by omega),hg,show base+m=base+55+(m - 55) by omega]
       rfl
theorem qxk {s : List Nat} {d : Nat}
    (ih:∀p e x z,e≤s.length→p≤e→rd s d p e=.ok x z→p<z∧z≤e∧may x=true∧dp x≤d∧form x=cut s p z) :
    ∀(n a z:Nat) (acc:List It) (x:It) (e:Nat),z≤s.length→a≤z→z - a≤n→rdL (rd s d) n a z acc=.ok x e→∃ys,x=.mk true [] (acc++ys)∧e=z∧mayL ys=true∧dpL ys≤d∧qag ys=cut s a z:=by
  intro n
  induction n with
  | zero =>
    intro a z acc x e hz haz hn h
    obtain rfl:a=z:=by omega
    rw [rdL] at h
    injection h with h1 h2
    subst h1
    subst h2
    refine ⟨[],by simp,rfl,qiq,by rw [qgy];omega,?_⟩
    rw [qar]
    exact (List.eq_nil_of_length_eq_zero (by rw [qao hz];omega)).symm
  | succ n ihn =>
    intro a z acc x e hz haz hn h
    rw [rdL] at h
    by_cases q:a<z
    · rw [if_pos q] at h
      cases hr:rd s d a z with
      | bad p c=>rw [hr] at h;cases h
      | ok y a' =>
        rw [hr] at h
        dsimp only at h
        obtain ⟨k1,k2,k3,k4,k5⟩:=ih a z y a' hz haz hr
        obtain ⟨ys,e1,e2,e3,e4,e5⟩:=ihn a' z (acc++[y]) x e hz k2 (by omega) h
        refine ⟨y::ys,by rw [e1];simp,e2,by rw [qjp,k3,e3];rfl,by rw [qe9];omega,?_⟩
        rw [qak,k5,e5,qg0 (by omega) k2 hz]
    · rw [if_neg q] at h
      obtain rfl:a=z:=by omega
      injection h with h1 h2
      subst h1
      subst h2
      refine ⟨[],by simp,rfl,qiq,by rw [qgy];omega,?_⟩
      rw [qar]
      exact (List.eq_nil_of_length_eq_zero (by rw [qao hz];omega)).symm
theorem qxl {s:List Nat} (hs:∀x∈s,x<256):∀(d p e:Nat) (x:It) (z:Nat),e≤s.length→p≤e→rd s d p e=.ok x z→p<z∧z≤e∧may x=true∧dp x≤d∧form x=cut s p z:=by
 have gb:∀i,gd s i<256:=fun i=>by
  unfold gd
  rw [List.getD_eq_getElem?_getD]
  cases hi:s[i]? with
  | none=>decide
  | some x=>exact hs x (List.mem_of_getElem? hi)
 intro d
 induction d with
 | zero =>
  intro p e x z he hpe h
  rw [qf2] at h
  by_cases h1:p=e
  ·rw [if_pos h1] at h;cases h
  ·rw [if_neg h1] at h
   by_cases h2:gd s p<128
   ·rw [if_pos h2] at h
    injection h with hx hz
    subst hx
    subst hz
    refine ⟨by omega,by omega,by rw [qck];simp,by rw [qgu];simp,?_⟩
    rw [qaq,qir (by omega),if_neg (by simp),if_pos (by simpa [alone,gd] using h2)]
   ·rw [if_neg h2] at h
    by_cases h3:gd s p<192
    ·rw [if_pos h3] at h
     cases hh:qca s p e (gd s p - 128) with
     | bad c=>rw [hh] at h;cases h
     | ok a z' =>
      rw [hh] at h
      dsimp only at h
      by_cases h4:z'=a+1∧gd s a<128
      ·rw [if_pos h4] at h;cases h
      ·rw [if_neg h4] at h
       injection h with hx hz
       subst hx
       subst hz
       obtain ⟨k1,k2,k3,k4,k5⟩:=qdz (base:=128) hs he (by omega) (by omega) (by omega) hh
       have lz:(cut s a z').length=z' - a:=qao (by omega)
       refine ⟨by omega,by omega,by rw [qck];simp,by rw [qgu];simp,?_⟩
       have na:¬alone (cut s a z')=true:=fun q=>by
        obtain ⟨q1,q2⟩:(cut s a z').length=1∧gd (cut s a z') 0<128:=by simpa [alone] using q
        rw [lz] at q1
        rw [qb7 (by omega),Nat.add_zero] at q2
        exact h4 ⟨by omega,q2⟩
       rw [qaq,if_neg (by simp),if_neg na,lz,k5,qg0 (by omega) k2 (by omega)]
    ·rw [if_neg h3,if_pos rfl] at h;cases h
 | succ d ihd =>
  intro p e x z he hpe h
  rw [qf2] at h
  by_cases h1:p=e
  ·rw [if_pos h1] at h;cases h
  ·rw [if_neg h1] at h
   by_cases h2:gd s p<128
   ·rw [if_pos h2] at h
    injection h with hx hz
    subst hx
    subst hz
    refine ⟨by omega,by omega,by rw [qck];simp,by rw [qgu];simp,?_⟩
    rw [qaq,qir (by omega),if_neg (by simp),if_pos (by simpa [alone,gd] using h2)]
   ·rw [if_neg h2] at h
    by_cases h3:gd s p<192
    ·rw [if_pos h3] at h
     cases hh:qca s p e (gd s p - 128) with
     | bad c=>rw [hh] at h;cases h
     | ok a z' =>
      rw [hh] at h
      dsimp only at h
      by_cases h4:z'=a+1∧gd s a<128
      ·rw [if_pos h4] at h;cases h
      ·rw [if_neg h4] at h
       injection h with hx hz
       subst hx
       subst hz
       obtain ⟨k1,k2,k3,k4,k5⟩:=qdz (base:=128) hs he (by omega) (by omega) (by omega) hh
       have lz:(cut s a z').length=z' - a:=qao (by omega)
       refine ⟨by omega,by omega,by rw [qck];simp,by rw [qgu];simp,?_⟩
       have na:¬alone (cut s a z')=true:=fun q=>by
        obtain ⟨q1,q2⟩:(cut s a z').length=1∧gd (cut s a z') 0<128:=by simpa [alone] using q
        rw [lz] at q1
        rw [qb7 (by omega),Nat.add_zero] at q2
        exact h4 ⟨by omega,q2⟩
       rw [qaq,if_neg (by simp),if_neg na,lz,k5,qg0 (by omega) k2 (by omega)]
    ·rw [if_neg h3,if_neg (by omega)] at h
     cases hh:qca s p e (gd s p - 192) with
     | bad c=>rw [hh] at h;cases h
     | ok a z' =>
      rw [hh] at h
      dsimp only at h
      have:=gb p
      obtain ⟨k1,k2,k3,k4,k5⟩:=qdz (base:=192) hs he (by omega) (by omega) (by omega) hh
      obtain ⟨ys,e1,e2,e3,e4,e5⟩:=qxk (d:=d) ihd (z' - a) a z' [] x z (by omega) k2 (Nat.le_refl _) (by simpa using h)
      subst e1
      subst e2
      simp only [List.nil_append]
      refine ⟨by omega,by omega,by rw [qck];simp [e3],by rw [qgu];simp;omega,?_⟩
      rw [qaq,if_pos rfl,e5,qao (by omega),k5,qg0 (by omega) k2 (by omega)]
end Go.Proofs.YtemcneddbhgadaaGreatDoor
namespace Go.Proofs.YtemcneddbhgadaaGreatDoor.Dg
open Go.RowKit
structure Save (p:Nat) (w w':World):Prop where
 os:w'.os=w.os
 tape:w'.tape=w.tape
 output:w'.output=w.output
 size:w.heap.size≤w'.heap.size
 block:∀k,k<w.heap.size→k≠p→w'.heap[k]?=w.heap[k]?
theorem Save.refl (p:Nat) (w:World):Save p w w:=⟨rfl,rfl,rfl,Nat.le_refl _,fun _ _ _=>rfl⟩
theorem Save.trans {p:Nat} {a b c:World} (h:Save p a b) (k:Save p b c):Save p a c :=
 ⟨k.os.trans h.os,k.tape.trans h.tape,k.output.trans h.output,Nat.le_trans h.size k.size,fun i hi hp=>(k.block i (Nat.lt_of_lt_of_le hi h.size) hp).trans (h.block i hi hp)⟩
theorem Save.of_below {p:Nat} {w w':World} (h:Below w.heap.size w w'):Save p w w':=⟨h.os,h.tape,h.output,h.size,fun k hk _=>h.block k hk⟩
theorem Save.below {p B:Nat} {w w':World} (h:Save p w w') (hp:B≤p) (hB:B≤w.heap.size):Below B w w' :=
 ⟨h.os,h.tape,h.output,h.size,fun k hk=>h.block k (by omega) (by omega)⟩
theorem Save.drew {p:Nat} {a b:World} (h:Save p a b):Save p a b.drew:=⟨h.os,h.tape,h.output,h.size,h.block⟩
theorem Save.setRow {p:Nat} {a b:World} (h:Save p a b) (cs:Array Value):Save p a (b.setRow p cs) :=
 h.trans ⟨rfl,rfl,rfl,by simp,fun k _ hk=>setRow_other b p k cs hk⟩
theorem Save.setCell {p:Nat} {a b:World} (h:Save p a b) (i:Nat) (v:Value):Save p a (b.setCell ⟨p,i,none⟩ v) :=
 h.trans ⟨rfl,rfl,rfl,by simp [World.setCell],fun k _ hk=>Below.heap_setCell _ _ _ _ hk⟩
theorem Save.cell {p:Nat} {w w':World} (h:Save p w w') {q:Addr} (hq:q.block<w.heap.size) (hp:q.block≠p):w'.cell? q=w.cell? q:=World.cell?_of_block (w:=w) (h.block q.block hq hp)
theorem Save.row {p:Nat} {w w':World} (h:Save p w w') {b t n:Nat} {f:Nat→Value} (r:w.rowIs b t n f) (hp:b≠p):w'.rowIs b t n f:=r.of_block (h.block b r.lt hp)
theorem View.save {p:Nat} {w w':World} {a:Option Addr} {b off n:Nat} {Z:Nat→Int} (h:View w a b off n Z) (hs:Save p w w') (hb:0<n→b≠p):View w' a b off n Z :=
 ⟨h.at_,fun i hi=>(hs.cell (q:=⟨b,off+i,none⟩) (h.lt (by omega)) (hb (by omega))).trans (h.cell i hi),h.bd,h.len⟩
theorem qc3.save {p:Nat} {w w':World} (h:qc3 w) (hs:Save p w w') (hw:2<w.heap.size) (hp:p≠2):qc3 w':=fun i hi=>(hs.cell (q:=⟨2,i,none⟩) hw (by show (2:Nat)≠p;omega)).trans (h i hi)
structure Env where
 t:Nat
 N:Nat
 tl:Nat→Value
 big:73≤N
def E0:Env:=⟨158,73,fun _=>.int .u8 0,by omega⟩
def stc (tl:Nat→Value) (s:W8) (R:Nat→Nat) (n:Nat) (i:Nat):Value:=if i<8 then .int .u32 (w8 s i) else if i<72 then .int .u8 (R (i - 8)) else if i=72 then .int .i64 n else tl i
def qbk (E:Env) (w:World) (p:Nat) (s:W8) (R:Nat→Nat) (n:Nat):Prop:=w.rowIs p E.t E.N (stc E.tl s R n)
theorem qbk.len {E:Env} {w:World} {p:Nat} {s:W8} {R:Nat→Nat} {n:Nat} (h:qbk E w p s R n):w.cell? ⟨p,72,none⟩=some (.int .i64 n):=h.cell (i:=72) (by have:=E.big;omega)
theorem qbk.setLen {E:Env} {w:World} {p:Nat} {s:W8} {R:Nat→Nat} {n:Nat} (h:qbk E w p s R n) (m:Nat):qbk E (w.setCell ⟨p,72,none⟩ (.int .i64 m)) p s R m :=
 (h.set 72 _).congr (fun i hi=>by
  unfold stc
  by_cases e:i=72
  ·rw [if_pos e,if_neg (by omega),if_neg (by omega),if_pos e]
  ·rw [if_neg e]
   split
   ·rfl
   ·split
    ·rfl
    ·rfl)
def eight (w:World) (p:Nat) (s:W8):World :=
 (((((((w.setCell ⟨p,0,none⟩ (.int .u32 s.a)).setCell ⟨p,1,none⟩ (.int .u32 s.b)).setCell ⟨p,2,none⟩ (.int .u32 s.c)).setCell ⟨p,3,none⟩ (.int .u32 s.d)).setCell ⟨p,4,none⟩ (.int .u32 s.e)).setCell ⟨p,5,none⟩ (.int .u32 s.f)).setCell ⟨p,6,none⟩ (.int .u32 s.g)).setCell ⟨p,7,none⟩ (.int .u32 s.h)
theorem qbk.eight {E:Env} {w:World} {p:Nat} {s:W8} {R:Nat→Nat} {n:Nat} (h:qbk E w p s R n) (s':W8):qbk E (eight w p s') p s' R n :=
 ((((((((h.set 0 _).set 1 _).set 2 _).set 3 _).set 4 _).set 5 _).set 6 _).set 7 _).congr (fun i hi=>by
  unfold stc
  by_cases e:i<8
  ·rw [if_pos e]
   match i,e with
   | 0,_=>rfl
   | 1,_=>rfl
   | 2,_=>rfl
   | 3,_=>rfl
   | 4,_=>rfl
   | 5,_=>rfl
   | 6,_=>rfl
   | 7,_=>rfl
  ·rw [if_neg e,if_neg (by omega),if_neg (by omega),if_neg (by omega),if_neg (by omega),if_neg (by omega),if_neg (by omega),if_neg (by omega),if_neg (by omega),if_neg e])
theorem Save.eight {p:Nat} {a b:World} (h:Save p a b) (s:W8):Save p a (eight b p s) :=
 (((((((h.setCell 0 _).setCell 1 _).setCell 2 _).setCell 3 _).setCell 4 _).setCell 5 _).setCell 6 _).setCell 7 _
def cat (n:Nat) (X Y:Nat→Nat) (i:Nat):Nat:=if i<n then X i else Y (i - n)
def qav (X:Nat→Nat):Nat→W8
 | 0=>H0
 | k+1=>qc1 (qav X k) (fun i=>X (64*k+i))
theorem qdk (X:Nat→Nat) (k:Nat):Ok8 (qav X k):=by
 cases k with
 | zero=>exact qzz
 | succ k=>exact qsn _ _
theorem qez {X Y:Nat→Nat} (k:Nat) (h:∀i,i<64*k→X i=Y i):qav X k=qav Y k:=by
 induction k with
 | zero=>rfl
 | succ k ih =>
  simp only [qav]
  rw [ih (fun i hi=>h i (by omega)),qey (fun i hi=>h (64*k+i) (by omega))]
structure StG (E:Env) (w:World) (p n:Nat) (X:Nat→Nat):Prop where
 ex:∃R,qbk E w p (qav X (n / 64)) R n∧(∀i,R i<256)∧∀i,i<n % 64→R i=X (64*(n / 64)+i)
 bd:∀i,X i<256
theorem StG.lt {E:Env} {w:World} {p n:Nat} {X:Nat→Nat} (h:StG E w p n X):p<w.heap.size:=by obtain ⟨R,r,_⟩:=h.ex;exact r.lt
theorem StG.of_block {E:Env} {w w':World} {p n:Nat} {X:Nat→Nat} (h:StG E w p n X) (e:w'.heap[p]?=w.heap[p]?):StG E w' p n X:=by
 obtain ⟨R,r,q⟩:=h.ex
 exact ⟨⟨R,r.of_block e,q⟩,h.bd⟩
theorem StG.below {E:Env} {w w':World} {p n:Nat} {X:Nat→Nat} (h:StG E w p n X) (hb:Below w.heap.size w w'):StG E w' p n X:=h.of_block (hb.block _ h.lt)
abbrev St (w:World) (p n:Nat) (X:Nat→Nat):Prop:=StG E0 w p n X
def stA (s:W8) (R:Nat→Nat) (n:Nat):Array Value:=((List.range 73).map (stc E0.tl s R n)).toArray
theorem qmj (s:W8) (R:Nat→Nat) (n:Nat):(stA s R n).size=73:=by simp [stA]
theorem qmk (s:W8) (R:Nat→Nat) (n:Nat):∀i,i<73→(stA s R n)[i]?=some (stc E0.tl s R n i):=by
 intro i hi
 unfold stA
 rw [List.getElem?_toArray,List.getElem?_map,List.getElem?_range hi]
 rfl
theorem qx6 (tl tl':Nat→Value) (s:W8) (R:Nat→Nat) (n i:Nat) (hi:i<73):stc tl s R n i=stc tl' s R n i:=by
 unfold stc
 split
 ·rfl
 ·split
  ·rfl
  ·rw [if_pos (by omega),if_pos (by omega)]
theorem qbk.part {E:Env} {w:World} {p:Nat} {s:W8} {R:Nat→Nat} {n:Nat} (h:qbk E w p s R n):∀j,j<(stA s R n).size→w.cell? ⟨p,j,none⟩=(stA s R n)[j]?:=by
 intro j hj
 rw [qmj] at hj
 rw [qmk s R n j hj,World.rowIs.cell h (i:=j) (by have:=E.big;omega),qx6 _ E0.tl _ _ _ _ hj]
open Go.RowKit
theorem info5size:(Tryz.prog.info? 5).map (·.size)=some 1:=by kernel_rfl
theorem qk1 {cur:Array Value} {N off cnt:Nat} {f:Nat→Value} {Z:Nat→Int} (hs:cur.size=N) (hc:∀i,i<N→cur[i]?=some (f i)) (hfit:off+cnt≤N) (cs:List Value) (hcs:cs=(List.range cnt).map (fun i=>Value.int .u8 (Z i))) :
 ((cur.toList.take off++(cs++cur.toList.drop (off+cs.length))).toArray).size=N∧∀i,i<N→((cur.toList.take off++(cs++cur.toList.drop (off+cs.length))).toArray)[i]?=some (if off≤i∧i<off+cnt then .int .u8 (Z (i - off)) else f i):=by
 have hl:cs.length=cnt:=by rw [hcs];simp
 have ht:(cur.toList.take off).length=off:=by simp;omega
 refine ⟨by simp [hl];omega,fun i hi=>?_⟩
 rw [List.getElem?_toArray]
 by_cases h1:i<off
 ·rw [List.getElem?_append_left (by omega),if_neg (by omega),List.getElem?_take_of_lt h1,Array.getElem?_toList]
  exact hc i hi
 ·rw [List.getElem?_append_right (by omega),ht]
  by_cases h2:i<off+cnt
  ·rw [List.getElem?_append_left (by omega),if_pos ⟨by omega,h2⟩,hcs]
   rw [List.getElem?_map,List.getElem?_range (by omega)]
   rfl
  ·rw [List.getElem?_append_right (by omega),if_neg (by omega),List.getElem?_drop,Array.getElem?_toList,hl,show off+cnt+(i - off - cnt)=i by omega]
   exact hc i hi
theorem qb2 {w : World} {ops : Array Oper} {rest : List Oper} {o : Oper} {a : Act} {Q : Exit → Act → World → Prop} (hgd : o.guard = none) (d s : Operand)
    (ho:o.op=.call { callee:=.builtin .copy,args:=#[d,s],argTypes:=#[33,33] })
    (g off dLen dCap t N:Nat) (f:Nat→Value) (hd:a.eval d=.slice (some ⟨g,off,none⟩) dLen dCap) (hr:w.rowIs g t N f) (hfit:off+dLen≤N)
    (sp:Option Addr) (b o2 m c:Nat) (Z:Nat→Int) (hs:a.eval s=.slice sp m c) (hv:View w sp b o2 m Z) (cnt:Nat) (hcnt:cnt=Nat.min m dLen)
    (h:∀w',Save g w w'→w'.rowIs g t N (fun i=>if off≤i∧i<off+cnt then .int .u8 (Z (i - off)) else f i)→wpList Tryz.prog ops Q rest (a.put o.dst (.int .i64 cnt)) w') :
    wpList Tryz.prog ops Q (o::rest) a w:=by
  obtain ⟨cur,hg,hsz,hc⟩:=hr
  have hle:cnt≤m∧cnt≤dLen:=by rw [hcnt];exact ⟨Nat.min_le_left _ _,Nat.min_le_right _ _⟩
  by_cases h0:cnt=0
  · subst h0
    refine wpList_copy_nothing hgd d s 33 33 ho 5 Tryz.underlying33 info5size _ _ _ _ _ _ hd hs hcnt.symm ?_
    exact h w (Save.refl _ _) ⟨cur,hg,hsz,fun i hi=>by show cur[i]?=some (if off≤i∧i<off+0 then _ else f i);rw [if_neg (by omega)];exact hc i hi⟩
  · obtain rfl:=hv.at_ (by omega)
    have hl:((List.range cnt).map (fun i=>Value.int .u8 (Z i))).length=cnt:=by simp
    refine wpList_copy_own hgd d s 33 33 ho 5 Tryz.underlying33 info5size g off dLen dCap ⟨b,o2,none⟩ m c hd hs cur t hg ((List.range cnt).map (fun i=>Value.int .u8 (Z i))) (by rw [hl,hcnt]) ?_ (by rw [hl,hsz];omega) ?_ ?_
    · intro j v hj
      have hjl:j<cnt:=by
        have:=(List.getElem?_eq_some_iff.1 hj).1
        omega
      rw [List.getElem?_map,List.getElem?_range hjl] at hj
      have e:v=.int .u8 (Z j):=by simpa using hj.symm
      subst e
      have hadd:(⟨b,o2,none⟩:Addr).add j=⟨b,o2+j,none⟩:=by unfold Addr.add;split <;> simp_all
      rw [hadd]
      exact hv.cell j (by omega)
    · intro v hv'
      simp only [List.mem_map] at hv'
      obtain ⟨i,_,rfl⟩:=hv'
      rfl
    · have sp:=qk1 (Z:=Z) hsz hc (by omega) _ rfl (cnt:=cnt) (off:=off)
      have hh:=h (w.setRow g ((cur.toList.take off++(((List.range cnt).map (fun i=>Value.int .u8 (Z i)))++cur.toList.drop (off+((List.range cnt).map (fun i=>Value.int .u8 (Z i))).length))).toArray)) ((Save.refl _ _).setRow _) (qbc hg sp.1 sp.2)
      rw [hl] at hh ⊢
      exact hh
end Go.Proofs.YtemcneddbhgadaaGreatDoor.Dg
