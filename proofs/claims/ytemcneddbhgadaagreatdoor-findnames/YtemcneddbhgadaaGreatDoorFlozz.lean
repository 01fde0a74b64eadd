import Derived.Test.YtemcneddbhgadaaGreatDoorFizz
import Derived.Test.YtemcneddbhgadaaGreatDoorFupzz
import Derived.Test.YtemcneddbhgadaaGreatDoorFstzz
import Derived.Laws.CopyOwn
import Derived.Test.YtemcneddbhgadaaGreatDoorBnzz
namespace Go.Proofs.YtemcneddbhgadaaGreatDoor
theorem qm8 {s:List Nat} {z:Nat} (hz:z≤s.length):∀(f i n:Nat),i+f≤z→ptL (s.take z) f i n=ptL s f i n
 | 0,_,_,_=>by rw [ptL,ptL]
 | f+1,i,n,h=>by
  have hl:(s.take z).length=z:=by simp;omega
  have hg:gd (s.take z) i=gd s i:=by
   have:=qb7 (s:=s) (a:=0) (e:=z) (i:=i) (by omega)
   simpa [cut] using this
  rw [ptL,ptL,hl,hg]
  by_cases q:1048576<n
  ·rw [if_pos (Or.inr q),if_pos (Or.inr q)]
  ·rw [if_neg (by omega),if_neg (by omega),qm8 hz f (i+1) _ (by omega)]
theorem qtx {s:List Nat} {z:Nat} (h:(ptF s).ok=true) (hz:(ptF s).e≤z) (hs:z≤s.length):ptF (s.take z)=ptF s:=by
 have hl:(s.take z).length=z:=by simp;omega
 have e0:=(qkr h).1
 have hg:gd (s.take z) 0=gd s 0:=by
  have:=qb7 (s:=s) (a:=0) (e:=z) (i:=0) (by omega)
  simpa [cut] using this
 revert h hz
 unfold ptF
 rw [hl,hg]
 by_cases h0:s.length=0
 ·rw [if_pos h0];intro h;cases h
 ·rw [if_neg h0]
  by_cases h1:gd s 0<128
  ·rw [if_pos h1]
   intro _ hz
   have hz:1≤z:=hz
   rw [if_neg (by omega),if_pos h1]
  ·rw [if_neg h1]
   by_cases h2:gd s 0 % 64<56
   ·rw [if_pos h2]
    intro h hz
    have h:1+gd s 0 % 64≤s.length:=of_decide_eq_true h
    have hz:1+gd s 0 % 64≤z:=hz
    rw [if_neg (by omega),if_neg h1,if_pos h2,decide_eq_true h,decide_eq_true hz]
   ·rw [if_neg h2]
    cases hp:ptL s (gd s 0 % 64 - 55) 1 0 with
    | none=>intro h;cases h
    | some n =>
     intro h hz
     have h:1+(gd s 0 % 64 - 55)+n≤s.length:=of_decide_eq_true h
     have hz:1+(gd s 0 % 64 - 55)+n≤z:=hz
     rw [if_neg (by omega),if_neg h1,if_neg h2,qm8 hs _ _ _ (by omega),hp]
     show (⟨_,_,_,_⟩:Pt)=⟨_,_,_,_⟩
     rw [decide_eq_true h,decide_eq_true hz]
theorem qrf {s:List Nat} {i to e:Nat} (h:i+e≤to):(cut s i to).take e=cut s i (i+e):=by
 unfold cut
 rw [List.take_drop,List.take_take,Nat.min_eq_left h]
theorem qrg {s:List Nat} {to:Nat} (ht:to≤s.length):∀(f i:Nat) (ps:List (Nat × Nat)),psGo s to f i=some ps→∀p∈ps,i≤p.1∧p.1<p.2∧p.2≤to∧(ptF (cut s p.1 p.2)).ok=true∧(ptF (cut s p.1 p.2)).e=p.2 - p.1
 | 0,i,ps,h=>by rw [psGo] at h;cases h;intro p hp;cases hp
 | f+1,i,ps,h=>by
  rw [psGo] at h
  split at h
  ·rename_i hi
   split at h
   ·rename_i ho
    obtain ⟨e1,e2⟩:=qkr ho
    rw [qao ht] at e2
    cases hr:psGo s to f (i+(ptF (cut s i to)).e) with
    | none=>rw [hr] at h;cases h
    | some l =>
     rw [hr] at h
     cases h
     intro p hp
     rcases List.mem_cons.1 hp with rfl | hp
     ·have e3:ptF (cut s i (i+(ptF (cut s i to)).e))=ptF (cut s i to):=by
       rw [←qrf (to:=to) (by omega)]
       exact qtx ho (Nat.le_refl _) (by rw [qao ht];exact e2)
      refine ⟨Nat.le_refl _,by show i<i+_;omega,by show i+_≤to;omega,?_,?_⟩
      ·show (ptF (cut s i (i+(ptF (cut s i to)).e))).ok=true
       rw [e3];exact ho
      ·show (ptF (cut s i (i+(ptF (cut s i to)).e))).e=i+(ptF (cut s i to)).e - i
       rw [e3];omega
     ·obtain ⟨q1,q2,q3,q4⟩:=qrg ht f _ l hr p hp
      exact ⟨by omega,q2,q3,q4⟩
   ·cases h
  ·cases h;intro p hp;cases hp
theorem qaaf {s:List Nat} (h:(ptF s).ok=true) (hl:(ptF s).l=true):1≤(ptF s).a:=by
 revert h hl
 unfold ptF ptZ
 split
 ·intro h;cases h
 ·split
  ·intro _ h;cases h
  ·split
   ·intro _ _;exact Nat.le_refl _
   ·split
    ·intro h;cases h
    ·intro _ _;show 1≤1+_;omega
theorem qrh {s:List Nat} {ps:List (Nat × Nat)} (h:prts s=some ps):∀p∈ps,1≤p.1∧p.1<p.2∧p.2≤s.length∧(ptF (cut s p.1 p.2)).ok=true∧(ptF (cut s p.1 p.2)).e=p.2 - p.1:=by
 unfold prts at h
 split at h
 ·rename_i hh
  have ha:=qaaf hh.1 hh.2.1
  intro p hp
  obtain ⟨q1,q2,q3,q4⟩:=qrg (Nat.le_refl _) _ _ ps h p hp
  exact ⟨by omega,q2,q3,q4⟩
 ·cases h
def ctS (s:List Nat):List Nat:=cut s (ptF s).a (ptF s).e
def ctI (s:List Nat):Bool:=(ptF s).ok && !(ptF s).l
def rfO (s:List Nat):Option Rf :=
 if ctI s then (if (ctS s).length=0 then some rz else if (ctS s).length=32 then some ⟨1,ctS s,[]⟩ else none)
 else if s.length<32 then some ⟨2,z32,s⟩ else none
def rfs:List (List Nat)→Option (List Rf)
 | []=>some []
 | x::xs=>match rfO x with
  | none=>none
  | some r=>match rfs xs with
   | none=>none
   | some l=>some (r::l)
def lzB (l:List (List Nat)):Option Nd :=
 match rfs (l.take 16) with
 | none=>none
 | some ks=>if ctI (l.getD 16 []) then some ⟨3,[],ctS (l.getD 16 []),decide (0<(ctS (l.getD 16 [])).length),rz,ks⟩ else none
def lzT (a b:List Nat):Option Nd :=
 if ctI a then
  (if uqF (ctS a) then (if ctI b then some ⟨1,uqP (ctS a),ctS b,false,rz,kz⟩ else none)
  else match rfO b with
   | none=>none
   | some r=>some ⟨2,uqP (ctS a),[],false,r,kz⟩)
 else none
def lzP (l:List (List Nat)):Option Nd :=
 if l.length=17 then lzB l else if l.length=2 then lzT (l.getD 0 []) (l.getD 1 []) else none
def pcs (s:List Nat) (ps:List (Nat × Nat)):List (List Nat):=ps.map (fun p=>cut s p.1 p.2)
def lzN (s:List Nat):Option Nd:=match prts s with | none=>none | some ps=>lzP (pcs s ps)
theorem qho {s:List Nat} {x:Nat} (h:x∈ctS s):x∈s:=qdx h
theorem qy8 {s:List Nat} {r:Rf} (hs:∀x∈s,x<256) (h:rfO s=some r):r.W∧r.b.length<32∧(r.b=[]∨r.b=s):=by
 unfold rfO at h
 split at h
 ·split at h
  ·cases h;exact ⟨rz_w,by simp [rz],Or.inl rfl⟩
  ·split at h
   ·cases h
    exact ⟨⟨by assumption,fun x hx=>hs x (qho hx),fun x hx=>by cases hx⟩,by simp,Or.inl rfl⟩
   ·cases h
 ·split at h
  ·cases h
   exact ⟨⟨qac,qco,hs⟩,by assumption,Or.inr rfl⟩
  ·cases h
theorem qy9 {xs:List (List Nat)}:∀{l:List Rf},rfs xs=some l→l.length=xs.length∧∀r∈l,∃x∈xs,rfO x=some r:=by
 induction xs with
 | nil=>intro l h;rw [rfs] at h;cases h;exact ⟨rfl,fun r hr=>by cases hr⟩
 | cons a t ih =>
  intro l h
  rw [rfs] at h
  cases ha:rfO a with
  | none=>rw [ha] at h;cases h
  | some r =>
   rw [ha] at h
   cases ht:rfs t with
   | none=>rw [ht] at h;cases h
   | some l' =>
    rw [ht] at h
    cases h
    obtain ⟨h1,h2⟩:=ih ht
    refine ⟨by simp [h1],fun q hq=>?_⟩
    rcases List.mem_cons.1 hq with rfl | hq
    ·exact ⟨a,by simp,ha⟩
    ·obtain ⟨x,hx,e⟩:=h2 q hq
     exact ⟨x,by simp [hx],e⟩
theorem qza {s:List Nat} (hs:∀x∈s,x<256):∀x∈uqP s,x<256:=fun x hx=>by
 unfold uqP at hx
 split at hx
 ·cases hx
 ·have:=qu2 hs x (qdx hx)
  omega
theorem qri:∀r∈kz,r.W:=fun _ hr=>(qct hr) ▸ rz_w
theorem qzb {m:Nat} {l:List (List Nat)} {n:Nd} (hl:∀x∈l,x.length<m∧∀y∈x,y<256) (hm:0<m) (h:lzP l=some n):n.W∧n.next.b.length<m∧∀r∈n.kids,r.b.length<m:=by
 have rb:∀{x:List Nat} {r:Rf},x∈l→rfO x=some r→r.W∧r.b.length<m:=fun hx hr=>by
  obtain ⟨q1,q2,q3⟩:=qy8 (hl _ hx).2 hr
  refine ⟨q1,?_⟩
  rcases q3 with e | e
  ·rw [e];exact hm
  ·rw [e];exact (hl _ hx).1
 have kzb:∀r∈kz,r.b.length<m:=fun r hr=>by rw [qct hr];exact hm
 unfold lzP at h
 split at h
 ·rename_i h17
  unfold lzB at h
  cases hr:rfs (l.take 16) with
  | none=>rw [hr] at h;cases h
  | some ks =>
   rw [hr] at h
   dsimp only at h
   split at h
   ·cases h
    obtain ⟨k1,k2⟩:=qy9 hr
    have kk:∀r∈ks,r.W∧r.b.length<m:=fun r hr=>by
     obtain ⟨x,hx,e⟩:=k2 r hr
     exact rb (List.mem_of_mem_take hx) e
    have hv:l.getD 16 []∈l:=by
     rw [List.getD_eq_getElem?_getD,List.getElem?_eq_getElem (by omega)]
     exact List.getElem_mem _
    exact ⟨⟨by rw [k1];simp;omega,rz_w,fun r hr=>(kk r hr).1,(by intro x hx;cases hx),fun x hx=>(hl _ hv).2 x (qho hx)⟩,hm,fun r hr=>(kk r hr).2⟩
   ·cases h
 ·split at h
  ·rename_i h2
   have ha:l.getD 0 []∈l:=by
    rw [List.getD_eq_getElem?_getD,List.getElem?_eq_getElem (by omega)]
    exact List.getElem_mem _
   have hb:l.getD 1 []∈l:=by
    rw [List.getD_eq_getElem?_getD,List.getElem?_eq_getElem (by omega)]
    exact List.getElem_mem _
   have hp:∀x∈uqP (ctS (l.getD 0 [])),x<256:=qza (fun x hx=>(hl _ ha).2 x (qho hx))
   unfold lzT at h
   split at h
   ·split at h
    ·split at h
     ·cases h
      exact ⟨⟨qcz,rz_w,qri,hp,fun x hx=>(hl _ hb).2 x (qho hx)⟩,hm,kzb⟩
     ·cases h
    ·cases hr:rfO (l.getD 1 []) with
     | none=>rw [hr] at h;cases h
     | some r =>
      rw [hr] at h
      cases h
      exact ⟨⟨qcz,(rb hb hr).1,qri,hp,(by intro x hx;cases hx)⟩,(rb hb hr).2,kzb⟩
   ·cases h
  ·cases h
theorem qu3 {s:List Nat} {n:Nd} (hs:∀x∈s,x<256) (h:lzN s=some n):n.W∧n.next.b.length<s.length∧∀r∈n.kids,r.b.length<s.length:=by
 unfold lzN at h
 cases hp:prts s with
 | none=>rw [hp] at h;cases h
 | some ps =>
  rw [hp] at h
  have k:=qrh hp
  have hm:0<s.length:=by
   cases s with
   | nil =>
    unfold prts at hp
    rw [if_neg (by intro q;exact absurd q.1 (by decide))] at hp
    cases hp
   | cons a t=>simp
  refine qzb (fun x hx=>?_) hm h
  obtain ⟨p,hp',rfl⟩:=List.mem_map.1 hx
  obtain ⟨k1,k2,k3,-⟩:=k p hp'
  exact ⟨by rw [qao k3];omega,fun y hy=>hs y (qdx hy)⟩
theorem qim {n:Nat} (h0:0<n) (h:n<256):digs n=[n]:=by
 rw [qb3 h0,Nat.div_eq_of_lt h,qb6,Nat.mod_eq_of_lt h];rfl
theorem qty {n:Nat} (h0:256≤n) (h:n<65536):digs n=[n / 256,n % 256]:=by
 rw [qb3 (by omega),qim (by omega) (by omega)];rfl
theorem qrj (li:Bool) (n:Nat) (t:List Nat) (hn:n<65536) (ht:n≤t.length):ptF (hdr (if li then 192 else 128) n++t)=⟨li,(hdr (if li then 192 else 128) n).length,(hdr (if li then 192 else 128) n).length+n,true⟩:=by
 obtain ⟨B,eB⟩:∃B,B=(if li then 192 else 128):=⟨_,rfl⟩
 rw [←eB]
 have hB:B=128∨B=192:=by rw [eB];cases li <;> simp
 have hli:li=decide (192≤B):=by rw [eB];cases li <;> simp
 by_cases h1:n<56
 ·have e:hdr B n=[B+n]:=by unfold hdr;rw [if_pos h1]
  rw [e]
  unfold ptF
  have eg:gd ([B+n]++t) 0=B+n:=rfl
  have el:([B+n]++t).length=1+t.length:=by simp;omega
  rw [eg,el,if_neg (by omega),if_neg (by omega)]
  have em:(B+n) % 64=n:=by omega
  rw [em,if_pos h1,decide_eq_true (by omega:1+n≤1+t.length)]
  have:decide (192≤B+n)=li:=by rw [hli];rcases hB with q | q <;> subst q <;> simp <;> omega
  rw [this]
  rfl
 ·by_cases h2:n<256
  ·have e:hdr B n=[B+56,n]:=by unfold hdr;rw [if_neg h1,qim (by omega) h2];rfl
   rw [e]
   unfold ptF
   have eg:gd ([B+56,n]++t) 0=B+56:=rfl
   have eg1:gd ([B+56,n]++t) 1=n:=rfl
   have el:([B+56,n]++t).length=2+t.length:=by simp;omega
   have em:(B+56) % 64=56:=by omega
   rw [eg,el,em,if_neg (by omega),if_neg (by omega),if_neg (by omega),show 56 - 55=1 from rfl,ptL,el,if_neg (by omega),ptL,eg1]
   have:decide (192≤B+56)=li:=by rw [hli];rcases hB with q | q <;> subst q <;> simp
   show (⟨decide (192≤B+56),1+1,1+1+(256*0+n),decide (1+1+(256*0+n)≤2+t.length)⟩:Pt)=_
   rw [this,decide_eq_true (by omega)]
   simp
  ·have e:hdr B n=[B+57,n / 256,n % 256]:=by unfold hdr;rw [if_neg h1,qty (by omega) hn];rfl
   rw [e]
   unfold ptF
   have eg:gd ([B+57,n / 256,n % 256]++t) 0=B+57:=rfl
   have eg1:gd ([B+57,n / 256,n % 256]++t) 1=n / 256:=rfl
   have eg2:gd ([B+57,n / 256,n % 256]++t) (1+1)=n % 256:=rfl
   have el:([B+57,n / 256,n % 256]++t).length=3+t.length:=by simp;omega
   have em:(B+57) % 64=57:=by omega
   rw [eg,el,em,if_neg (by omega),if_neg (by omega),if_neg (by omega),show 57 - 55=1+1 from rfl,ptL,el,if_neg (by omega),ptL,el,if_neg (by omega),ptL,eg1,eg2]
   have:decide (192≤B+57)=li:=by rw [hli];rcases hB with q | q <;> subst q <;> simp
   show (⟨decide (192≤B+57),1+(1+1),1+(1+1)+(256*(256*0+n / 256)+n % 256),decide (1+(1+1)+(256*(256*0+n / 256)+n % 256)≤3+t.length)⟩:Pt)=_
   have e3:256*(256*0+n / 256)+n % 256=n:=by omega
   rw [this,e3,decide_eq_true (by omega)]
   simp
theorem qjm {x : It} (hm : may x = true) (hl : (form x).length < 65536) (t : List Nat) :
    (ptF (form x++t)).ok=true∧(ptF (form x++t)).e=(form x).length∧(ptF (form x++t)).l=x.l ∧
    (x.l=false→cut (form x++t) (ptF (form x++t)).a (ptF (form x++t)).e=x.b)∧(x.l=true→(ptF (form x++t)).a=(hdr 192 (qag x.xs).length).length):=by
  cases q:x.l with
  | true =>
    have e:=qjy hm q
    have ef:form x=hdr 192 (qag x.xs).length++qag x.xs:=by rw [e,qaq,if_pos rfl];rfl
    rw [ef,List.length_append] at hl
    have k:=qrj true (qag x.xs).length (qag x.xs++t) (by omega) (by simp)
    simp only [if_true] at k
    rw [ef,List.append_assoc,k]
    exact ⟨rfl,by rw [List.length_append],rfl,(by intro h;cases h),fun _=>rfl⟩
  | false =>
    have e:=qhy hm q
    by_cases ha:alone x.b=true
    · have ef:form x=x.b:=by rw [e];exact qjh ha
      have hb:x.b.length=1∧gd x.b 0<128:=by simpa [alone] using ha
      have e1:x.b=[gd x.b 0]:=by
        match x.b,hb.1 with
        | [y],_=>rfl
      generalize gd x.b 0=y at *
      have k:ptF ([y]++t)=⟨false,0,1,true⟩:=by
        unfold ptF
        have eg:gd ([y]++t) 0=y:=rfl
        have el:([y]++t).length=1+t.length:=by simp;omega
        rw [eg,el,if_neg (by omega),if_pos hb.2]
      rw [ef,e1,k]
      exact ⟨rfl,rfl,rfl,fun _=>rfl,(by intro h;cases h)⟩
    · have ef:form x=hdr 128 x.b.length++x.b:=by rw [e];exact qlo ha
      rw [ef,List.length_append] at hl
      have k:=qrj false x.b.length (x.b++t) (by omega) (by simp)
      simp only [Bool.false_eq_true,if_false] at k
      rw [ef,List.append_assoc,k]
      refine ⟨rfl,by rw [List.length_append],rfl,fun _=>?_,(by intro h;cases h)⟩
      show cut (hdr 128 x.b.length++(x.b++t)) (hdr 128 x.b.length).length ((hdr 128 x.b.length).length+x.b.length)=x.b
      unfold cut
      rw [List.take_length_add_append,List.take_left' rfl,List.drop_left' rfl]
theorem qrk {x:It} (hm:may x=true) (hl:(form x).length<65536):ctI (form x)=!x.l∧(x.l=false→ctS (form x)=x.b):=by
 obtain ⟨h1,h2,h3,h4,-⟩:=qjm hm hl []
 rw [List.append_nil] at h1 h2 h3 h4
 exact ⟨by unfold ctI;rw [h1,h3];rfl,h4⟩
theorem qin {s:List Nat}:∀(xs:List It) (f i:Nat),cut s i s.length=qag xs→i≤s.length→s.length<65536→(∀x∈xs,may x=true)→s.length - i≤f →
 ∃ps,psGo s s.length f i=some ps∧pcs s ps=xs.map form
 | [],f,i,h,hi,_,_,_=>by
  have:s.length - i=0:=by rw [←qao (s:=s) (a:=i) (e:=s.length) (Nat.le_refl _),h,qar];rfl
  cases f with
  | zero=>exact ⟨[],rfl,rfl⟩
  | succ f=>rw [psGo,if_neg (by omega)];exact ⟨[],rfl,rfl⟩
 | x::xs,f,i,h,hi,hs,hm,hf=>by
  have hlen:s.length - i=(form x).length+(qag xs).length:=by rw [←qao (s:=s) (a:=i) (e:=s.length) (Nat.le_refl _),h,qak,List.length_append]
  have hp:=qeh x
  cases f with
  | zero=>omega
  | succ f =>
   obtain ⟨p1,p2,-,-,-⟩:=qjm (hm x (by simp)) (by omega) (qag xs)
   rw [psGo,if_pos (by omega),h,qak,if_pos p1,p2]
   have e1:cut s i (i+(form x).length)=form x:=by
    rw [←qrf (to:=s.length) (by omega),h,qak,List.take_left' rfl]
   have e2:cut s (i+(form x).length) s.length=qag xs:=by
    have e3:cut s (i+(form x).length) s.length=(cut s i s.length).drop (form x).length:=by
     unfold cut
     rw [List.drop_drop]
    rw [e3,h,qak,List.drop_left' rfl]
   obtain ⟨ps,h1,h2⟩:=qin xs f (i+(form x).length) e2 (by omega) hs (fun y hy=>hm y (by simp [hy])) (by omega)
   refine ⟨(i,i+(form x).length)::ps,by rw [h1];rfl,?_⟩
   show cut s i (i+(form x).length)::pcs s ps=_
   rw [e1,h2]
   rfl
theorem qhp {xs:List It} (hm:may (.mk true [] xs)=true) (hl:(form (.mk true [] xs)).length<65536) :
 ∃ps,prts (form (.mk true [] xs))=some ps∧pcs (form (.mk true [] xs)) ps=xs.map form:=by
 obtain ⟨h1,h2,h3,-,h5⟩:=qjm hm hl []
 rw [List.append_nil] at h1 h2 h3 h5
 have h5:=h5 rfl
 have ef:form (.mk true [] xs)=hdr 192 (qag xs).length++qag xs:=by rw [qaq,if_pos rfl]
 unfold prts
 rw [if_pos ⟨h1,h3,h2⟩,h5]
 refine qin xs _ _ ?_ ?_ hl (fun x hx=>qo5 rfl hx hm) (by omega)
 ·show cut _ (hdr 192 (qag xs).length).length _=qag xs
  unfold cut
  rw [List.take_length,ef,List.drop_left' rfl]
 ·show (hdr 192 (qag xs).length).length≤_
  rw [ef,List.length_append];omega
theorem qm9 {x:It} (hm:may x=true) (hd:dp x≤80) (hl:(form x).length<65536) (h32:x.l=true→(form x).length<32):rfO (form x)=itR x:=by
 obtain ⟨c1,c2⟩:=qrk hm hl
 unfold rfO itR
 cases q:x.l with
 | true =>
  rw [c1,q,if_neg (by simp),if_pos (h32 q),if_pos rfl,(qo7 hm hd (by omega)).2]
 | false =>
  rw [c1,q,if_pos (show (!false)=true from rfl),c2 q]
  simp only [Bool.false_eq_true,if_false]
theorem qrl {xs:List It} (h:∀x∈xs,rfO (form x)=itR x):rfs (xs.map form)=itRs xs:=by
 induction xs with
 | nil=>rfl
 | cons a t ih =>
  rw [List.map_cons,rfs,itRs,h a (by simp),ih (fun x hx=>h x (by simp [hx]))]
  cases itR a with
  | none=>rfl
  | some r=>cases itRs t <;> rfl
theorem qtz {b:List Nat} (h:IsF b):uqP b=upL b∧uqF b=lf b:=by
 obtain ⟨h0,h1,h2,h3⟩:=h
 have ho:od b<2:=Nat.mod_lt _ (by decide)
 have hk:uqK b=2 - od b:=by
  unfold uqK
  show (if od b=1 then 1 else 2)=2 - od b
  split <;> omega
 refine ⟨?_,?_⟩
 ·unfold uqP
  rw [if_neg (by omega),hk]
  have hn:(nbL b).length=2*b.length:=by unfold nbL;rw [lst_len]
  refine ext_gd ?_ (fun i hi=>?_)
  ·rw [qao (by omega)]
   unfold upL plen
   rw [lst_len]
   omega
  ·rw [qao (by omega)] at hi
   rw [qb7 (by omega)]
   unfold nbL upL
   rw [lst_gd (by omega),lst_gd (by unfold plen;omega)]
   unfold nbY upY nib
   rw [Nat.add_comm i]
 ·unfold uqF lf
  rw [decide_eq_true h0,Bool.true_and]
  by_cases q:32≤gd b 0
  ·rw [decide_eq_true q,decide_eq_true (by omega)]
  ·rw [decide_eq_false q,decide_eq_false (by omega)]
theorem qna (leaf:Bool) {s:List Nat} (h:IsP s):uqP (pkR leaf s)=s∧uqF (pkR leaf s)=leaf:=by
 obtain ⟨h1,h2,h3⟩:=qxr leaf h
 unfold pkR
 rw [if_pos h]
 obtain ⟨q1,q2⟩:=qtz h1
 exact ⟨q1.trans h2,q2.trans h3⟩
theorem ri32 {r:Rf} (hw:r.W) (h:isRf KD r=true∨isNx KD r=true):(rIt r).l=true→(form (rIt r)).length<32:=by
 intro hl
 by_cases k2:r.k=2
 ·have hb:r.h=z32∧KD r.b≠0:=by
   rcases h with h | h
   ·unfold isRf at h
    rw [if_neg (by omega),if_neg (by omega),if_pos k2] at h
    simpa using h
   ·unfold isNx at h
    rw [if_pos k2] at h
    simp at h
    exact ⟨h.1,by rw [h.2];decide⟩
  obtain ⟨-,q2,-,q4⟩:=qiw hw k2 hb.1 hb.2
  rw [q2];exact q4
 ·unfold rIt at hl
  rw [if_neg k2] at hl
  split at hl <;> cases hl
theorem qwy {n:Nd} (hw:n.W) (hm:mayN KD n=true):lzN (encN n)=some n:=by
 have ni:=qj1 hw hm
 have back:=ni.back
 have hlen:=ni.len
 have may1:=ni.may
 have strC:∀b,(form (.mk false b [])).length<65536→ctI (form (.mk false b []))=true∧ctS (form (.mk false b []))=b:=fun b hb=>by
  obtain ⟨c1,c2⟩:=qrk (qf3 b) hb
  exact ⟨by rw [c1];rfl,c2 rfl⟩
 unfold mayN at hm
 unfold lzN encN
 split at hm
 ·rename_i hk
  simp only [Bool.and_eq_true,Bool.not_eq_true',decide_eq_true_eq] at hm
  obtain ⟨he,hp,hf,hn⟩:=hm
  have e:nIt n=.mk true [] [.mk false (pkR true n.path) [],.mk false n.val []]:=by unfold nIt;rw [if_pos hk]
  rw [e] at back hlen may1 ⊢
  obtain ⟨ps,h1,h2⟩:=qhp may1 (by omega)
  rw [h1]
  dsimp only
  rw [h2]
  have s1:=qfe (b:=[]) rfl (show It.mk false (pkR true n.path) []∈[It.mk false (pkR true n.path) [],It.mk false n.val []] by simp)
  have s2:=qfe (b:=[]) rfl (show It.mk false n.val []∈[It.mk false (pkR true n.path) [],It.mk false n.val []] by simp)
  obtain ⟨a1,a2⟩:=strC (pkR true n.path) (by omega)
  obtain ⟨b1,b2⟩:=strC n.val (by omega)
  obtain ⟨u1,u2⟩:=qna true hp
  show lzT (form (.mk false (pkR true n.path) [])) (form (.mk false n.val []))=some n
  unfold lzT
  rw [if_pos a1,a2,if_pos u2,if_pos b1,b2,u1]
  have:itP (.mk false (pkR true n.path) []) (.mk false n.val [])=some n:=back
  obtain ⟨v1,v2,v3⟩:=qgv true hp
  unfold itP at this
  rw [if_pos (show upE (It.mk false (pkR true n.path) []).b=0 from v1),if_pos (show upI (It.mk false (pkR true n.path) []).b=true from v2),if_neg (show ¬(It.mk false n.val []).l=true by show ¬false=true;simp)] at this
  rw [←this]
  show some (⟨1,n.path,n.val,false,rz,kz⟩:Nd)=some (⟨1,upR (pkR true n.path),n.val,false,rz,kz⟩:Nd)
  rw [v3]
 ·split at hm
  ·rename_i hk
   simp only [Bool.and_eq_true,Bool.not_eq_true',decide_eq_true_eq] at hm
   obtain ⟨he,hp,hf,hn⟩:=hm
   unfold leads at he
   simp only [Bool.and_eq_true,decide_eq_true_eq] at he
   obtain ⟨hp0,hv0,hx⟩:=he
   have ri:=qpc hw.next hx
   have e:nIt n=.mk true [] [.mk false (pkR false n.path) [],rIt n.next]:=by unfold nIt;rw [if_neg (by omega),if_pos hk]
   rw [e] at back hlen may1 ⊢
   obtain ⟨ps,h1,h2⟩:=qhp may1 (by omega)
   rw [h1]
   dsimp only
   rw [h2]
   have s1:=qfe (b:=[]) rfl (show It.mk false (pkR false n.path) []∈[It.mk false (pkR false n.path) [],rIt n.next] by simp)
   obtain ⟨a1,a2⟩:=strC (pkR false n.path) (by omega)
   obtain ⟨u1,u2⟩:=qna false hp
   have hr:=qm9 ri.may (by have:=ri.dp;omega) (by have:=ri.len;omega) (ri32 hw.next (Or.inr hx))
   show lzT (form (.mk false (pkR false n.path) [])) (form (rIt n.next))=some n
   unfold lzT
   rw [if_pos a1,a2,if_neg (by rw [u2];simp),hr,ri.back,u1]
   have:itP (.mk false (pkR false n.path) []) (rIt n.next)=some n:=back
   obtain ⟨v1,v2,v3⟩:=qgv false hp
   unfold itP at this
   rw [if_pos (show upE (It.mk false (pkR false n.path) []).b=0 from v1),if_neg (by rw [show upI (It.mk false (pkR false n.path) []).b=false from v2];simp),ri.back] at this
   rw [←this]
   show some (⟨2,n.path,[],false,n.next,kz⟩:Nd)=some (⟨2,upR (pkR false n.path),[],false,n.next,kz⟩:Nd)
   rw [v3]
  ·split at hm
   ·rename_i hk
    simp only [Bool.and_eq_true,decide_eq_true_eq] at hm
    obtain ⟨hp,hno,hfd⟩:=hm
    unfold isFd at hfd
    rw [Bool.and_eq_true,List.all_eq_true] at hfd
    obtain ⟨hkr,hfd⟩:=hfd
    have ri:∀r∈n.kids,RI r:=fun r hr=>qum (hw.kid r hr) (hkr r hr)
    have e:nIt n=.mk true [] (n.kids.map rIt++[.mk false n.val []]):=by unfold nIt;rw [if_neg (by omega),if_neg (by omega)]
    rw [e] at back hlen may1 ⊢
    obtain ⟨ps,h1,h2⟩:=qhp may1 (by omega)
    rw [h1]
    dsimp only
    rw [h2]
    have s2:=qfe (b:=[]) rfl (show It.mk false n.val []∈n.kids.map rIt++[It.mk false n.val []] by simp)
    obtain ⟨b1,b2⟩:=strC n.val (by omega)
    have hlen1:(n.kids.map rIt).length=16:=by rw [List.length_map,hw.kids]
    have hlen2:(n.kids.map rIt++[It.mk false n.val []]).length=17:=by rw [List.length_append,hlen1];rfl
    have hrs:rfs ((n.kids.map rIt).map form)=some n.kids:=by
     rw [qrl (fun x hx=>by
      obtain ⟨r,hr,rfl⟩:=List.mem_map.1 hx
      exact qm9 (ri r hr).may (by have:=(ri r hr).dp;omega) (by have:=(ri r hr).len;omega) (ri32 (hw.kid r hr) (Or.inl (hkr r hr)))),qiv (fun r hr=>(ri r hr).back)]
    unfold lzP
    rw [List.length_map,hlen2,if_pos rfl]
    unfold lzB
    have g16:((n.kids.map rIt++[It.mk false n.val []]).map form).getD 16 []=form (.mk false n.val []):=by
     rw [List.map_append,List.getD_eq_getElem?_getD,List.getElem?_append_right (by rw [List.length_map,hlen1];omega),List.length_map,hlen1]
     rfl
    have t16:((n.kids.map rIt++[It.mk false n.val []]).map form).take 16=(n.kids.map rIt).map form:=by
     rw [List.map_append,List.take_left' (by rw [List.length_map,hlen1])]
    rw [t16,hrs,g16,b1,b2]
    dsimp only
    rw [if_pos rfl]
    unfold itN at back
    have back:(if (n.kids.map rIt++[It.mk false n.val []]).length=2 then _ else if (n.kids.map rIt++[It.mk false n.val []]).length=17 then itB ((n.kids.map rIt++[It.mk false n.val []]).take 16) ((n.kids.map rIt++[It.mk false n.val []]).getD 16 itE) else none)=some n:=back
    rw [hlen2,if_neg (by decide),if_pos rfl,List.take_left' hlen1,List.getD_eq_getElem?_getD,List.getElem?_append_right (by omega),hlen1] at back
    have back:itB (n.kids.map rIt) (.mk false n.val [])=some n:=back
    unfold itB at back
    rw [qiv (fun r hr=>(ri r hr).back)] at back
    exact back
   ·cases hm
def rdN (s:List Nat):Option Nd:=match lzN s with | none=>none | some n=>if mayN KD n=true∧encN n=s then some n else none
theorem qzc {s:List Nat} (hs:∀x∈s,x<256):rdN s=decN KD s:=by
 unfold rdN
 cases hd:decN KD s with
 | some n =>
  obtain ⟨h1,h2,h3⟩:=(qfh hs).1 hd
  have:=qwy h1 h2
  rw [h3] at this
  rw [this]
  dsimp only
  rw [if_pos ⟨h2,h3⟩]
 | none =>
  cases hl:lzN s with
  | none=>rfl
  | some n =>
   dsimp only
   rw [if_neg]
   rintro ⟨h2,h3⟩
   have:=(qfh hs).2 ⟨(qu3 hs hl).1,h2,h3⟩
   rw [hd] at this
   cases this
open Go.RowKit
def hcp (t:List Nat):List Nat:=t.take 32++z32.drop (t.take 32).length
theorem qwz (t:List Nat):(hcp t).length=32:=by
 unfold hcp
 rw [List.length_append,List.length_drop,qac,List.length_take]
 omega
theorem qzd {t:List Nat} (h:∀x∈t,x<256):∀x∈hcp t,x<256:=fun x hx=>by
 rcases List.mem_append.1 hx with q | q
 ·exact h x (List.mem_of_mem_take q)
 ·exact qco x (List.mem_of_mem_drop q)
theorem qze {t:List Nat} (h:t.length=32):hcp t=t:=by
 unfold hcp
 rw [List.take_of_length_le (by omega),h,List.drop_eq_nil_of_le (by rw [qac];omega),List.append_nil]
theorem qoh (t:List Nat):splice (bv z32) 0 (bv (t.take 32))=bv (hcp t):=by
 unfold splice hcp
 rw [ql9,bv_len,Nat.zero_add,List.take_zero,List.nil_append]
 congr 1
 unfold bv
 rw [List.map_drop]
theorem qcb {w:World} {B:Nat} {v:Value} {s:List Nat} (h:w.ownsRow B 5 1 v s.length (bv s)) (hs:∀x∈s,x<256) (hl:s.length≤140737488351232):Vb w v s:=by
 exact (qda (P:=fun _=>True) h hs hl (fun _ _=>trivial)).vb
theorem qzf {w:World} {a:Option Addr} {b off:Nat} {t:List Nat} (hv:Vw w a b off t) (ht:0<t.length) (hb:b<w.heap.size) (o:Obj):∃ad,a=some ad∧∀j v,(bv (t.take 32))[j]?=some v→(w.alloc o).cell? (ad.add j)=some v:=by
 refine ⟨⟨b,off,none⟩,hv.at_ ht,fun j v h=>?_⟩
 have hj:j<(t.take 32).length:=by rw [←bv_len];exact (List.getElem?_eq_some_iff.1 h).1
 rw [bv_at hj] at h
 have hj2:j<t.length:=by rw [List.length_take] at hj;omega
 have e:gd (t.take 32) j=gd t j:=by
  have:=qb7 (s:=t) (a:=0) (e:=32) (i:=j) (by rw [List.length_take] at hj;omega)
  simpa [cut] using this
 rw [e] at h
 rw [Go.WideShapes.add_plain,←h,World.cell?_alloc_old _ _ _ (by show b≠w.heap.size;omega)]
 exact hv.cell j hj2
theorem qkt (a:Option Addr) (n c:Nat) (s:List Nat):Tryz.prog.built 107 [(0,.int .i64 2),(2,.slice a n c)]=some (rcs ⟨2,z32,s⟩ (.slice a n c)).toArray:=by kernel_rfl
set_option maxRecDepth 100000 in
set_option maxHeartbeats 1600000 in
theorem qio {w:World} {v:Value} {s:List Nat} (h:Vb w v s) (he:(ptF s).e≤s.length) :
 Calls Tryz.prog 122 #[v] w fun e w'=>∃r u,e=.returned (.tuple #[.agg (rcs r u).toArray,.bool (rfO s).isSome])∧r.W∧Vf (fun q=>w.heap.size≤q) w' u r.b∧Below w.heap.size w w'∧∀q,rfO s=some q→r=q:=by
 have hz:=zv26
 have hz2:=zv24
 have K:=qcw (w:=w.alloc (.cells (rcs rz (.slice none 0 0)).toArray 107)) (Rel.keep h (qaa _ _)) he
 have HK0:Hid (Below w.heap.size w (w.alloc (.cells (rcs rz (.slice none 0 0)).toArray 107))∧(w.alloc (.cells (rcs rz (.slice none 0 0)).toArray 107)).heap[w.heap.size]?=some (.cells (rcs rz (.slice none 0 0)).toArray 107 (0,0))):=⟨qaa _ _,heap_alloc_new _ _⟩
 have HB0:∀x∈s,x<256:=by
  obtain ⟨_,_,_,_,_,q,_⟩:=h
  exact (vw_ok q).2
 have hbd:=qks HB0
 obtain ⟨t,et⟩:∃t,t=cut s (ptF s).a (ptF s).e:=⟨_,rfl⟩
 obtain ⟨I,eI⟩:∃I,I=((ptF s).ok && !(ptF s).l):=⟨_,rfl⟩
 have htl:t.length≤268435800:=by rw [et,qao he];omega
 have hsb:=HB0
 have HTB:Hid (∀x∈t,x<256):=fun x hx=>by rw [et] at hx;exact hsb x (qdx hx)
 obtain ⟨R,eR⟩:∃R,R=rfO s:=⟨_,rfl⟩
 have HR:Hid (R=if I then (if t.length=0 then some rz else if t.length=32 then some ⟨1,t,[]⟩ else none) else if s.length<32 then some ⟨2,z32,s⟩ else none):=by
  show R=_
  rw [eR,et,eI]
  rfl
 rw [←et,←eI] at K
 rw [←eR]
 obtain ⟨a,b2,off,c,rfl,hv,hc,hnil,hsl⟩:=h
 have HVV:Hid (∀w',Below w.heap.size w w'→View w' a b2 off s.length (fun i=>((gd s i:Nat):Int))):=fun w' k=>hv.below k
 have HS:Hid ((a=none→c=0)∧(∀x∈s,x<256)∧s.length≤140737488351232):=⟨hnil,hsb,hsl⟩
 obtain ⟨n,en⟩:∃n,n=s.length:=⟨_,rfl⟩
 have HN:Hid (n=s.length):=en
 rw [←en] at K HR HVV hsl ⊢
 obtain ⟨m,em⟩:∃m,m=t.length:=⟨_,rfl⟩
 have HM:Hid (m=t.length):=em
 rw [←em] at K HR htl
 clear hv hnil hc et eI eR he hbd hsb en em
 cases I with
 | false =>
  have j1:decide ((n:Int)<32)=R.isSome:=by
   rw [HR.out,if_neg (by simp)]
   by_cases q:n<32
   ·rw [if_pos q,decide_eq_true (by omega)];rfl
   ·rw [if_neg q,decide_eq_false (by omega)];rfl
  have HF:Hid (∀q,R=some q→(⟨2,z32,s⟩:Rf)=q):=fun q hq=>by
   rw [HR.out,if_neg (by simp)] at hq
   split at hq
   ·exact Option.some.inj hq
   ·cases hq
  have HBD:Hid (∀a3 c3,Tryz.prog.built 107 [(0,.int .i64 2),(2,.slice a3 n c3)]=some (rcs ⟨2,z32,s⟩ (.slice a3 n c3)).toArray):=fun a3 c3=>qkt a3 n c3 s
  clear HR HTB HM
  go_enter Tryz.func122,Tryz.ntmps122
  go_wp2_with (first
   | (go_at_call 123;refine K.mono ?_;rintro e w3 ⟨u3,rfl,own3,b3⟩;have B3:=ch HK0.out.1 b3;have V3:=HVV.out _ (ch B3 (qaa w3 (.cells #[] 5)));have own0:=World.ownsRow_lit (base:=w3.heap.size) (e:=5) (size:=1) w3 #[] 0 (Nat.le_refl _) (by decide) rfl;have HX:Hid (Below w.heap.size w w3∧w3.heap[w.heap.size]?=some (.cells (rcs rz (.slice none 0 0)).toArray 107 (0,0))∧w.heap.size<w3.heap.size):=⟨B3,(b3.block _ (by simp)).trans HK0.out.2,by have:=b3.size;simp at this;omega⟩;clear own3 b3 B3 K)
   | (refine wpList_append_bytes (by rfl) (.tmp 14) (.tmp 15) (by rfl) w3.heap.size _ 0 _ (by rfl) own0 a b2 off n c _ (by rfl) V3 HS.out.1 (by omega) (by simp) ?_;intro v2 w2 own2 gr2 nn2;have own2:w2.ownsRow w3.heap.size 5 1 v2 n (bv s):=(by rw [←vals_bv,←HN.out];simpa using own2);have b2':Below w3.heap.size w3 w2:=(qaa w3 _).trans (grown_below gr2 own0 (Nat.le_refl _) (by simp));obtain ⟨a4,c4,rfl⟩:=own_slice own2;have g4:=(b2'.block w.heap.size HX.out.2.2).trans HX.out.2.1;have bd:=HBD.out a4 c4;have HZ:Hid (w2.ownsRow w3.heap.size 5 1 (.slice a4 n c4) n (bv s)∧Below w.heap.size w w2):=⟨own2,ch HX.out.1 b2'⟩;clear own2 gr2 nn2 own0 V3 b2')
   | refine wpList_bdL _ _ (by rfl) _ bd ?_
   | refine qa3 _ _ (by rfl) _ ⟨2,z32,s⟩ rz (.slice a4 n c4) (.slice none 0 0) qac qac (by rfl) g4 (by rfl) (by rfl) ?_)
  have hr3:=setRow_heap w2 w.heap.size _ (rcs ⟨2,z32,s⟩ (.slice a4 n c4)).toArray _ _ g4
  refine bodyPost_ret (qll rfl _ _ w.heap.size _ _ _ qac (qah hr3) rfl rfl) rfl ?_
  refine ⟨⟨2,z32,s⟩,.slice a4 n c4,rfl,⟨qac,qco,HS.out.2.1⟩,?_,below_setRow HZ.out.2 (Nat.le_refl _) _,HF.out⟩
  have:=qie HZ.out.1 (B':=w3.heap.size) HX.out.2.2 (Nat.le_refl _) (rcs ⟨2,z32,s⟩ (.slice a4 n c4)).toArray
  rw [HN.out] at this ⊢
  exact qda this HS.out.2.1 HS.out.2.2 (fun q hq=>by have:=(this.lt q hq).1;have:=HX.out.2.2;omega)
 | true =>
  by_cases h0:m=0
  ·have HF:Hid (R=some rz):=by show R=_;rw [HR.out,if_pos rfl,if_pos h0]
   subst h0
   clear HR HM
   go_enter Tryz.func122,Tryz.ntmps122
   go_wp2_with (first
    | (go_at_call 123;refine K.mono ?_;rintro e w3 ⟨u3,rfl,own3,b3⟩;obtain ⟨a3,c3,rfl⟩:=own_slice own3;have g3:=(b3.block w.heap.size (by simp)).trans HK0.out.2;have HX:Hid (Below w.heap.size w w3):=ch HK0.out.1 b3;clear own3 b3 K)
    | refine qcr (by rfl) ?_
    | refine qa3 _ _ (by rfl) _ rz rz (.slice none 0 0) (.slice none 0 0) qac qac (by rfl) g3 (by rfl) (by rfl) ?_)
   have hr3:=setRow_heap w3 w.heap.size _ (rcs rz (.slice none 0 0)).toArray _ _ g3
   refine bodyPost_ret (qll rfl _ _ w.heap.size _ _ _ qac (qah hr3) rfl rfl) rfl ?_
   refine ⟨rz,.slice none 0 0,by rw [HF.out];rfl,rz_w,qcs _ _,below_setRow HX.out (Nat.le_refl _) _,fun q hq=>?_⟩
   rw [HF.out] at hq
   exact Option.some.inj hq
  ·have i0:¬(m:Int)=0:=by omega
   have i0b:((m:Int) == 0)=false:=by simpa using i0
   obtain ⟨hh,ehh⟩:∃hh,hh=hcp t:=⟨_,rfl⟩
   have hhl:hh.length=32:=by rw [ehh];exact qwz t
   have HH:Hid (splice (bv z32) 0 (bv (t.take 32))=bv hh∧(∀x∈hh,x<256)∧(t.length=32→hh=t)):=⟨by rw [ehh];exact qoh t,by rw [ehh];exact qzd HTB.out,fun q=>by rw [ehh];exact qze q⟩
   have j1:((m:Int) == 32)=R.isSome:=by
    rw [HR.out,if_pos rfl,if_neg h0]
    by_cases q:m=32
    ·rw [if_pos q,q];rfl
    ·rw [if_neg q];simp;omega
   have HF:Hid (∀q,R=some q→(⟨1,hh,[]⟩:Rf)=q):=fun q hq=>by
    rw [HR.out,if_pos rfl,if_neg h0] at hq
    split at hq
    ·rename_i q32
     rw [HH.out.2.2 (by rw [←HM.out];exact q32)]
     exact Option.some.inj hq
    ·cases hq
   have bd:=qgr hh hhl
   obtain ⟨rb,erb⟩:∃rb,rb=R.isSome:=⟨_,rfl⟩
   rw [←erb] at j1 ⊢
   obtain ⟨cs,ecs⟩:∃cs,cs=bv (t.take 32):=⟨_,rfl⟩
   have HCS:Hid (cs.length=Nat.min m 32∧(∀v∈cs,v.oneCell'=true)∧cs=bv (t.take 32)):=⟨by rw [ecs,bv_len,List.length_take,Nat.min_comm,HM.out],by rw [ecs];exact qgn _,ecs⟩
   rw [←ecs] at HH
   clear HR ehh erb ecs
   go_enter Tryz.func122,Tryz.ntmps122
   go_wp2_with (first
    | (go_at_call 123;refine K.mono ?_;rintro e w3 ⟨u3,rfl,own3,b3⟩;rw [HM.out] at own3;obtain ⟨a5,g5,o5,c5,rfl,v5,l5,n5,m5,p5⟩:=qda (P:=fun q=>q<w3.heap.size) own3 HTB.out (by rw [←HM.out];omega) (fun q hq=>(own3.lt q hq).2);rw [←HM.out];have HX:Hid (Below w.heap.size w w3∧w3.heap[w.heap.size]?=some (.cells (rcs rz (.slice none 0 0)).toArray 107 (0,0))∧w.heap.size<w3.heap.size):=⟨ch HK0.out.1 b3,(b3.block _ (by simp)).trans HK0.out.2,(by have:=b3.size;simp at this;omega)⟩;have HPOS:Hid (∃ad,a5=some ad∧∀j v,cs[j]?=some v→(w3.alloc (.cells (bv z32).toArray 31)).cell? (ad.add j)=some v):=(by rw [HCS.out.2.2];exact qzf v5 (by rw [←HM.out];omega) (p5 (by rw [←HM.out];omega)) _);clear own3 b3 K v5 l5 n5 m5 p5)
    | (refine wpList_copy_splice (by rfl) (.tmp 25) (.tmp 26) 33 33 (by rfl) 5 Tryz.underlying33 info5size (some ⟨w3.heap.size,0,none⟩) a5 32 32 m c5 (by rfl) (by rfl) w3.heap.size 0 (bv z32) 31 (heap_alloc_new _ _) cs HCS.out.1 (fun _=>⟨rfl,HPOS.out⟩) (by rw [HCS.out.1,bv_len,qac,Nat.zero_add];exact Nat.min_le_right _ _) HCS.out.2.1 w3.heap.size w3 (qaa _ _) (Nat.le_refl _) ?_;intro w6 hg6 b6;have hg6:=hg6.out;rw [HH.out.1] at hg6;have rg:=qah hg6;have g6:=(b6.block w.heap.size HX.out.2.2).trans HX.out.2.1;have HY:Hid (Below w.heap.size w w6):=ch HX.out.1 b6;clear hg6 b6)
    | refine qaj _ (by rfl) _ _ hh hhl rg (by rfl) ?_
    | refine wpList_bdL _ _ (by rfl) _ bd ?_
    | refine qa3 _ _ (by rfl) _ ⟨1,hh,[]⟩ rz (.slice none 0 0) (.slice none 0 0) hhl qac (by rfl) g6 (by rfl) (by rfl) ?_)
   have hr3:=setRow_heap w6 w.heap.size _ (rcs ⟨1,hh,[]⟩ (.slice none 0 0)).toArray _ _ g6
   refine bodyPost_ret (qll rfl _ _ w.heap.size _ _ _ hhl (qah hr3) rfl rfl) rfl ?_
   exact ⟨⟨1,hh,[]⟩,.slice none 0 0,rfl,⟨hhl,HH.out.2.1,fun x hx=>by cases hx⟩,qcs _ _,below_setRow HY.out (Nat.le_refl _) _,HF.out⟩
open Go.RowKit
theorem qrm {w:World} {B e n:Nat} {a:Option Addr} {c:Nat} {xs:List Value} (h:w.ownsRow B e 1 (.slice a n c) n xs) (h0:0<n) :
 ∃g,a=some ⟨g,0,none⟩∧B≤g∧g<w.heap.size∧∀j v,xs[j]?=some v→w.cell? ⟨g,j,none⟩=some v:=by
 have hlt:=h.lt
 have hcs:=h
 rcases h.2 with ⟨e,hz⟩ | ⟨g,cap,cur,e,hB,hg,hc',hm,hsz,htk⟩
 ·omega
 ·injection e with e1 e2 e3
  subst e1
  refine ⟨g,rfl,(hlt g rfl).1,(hlt g rfl).2,fun j v hj=>?_⟩
  have:=hcs.cells (g:=g) rfl j _ hj
  rw [qa7] at this
  exact this
structure Lb (w2 wr:World) (pl:List (List Nat)) (i:Nat) (l:List Rf) (k:Nat→Value):Prop where
 len:l.length=i
 rng:wr.rangeAt w2.heap.size 0 (nc ⟨3,[],[],false,rz,l++List.replicate (16 - i) rz⟩ ⟨.slice none 0 0,.slice none 0 0,.slice none 0 0,k⟩)
 thr:wr.there w2.heap.size 0 582
 it:∀(j:Nat) (x:List Nat) (r:Rf),pl[j]?=some x→l[j]?=some r→rfO x=some r
 w:∀r∈l,r.W
 kv:∀(j:Nat) (r:Rf),l[j]?=some r→Vf (fun q=>w2.heap.size<q) wr (k j) r.b
 nil:∀j,i≤j→k j=.slice none 0 0
 below:Below w2.heap.size w2 wr
 hs:w2.heap.size<wr.heap.size
theorem Lb.W {w2 wr:World} {pl:List (List Nat)} {i:Nat} {l:List Rf} {k:Nat→Value} (h:Lb w2 wr pl i l k) (hi:i≤16) {V:List Nat} (hV:∀x∈V,x<256) (f:Bool):(⟨3,[],V,f,rz,l++List.replicate (16 - i) rz⟩:Nd).W :=
 ⟨by show (l++List.replicate (16 - i) rz).length=16;rw [List.length_append,List.length_replicate,h.len];omega,rz_w,fun r hr=>by
  rcases List.mem_append.1 hr with q | q
  ·exact h.w r q
  ·rw [List.eq_of_mem_replicate q];exact rz_w,fun x hx=>(by cases hx),hV⟩
theorem Lb.next {w2 wr w3 : World} {pl : List (List Nat)} {i : Nat} {l : List Rf} {k : Nat → Value} {x : List Nat} {r : Rf} {v : Value} (h : Lb w2 wr pl i l k) (hi : i < 16)
    (hx:pl[i]?=some x) (hr:rfO x=some r) (hW:r.W) (b3:Below wr.heap.size wr w3) (hv:Vf (fun q=>wr.heap.size≤q) w3 v r.b) :
    Lb w2 (w3.setCells w2.heap.size (38+i*34) (rcs r v)) pl (i+1) (l++[r]) (fun m=>if m=i then v else k m):=by
  have tt:=qbv (F:=fun q=>q=w2.heap.size) rfl (rcs r v) (38+i*34) w3
  have hs:=size_setCells w2.heap.size (rcs r v) (38+i*34) w3
  have s3:=b3.size
  have hg:=h.hs
  have hget:∀{j:Nat} {q:Rf},(l++[r])[j]?=some q→(j<i∧l[j]?=some q)∨(j=i∧q=r):=fun {j q} hj=>by
    by_cases e:j<i
    · left
      rw [List.getElem?_append_left (by rw [h.len];exact e)] at hj
      exact ⟨e,hj⟩
    · right
      have hj':=(List.getElem?_eq_some_iff.1 hj).1
      rw [List.length_append,h.len] at hj'
      have e2:j=i:=by simp at hj';omega
      subst e2
      rw [List.getElem?_append_right (by rw [h.len];omega),h.len,Nat.sub_self] at hj
      simp at hj
      exact ⟨rfl,hj.symm⟩
  refine ⟨by rw [List.length_append,h.len];rfl,?_,World.there_setCells (qbw h.thr (b3.block _ hg)) _ _ _,fun j y q hy hq=>?_,fun q hq=>?_,fun j q hq=>?_,fun j hj=>?_,?_,by rw [hs];omega⟩
  · have:=qq0 (h.W (by omega) (V:=[]) (by intro x hx;cases hx) false) (qbj h.rng (b3.block _ hg)) hi (r:=r) (v:=v) hW.1 (qbw h.thr (b3.block _ hg))
    have e:(l++List.replicate (16 - i) rz).set i r=(l++[r])++List.replicate (16 - (i+1)) rz:=by
      rw [List.set_append_right _ _ (by rw [h.len];omega),h.len,Nat.sub_self,show 16 - i=(16 - (i+1))+1 by omega,List.replicate_succ,List.set_cons_zero,List.append_assoc]
      rfl
    rw [←e]
    exact this
  · rcases hget hq with ⟨_,hq'⟩ | ⟨rfl,rfl⟩
    · exact h.it j y q hy hq'
    · rw [hx] at hy
      cases hy
      exact hr
  · rcases List.mem_append.1 hq with q' | q'
    · exact h.w q q'
    · rw [List.mem_singleton.1 q'];exact hW
  · rcases hget hq with ⟨hj,hq'⟩ | ⟨rfl,rfl⟩
    · simp only [if_neg (show ¬j=i by omega)]
      exact (h.kv j q hq').same (fun z hz hl=>by rw [tt.block z (by omega) (by omega),b3.block z hl])
    · simp only [if_true]
      exact (hv.mono (Q:=fun q=>w2.heap.size<q) (fun z hz _=>by omega)).same (fun z hz hl=>tt.block z hl (by omega))
  · simp only [if_neg (show ¬j=i by omega)]
    exact h.nil j (by omega)
  · exact h.below.trans ((b3.mono (by omega)).trans (tt.below (fun q e=>by omega) (by omega)))
theorem Lb.nin {w2 wr w':World} {pl:List (List Nat)} {i:Nat} {l:List Rf} {k:Nat→Value} (h:Lb w2 wr pl i l k) (hi:i≤16) {V:List Nat} {f:Bool} {v:Value} (hv:Vb w' v V) (hk:∀q,w2.heap.size<q→q<wr.heap.size→w'.heap[q]?=wr.heap[q]?) :
 Nin w' ⟨3,[],V,f,rz,l++List.replicate (16 - i) rz⟩ ⟨.slice none 0 0,v,.slice none 0 0,k⟩:=by
 have hV:∀x∈V,x<256:=by
  obtain ⟨_,_,_,_,_,q,_⟩:=hv
  exact (vw_ok q).2
 refine ⟨h.W hi hV f,qc0 _,hv,qc0 _,fun {j r} hr=>?_⟩
 have hr:(l++List.replicate (16 - i) rz)[j]?=some r:=hr
 by_cases e:j<i
 ·rw [List.getElem?_append_left (by rw [h.len];exact e)] at hr
  exact ((h.kv j r hr).same (fun z hz hl=>hk z hz hl)).vb
 ·rw [List.getElem?_append_right (by rw [h.len];omega)] at hr
  rw [List.eq_of_mem_replicate (List.mem_of_getElem? hr)]
  show Vb w' (k j) []
  rw [h.nil j (by omega)]
  exact qc0 _
theorem qt0 {w:World} {g:Nat} {l:List Rf} {k:Nat→Value} (h:w.rangeAt g 0 (nc ⟨3,[],[],false,rz,l⟩ ⟨.slice none 0 0,.slice none 0 0,.slice none 0 0,k⟩)) (ht:w.there g 0 582) (V:List Nat) (f:Bool) (v:Value) :
 (w.setCells g 2 [v,.bool f]).rangeAt g 0 (nc ⟨3,[],V,f,rz,l⟩ ⟨.slice none 0 0,v,.slice none 0 0,k⟩):=by
 have e:∀V f v,nc ⟨3,[],V,f,rz,l⟩ ⟨.slice none 0 0,v,.slice none 0 0,k⟩=[Value.int .i64 3,.slice none 0 0]++([v,.bool f]++(rcs rz (.slice none 0 0)++kcs l k)):=fun _ _ _=>rfl
 rw [e] at h ⊢
 have h2:=qcn (qcn h)
 refine qpg (World.rangeAt_setCells_apart (qek h) g 2 _ (Or.inr (Or.inl (Nat.le_refl _)))) (qpg (World.rangeAt_setCells_same _ _ _ _ (qfv ht (by simp))) (World.rangeAt_setCells_apart h2 g 2 _ (Or.inr (Or.inr (by simp)))))
theorem qzg {xs:List (List Nat)}:∀{l:List Rf},l.length=xs.length→(∀(i:Nat) (x:List Nat) (r:Rf),xs[i]?=some x→l[i]?=some r→rfO x=some r)→rfs xs=some l:=by
 induction xs with
 | nil=>intro l h _;rw [List.eq_nil_of_length_eq_zero h];rfl
 | cons a t ih =>
  intro l h k
  cases l with
  | nil=>simp at h
  | cons r l =>
   rw [rfs,k 0 a r rfl rfl,ih (by simpa using h) (fun i x q hx hq=>k (i+1) x q (by simpa using hx) (by simpa using hq))]
theorem qt1 {xs:List (List Nat)} {i:Nat} {x:List Nat} (h:xs[i]?=some x) (hx:rfO x=none):rfs xs=none:=by
 induction xs generalizing i with
 | nil=>simp at h
 | cons a t ih =>
  rw [rfs]
  cases i with
  | zero=>simp at h;subst h;rw [hx]
  | succ i =>
   cases ha:rfO a with
   | none=>rfl
   | some r=>rw [ih (by simpa using h)]
open Go.RowKit
structure Ng (P:Nat→Prop) (w:World) (n:Nd) (u:Nv):Prop where
 W:n.W
 p:Vf P w u.p n.path
 v:Vf P w u.v n.val
 x:Vf P w u.x n.next.b
 k:∀{i:Nat} {r:Rf},n.kids[i]?=some r→Vf P w (u.k i) r.b
theorem Ng.nin {P:Nat→Prop} {w:World} {n:Nd} {u:Nv} (h:Ng P w n u):Nin w n u:=⟨h.W,h.p.vb,h.v.vb,h.x.vb,fun hr=>(h.k hr).vb⟩
theorem Ng.same {P:Nat→Prop} {w w':World} {n:Nd} {u:Nv} (h:Ng P w n u) (k:∀i,P i→i<w.heap.size→w'.heap[i]?=w.heap[i]?):Ng P w' n u:=⟨h.W,h.p.same k,h.v.same k,h.x.same k,fun hr=>(h.k hr).same k⟩
theorem qlt (P:Nat→Prop) (w:World):Ng P w nz uz:=⟨nz_w,qcs _ _,qcs _ _,qcs _ _,fun hr=>by rw [qct (List.mem_of_getElem? hr)];exact qcs _ _⟩
def qlu (s:List Nat) (w:World) (e:Ending) (w':World):Prop :=
 ∃n u,e=.returned (.tuple #[.agg (nc n u).toArray,.bool (lzN s).isSome])∧Ng (fun q=>w.heap.size≤q) w' n u∧Below w.heap.size w w'∧∀q,lzN s=some q→n=q
theorem qoi:Tryz.prog.built 110 [(0,.int .i64 3)]=some (nc ⟨3,[],[],false,rz,kz⟩ uz).toArray:=by kernel_rfl
theorem n3_w:(⟨3,[],[],false,rz,kz⟩:Nd).W:=⟨qcz,rz_w,qri,fun x hx=>(by cases hx),fun x hx=>(by cases hx)⟩
structure Pcs (w w':World) (gp:Nat) (cap:Nat) (u:Value) (ps:List (Nat × Nat)) (pl:List (List Nat)):Prop where
 form:u=.slice (some ⟨gp,0,none⟩) ps.length cap
 cell:∀(j:Nat) (x:List Nat) (w2:World),Below w'.heap.size w' w2→pl[j]?=some x→∃v,w2.cell? ⟨gp,j,none⟩=some v∧Vb w2 v x∧(ptF x).e≤x.length∧x.length≤140737488351232
theorem qu4 {w w':World} {u:Value} {a:Option Addr} {b off c:Nat} {s:List Nat} {ps:List (Nat × Nat)} (hv:Vw w a b off s) (hc:s.length≤c) (hnil:a=none→c=0) (hl:s.length≤140737488351232) (hp:prts s=some ps)
 (ho:w'.ownsRow w.heap.size 33 1 u ps.length (pvS a c ps)) (hb:Below w.heap.size w w') (h0:0<ps.length):∃gp cap,Pcs w w' gp cap u ps (pcs s ps):=by
 obtain ⟨a2,c2,rfl⟩:=own_slice ho
 obtain ⟨g,rfl,h1,h2,h3⟩:=qrm ho h0
 refine ⟨g,c2,rfl,fun j x w2 b2 hx=>?_⟩
 unfold pcs at hx
 rw [List.getElem?_map] at hx
 cases hj:ps[j]? with
 | none=>rw [hj] at hx;cases hx
 | some p =>
  rw [hj] at hx
  cases hx
  obtain ⟨k1,k2,k3,k4,k5⟩:=qrh hp p (List.mem_of_getElem? hj)
  have e:(cut s p.1 p.2).length=p.2 - p.1:=qao k3
  obtain ⟨q1,q2⟩:=qm1 hv hc hnil hl (Nat.le_of_lt k2) k3
  refine ⟨.slice (behind a c p.1) (p.2 - p.1) (c - p.1),?_,⟨_,b,off+p.1,c - p.1,by rw [e],q1.below (ch hb b2),by rw [e];omega,q2,by rw [e];omega⟩,by rw [k5,e];exact Nat.le_refl _,by rw [e];omega⟩
  have:=h3 j (.slice (behind a c p.1) (p.2 - p.1) (c - p.1)) (by unfold pvS;rw [List.getElem?_map,hj];rfl)
  rw [b2.cell (p:=⟨g,j,none⟩) h2]
  exact this
set_option maxRecDepth 100000 in
set_option maxHeartbeats 3200000 in
theorem qhq {w:World} {v:Value} {s:List Nat} (h:Vb w v s) (hps:lzN s=none) (hp:∀ps,prts s=some ps→¬ps.length=17∧¬ps.length=2):Calls Tryz.prog 100 #[v] w (qlu s w):=by
 have hz:=zv29
 obtain ⟨a,b2,off,c,rfl,hv,hc,hnil,hsl⟩:=h
 have K:=qge (w:=w.alloc (.cells (nc nz uz).toArray 110)) (hv.below (qaa _ _)) hc hnil hsl
 obtain ⟨R,eR⟩:∃R,R=prts s:=⟨_,rfl⟩
 rw [←eR] at K hp
 have HL:Hid (lzN s=none):=hps
 have HK0:Hid (Below w.heap.size w (w.alloc (.cells (nc nz uz).toArray 110))∧(w.alloc (.cells (nc nz uz).toArray 110)).heap[w.heap.size]?=some (.cells (nc nz uz).toArray 110 (0,0))):=⟨qaa _ _,heap_alloc_new _ _⟩
 have one:=(qa8 w).one
 obtain ⟨n,en⟩:∃n,n=s.length:=⟨_,rfl⟩
 rw [←en] at K ⊢
 clear hv hc hnil hsl eR hps en
 obtain ⟨zz,ezz⟩:∃z,z=nz:=⟨_,rfl⟩
 obtain ⟨uu,euu⟩:∃z,z=uz:=⟨_,rfl⟩
 have HZ:Hid (zz=nz∧uu=uz):=⟨ezz,euu⟩
 have zW:zz.W:=by rw [ezz];exact nz_w
 rw [←ezz,←euu] at K HK0 one hz
 have bdz:∀w,(Instr.build 110 #[]).run Tryz.prog w=.ok (.agg (nc zz uu).toArray) w:=by rw [ezz,euu];exact fun w=>run_build w _ _ _ (by kernel_rfl)
 clear ezz euu
 cases R with
 | none =>
  go_enter Tryz.func100,Tryz.ntmps100
  go_wp2_with (first
   | (go_at_call 121;refine K.mono ?_;rintro e w3 ⟨u3,rfl,own3,b3⟩;have g3:=(b3.block w.heap.size (by simp)).trans HK0.out.2;have HX:Hid (Below w.heap.size w w3):=ch HK0.out.1 b3;clear own3 b3 K)
   | refine qaf _ _ (by rfl) w.heap.size zz zz uu uu zW zW one g3 (by rfl) (by rfl) ?_)
  have hr3:=setRow_heap w3 w.heap.size _ (nc zz uu).toArray _ _ g3
  refine bodyPost_ret (qch rfl _ _ w.heap.size _ _ _ zW (qah hr3) rfl rfl) rfl ?_
  refine ⟨zz,uu,by rw [HL.out];rfl,by rw [HZ.out.1,HZ.out.2];exact qlt _ _,below_setRow HX.out (Nat.le_refl _) _,fun q hq=>?_⟩
  rw [HL.out] at hq
  cases hq
 | some ps =>
  obtain ⟨p1,p2⟩:=hp ps rfl
  obtain ⟨m,em⟩:∃m,m=ps.length:=⟨_,rfl⟩
  simp only [Option.getD_some,Option.isSome_some] at K
  rw [←em] at p1 p2 K
  have i1:¬(m:Int)=17:=by omega
  have i1b:((m:Int) == 17)=false:=by simpa using i1
  have i2:¬(m:Int)=2:=by omega
  have i2b:((m:Int) == 2)=false:=by simpa using i2
  have i2c:((m:Int) != 2)=true:=by simpa using i2
  clear em hp p1 p2
  go_enter Tryz.func100,Tryz.ntmps100
  go_wp2_with (first
   | (go_at_call 121;refine K.mono ?_;rintro e w3 ⟨u3,rfl,own3,b3⟩;obtain ⟨a3,c3,rfl⟩:=own_slice own3;have g3:=(b3.block w.heap.size (by simp)).trans HK0.out.2;have HX:Hid (Below w.heap.size w w3):=ch HK0.out.1 b3;clear own3 b3 K)
   | refine qaf _ _ (by rfl) w.heap.size zz zz uu uu zW zW one g3 (by rfl) (by rfl) ?_)
  have hr3:=setRow_heap w3 w.heap.size _ (nc zz uu).toArray _ _ g3
  refine bodyPost_ret (qch rfl _ _ w.heap.size _ _ _ zW (qah hr3) rfl rfl) rfl ?_
  refine ⟨zz,uu,by rw [HL.out];rfl,by rw [HZ.out.1,HZ.out.2];exact qlt _ _,below_setRow HX.out (Nat.le_refl _) _,fun q hq=>?_⟩
  rw [HL.out] at hq
  cases hq
end Go.Proofs.YtemcneddbhgadaaGreatDoor
