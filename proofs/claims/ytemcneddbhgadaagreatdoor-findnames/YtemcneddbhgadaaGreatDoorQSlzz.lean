import Derived.Test.YtemcneddbhgadaaGreatDoorGuzz
import Derived.Test.YtemcneddbhgadaaGreatDoorQGenzz
import Derived.Deep.RegionHeld3
import Derived.Deep.MidRow
import Derived.Test.YtemcneddbhgadaaGreatDoorQRSumzz
namespace Go.Proofs.YtemcneddbhgadaaGreatDoor
structure Rf where
 k:Int
 h:List Nat
 b:List Nat
deriving DecidableEq
structure Nd where
 k:Int
 path:List Nat
 val:List Nat
 full:Bool
 next:Rf
 kids:List Rf
deriving DecidableEq
def z32:List Nat:=List.replicate 32 0
def rz:Rf:=⟨0,z32,[]⟩
def kz:List Rf:=List.replicate 16 rz
def nz:Nd:=⟨0,[],[],false,rz,kz⟩
def Rf.W (r:Rf):Prop:=r.h.length=32∧(∀x∈r.h,x<256)∧∀x∈r.b,x<256
structure Nd.W (n:Nd):Prop where
 kids:n.kids.length=16
 next:n.next.W
 kid:∀r∈n.kids,r.W
 path:∀x∈n.path,x<256
 val:∀x∈n.val,x<256
theorem qac:z32.length=32:=by simp [z32]
theorem qco:∀x∈z32,x<256:=by decide
theorem rz_w:rz.W:=⟨qac,qco,fun x hx=>by cases hx⟩
theorem qcz:kz.length=16:=by simp [kz]
theorem qct {r:Rf} (h:r∈kz):r=rz:=List.eq_of_mem_replicate h
def isV (v:List Nat):Bool:=decide (0<v.length) && decide (v.length≤256)
def isRf (K:List Nat→Int) (r:Rf):Bool :=
 if r.k=0 then decide (r.h=z32) && decide (r.b.length=0) else if r.k=1 then decide (r.b.length=0) else if r.k=2 then decide (r.h=z32) && decide (K r.b≠0) else false
def isNo (r:Rf):Bool:=decide (r.k=0) && (decide (r.h=z32) && decide (r.b.length=0))
def isNx (K:List Nat→Int) (r:Rf):Bool :=
 if r.k=2 then decide (r.h=z32) && decide (K r.b=3) else decide (r.k=1) && decide (r.b.length=0)
def qat (l:List Rf):Nat:=(l.filter (fun r=>decide (r.k≠0))).length
def isFd (K:List Nat→Int) (n:Nd):Bool :=
 n.kids.all (isRf K) && (if n.full then decide (1≤qat n.kids) && isV n.val else decide (2≤qat n.kids) && decide (n.val.length=0))
def qb5 (n:Nd):Bool:=n.kids.all isNo
def ends (n:Nd):Bool:=isV n.val && isNo n.next
def leads (K:List Nat→Int) (n:Nd):Bool:=decide (0<n.path.length) && (decide (n.val.length=0) && isNx K n.next)
def mayN (K:List Nat→Int) (n:Nd):Bool :=
 if n.k=1 then ends n && (decide (IsP n.path) && (!n.full && qb5 n))
 else if n.k=2 then leads K n && (decide (IsP n.path) && (!n.full && qb5 n))
 else if n.k=3 then decide (n.path.length=0) && (isNo n.next && isFd K n)
 else false
def qvk (s:List Nat):It:=match dec s with | .ok x=>x | .bad _ _=>.mk false [] []
def rIt (r:Rf):It:=if r.k=1 then .mk false r.h [] else if r.k=2 then qvk r.b else .mk false [] []
def nIt (n:Nd):It :=
 if n.k=1 then .mk true [] [.mk false (pkR true n.path) [],.mk false n.val []]
 else if n.k=2 then .mk true [] [.mk false (pkR false n.path) [],rIt n.next]
 else .mk true [] (n.kids.map rIt++[.mk false n.val []])
def encN (n:Nd):List Nat:=form (nIt n)
def itR (x:It):Option Rf:=if x.l then some ⟨2,z32,enc x⟩ else if x.b.length=0 then some rz else if x.b.length=32 then some ⟨1,x.b,[]⟩ else none
def itP (a b:It):Option Nd :=
 if upE a.b=0 then
  if upI a.b then (if b.l then none else some ⟨1,upR a.b,b.b,false,rz,kz⟩)
  else match itR b with
   | none=>none
   | some r=>some ⟨2,upR a.b,[],false,r,kz⟩
 else none
def itRs:List It→Option (List Rf)
 | []=>some []
 | x::xs=>match itR x with
  | none=>none
  | some r=>match itRs xs with
   | none=>none
   | some l=>some (r::l)
def itB (xs:List It) (v:It):Option Nd :=
 match itRs xs with
 | none=>none
 | some l=>if v.l then none else some ⟨3,[],v.b,decide (0<v.b.length),rz,l⟩
def itE:It:=.mk false [] []
def itN (x:It):Option Nd :=
 if x.xs.length=2 then itP (x.xs.getD 0 itE) (x.xs.getD 1 itE)
 else if x.xs.length=17 then itB (x.xs.take 16) (x.xs.getD 16 itE)
 else none
def decN (K:List Nat→Int) (s:List Nat):Option Nd :=
 match dec s with
 | .bad _ _=>none
 | .ok x=>match itN x with
  | none=>none
  | some n=>if mayN K n then some n else none
def kd:Nat→List Nat→Int
 | 0,_=>0
 | f+1,s=>if 32≤s.length then 0 else match decN (kd f) s with
  | none=>0
  | some n=>n.k
def KD:List Nat→Int:=kd 32
theorem qnm {K K':List Nat→Int} {r:Rf} (h:K r.b=K' r.b):isRf K r=isRf K' r:=by unfold isRf;rw [h]
theorem qnn {K K':List Nat→Int} {r:Rf} (h:K r.b=K' r.b):isNx K r=isNx K' r:=by unfold isNx;rw [h]
theorem qo2 {α:Type} {p q:α→Bool} {l:List α} (h:∀x∈l,p x=q x):l.all p=l.all q:=by
 induction l with
 | nil=>rfl
 | cons a t ih=>rw [List.all_cons,List.all_cons,h a (by simp),ih (fun x hx=>h x (by simp [hx]))]
theorem qno {K K':List Nat→Int} {n:Nd} (h1:K n.next.b=K' n.next.b) (h2:∀r∈n.kids,K r.b=K' r.b):mayN K n=mayN K' n:=by
 unfold mayN leads isFd
 rw [qnn h1,qo2 (fun r hr=>qnm (h2 r hr))]
theorem qmc {s:List Nat} {x:It} (hs:∀x∈s,x<256) (h:dec s=.ok x):may x=true∧dp x≤80∧form x=s∧s.length≤1048576:=by
 unfold dec at h
 split at h
 ·cases h
 ·rename_i hl
  cases hr:rd s 80 0 s.length with
  | bad p e=>rw [hr] at h;cases h
  | ok y e =>
   rw [hr] at h
   dsimp only at h
   split at h
   ·cases h
   ·rename_i he
    cases h
    obtain ⟨h1,h2,h3,h4,h5⟩:=qxl hs 80 0 s.length x e (Nat.le_refl _) (Nat.zero_le _) hr
    have:e=s.length:=by omega
    rw [this,qvc] at h5
    exact ⟨h3,h4,h5,by omega⟩
theorem qo3 {x:It} (hm:may x=true) (hd:dp x≤80) (hl:(form x).length≤1048576):dec (form x)=.ok x:=by
 unfold dec
 rw [if_neg (by omega),qvd x (form x) 80 0 _ hm hd hl (At.self _) (by omega) (Nat.le_refl _)]
 dsimp only
 rw [if_neg (by omega)]
theorem qo4 {x:It} {xs:List It} (h:x∈xs):(form x).length≤(qag xs).length:=by
 induction xs with
 | nil=>cases h
 | cons a t ih =>
  rw [qak,List.length_append]
  rcases List.mem_cons.1 h with rfl | h
  ·omega
  ·have:=ih h
   omega
theorem qfe {l:Bool} {b:List Nat} {xs:List It} {x:It} (hl:l=true) (h:x∈xs):(form x).length<(form (.mk l b xs)).length:=by
 subst hl
 rw [qaq,if_pos rfl,List.length_append]
 have:=qo4 h
 have:=qf1 192 (qag xs).length
 omega
theorem qvl:∀x:It,dp x≤(form x).length:=by
 refine It.ind (fun l b xs ih=>?_)
 rw [qgu,qaq]
 cases l with
 | false=>simp
 | true =>
  rw [if_pos rfl,if_pos rfl,List.length_append]
  have h1:=qf1 192 (qag xs).length
  have:dpL xs≤(qag xs).length:=by
   clear h1
   induction xs with
   | nil=>rw [qgy];omega
   | cons a t iht =>
    rw [qe9,qak,List.length_append]
    have h2:=ih a (by simp)
    have h3:=iht (fun x hx=>ih x (by simp [hx]))
    omega
  omega
theorem qo5 {l:Bool} {b:List Nat} {xs:List It} {x:It} (hl:l=true) (h:x∈xs) (hm:may (.mk l b xs)=true):may x=true:=by
 subst hl
 rw [qck] at hm
 simp at hm
 exact (qcu xs).1 hm.2 x h
theorem qxs {l:Bool} {b:List Nat} {xs:List It} {x:It} (hl:l=true) (h:x∈xs):dp x<dp (.mk l b xs):=by
 subst hl
 rw [qgu,if_pos rfl]
 have:=qgz h
 omega
theorem qo6 {l:Bool} {b:List Nat} {xs:List It} {x:It} (hl:l=true) (h:x∈xs) (hb:∀y∈form (.mk l b xs),y<256):∀y∈form x,y<256:=by
 subst hl
 rw [qaq,if_pos rfl] at hb
 intro y hy
 refine hb y (List.mem_append.2 (Or.inr ?_))
 clear hb
 induction xs with
 | nil=>cases h
 | cons a t ih =>
  rw [qak]
  rcases List.mem_cons.1 h with rfl | h
  ·exact List.mem_append.2 (Or.inl hy)
  ·exact List.mem_append.2 (Or.inr (ih h))
theorem qff {b:List Nat} (h:∀y∈form (.mk false b []),y<256):∀y∈b,y<256:=by
 rw [qaq] at h
 simp only [Bool.false_eq_true,if_false] at h
 split at h
 ·exact h
 ·exact fun y hy=>h y (List.mem_append.2 (Or.inr hy))
theorem qhy {x:It} (hm:may x=true) (h:x.l=false):x=.mk false x.b []:=by
 cases x with
 | mk l b xs =>
  have:=(qdy hm).2 h
  simp only [It.l,It.xs] at h this
  subst h this
  rfl
theorem qjy {x:It} (hm:may x=true) (h:x.l=true):x=.mk true [] x.xs:=by
 cases x with
 | mk l b xs =>
  have:=(qdy hm).1 h
  simp only [It.l,It.b] at h this
  subst h this
  rfl
theorem qo7 {x:It} (hm:may x=true) (hd:dp x≤80) (hl:(form x).length≤1048576):encE x=0∧enc x=form x:=by
 have h:encE x=0:=by
  unfold encE
  rw [if_neg (by omega),if_neg (by rw [hm];simp),if_neg (by omega)]
 exact ⟨h,by unfold enc;rw [if_pos h]⟩
theorem qmd {x:It} {r:Rf} (hm:may x=true) (hd:dp x≤80) (hl:(form x).length≤1048576) (hb:∀y∈form x,y<256) (h:itR x=some r):r.W∧rIt r=x∧r.b.length≤(form x).length∧(r.b=[]∨r.b=form x):=by
 have he:enc x=form x:=(qo7 hm hd hl).2
 unfold itR at h
 split at h
 ·rename_i hx
  cases h
  rw [he]
  refine ⟨⟨qac,qco,hb⟩,?_,Nat.le_refl _,Or.inr rfl⟩
  unfold rIt qvk
  rw [if_neg (show ¬(2:Int)=1 by decide),if_pos rfl,qo3 hm hd hl]
 ·rename_i hx
  have hx:x.l=false:=by simpa using hx
  have hs:=qhy hm hx
  split at h
  ·rename_i h0
   cases h
   refine ⟨rz_w,?_,by simp [rz],Or.inl rfl⟩
   rw [hs,List.eq_nil_of_length_eq_zero h0]
   rfl
  ·split at h
   ·rename_i h0
    cases h
    refine ⟨⟨h0,?_,fun x hx=>by cases hx⟩,?_,by simp,Or.inl rfl⟩
    ·rw [hs] at hb
     exact qff hb
    ·unfold rIt
     rw [if_pos rfl]
     exact hs.symm
   ·cases h
theorem qvm {xs:List It}:∀{l:List Rf},itRs xs=some l→l.length=xs.length∧∀(i:Nat) (x:It),xs[i]?=some x→∃r,l[i]?=some r∧itR x=some r:=by
 induction xs with
 | nil=>intro l h;rw [itRs] at h;cases h;exact ⟨rfl,fun i x hx=>by simp at hx⟩
 | cons a t ih =>
  intro l h
  rw [itRs] at h
  cases ha:itR a with
  | none=>rw [ha] at h;cases h
  | some r =>
   rw [ha] at h
   cases ht:itRs t with
   | none=>rw [ht] at h;cases h
   | some l' =>
    rw [ht] at h
    cases h
    obtain ⟨h1,h2⟩:=ih ht
    refine ⟨by simp [h1],fun i x hx=>?_⟩
    cases i with
    | zero=>simp at hx;subst hx;exact ⟨r,by simp,ha⟩
    | succ i=>simpa using h2 i x (by simpa using hx)
theorem qiv {l:List Rf} {f:Rf→It} (h:∀r∈l,itR (f r)=some r):itRs (l.map f)=some l:=by
 induction l with
 | nil=>rfl
 | cons a t ih =>
  rw [List.map_cons,itRs,h a (by simp),ih (fun r hr=>h r (by simp [hr]))]
theorem qo8 {xs:List It} {l:List Rf} (h:itRs xs=some l) (hx:∀x∈xs,∀r,itR x=some r→rIt r=x):l.map rIt=xs:=by
 induction xs generalizing l with
 | nil=>rw [itRs] at h;cases h;rfl
 | cons a t ih =>
  rw [itRs] at h
  cases ha:itR a with
  | none=>rw [ha] at h;cases h
  | some r =>
   rw [ha] at h
   cases ht:itRs t with
   | none=>rw [ht] at h;cases h
   | some l' =>
    rw [ht] at h
    cases h
    rw [List.map_cons,hx a (by simp) r ha,ih ht (fun x hx'=>hx x (by simp [hx']))]
theorem qxt {xs:List It} (h:xs.length=2):xs=[xs.getD 0 itE,xs.getD 1 itE]:=by
 match xs,h with
 | [a,b],_=>rfl
theorem qvn {xs:List It} (h:xs.length=17):xs=xs.take 16++[xs.getD 16 itE]:=by
 have h1:xs.drop 16=[xs.getD 16 itE]:=by
  apply List.ext_getElem
  ·simp [h]
  ·intro i h1 h2
   have:i=0:=by simp at h2;omega
   subst this
   rw [List.getElem_drop,List.getElem_singleton,List.getD_eq_getElem?_getD,List.getElem?_eq_getElem (by omega)]
   rfl
 have:=List.take_append_drop 16 xs
 rw [h1] at this
 exact this.symm
theorem qo9 {x:It} {n:Nd} (hm:may x=true) (hd:dp x≤80) (hl:(form x).length≤1048576) (hb:∀y∈form x,y<256) (h:itN x=some n) :
 n.W∧nIt n=x∧n.next.b.length<(form x).length∧∀r∈n.kids,r.b.length<(form x).length:=by
 have hx:x.l=true:=by
  cases q:x.l with
  | true=>rfl
  | false =>
   have:=(qdy hm).2 q
   unfold itN at h
   rw [this] at h
   simp at h
 have hlx:=qjy hm hx
 obtain ⟨xs,exs⟩:∃xs,xs=x.xs:=⟨_,rfl⟩
 rw [←exs] at hlx
 have sub:∀y∈xs,may y=true∧dp y≤80∧(form y).length≤1048576∧(∀z∈form y,z<256)∧(form y).length<(form x).length:=fun y hy=>by
  rw [hlx] at hm hd hl hb ⊢
  have h1:=qxs (b:=[]) rfl hy
  have h2:=qfe (b:=[]) rfl hy
  exact ⟨qo5 rfl hy hm,by omega,by omega,qo6 rfl hy hb,h2⟩
 have hp:=qeh x
 unfold itN at h
 rw [←exs] at h
 split at h
 ·rename_i h2
  have e2:=qxt h2
  obtain ⟨a,ea⟩:∃a,a=xs.getD 0 itE:=⟨_,rfl⟩
  obtain ⟨b,eb⟩:∃b,b=xs.getD 1 itE:=⟨_,rfl⟩
  rw [←ea,←eb] at e2 h
  obtain ⟨a1,a2,a3,a4,a5⟩:=sub a (by rw [e2];simp)
  obtain ⟨b1,b2,b3,b4,b5⟩:=sub b (by rw [e2];simp)
  unfold itP at h
  split at h
  ·rename_i hu
   have hF:IsF a.b:=by
    unfold upE at hu
    by_cases q:IsF a.b
    ·exact q
    ·rw [if_neg q] at hu;omega
   have hal:a.l=false:=by
    cases q:a.l with
    | false=>rfl
    | true=>have:=(qdy a1).1 q;rw [this] at hF;exact absurd hF.1 (by simp)
   have ha:=qhy a1 hal
   have hab:∀y∈a.b,y<256:=by rw [ha] at a4;exact qff a4
   obtain ⟨p1,p2⟩:=qzx hab hF
   have eR:upR a.b=upL a.b:=by unfold upR;rw [if_pos hF]
   have eI:upI a.b=lf a.b:=by unfold upI;rw [if_pos hF]
   have pW:∀y∈upR a.b,y<256:=(qul hab).1
   have pk:∀leaf,leaf=lf a.b→pkR leaf (upR a.b)=a.b:=fun leaf e=>by
    unfold pkR
    rw [eR,if_pos p1,e,p2]
   split at h
   ·rename_i hi
    split at h
    ·cases h
    ·rename_i hbl
     have hbl:b.l=false:=by simpa using hbl
     cases h
     refine ⟨⟨qcz,rz_w,fun r hr=>(qct hr) ▸ rz_w,pW,?_⟩,?_,by simpa [rz] using hp,fun r hr=>by rw [qct hr];simpa [rz] using hp⟩
     ·have:=qhy b1 hbl
      rw [this] at b4
      exact qff b4
     ·unfold nIt
      rw [if_pos rfl,pk true (by rw [←eI,hi]),←ha,←qhy b1 hbl,←e2,←hlx]
   ·rename_i hi
    have hi:upI a.b=false:=by simpa using hi
    cases hr:itR b with
    | none=>rw [hr] at h;cases h
    | some r =>
     rw [hr] at h
     cases h
     obtain ⟨r1,r2,r3,-⟩:=qmd b1 b2 b3 b4 hr
     refine ⟨⟨qcz,r1,fun r hr=>(qct hr) ▸ rz_w,pW,fun x hx=>by cases hx⟩,?_,by show r.b.length<_;omega,fun r hr=>by rw [qct hr];simpa [rz] using hp⟩
     unfold nIt
     rw [if_neg (show ¬(2:Int)=1 by decide),if_pos rfl,pk false (by rw [←eI,hi]),←ha,r2,←e2,←hlx]
  ·cases h
 ·split at h
  ·rename_i h17
   have e17:=qvn h17
   obtain ⟨v,ev⟩:∃v,v=xs.getD 16 itE:=⟨_,rfl⟩
   obtain ⟨ys,ey⟩:∃ys,ys=xs.take 16:=⟨_,rfl⟩
   have hyl:ys.length=16:=by rw [ey];simp [h17]
   rw [←ev,←ey] at e17 h
   unfold itB at h
   cases hr:itRs ys with
   | none=>rw [hr] at h;cases h
   | some l =>
    rw [hr] at h
    dsimp only at h
    split at h
    ·cases h
    ·rename_i hvl
     have hvl:v.l=false:=by simpa using hvl
     cases h
     obtain ⟨v1,v2,v3,v4,v5⟩:=sub v (by rw [e17];simp)
     have hv:=qhy v1 hvl
     obtain ⟨k1,k2⟩:=qvm hr
     have kk:∀r∈l,∃y∈ys,itR y=some r:=fun r hr'=>by
      obtain ⟨i,hi,rfl⟩:=List.getElem_of_mem hr'
      obtain ⟨r',h1,h2⟩:=k2 i _ (List.getElem?_eq_getElem (by omega))
      rw [List.getElem?_eq_getElem hi] at h1
      cases h1
      exact ⟨_,List.getElem_mem (by omega),h2⟩
     refine ⟨⟨by show l.length=16;omega,rz_w,fun r hr'=>?_,(fun x hx=>by cases hx),?_⟩,?_,by simpa [rz] using hp,fun r hr'=>?_⟩
     ·obtain ⟨y,hy,e⟩:=kk r hr'
      obtain ⟨y1,y2,y3,y4,y5⟩:=sub y (by rw [e17];simp [hy])
      exact (qmd y1 y2 y3 y4 e).1
     ·rw [hv] at v4
      exact qff v4
     ·unfold nIt
      rw [if_neg (show ¬(3:Int)=1 by decide),if_neg (show ¬(3:Int)=2 by decide)]
      show It.mk true [] (l.map rIt++[.mk false v.b []])=x
      rw [qo8 hr (fun y hy r e=>by
       obtain ⟨y1,y2,y3,y4,y5⟩:=sub y (by rw [e17];simp [hy])
       exact (qmd y1 y2 y3 y4 e).2.1),←hv,←e17,←hlx]
     ·obtain ⟨y,hy,e⟩:=kk r hr'
      obtain ⟨y1,y2,y3,y4,y5⟩:=sub y (by rw [e17];simp [hy])
      have:=(qmd y1 y2 y3 y4 e).2.2.1
      omega
  ·cases h
theorem qhz {K K':List Nat→Int} {s:List Nat} (hs:∀x∈s,x<256) (h:∀t,t.length<s.length→(∀x∈t,x<256)→K t=K' t):decN K s=decN K' s:=by
 unfold decN
 cases hd:dec s with
 | bad p e=>rfl
 | ok x =>
  dsimp only
  cases hn:itN x with
  | none=>rfl
  | some n =>
   dsimp only
   obtain ⟨d1,d2,d3,d4⟩:=qmc hs hd
   obtain ⟨n1,n2,n3,n4⟩:=qo9 d1 d2 (by rw [d3];exact d4) (by rw [d3];exact hs) hn
   rw [d3] at n3 n4
   rw [qno (h _ n3 n1.next.2.2) (fun r hr=>h _ (n4 r hr) (n1.kid r hr).2.2)]
theorem qvo:∀(f g:Nat) (s:List Nat),(∀x∈s,x<256)→s.length<f→s.length<g→kd f s=kd g s:=by
 intro f
 induction f with
 | zero=>intro g s _ h;omega
 | succ f ih =>
  intro g s hs h1 h2
  cases g with
  | zero=>omega
  | succ g =>
   rw [kd,kd]
   rw [qhz hs (fun t ht hb=>ih g t hb (by omega) (by omega))]
theorem qsf {s:List Nat} (hs:∀x∈s,x<256):KD s=if 32≤s.length then 0 else match decN KD s with | none=>0 | some n=>n.k:=by
 unfold KD
 rw [show (32:Nat)=31+1 from rfl,kd]
 by_cases h:32≤s.length
 ·rw [if_pos h,if_pos h]
 ·rw [if_neg h,if_neg h]
  rw [qhz hs (fun t ht hb=>qvo 31 (31+1) t hb (by omega) (by omega))]
theorem qxu {K:List Nat→Int} {s:List Nat} {n:Nd} (h:decN K s=some n):mayN K n=true∧(n.k=1∨n.k=2∨n.k=3):=by
 unfold decN at h
 split at h
 ·cases h
 ·split at h
  ·cases h
  ·split at h
   ·rename_i hm
    cases h
    refine ⟨hm,?_⟩
    unfold mayN at hm
    split at hm
    ·left;assumption
    ·split at hm
     ·right;left;assumption
     ·split at hm
      ·right;right;assumption
      ·cases hm
   ·cases h
theorem qpa {K:List Nat→Int} {s:List Nat} {n:Nd} (hs:∀x∈s,x<256) (h:decN K s=some n):n.W∧mayN K n=true∧encN n=s∧(∃x,dec s=.ok x∧x.l=true)∧n.next.b.length<s.length∧∀r∈n.kids,r.b.length<s.length:=by
 have hm:=(qxu h).1
 unfold decN at h
 cases hd:dec s with
 | bad p e=>rw [hd] at h;cases h
 | ok x =>
  rw [hd] at h
  dsimp only at h
  cases hn:itN x with
  | none=>rw [hn] at h;cases h
  | some m =>
   rw [hn] at h
   dsimp only at h
   split at h
   ·cases h
    obtain ⟨d1,d2,d3,d4⟩:=qmc hs hd
    obtain ⟨n1,n2,n3,n4⟩:=qo9 d1 d2 (by rw [d3];exact d4) (by rw [d3];exact hs) hn
    rw [d3] at n3 n4
    refine ⟨n1,hm,by unfold encN;rw [n2,d3],⟨x,rfl,?_⟩,n3,n4⟩
    cases q:x.l with
    | true=>rfl
    | false =>
     have:=(qdy d1).2 q
     unfold itN at hn
     rw [this] at hn
     simp at hn
   ·cases h
structure RI (r:Rf):Prop where
 may:may (rIt r)=true
 dp:dp (rIt r)≤32
 len:(form (rIt r)).length≤33
 byt:∀y∈form (rIt r),y<256
 back:itR (rIt r)=some r
theorem qgm {b:List Nat} (hb:b.length<56):(form (.mk false b [])).length≤1+b.length:=by
 rw [qaq]
 simp only [Bool.false_eq_true,if_false]
 split
 ·omega
 ·unfold hdr
  rw [if_pos hb]
  simp
  omega
theorem qcm {b:List Nat} (hb:∀x∈b,x<256) (hl:b.length≤1048576):∀y∈form (.mk false b []),y<256:=by
 rw [qaq]
 simp only [Bool.false_eq_true,if_false]
 split
 ·exact hb
 ·intro y hy
  rcases List.mem_append.1 hy with h | h
  ·exact qgg hl (by omega) y h
  ·exact hb y h
theorem qf3 (b:List Nat):may (.mk false b [])=true:=by rw [qck];rfl
theorem qjz (b:List Nat):dp (.mk false b [])=0:=by rw [qgu];rfl
theorem qsg {r:Rf} (h:isNo r=true):r=rz∧RI r:=by
 unfold isNo at h
 simp at h
 obtain ⟨h1,h2,h3⟩:=h
 have e:r=rz:=by
  cases r
  simp only at h1 h2 h3
  subst h1 h2 h3
  rfl
 refine ⟨e,?_⟩
 rw [e]
 exact ⟨by decide,by decide,by decide,by decide,by decide⟩
theorem qpb {r:Rf} (hw:r.W) (h1:r.k=1) (h2:r.b.length=0):RI r:=by
 have e:rIt r=.mk false r.h []:=by unfold rIt;rw [if_pos h1]
 refine ⟨by rw [e];exact qf3 _,by rw [e,qjz];omega,?_,?_,?_⟩
 ·rw [e]
  have:=qgm (b:=r.h) (by rw [hw.1];omega)
  rw [hw.1] at this
  exact this
 ·rw [e]
  exact qcm hw.2.1 (by rw [hw.1];omega)
 ·rw [e]
  unfold itR
  rw [if_neg (by show ¬false=true;simp),if_neg (by show ¬r.h.length=0;rw [hw.1];omega),if_pos (show (It.mk false r.h []).b.length=32 from hw.1)]
  show some (⟨1,r.h,[]⟩:Rf)=some r
  cases r
  simp only at h1 h2
  subst h1
  rw [List.eq_nil_of_length_eq_zero h2]
theorem qiw {r:Rf} (hw:r.W) (h1:r.k=2) (h2:r.h=z32) (h3:KD r.b≠0):RI r∧form (rIt r)=r.b∧(rIt r).l=true∧r.b.length<32:=by
 rw [qsf hw.2.2] at h3
 have hl:¬32≤r.b.length:=fun q=>h3 (by rw [if_pos q])
 rw [if_neg hl] at h3
 cases hn:decN KD r.b with
 | none=>rw [hn] at h3;exact absurd rfl h3
 | some n =>
  obtain ⟨-,-,-,⟨x,hx,hxl⟩,-,-⟩:=qpa hw.2.2 hn
  obtain ⟨d1,d2,d3,d4⟩:=qmc hw.2.2 hx
  have e:rIt r=x:=by
   unfold rIt qvk
   rw [h1,if_neg (by decide),if_pos rfl,hx]
  have hd:=qvl x
  rw [d3] at hd
  refine ⟨⟨by rw [e];exact d1,by rw [e];omega,by rw [e,d3];omega,by rw [e,d3];exact hw.2.2,?_⟩,by rw [e,d3],by rw [e,hxl],by omega⟩
  rw [e]
  unfold itR
  rw [hxl,if_pos rfl,(qo7 d1 d2 (by rw [d3];exact d4)).2,d3]
  cases r
  simp only at h1 h2
  subst h1 h2
  rfl
theorem qum {r:Rf} (hw:r.W) (h:isRf KD r=true):RI r:=by
 unfold isRf at h
 split at h
 ·rename_i h0
  exact (qsg (by unfold isNo;rw [h0];simpa using h)).2
 ·split at h
  ·exact qpb hw (by assumption) (by simpa using h)
  ·split at h
   ·simp at h
    exact (qiw hw (by assumption) h.1 h.2).1
   ·cases h
theorem qpc {r:Rf} (hw:r.W) (h:isNx KD r=true):RI r:=by
 unfold isNx at h
 split at h
 ·simp at h
  exact (qiw hw (by assumption) h.1 (by rw [h.2];decide)).1
 ·simp at h
  exact qpb hw h.1 (by rw [h.2];rfl)
theorem qpd {l:List It} {m:Nat} (h:∀x∈l,(form x).length≤m):(qag l).length≤l.length*m:=by
 induction l with
 | nil=>rw [qar];simp
 | cons a t ih =>
  rw [qak,List.length_append,List.length_cons,Nat.add_mul]
  have h1:=h a (by simp)
  have h2:=ih (fun x hx=>h x (by simp [hx]))
  omega
theorem qxv {l:List It} {m:Nat} (h:∀x∈l,dp x≤m):dpL l≤m:=by
 induction l with
 | nil=>rw [qgy];omega
 | cons a t ih =>
  rw [qe9]
  have h1:=h a (by simp)
  have h2:=ih (fun x hx=>h x (by simp [hx]))
  omega
theorem qsh {n:Nat} (h:n<65536):(digs n).length≤2:=qa4 (k:=2) h
theorem qej {b n:Nat} (h:n<65536):(hdr b n).length≤3:=by
 unfold hdr
 split
 ·simp
 ·have:=qsh h
  simp
  omega
theorem qfg {b:List Nat} (hb:b.length<65536):(form (.mk false b [])).length≤3+b.length:=by
 rw [qaq]
 simp only [Bool.false_eq_true,if_false]
 split
 ·omega
 ·rw [List.length_append]
  have:=qej (b:=128) hb
  omega
structure NI (n:Nd):Prop where
 may:may (nIt n)=true
 dp:dp (nIt n)≤80
 low:2≤(form (nIt n)).length
 len:(form (nIt n)).length≤1024
 byt:∀y∈form (nIt n),y<256
 back:itN (nIt n)=some n
theorem qpe {l:List It} (h:∀x∈l,∀y∈form x,y<256):∀y∈qag l,y<256:=by
 induction l with
 | nil=>rw [qar];intro y hy;cases hy
 | cons a t ih =>
  rw [qak]
  intro y hy
  rcases List.mem_append.1 hy with q | q
  ·exact h a (by simp) y q
  ·exact ih (fun x hx=>h x (by simp [hx])) y q
theorem qme {xs:List It} (h0:0<xs.length) (hm:∀x∈xs,may x=true) (hd:∀x∈xs,dp x≤79) (hb:∀x∈xs,∀y∈form x,y<256) {m:Nat} (hl:(qag xs).length≤m) (hm':m≤1021) :
 may (.mk true [] xs)=true∧dp (.mk true [] xs)≤80∧2≤(form (.mk true [] xs)).length∧(form (.mk true [] xs)).length≤1024∧∀y∈form (.mk true [] xs),y<256:=by
 have h1:=qxv hd
 have h2:=qej (b:=192) (n:=(qag xs).length) (by omega)
 have h3:=qf1 192 (qag xs).length
 have h4:0<(qag xs).length:=by
  cases xs with
  | nil=>simp at h0
  | cons a t =>
   rw [qak,List.length_append]
   have:=qeh a
   omega
 refine ⟨?_,?_,?_,?_,?_⟩
 ·rw [qck,if_pos rfl]
  simp
  exact (qcu xs).2 hm
 ·rw [qgu,if_pos rfl]
  omega
 ·rw [qaq,if_pos rfl,List.length_append]
  omega
 ·rw [qaq,if_pos rfl,List.length_append]
  omega
 ·rw [qaq,if_pos rfl]
  intro y hy
  rcases List.mem_append.1 hy with q | q
  ·exact qgg (by omega) (by omega) y q
  ·exact qpe hb y q
theorem qj0 {n:Nd} (hw:n.W) (h:qb5 n=true):n.kids=kz:=by
 unfold qb5 at h
 rw [List.all_eq_true] at h
 apply List.eq_replicate_iff.2
 exact ⟨hw.kids,fun r hr=>(qsg (h r hr)).1⟩
theorem qix {v:List Nat} (h:isV v=true):0<v.length∧v.length≤256:=by unfold isV at h;simpa using h
theorem qun {a b:It} {m:Nat} (a1:may a=true) (b1:may b=true) (a2:dp a≤79) (b2:dp b≤79) (a3:(form a).length≤40) (b3:(form b).length≤m) (hm:m≤300) (a4:∀y∈form a,y<256) (b4:∀y∈form b,y<256) :
 may (.mk true [] [a,b])=true∧dp (.mk true [] [a,b])≤80∧2≤(form (.mk true [] [a,b])).length∧(form (.mk true [] [a,b])).length≤1024∧∀y∈form (.mk true [] [a,b]),y<256:=by
 refine qme (m:=340) (by simp) ?_ ?_ ?_ ?_ (by omega)
 ·intro x hx
  rcases List.mem_cons.1 hx with rfl | hx
  ·exact a1
  ·rw [List.mem_singleton.1 hx];exact b1
 ·intro x hx
  rcases List.mem_cons.1 hx with rfl | hx
  ·exact a2
  ·rw [List.mem_singleton.1 hx];exact b2
 ·intro x hx
  rcases List.mem_cons.1 hx with rfl | hx
  ·exact a4
  ·rw [List.mem_singleton.1 hx];exact b4
 ·rw [qak,qak,qar,List.append_nil,List.length_append]
  omega
theorem qpf (leaf:Bool) (s:List Nat):(form (.mk false (pkR leaf s) [])).length≤40∧∀y∈form (.mk false (pkR leaf s) []),y<256:=by
 have h1:=quk leaf (s:=s)
 have h2:=qgm (b:=pkR leaf s) (by omega)
 exact ⟨by omega,qcm h1.1 (by omega)⟩
theorem qgv (leaf:Bool) {s:List Nat} (h:IsP s):upE (pkR leaf s)=0∧upI (pkR leaf s)=leaf∧upR (pkR leaf s)=s:=by
 obtain ⟨h1,h2,h3⟩:=qxr leaf h
 unfold pkR
 rw [if_pos h]
 unfold upE upI upR
 rw [if_pos h1,if_pos h1,if_pos h1]
 exact ⟨rfl,h3,h2⟩
theorem qj1 {n:Nd} (hw:n.W) (h:mayN KD n=true):NI n:=by
 unfold mayN at h
 split at h
 ·rename_i hk
  simp only [Bool.and_eq_true,Bool.not_eq_true',decide_eq_true_eq] at h
  obtain ⟨he,hp,hf,hn⟩:=h
  have hkid:=qj0 hw hn
  unfold ends at he
  simp only [Bool.and_eq_true] at he
  obtain ⟨hv,hno⟩:=he
  obtain ⟨hv1,hv2⟩:=qix hv
  obtain ⟨hz,-⟩:=qsg hno
  have e:nIt n=.mk true [] [.mk false (pkR true n.path) [],.mk false n.val []]:=by unfold nIt;rw [if_pos hk]
  have hl:=qfg (b:=n.val) (by omega)
  have hb:=qcm (b:=n.val) hw.val (by omega)
  obtain ⟨q1,q2⟩:=qpf true n.path
  obtain ⟨t1,t2,t3,t4,t5⟩:=qun (m:=3+n.val.length) (qf3 (pkR true n.path)) (qf3 n.val) (by rw [qjz];omega) (by rw [qjz];omega) q1 hl (by omega) q2 hb
  obtain ⟨u1,u2,u3⟩:=qgv true hp
  refine ⟨by rw [e];exact t1,by rw [e];exact t2,by rw [e];exact t3,by rw [e];exact t4,by rw [e];exact t5,?_⟩
  rw [e]
  show itP (.mk false (pkR true n.path) []) (.mk false n.val [])=some n
  unfold itP
  rw [if_pos (show upE (It.mk false (pkR true n.path) []).b=0 from u1),if_pos (show upI (It.mk false (pkR true n.path) []).b=true from u2),if_neg (show ¬(It.mk false n.val []).l=true by show ¬false=true;simp)]
  show some (⟨1,upR (pkR true n.path),n.val,false,rz,kz⟩:Nd)=some n
  rw [u3,←hkid,←hz,←hf,←hk]
 ·split at h
  ·rename_i hk
   simp only [Bool.and_eq_true,Bool.not_eq_true',decide_eq_true_eq] at h
   obtain ⟨he,hp,hf,hn⟩:=h
   have hkid:=qj0 hw hn
   unfold leads at he
   simp only [Bool.and_eq_true,decide_eq_true_eq] at he
   obtain ⟨hp0,hv0,hx⟩:=he
   have ri:=qpc hw.next hx
   have e:nIt n=.mk true [] [.mk false (pkR false n.path) [],rIt n.next]:=by unfold nIt;rw [if_neg (by omega),if_pos hk]
   obtain ⟨q1,q2⟩:=qpf false n.path
   obtain ⟨t1,t2,t3,t4,t5⟩:=qun (m:=33) (qf3 (pkR false n.path)) ri.may (by rw [qjz];omega) (by have:=ri.dp;omega) q1 ri.len (by omega) q2 ri.byt
   obtain ⟨u1,u2,u3⟩:=qgv false hp
   refine ⟨by rw [e];exact t1,by rw [e];exact t2,by rw [e];exact t3,by rw [e];exact t4,by rw [e];exact t5,?_⟩
   rw [e]
   show itP (.mk false (pkR false n.path) []) (rIt n.next)=some n
   unfold itP
   rw [if_pos (show upE (It.mk false (pkR false n.path) []).b=0 from u1),if_neg (by rw [show upI (It.mk false (pkR false n.path) []).b=false from u2];simp),ri.back]
   show some (⟨2,upR (pkR false n.path),[],false,n.next,kz⟩:Nd)=some n
   rw [u3,←hkid,←hf,←hk,←List.eq_nil_of_length_eq_zero hv0]
  ·split at h
   ·rename_i hk
    simp only [Bool.and_eq_true,decide_eq_true_eq] at h
    obtain ⟨hp,hno,hfd⟩:=h
    obtain ⟨hz,-⟩:=qsg hno
    unfold isFd at hfd
    rw [Bool.and_eq_true,List.all_eq_true] at hfd
    obtain ⟨hkr,hfd⟩:=hfd
    have ri:∀r∈n.kids,RI r:=fun r hr=>qum (hw.kid r hr) (hkr r hr)
    have hv2:n.val.length≤256∧n.full=decide (0<n.val.length):=by
     split at hfd
     ·rename_i hf
      rw [Bool.and_eq_true] at hfd
      have:=qix hfd.2
      exact ⟨this.2,by rw [hf,decide_eq_true this.1]⟩
     ·rename_i hf
      simp at hfd hf
      rw [hfd.2]
      exact ⟨by simp,by rw [hf];rfl⟩
    have e:nIt n=.mk true [] (n.kids.map rIt++[.mk false n.val []]):=by unfold nIt;rw [if_neg (by omega),if_neg (by omega)]
    have hl:=qfg (b:=n.val) (by omega)
    have hb:=qcm (b:=n.val) hw.val (by omega)
    have hxs:∀P:It→Prop,(∀r∈n.kids,P (rIt r))→P (.mk false n.val [])→∀x∈n.kids.map rIt++[.mk false n.val []],P x:=fun P h1 h2 x hx=>by
     rcases List.mem_append.1 hx with q | q
     ·obtain ⟨r,hr,rfl⟩:=List.mem_map.1 q
      exact h1 r hr
     ·rw [List.mem_singleton.1 q];exact h2
    have hfl:(qag (n.kids.map rIt)).length≤16*33:=by
     have:=qpd (l:=n.kids.map rIt) (m:=33) (fun x hx=>by
      obtain ⟨r,hr,rfl⟩:=List.mem_map.1 hx
      exact (ri r hr).len)
     rw [List.length_map,hw.kids] at this
     exact this
    obtain ⟨t1,t2,t3,t4,t5⟩:=qme (xs:=n.kids.map rIt++[.mk false n.val []]) (m:=16*33+259) (by simp) (hxs _ (fun r hr=>(ri r hr).may) (qf3 _)) (hxs _ (fun r hr=>by have:=(ri r hr).dp;omega) (by rw [qjz];omega)) (hxs _ (fun r hr=>(ri r hr).byt) hb) (by
     rw [qdw,qak,qar,List.append_nil,List.length_append]
     omega) (by omega)
    refine ⟨by rw [e];exact t1,by rw [e];exact t2,by rw [e];exact t3,by rw [e];exact t4,by rw [e];exact t5,?_⟩
    rw [e]
    have hlen:(n.kids.map rIt).length=16:=by rw [List.length_map,hw.kids]
    have hlen2:(n.kids.map rIt++[It.mk false n.val []]).length=17:=by rw [List.length_append,hlen];rfl
    unfold itN
    show (if (n.kids.map rIt++[It.mk false n.val []]).length=2 then _ else if (n.kids.map rIt++[It.mk false n.val []]).length=17 then itB ((n.kids.map rIt++[It.mk false n.val []]).take 16) ((n.kids.map rIt++[It.mk false n.val []]).getD 16 itE) else none)=some n
    rw [hlen2,if_neg (by decide),if_pos rfl,List.take_left' hlen,List.getD_eq_getElem?_getD,List.getElem?_append_right (by omega),hlen]
    show itB (n.kids.map rIt) (.mk false n.val [])=some n
    unfold itB
    rw [qiv (fun r hr=>(ri r hr).back)]
    show (if false=true then none else some (⟨3,[],n.val,decide (0<n.val.length),rz,n.kids⟩:Nd))=some n
    rw [if_neg (by simp),←hv2.2,←hz,←hk,←List.eq_nil_of_length_eq_zero hp]
   ·cases h
theorem qfh {s:List Nat} {n:Nd} (hs:∀x∈s,x<256):decN KD s=some n↔n.W∧mayN KD n=true∧encN n=s:=by
 constructor
 ·intro h
  obtain ⟨h1,h2,h3,-⟩:=qpa hs h
  exact ⟨h1,h2,h3⟩
 ·rintro ⟨hw,hm,he⟩
  have ni:=qj1 hw hm
  unfold decN
  rw [←he]
  unfold encN
  rw [qo3 ni.may ni.dp (by have:=ni.len;omega)]
  dsimp only
  rw [ni.back]
  dsimp only
  rw [if_pos hm]
theorem qsi {n:Nd} (hw:n.W) (hm:mayN KD n=true):decN KD (encN n)=some n:=(qfh (qj1 hw hm).byt).2 ⟨hw,hm,rfl⟩
end Go.Proofs.YtemcneddbhgadaaGreatDoor
namespace Go.Proofs.YtemcneddbhgadaaGreatDoor.Dg
open Go.RowKit
def msk (x:Nat) (B:Nat→Nat) (i:Nat):Nat:=B i ^^^ x
open Go.RowKit
def blk (n:Nat) (S:Nat→Nat) (i:Nat):Nat:=if n≤64 then (if i<n then S i else 0) else if i<32 then hb (digest n S) i else 0
open Go.RowKit
open Go.RowKit
def hmac (B:Nat→Nat) (m:Nat) (X:Nat→Nat):W8:=digest 96 (cat 64 (msk 92 B) (hb (digest (64+m) (cat 64 (msk 54 B) X))))
open Go.RowKit
open Go.RowKit
end Go.Proofs.YtemcneddbhgadaaGreatDoor.Dg
