import Derived.Test.YtemcneddbhgadaaGreatDoorLfczz
namespace Go.Proofs.YtemcneddbhgadaaGreatDoor
theorem qg3 {s:List Nat} {i:Nat} (h:s.length≤i):gd s i=0:=by
 unfold gd
 rw [List.getD_eq_getElem?_getD,List.getElem?_eq_none h]
 rfl
def IsP (s:List Nat):Prop:=s.length≤64∧∀i,i<s.length→gd s i≤15
instance (s:List Nat):Decidable (IsP s):=by unfold IsP;infer_instance
def pn (leaf:Bool) (s:List Nat) (j:Nat):Nat :=
 if j=0 then (if leaf then 2 else 0)+s.length % 2 else if j=1∧s.length % 2=0 then 0 else gd s (j - (2 - s.length % 2))
def pkY (leaf:Bool) (s:List Nat) (i:Nat):Nat:=16*pn leaf s (2*i)+pn leaf s (2*i+1)
def pkL (leaf:Bool) (s:List Nat):List Nat:=lst (1+s.length / 2) (pkY leaf s)
def nib (b:List Nat) (j:Nat):Nat:=if j % 2=0 then gd b (j / 2) / 16 else gd b (j / 2) % 16
def od (b:List Nat):Nat:=gd b 0 / 16 % 2
def plen (b:List Nat):Nat:=2*(b.length - 1)+od b
def upY (b:List Nat) (i:Nat):Nat:=nib b (i+(2 - od b))
def upL (b:List Nat):List Nat:=lst (plen b) (upY b)
def IsF (b:List Nat):Prop:=0<b.length∧gd b 0<64∧(od b=0→gd b 0 % 16=0)∧plen b≤64
instance (b:List Nat):Decidable (IsF b):=by unfold IsF;infer_instance
def lf (b:List Nat):Bool:=decide (32≤gd b 0)
theorem qoz (b:List Nat):od b<2:=Nat.mod_lt _ (by decide)
theorem qg4 (leaf:Bool) (s:List Nat):(pkL leaf s).length=1+s.length / 2:=lst_len _ _
theorem qit (b:List Nat):(upL b).length=plen b:=lst_len _ _
theorem qgl {b:List Nat} (h:∀x∈b,x<256) (j:Nat):nib b j≤15:=by
 have k:gd b (j / 2)<256:=by
  by_cases q:j / 2<b.length
  ·rw [←gd_get q];exact h _ (List.getElem_mem q)
  ·rw [qg3 (by omega)];decide
 unfold nib
 split <;> omega
theorem qsd (leaf:Bool) {s:List Nat} (h:∀i,i<s.length→gd s i≤15) (j:Nat):pn leaf s j≤15:=by
 have h':∀i,gd s i≤15:=fun i=>by
  by_cases q:i<s.length
  ·exact h i q
  ·rw [qg3 (by omega)];decide
 unfold pn
 split
 ·cases leaf <;> simp <;> omega
 ·split
  ·omega
  ·exact h' _
theorem qo0 {leaf:Bool} {s:List Nat} {i:Nat} (h:i<1+s.length / 2):gd (pkL leaf s) i=pkY leaf s i:=lst_gd h
theorem qxp (leaf:Bool) {s:List Nat} (h:∀i,i<s.length→gd s i≤15) {j:Nat} (hj:j<2*(1+s.length / 2)):nib (pkL leaf s) j=pn leaf s j:=by
 unfold nib
 rw [qo0 (by omega)]
 unfold pkY
 have h1:=qsd leaf h (2*(j / 2))
 have h2:=qsd leaf h (2*(j / 2)+1)
 by_cases q:j % 2=0
 ·obtain ⟨k,rfl⟩:∃k,j=2*k:=⟨j / 2,by omega⟩
  rw [if_pos q]
  rw [show 2*k / 2=k by omega] at h1 h2 ⊢
  omega
 ·obtain ⟨k,rfl⟩:∃k,j=2*k+1:=⟨j / 2,by omega⟩
  rw [if_neg q]
  rw [show (2*k+1) / 2=k by omega] at h1 h2 ⊢
  omega
theorem qjx (leaf:Bool) {s:List Nat} (h:∀i,i<s.length→gd s i≤15) (i:Nat):pkY leaf s i<256:=by
 have h1:=qsd leaf h (2*i)
 have h2:=qsd leaf h (2*i+1)
 unfold pkY
 omega
theorem qse (leaf:Bool) {s:List Nat} (h:∀i,i<s.length→gd s i≤15):∀x∈pkL leaf s,x<256:=fun x hx=>by
 unfold pkL lst at hx
 obtain ⟨i,-,rfl⟩:=List.mem_map.1 hx
 exact qjx leaf h i
theorem qma {b:List Nat} (h:∀x∈b,x<256):∀x∈upL b,x≤15:=fun x hx=>by
 unfold upL lst at hx
 obtain ⟨i,-,rfl⟩:=List.mem_map.1 hx
 exact qgl h _
theorem qvj (leaf:Bool) (s:List Nat):pn leaf s 0=(if leaf then 2 else 0)+s.length % 2:=by unfold pn;rw [if_pos rfl]
theorem qxq (leaf:Bool) (s:List Nat):pn leaf s 1=if s.length % 2=0 then 0 else gd s 0:=by
 unfold pn
 rw [if_neg (by omega)]
 by_cases q:s.length % 2=0
 ·rw [if_pos ⟨rfl,q⟩,if_pos q]
 ·have o:s.length % 2=1:=by omega
  rw [if_neg (fun z=>q z.2),if_neg q,o]
theorem qfd (leaf:Bool) (s:List Nat):pkY leaf s 0=(if leaf then 32 else 0)+(if s.length % 2=0 then 0 else 16+gd s 0):=by
 unfold pkY
 show 16*pn leaf s 0+pn leaf s 1=_
 rw [qvj,qxq]
 by_cases q:s.length % 2=0
 ·rw [if_pos q,if_pos q,q]
  cases leaf <;> rfl
 ·have o:s.length % 2=1:=by omega
  rw [if_neg q,if_neg q,o]
  cases leaf <;> simp <;> omega
theorem qiu (leaf:Bool) (s:List Nat) (i:Nat):pkY leaf s (1+i)=16*gd s (s.length % 2+2*i)+gd s (s.length % 2+2*i+1):=by
 unfold pkY pn
 rw [if_neg (by omega),if_neg (by omega),if_neg (by omega),if_neg (by omega)]
 have:=Nat.mod_lt s.length (show 0<2 by decide)
 rw [show 2*(1+i) - (2 - s.length % 2)=s.length % 2+2*i by omega,show 2*(1+i)+1 - (2 - s.length % 2)=s.length % 2+2*i+1 by omega]
theorem qxr (leaf:Bool) {s:List Nat} (h:IsP s):IsF (pkL leaf s)∧upL (pkL leaf s)=s∧lf (pkL leaf s)=leaf:=by
 have e0:gd (pkL leaf s) 0=(if leaf then 32 else 0)+(if s.length % 2=0 then 0 else 16+gd s 0):=by rw [qo0 (by omega),qfd]
 have g0:gd s 0≤15:=by
  by_cases q:0<s.length
  ·exact h.2 0 q
  ·rw [qg3 (by omega)];decide
 have eo:od (pkL leaf s)=s.length % 2:=by
  unfold od
  rw [e0]
  cases leaf <;> simp <;> split <;> omega
 have ep:plen (pkL leaf s)=s.length:=by unfold plen;rw [qg4,eo];omega
 refine ⟨⟨by rw [qg4];omega,?_,?_,by rw [ep];exact h.1⟩,?_,?_⟩
 ·rw [e0]
  cases leaf <;> simp <;> split <;> omega
 ·rw [eo,e0]
  intro q
  rw [if_pos q]
  cases leaf <;> rfl
 ·apply ext_gd
  ·rw [qit,ep]
  ·intro i hi
   rw [qit] at hi
   unfold upL
   rw [lst_gd hi]
   rw [ep] at hi
   unfold upY
   rw [eo,qxp leaf h.2 (by omega)]
   unfold pn
   have:=Nat.mod_lt s.length (show 0<2 by decide)
   rw [if_neg (by omega),if_neg (by omega),Nat.add_sub_cancel]
 ·unfold lf
  rw [e0]
  cases leaf
  ·simp
   split <;> omega
  ·simp
theorem qzx {b:List Nat} (hb:∀x∈b,x<256) (h:IsF b):IsP (upL b)∧pkL (lf b) (upL b)=b:=by
 obtain ⟨h1,h2,h3,h4⟩:=h
 have ho:=qoz b
 have el:(upL b).length=plen b:=qit b
 have e2:plen b % 2=od b:=by unfold plen;omega
 have e3:1+plen b / 2=b.length:=by unfold plen;omega
 refine ⟨⟨by rw [el];exact h4,fun i hi=>?_⟩,?_⟩
 ·rw [←gd_get hi];exact qma hb _ (List.getElem_mem hi)
 ·have key:∀j,j<2*b.length→pn (lf b) (upL b) j=nib b j:=fun j hj=>by
   unfold pn
   rw [el,e2]
   by_cases q:j=0
   ·subst q
    rw [if_pos rfl]
    unfold nib lf od
    simp only [Nat.zero_mod,Nat.zero_div,if_true]
    by_cases z:32≤gd b 0
    ·simp [z];omega
    ·simp [z];omega
   ·rw [if_neg q]
    by_cases z:j=1∧od b=0
    ·rw [if_pos z]
     obtain ⟨rfl,z⟩:=z
     unfold nib
     have:=h3 z
     simp
     omega
    ·rw [if_neg z]
     have:2 - od b≤j:=by omega
     unfold upL
     rw [lst_gd (by unfold plen;omega)]
     unfold upY
     rw [Nat.sub_add_cancel this]
  apply ext_gd
  ·rw [qg4,el,e3]
  ·intro i hi
   rw [qg4,el,e3] at hi
   rw [qo0 (by rw [el];omega)]
   unfold pkY
   rw [key _ (by omega),key _ (by omega)]
   unfold nib
   rw [if_pos (by omega),if_neg (by omega),show 2*i / 2=i by omega,show (2*i+1) / 2=i by omega]
   omega
def pkR (leaf:Bool) (s:List Nat):List Nat:=if IsP s then pkL leaf s else []
def pkE (s:List Nat):Nat:=if IsP s then 0 else 60
def upR (b:List Nat):List Nat:=if IsF b then upL b else []
def upI (b:List Nat):Bool:=if IsF b then lf b else false
def upE (b:List Nat):Nat:=if IsF b then 0 else 60
theorem quk (leaf:Bool) {s:List Nat}:(∀x∈pkR leaf s,x<256)∧(pkR leaf s).length≤33:=by
 unfold pkR
 split
 ·rename_i h
  exact ⟨qse leaf h.2,by rw [qg4];have:=h.1;omega⟩
 ·exact ⟨fun x hx=>(by cases hx),by simp⟩
theorem qul {b:List Nat} (hb:∀x∈b,x<256):(∀x∈upR b,x<256)∧(upR b).length≤64:=by
 unfold upR
 split
 ·rename_i h
  exact ⟨fun x hx=>by have:=qma hb x hx;omega,by rw [qit];exact h.2.2.2⟩
 ·exact ⟨fun x hx=>(by cases hx),by simp⟩
open Go.RowKit
class Rel (R:World→Value→List Nat→Prop):Prop where
 keep:∀{w w':World} {v:Value} {s:List Nat},R w v s→Below w.heap.size w w'→R w' v s
 form:∀{w:World} {v:Value} {s:List Nat},R w v s→∃a c,v=.slice a s.length c
def Vb (w:World) (v:Value) (s:List Nat):Prop:=∃a b off c,v=.slice a s.length c∧Vw w a b off s∧s.length≤c∧(a=none→c=0)∧s.length≤140737488351232
instance:Rel Vb where
 keep:=fun h k=>by
  obtain ⟨a,b,off,c,rfl,hv,r⟩:=h
  exact ⟨a,b,off,c,rfl,hv.below k,r⟩
 form:=fun h=>by
  obtain ⟨a,b,off,c,rfl,hv,r⟩:=h
  exact ⟨a,c,rfl⟩
inductive Lies (R:World→Value→List Nat→Prop) (w:World):It→Value→Value→Prop
  | mk {l : Bool} {b : List Nat} {xs : List It} {vb : Value} (a : Option Addr) (blk off c : Nat) (f g : Nat → Value) (hb : R w vb b) (ha : 0 < xs.length → a = some ⟨blk, off, none⟩) (hn : 56 * xs.length ≤ 140737488351232)
      (hc:∀i x,xs[i]?=some x→w.cell? ⟨blk,off+i*3,none⟩=some (.bool x.l)∧w.cell? ⟨blk,off+i*3+1,none⟩=some (f i)∧w.cell? ⟨blk,off+i*3+2,none⟩=some (g i))
      (hr:∀i x,xs[i]?=some x→Lies R w x (f i) (g i)):Lies R w (.mk l b xs) vb (.slice a xs.length c)
theorem Lies.imp {R R':World→Value→List Nat→Prop} {w w':World} (hR:∀v s,R w v s→R' w' v s) (hc:∀p:Addr,p.block<w.heap.size→w'.cell? p=w.cell? p):∀{x:It} {vb vi:Value},Lies R w x vb vi→Lies R' w' x vb vi:=by
 intro x vb vi h
 induction h with
 | mk a blk off c f g hb ha hn hcc hr ih =>
  refine .mk a blk off c f g (hR _ _ hb) ha hn (fun i x hx=>?_) (fun i x hx=>ih i x hx)
  obtain ⟨h1,h2,h3⟩:=hcc i x hx
  have hl:blk<w.heap.size:=World.block_lt_of_cell? _ _ h1
  exact ⟨(hc _ hl).trans h1,(hc _ hl).trans h2,(hc _ hl).trans h3⟩
theorem Lies.keep {R:World→Value→List Nat→Prop} [Rel R] {w w':World} {x:It} {vb vi:Value} (h:Lies R w x vb vi) (k:Below w.heap.size w w'):Lies R w' x vb vi:=h.imp (fun _ _ q=>Rel.keep q k) (fun _ hp=>k.cell hp)
theorem Lies.form {R:World→Value→List Nat→Prop} [Rel R] {w:World} {x:It} {vb vi:Value} (h:Lies R w x vb vi):∃a n c a' n' c',vb=.slice a n c∧vi=.slice a' n' c':=by
 cases h with
 | mk a blk off c f g hb ha hn hc hr =>
  obtain ⟨a',c',e⟩:=Rel.form hb
  exact ⟨_,_,_,_,_,_,e,rfl⟩
abbrev iv (l:Bool) (vb vi:Value):Value:=.agg #[.bool l,vb,vi]
structure Its (R:World→Value→List Nat→Prop) (w:World) (xs:List It) (a:Option Addr) (blk off:Nat):Prop where
 ha:0<xs.length→a=some ⟨blk,off,none⟩
 hn:56*xs.length≤140737488351232
 get:∀i x,xs[i]?=some x→∃a1 n1 k1 a2 n2 k2,w.cell? ⟨blk,off+i*3,none⟩=some (.bool x.l)∧w.cell? ⟨blk,off+i*3+1,none⟩=some (.slice a1 n1 k1)∧w.cell? ⟨blk,off+i*3+2,none⟩=some (.slice a2 n2 k2)∧Lies R w x (.slice a1 n1 k1) (.slice a2 n2 k2)
theorem Lies.opened {R:World→Value→List Nat→Prop} [Rel R] {w:World} {l:Bool} {b:List Nat} {xs:List It} {vb vi:Value} (h:Lies R w (.mk l b xs) vb vi):∃a' c' a c blk off,vb=.slice a' b.length c'∧vi=.slice a xs.length c∧R w vb b∧Its R w xs a blk off:=by
 cases h with
 | mk a blk off c f g hb ha hn hc hr =>
  obtain ⟨a',c',e⟩:=Rel.form hb
  refine ⟨a',c',a,c,blk,off,e,rfl,hb,ha,hn,fun i x hx=>?_⟩
  obtain ⟨h1,h2,h3⟩:=hc i x hx
  obtain ⟨a1,n1,k1,a2,n2,k2,e1,e2⟩:=(hr i x hx).form
  refine ⟨a1,n1,k1,a2,n2,k2,h1,h2.trans (by rw [e1]),h3.trans (by rw [e2]),?_⟩
  rw [←e1,←e2]
  exact hr i x hx
theorem Its.shut {R:World→Value→List Nat→Prop} {w:World} {l:Bool} {b:List Nat} {xs:List It} {vb:Value} {a:Option Addr} {blk off c:Nat} (h:Its R w xs a blk off) (hb:R w vb b):Lies R w (.mk l b xs) vb (.slice a xs.length c):=by
 have:∀i,∃q:Value × Value,∀x,xs[i]?=some x→w.cell? ⟨blk,off+i*3,none⟩=some (.bool x.l)∧w.cell? ⟨blk,off+i*3+1,none⟩=some q.1∧w.cell? ⟨blk,off+i*3+2,none⟩=some q.2∧Lies R w x q.1 q.2:=fun i=>by
  cases hx:xs[i]? with
  | none=>exact ⟨(.bool true,.bool true),fun x e=>by cases e⟩
  | some y =>
   obtain ⟨a1,n1,k1,a2,n2,k2,h1,h2,h3,h4⟩:=h.get i y hx
   exact ⟨(.slice a1 n1 k1,.slice a2 n2 k2),fun x e=>by cases e;exact ⟨h1,h2,h3,h4⟩⟩
 have hp:=fun i=>(this i).choose_spec
 exact .mk a blk off c (fun i=>(this i).choose.1) (fun i=>(this i).choose.2) hb h.ha h.hn (fun i x hx=>⟨(hp i x hx).1,(hp i x hx).2.1,(hp i x hx).2.2.1⟩) (fun i x hx=>(hp i x hx).2.2.2)
theorem Its.keep {R:World→Value→List Nat→Prop} [Rel R] {w w':World} {xs:List It} {a:Option Addr} {blk off:Nat} (h:Its R w xs a blk off) (k:Below w.heap.size w w'):Its R w' xs a blk off :=
 ⟨h.ha,h.hn,fun i x hx=>by
  obtain ⟨a1,n1,k1,a2,n2,k2,h1,h2,h3,h4⟩:=h.get i x hx
  have hl:blk<w.heap.size:=World.block_lt_of_cell? _ _ h1
  exact ⟨a1,n1,k1,a2,n2,k2,(k.cell hl).trans h1,(k.cell hl).trans h2,(k.cell hl).trans h3,h4.keep k⟩⟩
theorem Its.nth {R:World→Value→List Nat→Prop} [Rel R] {w w':World} {xs:List It} {a:Option Addr} {blk off:Nat} (h:Its R w xs a blk off) (k:Below w.heap.size w w') {i:Nat} (hi:i<xs.length) :
 a=some ⟨blk,off,none⟩∧∃x a1 n1 k1 a2 n2 k2,xs[i]?=some x∧x∈xs∧w'.cell? ⟨blk,off+i*3,none⟩=some (.bool x.l)∧w'.cell? ⟨blk,off+i*3+1,none⟩=some (.slice a1 n1 k1)∧w'.cell? ⟨blk,off+i*3+2,none⟩=some (.slice a2 n2 k2)∧Lies R w' x (.slice a1 n1 k1) (.slice a2 n2 k2):=by
 obtain ⟨a1,n1,k1,a2,n2,k2,h1,h2,h3,h4⟩:=(h.keep k).get i _ (List.getElem?_eq_getElem hi)
 exact ⟨h.ha (by omega),_,a1,n1,k1,a2,n2,k2,List.getElem?_eq_getElem hi,List.getElem_mem hi,h1,h2,h3,h4⟩
theorem qaa (w:World) (o:Obj):Below w.heap.size w (w.alloc o):=(Below.refl _ _).alloc (Nat.le_refl _) _
theorem qfc {w w':World} {l:Bool} {u v:Value} {t:TypeId} (h:Below (w.alloc (.cells #[.bool l,u,v] t)).heap.size (w.alloc (.cells #[.bool l,u,v] t)) w') :
 w'.cell? ⟨w.heap.size,0,none⟩=some (.bool l)∧w'.cell? ⟨w.heap.size,1,none⟩=some u∧w'.cell? ⟨w.heap.size,2,none⟩=some v:=by
 have q:∀j,w'.cell? ⟨w.heap.size,j,none⟩=#[.bool l,u,v][j]?:=fun j=>by
  rw [h.cell (p:=⟨w.heap.size,j,none⟩) (by simp),cell_of_row _ _ _ _ _ _ (heap_alloc_new w _)]
 exact ⟨q 0,q 1,q 2⟩
set_option maxRecDepth 100000 in
set_option maxHeartbeats 1600000 in
theorem qnk:∀(x:It) (w:World) (vb vi:Value) (m:Nat),Lies Vb w x vb vi→m≤80 →
 Calls Tryz.prog 159 #[iv x.l vb vi,.int .i64 m] w fun e w'=>e=.returned (.bool (decide (m<dp x)))∧Below w.heap.size w w':=by
 refine It.ind (fun l b xs ih=>?_)
 intro w vb vi m h hm
 obtain ⟨a',c',a,c,blk,off,rfl,rfl,-,hI⟩:=h.opened
 show Calls Tryz.prog 159 #[iv l _ _,_] w _
 generalize b.length=nb
 cases l with
 | false =>
  have e0:decide (m<dp (.mk false b xs))=false:=by rw [qgu];simp
  rw [e0]
  clear ih hI h
  go_enter Tryz.func159,Tryz.ntmps159
  go_wp2_with fail
  go_ret
  exact ⟨rfl,qaa _ _⟩
 | true =>
  have e0:dp (.mk true b xs)=1+dpL xs:=by rw [qgu];simp
  rw [e0]
  by_cases h0:m=0
  ·subst h0
   rw [decide_eq_true (by omega)]
   clear ih hI h e0
   go_enter Tryz.func159,Tryz.ntmps159
   go_wp2_with fail
   go_ret
   exact ⟨rfl,qaa _ _⟩
  ·obtain ⟨n,en⟩:∃n,n=xs.length:=⟨_,rfl⟩
   have HN:Hid (n=xs.length):=en
   have hn:=hI.hn
   rw [←en] at hn ⊢
   have i0:¬((m:Int)=0):=by omega
   have i0b:((m:Int) == 0)=false:=by simpa using i0
   have HI:Hid (Its Vb w xs a blk off):=hI
   clear hI e0 en h
   go_enter Tryz.func159,Tryz.ntmps159
   go_wp2_with fail
   go_loopg [15] n (fun gg k wr=>∃(i:Nat),i≤n∧gg=n - i∧k=.int .i64 i∧Below w.heap.size w wr∧∀j x,j<i→xs[j]?=some x→¬m - 1<dp x)
   case atStart=>exact ⟨0,Nat.zero_le _,rfl,rfl,qaa _ _,fun j x hj=>by omega⟩
   case round =>
    obtain ⟨i,hi,rfl,rfl,hb,hd⟩:=hrel
    by_cases hin:i<n
    ·have i1:(i:Int)<(n:Int):=by omega
     obtain ⟨rfl,x,a1,n1,k1,a2,n2,k2,hx,hxm,d0,d1,d2,hL⟩:=HI.out.nth hb (i:=i) (by have:=HN.out;omega)
     have K:=ih x hxm _ _ _ (m - 1) (hL.keep (qaa _ (.cells #[.bool x.l,.slice a1 n1 k1,.slice a2 n2 k2] 191))) (by omega)
     rw [show (((m - 1:Nat):Int))=(m:Int) - 1 by omega] at K
     have HX:Hid (xs[i]?=some x∧(∀j x,j<i→xs[j]?=some x→¬m - 1<dp x)∧Below w.heap.size w wr):=⟨hx,hd,hb⟩
     have HI2:Hid (∀x∈xs,dp x≤dpL xs):=fun x h=>qgz h
     clear hx hxm hL hd hb ih
     by_cases hdp:m - 1<dp x
     ·rw [decide_eq_true hdp] at K
      go_wp2_with (go_at_call 159;refine K.mono ?_;rintro e w1 ⟨rfl,hb1⟩;have HB:Hid (Below w.heap.size w w1):=HX.out.2.2.trans (((qaa _ _).mono HX.out.2.2.size).trans (hb1.mono (by have:=HX.out.2.2.size;simp;omega)));clear hb1)
      go_ret
      refine ⟨?_,HB.out⟩
      rw [decide_eq_true (by have:=HI2.out x (List.mem_of_getElem? HX.out.1);omega)]
      rfl
     ·rw [decide_eq_false hdp] at K
      go_wp2_with (go_at_call 159;refine K.mono ?_;rintro e w1 ⟨rfl,hb1⟩;have HB:Hid (Below w.heap.size w w1):=HX.out.2.2.trans (((qaa _ _).mono HX.out.2.2.size).trans (hb1.mono (by have:=HX.out.2.2.size;simp;omega)));clear hb1)
      go_roundg (n - (i+1))
      case measure=>omega
      case rel =>
       refine ⟨i+1,hin,rfl,by go_num,HB.out,fun j y hj hy=>?_⟩
       by_cases e:j=i
       ·subst e
        have:=hy.symm.trans HX.out.1
        cases this
        exact hdp
       ·exact HX.out.2.1 j y (by omega) hy
    ·have i1:¬(i:Int)<(n:Int):=by omega
     have e1:decide (m<1+dpL xs)=false:=by
      apply decide_eq_false
      have:∀ys:List It,(∀x∈ys,¬m - 1<dp x)→dpL ys≤m - 1:=by
       intro ys
       induction ys with
       | nil=>intro _;rw [qgy];omega
       | cons y ys ihy =>
        intro h
        rw [qe9]
        have h1:=h y (by simp)
        have h2:=ihy (fun x hx=>h x (by simp [hx]))
        omega
      have h3:=this xs (fun x hx=>by
       obtain ⟨j,hj,rfl⟩:=List.getElem_of_mem hx
       exact hd j _ (by have:=HN.out;omega) (List.getElem?_eq_getElem hj))
      omega
     have HE:Hid (decide (m<1+dpL xs)=false):=e1
     have HB:Hid (Below w.heap.size w wr):=hb
     clear hb hd ih e1
     go_wp2_with fail
     go_ret
     exact ⟨by rw [HE.out];rfl,HB.out⟩
open Go.RowKit
def flt (p c:Nat):PanicEntry:={ v:=.iface 199 (.agg #[.int .i64 p,.int .i64 c]),recovered:=false }
set_option maxRecDepth 100000 in
set_option maxHeartbeats 800000 in
theorem qcq (w:World) (p c:Nat):Calls Tryz.prog 134 #[.int .i64 p,.int .i64 c] w fun e w'=>e=.panicked [flt p c]∧w'=w:=by
 go_enter Tryz.func134,Tryz.ntmps134
 go_wp2_with fail
 exact ⟨rfl,rfl,rfl⟩
theorem qcy (a:Option Addr) (n c l h:Nat) (h1:l≤h) (h2:h≤c) (w:World):(Instr.slice 33 (.slice a n c) (some (.int .i64 l)) (some (.int .i64 h)) none).run Tryz.prog w=.ok (.slice (behind a c l) (h - l) (c - l)) w:=by
 rw [run_slice_lh w 33 a n c (by rw [qgh];exact Tryz.underlying33) .i64 .i64 l h (by omega) (by omega) (by omega),qgh,qve]
 simp only [Result.andThen,sliced,behind]
 simp
structure Vp (w:World) (a:Option Addr) (b off e c:Nat) (s:List Nat):Prop where
 view:View w a b off e (fun i=>((gd s i:Nat):Int))
 len:e≤s.length
 cap:e≤c
 small:s.length≤1048576
 ok:∀x∈s,x<256
theorem Vp.keep {w w':World} {a:Option Addr} {b off e c:Nat} {s:List Nat} (h:Vp w a b off e c s) (k:Below w.heap.size w w'):Vp w' a b off e c s:=⟨h.view.below k,h.len,h.cap,h.small,h.ok⟩
theorem Vp.upto {w:World} {a:Option Addr} {b off e c z:Nat} {s:List Nat} (h:Vp w a b off e c s) (hz:z≤e):Vp w a b off z c s :=
 ⟨⟨fun q=>h.view.at_ (by omega),fun i hi=>h.view.cell i (by omega),fun i hi=>h.view.bd i (by omega),by have:=h.view.len;omega⟩,by have:=h.len;omega,by have:=h.cap;omega,h.small,h.ok⟩
theorem Vp.cut {w:World} {a:Option Addr} {b off e c l z:Nat} {s:List Nat} (h:Vp w a b off e c s) (h1:l≤z) (h2:z≤e):Vw w (behind a c l) b (off+l) (cut s l z):=by
 have hl:(Go.Proofs.YtemcneddbhgadaaGreatDoor.cut s l z).length=z - l:=qao (by have:=h.len;omega)
 have hc:=h.cap
 refine ⟨fun q=>?_,fun i hi=>?_,fun i hi=>?_,by rw [hl];have:=h.small;have:=h.len;omega⟩
 ·rw [hl] at q
  have:=h.view.at_ (by omega)
  subst this
  unfold behind
  rw [if_neg (by omega)]
  simp [Go.WideShapes.add_plain]
 ·rw [hl] at hi
  have:=h.view.cell (l+i) (by omega)
  rw [qb7 (by omega),Nat.add_assoc]
  exact this
 ·rw [hl] at hi
  have:=h.view.bd (l+i) (by omega)
  rw [qb7 (by omega)]
  exact this
theorem Vp.cell {w:World} {a:Option Addr} {b off e c i:Nat} {s:List Nat} (h:Vp w a b off e c s) (hi:i<e):a=some ⟨b,off,none⟩∧w.cell? ⟨b,off+i,none⟩=some (.int .u8 ((gd s i:Nat):Int))∧gd s i<256:=⟨h.view.at_ (by omega),h.view.cell i hi,gd_lt h.ok i⟩
def qvh (s:List Nat):Option Nat × Nat:=if gd s 0=0 then (none,52) else if 1048576<num s then (none,54) else if num s<56 then (none,52) else (some (num s),0)
set_option maxRecDepth 100000 in
set_option maxHeartbeats 1600000 in
theorem qhu (w:World) (a:Option Addr) (b off c p:Nat) (s:List Nat) (hv:Vw w a b off s) (h0:0<s.length) (h8:s.length≤8) :
  Calls Tryz.prog 152 #[.slice a s.length c, .int .i64 p] w fun e w' => w' = w ∧ match qvh s with
      | (some n,_)=>e=.returned (.int .i64 n)
      | (none,r)=>e=.panicked [flt p r]:=by
  obtain rfl:=hv.at_ h0
  have c0:=hv.cell 0 h0
  rw [Nat.add_zero] at c0
  have K1:=qju w _ _ _ c s hv h8
  have KG:=fun r=>qcq w p r
  have hx:=gd_lt (vw_ok hv).2 0
  have hnum:num s<18446744073709551616:=by
    have:=quh (vw_ok hv).2
    have:256 ^ s.length≤256 ^ 8:=Nat.pow_le_pow_right (by decide) h8
    omega
  unfold qvh
  by_cases hz:gd s 0=0
  · rw [if_pos hz]
    rw [hz] at c0
    generalize s.length=n at *
    clear hv hnum K1
    go_enter Tryz.func152,Tryz.ntmps152
    go_wp2_with (go_at_call 134;refine (KG 52).mono ?_;rintro e w' ⟨rfl,rfl⟩)
    exact ⟨rfl,rfl,rfl⟩
  · rw [if_neg hz]
    have hz':¬((gd s 0:Nat):Int)=0:=by omega
    generalize hgx:gd s 0=x at *
    clear hgx
    generalize num s=m at *
    have hl1:0<s.length:=h0
    generalize s.length=n at *
    clear hv
    by_cases h1:1048576<m
    · rw [if_pos h1]
      have i1:(1048576:Int)<m:=by omega
      go_enter Tryz.func152,Tryz.ntmps152
      go_wp2_with (first | (go_at_call 158;refine K1.mono ?_;rintro e w' ⟨rfl,rfl⟩) | (go_at_call 134;refine (KG 54).mono ?_;rintro e w' ⟨rfl,rfl⟩))
      exact ⟨rfl,rfl,rfl⟩
    · rw [if_neg h1]
      have i1:¬(1048576:Int)<m:=by omega
      by_cases h2:m<56
      · rw [if_pos h2]
        have i2:(m:Int)<56:=by omega
        go_enter Tryz.func152,Tryz.ntmps152
        go_wp2_with (first | (go_at_call 158;refine K1.mono ?_;rintro e w' ⟨rfl,rfl⟩) | (go_at_call 134;refine (KG 52).mono ?_;rintro e w' ⟨rfl,rfl⟩))
        exact ⟨rfl,rfl,rfl⟩
      · rw [if_neg h2]
        have i2:¬(m:Int)<56:=by omega
        go_enter Tryz.func152,Tryz.ntmps152
        go_wp2_with (go_at_call 158;refine K1.mono ?_;rintro e w' ⟨rfl,rfl⟩)
        go_ret
        exact ⟨rfl,rfl⟩
end Go.Proofs.YtemcneddbhgadaaGreatDoor
