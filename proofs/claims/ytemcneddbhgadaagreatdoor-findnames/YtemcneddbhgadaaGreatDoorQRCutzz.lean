import Derived.Test.YtemcneddbhgadaaGreatDoorQMemzz
import Derived.Test.YtemcneddbhgadaaGreatDoorQGenzz
import Derived.Laws.BitsAllLaws
namespace Go.Proofs.YtemcneddbhgadaaGreatDoor.Dg
open Go.RowKit Go.Maps
def nilS:Value:=.slice none 0 0
def qp0 (v:Value):Option (DataW Value × List MemPlace):=some (.held v,[])
def hA (k:List Nat):Array Value:=(bv k).toArray
def IsH (k:List Nat):Prop:=k.length=32∧∀x∈k,x<256
theorem qcf {k:List Nat} (h:IsH k):(hA k).size=32:=by simp [hA,bv_len,h.1]
theorem qk4 {k:List Nat} (h:IsH k):∀i,i<32→(hA k)[i]?=some (.int .u8 (gd k i:Nat)):=by
 intro i hi
 unfold hA
 rw [List.getElem?_toArray]
 exact bv_at (by rw [h.1];exact hi)
theorem qx8 {k k':List Nat} (h:hA k=hA k'):k=k':=by
 have:bv k=bv k':=by simpa [hA] using h
 unfold bv at this
 exact (List.map_inj_right (fun x y e=>by injection e with _ e;omega)).1 this
theorem qv0 {cs:Array Value} {f:Nat→Nat} (h:cs.size=32) (hc:∀i,i<32→cs[i]?=some (.int .u8 (f i))):cs=hA (lst 32 f):=by
 apply Array.ext_getElem?
 intro i
 by_cases hi:i<32
 ·rw [hc i hi]
  unfold hA
  rw [List.getElem?_toArray,bv_at (by rw [lst_len];exact hi),lst_gd hi]
 ·rw [Array.getElem?_eq_none (by omega),Array.getElem?_eq_none (by simp [hA,bv_len,lst_len];omega)]
theorem qp1 {f:Nat→Nat} (h:∀i,f i<256):IsH (lst 32 f):=⟨lst_len _ _,fun x hx=>by
 obtain ⟨i,_,rfl⟩:=List.mem_map.1 hx
 exact h i⟩
def klit (k:List Nat):Lit:=.string (keyBytes (k.map (fun x:Nat=>Lit.int .u8 (x:Int))))
theorem wf8 {x:Nat} (h:x<256):(Lit.int .u8 (x:Int)).wf=true:=by
 simp [Lit.wf,IntKind.min,IntKind.max,IntKind.bits,IntKind.signed]
 omega
theorem c26:Tryz.prog.cellsOf 31=32:=by kernel_rfl
theorem c5:Tryz.prog.cellsOf 5=1:=by kernel_rfl
theorem qmm {α β:Type} (f:α→β):∀l:List α,(l.map (fun i=>[f i])).flatten=l.map f
 | []=>rfl
 | x::l=>by simp [qmm f l]
theorem qp2 (d:Nat) {k:List Nat} (h:IsH k):Tryz.prog.keyLits (d+2) 31 (bv k)=some (k.map (fun x:Nat=>Lit.int .u8 (x:Int))):=by
 unfold Program.keyLits
 rw [Tryz.underlying31]
 simp only [bv_len,h.1,c26,if_true]
 rw [mapM_some _ (fun i=>[Lit.int .u8 ((gd k i:Nat):Int)]) (List.range 32) ?_]
 ·simp only [Option.map_some,Option.some.injEq]
  rw [qmm]
  conv=>rhs;rw [←qx3 k,h.1]
  simp [lst]
 ·intro i hi
  have hi':i<32:=by simpa using hi
  have e:((bv k).drop (i*Tryz.prog.cellsOf 5)).take (Tryz.prog.cellsOf 5)=[.int .u8 (gd k i:Nat)]:=by
   rw [c5,Nat.mul_one]
   have hl:i<(bv k).length:=by rw [bv_len,h.1];exact hi'
   rw [List.drop_eq_getElem_cons hl]
   have h2:=bv_at (s:=k) (i:=i) (by rw [h.1];exact hi')
   rw [List.getElem?_eq_getElem hl] at h2
   simp only [List.take_succ_cons,List.take_zero]
   rw [Option.some.inj h2]
  rw [e]
  unfold Program.keyLits
  rw [Tryz.underlying5]
  simp only [wf8 (gd_lt h.2 i),and_self,if_true]
theorem qk5 {k:List Nat} (h:IsH k):(Value.agg (hA k)).formed Tryz.prog 31=true:=by
 unfold Value.formed
 rw [Tryz.underlying31,c26]
 show ((hA k).size == 32)=true
 rw [qcf h]
 rfl
theorem qp3:Tryz.prog.keyType 31=true:=by kernel_rfl
theorem qp4:∃d,Tryz.prog.types.size+1=d+2:=⟨Tryz.prog.types.size - 1,by
 have:1≤Tryz.prog.types.size:=by
  have h:(decide (1≤Tryz.prog.types.size))=true:=by kernel_rfl
  exact of_decide_eq_true h
 omega⟩
theorem qc6 {k:List Nat} (h:IsH k):keyOf Tryz.prog 31 (.agg (hA k))=some (klit k):=by
 obtain ⟨d,hd⟩:=qp4
 unfold keyOf
 rw [Tryz.underlying31]
 simp only [qp3,qk5 h,Bool.and_self,if_true,hd]
 have:(Value.agg (hA k)).cells.toList=bv k:=by simp [Value.cells,hA]
 rw [this,qp2 d h]
 rfl
theorem keyed:Keyed Tryz.prog 31 :=
 Keyed.of_law (deep_law_laid (by kernel_rfl) (m:=2) (by decide) (by
  have h:(decide (31<Tryz.prog.types.size))=true:=by kernel_rfl
  exact of_decide_eq_true h) (by kernel_rfl) (by rw [Tryz.underlying31]))
theorem qsu {k k':List Nat} (h:IsH k) (h':IsH k') (e:klit k=klit k'):k=k':=by
 have:=keyed.inj (qc6 h) (e ▸ qc6 h')
 injection this with this
 exact qx8 this
theorem qmn {k:List Nat} (h:IsH k):WideAt.IsKeyLit (klit k):=keyed.key (qc6 h)
theorem own_ne_cells {w:World} {base e size n:Nat} {v:Value} {xs:List Value} (h:w.ownsRow base e size v n xs) {g:Nat} {cs:Array Value} {t:TypeId} {fz:Nat × Nat} (hg:w.heap[g]?=some (.cells cs t fz)) (ht:t≠e):v.ownBlock≠some g:=by
 intro k
 rcases h.2 with ⟨rfl,_⟩ | ⟨g',cap,cur,rfl,_,hg',_⟩
 ·simp [Value.ownBlock] at k
 ·simp only [Value.ownBlock,Option.some.injEq] at k
  subst k
  rw [hg] at hg'
  injection hg' with hg'
  injection hg' with _ h2
  exact ht h2
theorem qen {w:World} {base e size n:Nat} {v:Value} {xs:List Value} (h:w.ownsRow base e size v n xs) {H:Type} {P:Program} {kt:TypeId} {R:Value→Option (DataW H × List MemPlace)} {b m:Nat} {D:DataW H} (hm:w.ownsMap P kt R b m D):v.ownBlock≠some b:=by
 intro k
 obtain ⟨es,clock,hg,_⟩:=hm
 rcases h.2 with ⟨rfl,_⟩ | ⟨g',cap,cur,rfl,_,hg',_⟩
 ·simp [Value.ownBlock] at k
 ·simp only [Value.ownBlock,Option.some.injEq] at k
  subst k
  rw [hg] at hg'
  injection hg' with hg'
  cases hg'
theorem own_block {w:World} {base e size n:Nat} {v:Value} {xs:List Value} (h:w.ownsRow base e size v n xs) {g:Nat} (hv:v.ownBlock=some g):∃cur,w.heap[g]?=some (.cells cur e (0,0)):=by
 rcases h.2 with ⟨rfl,_⟩ | ⟨g',cap,cur,rfl,_,hg',_⟩
 ·simp [Value.ownBlock] at hv
 ·simp only [Value.ownBlock,Option.some.injEq] at hv
  subst hv
  exact ⟨cur,hg'⟩
structure qdu (w:World) (bm:Nat) (F:Nat→Prop) (κ:List Nat→List Nat) (L:List (List Nat)) (D:DataW Value) (V:List Nat→Value) (n:Nat):Prop where
 ris:Ris L
 map:w.ownsMap Tryz.prog 31 qp0 bm n D
 room:n≤L.length
 foot:F bm
 val:∀k,IsH k→D.atKey (klit k) (.held nilS)=.held (V k)
 has:∀k,IsH k→(Maps.has D (klit k)=true↔grp κ L k≠[])
 row:∀k,IsH k→∃xs,w.ownsRow 0 33 1 (V k) (grp κ L k).length xs∧Strs w F xs (grp κ L k)
 rfoot:∀k g,IsH k→(V k).ownBlock=some g→F g
 apart:∀k k' g,IsH k→IsH k'→(V k).ownBlock=some g→(V k').ownBlock=some g→k=k'
 cnt:Maps.size D≤L.length∧(Maps.size D=L.length↔Lone κ L)
 key:∀s∈L,IsH (κ s)
def qe4 (w:World) (bm:Nat) (F:Nat→Prop) (κ:List Nat→List Nat) (L:List (List Nat)):Prop:=∃D V n,qdu w bm F κ L D V n
theorem qdu.turn {w w':World} {bm:Nat} {F G:Nat→Prop} {κ:List Nat→List Nat} {L:List (List Nat)} {D:DataW Value} {V:List Nat→Value} {n:Nat} (h:qdu w bm F κ L D V n) (t:Turn G w w') (hd:∀i,F i→i<w.heap.size→¬G i):qdu w' bm F κ L D V n :=
 { h with
  map:=qi1 h.map t (hd bm h.foot h.map.lt)
  row:=fun k hk=>by
   obtain ⟨xs,h1,h2⟩:=h.row k hk
   exact ⟨xs,own_turn h1 t (fun g hg=>hd g (h.rfoot k g hk hg) (h1.lt g hg).2),h2.imp (fun u _ s hs=>hs.turn t hd)⟩ }
theorem qe4.turn {w w':World} {bm:Nat} {F G:Nat→Prop} {κ:List Nat→List Nat} {L:List (List Nat)} (h:qe4 w bm F κ L) (t:Turn G w w') (hd:∀i,F i→i<w.heap.size→¬G i):qe4 w' bm F κ L:=by
 obtain ⟨D,V,n,h⟩:=h
 exact ⟨D,V,n,h.turn t hd⟩
theorem qp5 (w:World) (κ:List Nat→List Nat):qe4 (w.alloc (.map #[] 0)) w.heap.size (fun i=>i=w.heap.size) κ [] :=
 ⟨.map [],fun _=>nilS,0,{
  ris:=List.Pairwise.nil
  map:=World.ownsMap_made w _ _ _
  room:=Nat.le_refl _
  foot:=rfl
  val:=fun k _=>rfl
  has:=fun k _=>by simp [Maps.has,grp]
  row:=fun k _=>⟨[],World.ownsRow_nil _ _ _ _,.nil⟩
  rfoot:=fun k g _ hg=>by simp [nilS,Value.ownBlock] at hg
  apart:=fun k k' g _ _ hg=>by simp [nilS,Value.ownBlock] at hg
  cnt:=⟨Nat.le_refl _,fun _=>List.Pairwise.nil,fun _=>rfl⟩
  key:=by simp }⟩
theorem qdu.store {w w2 w3 : World} {bm : Nat} {F F' : Nat → Prop} {κ : List Nat → List Nat} {L : List (List Nat)} {D : DataW Value} {V : List Nat → Value} {n : Nat} {s : List Nat} {v' : Value} {xs' : List Value} (h : qdu w bm F κ L D V n) (hs : s ∉ L) (hk : IsH (κ s))
    (hF:∀i,F i→F' i) (hnew:∀i,w.heap.size≤i→i<w3.heap.size→F' i)
    (t:Turn (fun i=>(V (κ s)).ownBlock=some i) w w2) (own:w2.ownsRow 0 33 1 v' ((grp κ L (κ s)).length+1) xs') (strs:Strs w2 F' xs' (ins s (grp κ L (κ s))))
    (vf:v'.ownBlock=(V (κ s)).ownBlock∨∃g,v'.ownBlock=some g∧w.heap.size≤g)
    (m:w3.ownsMap Tryz.prog 31 qp0 bm (n+1) (D.put (klit (κ s)) (.held v'))) (g3:w2.grownBy w3 (some bm)) :
    qdu w3 bm F' κ (ins s L) (D.put (klit (κ s)) (.held v')) (fun k=>if k=κ s then v' else V k) (n+1):=by
  have hsg:s∉grp κ L (κ s):=fun k=>hs (qg6.1 k).1
  obtain ⟨xk,ok,sk⟩:=h.row (κ s) hk
  have m2:w2.ownsMap Tryz.prog 31 qp0 bm n D:=qi1 h.map t (qen ok h.map)
  have t3:Turn (fun i=>i=bm) w2 w3:=Turn.of_grown g3 (fun k e=>(Option.some.inj e).symm)
  have str2 : ∀ u t', Str w F u t' → Str w2 F u t' := fun u t' hu => ⟨own_turn hu.own t (fun g hg e => by
      obtain ⟨cur,hc⟩:=own_block ok e
      exact own_ne_cells hu.own hc (by decide) hg),hu.foot,hu.ok⟩
  have str3:∀{G:Nat→Prop} u t',Str w2 G u t'→Str w3 G u t':=fun u t' hu=>⟨own_turn hu.own t3 (fun g hg e=>qen hu.own m2 (e ▸ hg)),hu.foot,hu.ok⟩
  have own3:∀{v:Value} {q:Nat} {ys:List Value},w2.ownsRow 0 33 1 v q ys→w3.ownsRow 0 33 1 v q ys:=fun hv=>own_turn hv t3 (fun g hg e=>qen hv m2 (e ▸ hg))
  have hlen:=qel hs
  have hput:∀k,IsH k→k≠κ s→klit k≠klit (κ s):=fun k hk' hne e=>hne (qsu hk' hk e)
  have hblk:∀k g,IsH k→k≠κ s→(V k).ownBlock=some g→v'.ownBlock=some g→False:=fun k g hk' hne h1 h2=>by
    rcases vf with e | ⟨g',e,hg'⟩
    · exact hne (h.apart k (κ s) g hk' hk h1 (e ▸ h2))
    · rw [e] at h2
      obtain ⟨ys,oy,_⟩:=h.row k hk'
      have:=(oy.lt g h1).2
      have:=Option.some.inj h2
      omega
  refine { ris:=qpk h.ris,map:=m,room:=by rw [hlen];have:=h.room;omega,foot:=hF _ h.foot,val:=fun k hk'=>?_,has:=fun k hk'=>?_,row:=fun k hk'=>?_,rfoot:=fun k g hk' hg=>?_,apart:=fun k k' g hk1 hk2 h1 h2=>?_,cnt:=?_,key:=fun x hx=>?_ }
  · by_cases e:k=κ s
    · subst e
      rw [if_pos rfl,atKey_put_same h.map.isMap (qmn hk)]
    · rw [if_neg e,atKey_put_other (hput k hk' e)]
      exact h.val k hk'
  · rw [qpn h.ris]
    by_cases e:k=κ s
    · subst e
      rw [if_pos rfl,has_put_same h.map.isMap (qmn hk)]
      refine ⟨fun _ c=>?_,fun _=>rfl⟩
      have:s∈ins s (grp κ L (κ s)):=qd2.2 (Or.inl rfl)
      rw [c] at this
      simp at this
    · rw [if_neg (fun q=>e q.symm),has_put_other (hput k hk' e)]
      exact h.has k hk'
  · rw [qpn h.ris]
    by_cases e:k=κ s
    · subst e
      rw [if_pos rfl,if_pos rfl,qel hsg]
      exact ⟨xs',own3 own,strs.imp (fun u _ t' hu=>str3 u t' hu)⟩
    · rw [if_neg e,if_neg (fun q:κ s=k=>e q.symm)]
      obtain ⟨ys,oy,sy⟩:=h.row k hk'
      refine ⟨ys,own3 (own_turn oy t (fun g hg q=>e (h.apart k (κ s) g hk' hk hg q))),sy.imp (fun u _ t' hu=>(str3 u t' (str2 u t' hu)).mono hF)⟩
  · by_cases e:k=κ s
    · rw [if_pos e] at hg
      rcases vf with q | ⟨g',q,hg'⟩
      · exact hF _ (h.rfoot (κ s) g hk (q ▸ hg))
      · have hlt:=((own3 own).lt g hg).2
        rw [q] at hg
        exact hnew g (by have:=Option.some.inj hg;omega) hlt
    · rw [if_neg e] at hg
      exact hF _ (h.rfoot k g hk' hg)
  · by_cases e1:k=κ s
    · by_cases e2:k'=κ s
      · rw [e1,e2]
      · rw [if_pos e1] at h1
        rw [if_neg e2] at h2
        exact (hblk k' g hk2 e2 h2 h1).elim
    · by_cases e2:k'=κ s
      · rw [if_neg e1] at h1
        rw [if_pos e2] at h2
        exact (hblk k g hk1 e1 h1 h2).elim
      · rw [if_neg e1] at h1
        rw [if_neg e2] at h2
        exact h.apart k k' g hk1 hk2 h1 h2
  · rw [hlen]
    have hc:=h.cnt
    by_cases e:grp κ L (κ s)=[]
    · have hn:Maps.has D (klit (κ s))=false:=by
        cases q:Maps.has D (klit (κ s)) with
        | false=>rfl
        | true=>exact absurd e ((h.has _ hk).1 q)
      rw [size_put (h.map.tidy keyed),hn,qj2 e]
      simp only [Bool.false_eq_true,if_false]
      refine ⟨by omega,?_⟩
      rw [←hc.2]
      omega
    · have hn:=(h.has _ hk).2 e
      rw [size_put (h.map.tidy keyed),hn]
      simp only [if_true]
      refine ⟨by omega,fun q=>by omega,fun q=>?_⟩
      cases hg:grp κ L (κ s) with
      | nil=>exact absurd hg e
      | cons x r =>
        have hx:x∈grp κ L (κ s):=by rw [hg];simp
        obtain ⟨hx1,hx2⟩:=qg6.1 hx
        exact absurd q (qkz (qd2.2 (Or.inr hx1)) (qd2.2 (Or.inl rfl)) (fun c=>hs (c ▸ hx1)) hx2)
  · rcases qd2.1 hx with rfl | hx
    · exact hk
    · exact h.key x hx
open Go.RowKit
def stay (n:Int) (i:Nat):Nat:=(min (max (n - 8*i) 0) 8).toNat
def keep (j x:Nat):Nat:=x - x % 2 ^ (8 - j)
def cutf (n:Int) (f:Nat→Nat) (i:Nat):Nat:=keep (stay n i) (f i)
theorem qv5 {j x:Nat} (h:x<256):keep j x<256:=by unfold keep;omega
theorem qv6 {n:Int} {f:Nat→Nat} (h:∀i,f i<256) (i:Nat):cutf n f i<256:=qv5 (h i)
theorem qqb:∀j,j<9→∀x,x<256→x &&& (255 - 255 / 2 ^ j)=keep j x:=by decide +kernel
theorem qsz:(Tryz.prog.info? 31).map (fun i=>(i.zero,i.size))=some (some (.agg Z32),32):=by kernel_rfl
theorem qa2 {k:List Nat} (h:IsH k):(Tryz.prog.info? 31).map (·.size)=some (hA k).size:=by rw [qcf h];exact info26
theorem qew {k:List Nat} (h:IsH k):(hA k).all (·.oneCell')=true:=qbn (fun i hi=>⟨_,_,qk4 h i (by rw [qcf h] at hi;exact hi)⟩)
theorem qex {k:List Nat} (h:IsH k):Z32.size=(hA k).size:=by rw [qcf h];rfl
theorem qmq (s:W8):qe1 s=hA (lst 32 (hb s)):=qv0 (qc5 s) (qf8 s)
structure CF (w wr:World) (F:Nat→Nat):Prop where
 below:Below w.heap.size w wr
 row:wr.rowIs w.heap.size 31 32 (fun i=>.int .u8 (F i))
 out:wr.rowIs (w.heap.size+1) 31 32 (fun _=>.int .u8 0)
theorem CF.set {w wr:World} {F:Nat→Nat} (h:CF w wr F) (i v:Nat):CF w (wr.setCell ⟨w.heap.size,i,none⟩ (.int .u8 v)) (fun j=>if j=i then v else F j) :=
 ⟨h.below.setCell (Nat.le_refl _) _,(h.row.set i _).congr (fun j _=>by split <;> rfl),h.out.setOther (by show w.heap.size+1≠w.heap.size;omega) _⟩
theorem CF.congr {w wr:World} {F G:Nat→Nat} (h:CF w wr F) (e:∀i,i<32→F i=G i):CF w wr G:=⟨h.below,h.row.congr (fun i hi=>by rw [e i hi]),h.out⟩
theorem CF.drew {w wr:World} {F:Nat→Nat} (h:CF w wr F):CF w wr.drew F:=⟨h.below.drew,h.row.of_block rfl,h.out.of_block rfl⟩
theorem qs0 (w:World) {k:List Nat} (hk:IsH k):CF w ((w.alloc (.cells (hA k) 31)).alloc (.cells Z32 31)) (gd k):=by
 have r:=World.rowIs_alloc w (hA k) 31 (fun i=>.int .u8 (gd k i)) (fun i hi=>qk4 hk i (by rw [qcf hk] at hi;exact hi))
 rw [qcf hk] at r
 have o:((w.alloc (.cells (hA k) 31)).alloc (.cells Z32 31)).rowIs (w.heap.size+1) 31 32 (fun _=>.int .u8 0):=by
  rw [qe2]
  have:=qbb (w.alloc (.cells (hA k) 31)) (.int .u8 0) 32 31
  rwa [World.size_alloc] at this
 exact ⟨((Below.refl _ _).alloc (Nat.le_refl _) _).alloc (by simp) _,r.alloc _,o⟩
theorem cut_cases (n j:Nat):(n:Int) - 8*(j:Int)<0∨(¬((n:Int) - 8*(j:Int)<0)∧8<(n:Int) - 8*(j:Int))∨∃s:Nat,s<9∧(n:Int) - 8*(j:Int)=(s:Int):=by
 by_cases h1:(n:Int) - 8*(j:Int)<0
 ·exact Or.inl h1
 ·by_cases h2:8<(n:Int) - 8*(j:Int)
  ·exact Or.inr (Or.inl ⟨h1,h2⟩)
  ·exact Or.inr (Or.inr ⟨n - 8*j,by omega,by omega⟩)
set_option maxRecDepth 100000 in
set_option maxHeartbeats 1600000 in
theorem qv7 (w:World) (k:List Nat) (hk:IsH k) (n:Nat) (hn:n≤256) :
 Calls Tryz.prog 41 #[.agg (hA k),.int .i64 n] w fun e w'=>e=.returned (.agg (hA (lst 32 (cutf n (gd k)))))∧Below w.heap.size w w':=by
 have z64:=(zero_of_info qsz).1
 have HM:Hid (CF w ((w.alloc (.cells (hA k) 31)).alloc (.cells Z32 31)) (gd k)):=qs0 w hk
 have bs:=qcf hk
 go_enter Tryz.func41,Tryz.ntmps41
 go_wp2_with fail
 go_loopg [7] 32 (fun g i wr=>∃j:Nat,j≤32∧g=32 - j∧i=.int .i64 j∧CF w wr (fun i=>if i<j then cutf n (gd k) i else gd k i))
 case atStart=>exact ⟨0,by omega,rfl,rfl,HM.out.congr (fun i _=>by simp)⟩
 case round =>
  obtain ⟨j,hj,rfl,rfl,hR⟩:=hrel
  clear HM
  by_cases hjn:j<32
  ·have cc:=hR.row.cell (i:=j) hjn
   have fz:=hR.row.frozen j
   simp only [Nat.lt_irrefl,if_false] at cc
   have hb:=gd_lt hk.2 j
   obtain ⟨z,hz⟩:∃z,z=gd k j:=⟨_,rfl⟩
   rw [←hz] at cc hb
   have Hz:Hid (z=gd k j):=hz
   have HR:Hid (CF w wr (fun i=>if i<j then cutf n (gd k) i else gd k i)):=hR
   clear hR hz
   have HK:Hid (∀q,q<9→bits .andNot .u8 (z:Int) ((255 / 2 ^ q:Nat):Int)=((keep q z:Nat):Int)):=fun q hq=>by
    rw [←qqb q hq z hb]
    exact u8_andNot_nat z (255 / 2 ^ q) hb (Nat.lt_of_le_of_lt (Nat.div_le_self _ _) (by decide))
   rcases (cut_cases n j:(n:Int) - 8*(j:Int)<0∨(¬((n:Int) - 8*(j:Int)<0)∧8<(n:Int) - 8*(j:Int))∨∃s:Nat,s<9∧(n:Int) - 8*(j:Int)=(s:Int)) with d | ⟨d,d2⟩ | ⟨s,hs,d⟩
   ·skip
    have hbit:bits .andNot .u8 (z:Int) 255=((keep 0 z:Nat):Int):=HK.out 0 (by decide)
    have HS:Hid (stay n j=0):=by show stay n j=0;unfold stay;omega
    go_wp2_with fail
    go_region
    go_wp2_with fail
    go_roundg (32 - (j+1))
    case measure=>omega
    case rel =>
     refine ⟨j+1,by omega,rfl,by go_num,(HR.out.drew.set j _).congr (fun i _=>?_)⟩
     by_cases e:i=j
     ·subst e
      rw [if_pos rfl,if_pos (by omega)]
      unfold cutf
      rw [HS.out,Hz.out]
     ·rw [if_neg e]
      by_cases l:i<j
      ·rw [if_pos l,if_pos (by omega)]
      ·rw [if_neg l,if_neg (by omega)]
   ·skip
    have hbit:bits .andNot .u8 (z:Int) 0=((keep 8 z:Nat):Int):=HK.out 8 (by decide)
    have HS:Hid (stay n j=8):=by show stay n j=8;unfold stay;omega
    go_wp2_with fail
    go_region
    go_wp2_with fail
    go_roundg (32 - (j+1))
    case measure=>omega
    case rel =>
     refine ⟨j+1,by omega,rfl,by go_num,(HR.out.drew.set j _).congr (fun i _=>?_)⟩
     by_cases e:i=j
     ·subst e
      rw [if_pos rfl,if_pos (by omega)]
      unfold cutf
      rw [HS.out,Hz.out]
     ·rw [if_neg e]
      by_cases l:i<j
      ·rw [if_pos l,if_pos (by omega)]
      ·rw [if_neg l,if_neg (by omega)]
   ·have d2:¬((s:Int)<0):=by omega
    have d3:¬(8<(s:Int)):=by omega
    have d4:(s:Int)≤8:=by omega
    have hbit:bits .andNot .u8 (z:Int) ((255:Int) / 2 ^ s)=((keep s z:Nat):Int):=by
     have:=HK.out s hs
     simpa using this
    have HS:Hid (stay n j=s):=by show stay n j=s;unfold stay;omega
    go_wp2_with fail
    go_region
    go_wp2_with fail
    go_roundg (32 - (j+1))
    case measure=>omega
    case rel =>
     refine ⟨j+1,by omega,rfl,by go_num,(HR.out.drew.set j _).congr (fun i _=>?_)⟩
     by_cases e:i=j
     ·subst e
      rw [if_pos rfl,if_pos (by omega)]
      unfold cutf
      rw [HS.out,Hz.out]
     ·rw [if_neg e]
      by_cases l:i<j
      ·rw [if_pos l,if_pos (by omega)]
      ·rw [if_neg l,if_neg (by omega)]
  ·have:j=32:=by omega
   subst this
   obtain ⟨cs,hg,hsz,hcs⟩:=hR.row
   obtain ⟨os,og,osz,_⟩:=hR.out
   have hi:(Tryz.prog.info? 31).map (·.size)=some cs.size:=by rw [hsz];exact info26
   have h1:cs.all (·.oneCell')=true:=qbn (fun i hi=>⟨_,_,hcs i (by omega)⟩)
   have HR:Hid (CF w wr (fun i=>if i<32 then cutf n (gd k) i else gd k i)):=hR
   have HC:Hid (cs=hA (lst 32 (cutf n (gd k)))):=qv0 hsz (fun i hi=>by rw [hcs i hi];simp only [if_pos hi])
   clear hR hcs
   go_wp2_with (first
    | refine wpList_load_row rfl 31 (.tmp 2) rfl w.heap.size rfl 31 cs (0,0) _ hg Tryz.underlying31 rfl hi ?_
    | refine wpList_store_row rfl 31 (.tmp 4) (.tmp 24) rfl (w.heap.size+1) cs rfl rfl 31 os og hi (by omega) h1 ?_)
   refine bodyPost_ret (v:=.agg cs) ?_ rfl ?_
   ·exact results_cell_row rfl _ _ (w.heap.size+1) 31 cs (0,0) _ rfl (setRow_heap _ _ _ _ _ _ og) Tryz.underlying31 rfl hi
   ·exact ⟨by rw [←HC.out],below_setRow HR.out.below (by omega) _⟩
open Go.RowKit
structure CR (w wr:World) (F G:Nat→Nat):Prop where
 below:Below w.heap.size w wr
 row:wr.rowIs w.heap.size 31 32 (fun i=>.int .u8 (F i))
 res:wr.rowIs (w.heap.size+1) 31 32 (fun _=>.int .u8 0)
 out:wr.rowIs (w.heap.size+2) 31 32 (fun i=>.int .u8 (G i))
theorem CR.set {w wr:World} {F G:Nat→Nat} (h:CR w wr F G) (i v:Nat):CR w (wr.setCell ⟨w.heap.size+2,i,none⟩ (.int .u8 v)) F (fun j=>if j=i then v else G j) :=
 ⟨h.below.setCell (by show w.heap.size≤w.heap.size+2;omega) _,h.row.setOther (by show w.heap.size≠w.heap.size+2;omega) _,h.res.setOther (by show w.heap.size+1≠w.heap.size+2;omega) _,(h.out.set i _).congr (fun j _=>by split <;> rfl)⟩
theorem CR.congr {w wr:World} {F G G':Nat→Nat} (h:CR w wr F G) (e:∀i,i<32→G i=G' i):CR w wr F G':=⟨h.below,h.row,h.res,h.out.congr (fun i hi=>by rw [e i hi])⟩
theorem CR.drew {w wr:World} {F G:Nat→Nat} (h:CR w wr F G):CR w wr.drew F G:=⟨h.below.drew,h.row.of_block rfl,h.res.of_block rfl,h.out.of_block rfl⟩
theorem qms (w:World):(w.alloc (.cells Z32 31)).rowIs w.heap.size 31 32 (fun _=>.int .u8 0):=by
 rw [qe2]
 exact qbb w (.int .u8 0) 32 31
theorem qs2 (w:World) {k:List Nat} (hk:IsH k):CR w (((w.alloc (.cells (hA k) 31)).alloc (.cells Z32 31)).alloc (.cells Z32 31)) (gd k) (fun _=>0):=by
 have r:=World.rowIs_alloc w (hA k) 31 (fun i=>.int .u8 (gd k i)) (fun i hi=>qk4 hk i (by rw [qcf hk] at hi;exact hi))
 rw [qcf hk] at r
 have o1:=qms (w.alloc (.cells (hA k) 31))
 have o2:=qms ((w.alloc (.cells (hA k) 31)).alloc (.cells Z32 31))
 simp only [World.size_alloc] at o1 o2
 exact ⟨(((Below.refl _ _).alloc (Nat.le_refl _) _).alloc (by simp) _).alloc (by simp;omega) _,(r.alloc _).alloc _,o1.alloc _,o2⟩
theorem qyg {s q:Nat} (h1:1≤s) (h2:s≤q) (h3:q≤8):2 ^ (q - s)≤128:=by
 have:2 ^ (q - s)≤2 ^ 7:=Nat.pow_le_pow_right (by decide) (by omega)
 omega
theorem qqe {n j:Nat} (h:(8:Int)≤(n:Int) - 8*(j:Int)) (x:Nat):keep (stay n j) x=x:=by
 have:stay n j=8:=by unfold stay;omega
 rw [this]
 unfold keep
 rw [Nat.sub_self,Nat.pow_zero,Nat.mod_one,Nat.sub_zero]
theorem qqf {n j:Nat} (h:¬(0:Int)<(n:Int) - 8*(j:Int)) (x:Nat) (hx:x<256):keep (stay n j) x=0:=by
 have:stay n j=0:=by unfold stay;omega
 rw [this]
 unfold keep
 rw [show (8 - 0:Nat)=8 from rfl,show (2:Nat) ^ 8=256 from rfl,Nat.mod_eq_of_lt hx,Nat.sub_self]
set_option maxRecDepth 100000 in
set_option maxHeartbeats 1600000 in
theorem qs3 (w:World) (k:List Nat) (hk:IsH k) (n:Nat) (hn:n≤256) :
 Calls Tryz.prog 60 #[.int .i64 n,.agg (hA k)] w fun e w'=>e=.returned (.agg (hA (lst 32 (cutf n (gd k)))))∧Below w.heap.size w w':=by
 have z64:=(zero_of_info qsz).1
 have HM:Hid (CR w (((w.alloc (.cells (hA k) 31)).alloc (.cells Z32 31)).alloc (.cells Z32 31)) (gd k) (fun _=>0)):=qs2 w hk
 have bs:=qcf hk
 go_enter Tryz.func60,Tryz.ntmps60
 go_wp2_with fail
 go_loopg [6] 32 (fun g i wr=>∃j:Nat,j≤32∧g=32 - j∧i=.int .i64 j∧CR w wr (gd k) (fun i=>if i<j then cutf n (gd k) i else 0))
 case atStart=>exact ⟨0,by omega,rfl,rfl,HM.out.congr (fun i _=>by simp)⟩
 case round =>
  obtain ⟨j,hj,rfl,rfl,hR⟩:=hrel
  clear HM
  by_cases hjn:j<32
  ·have cc:=hR.row.cell (i:=j) hjn
   have co:=hR.out.cell (i:=j) hjn
   have fz:=hR.out.frozen j
   simp only [Nat.lt_irrefl,if_false] at co
   have hb:=gd_lt hk.2 j
   obtain ⟨z,hz⟩:∃z,z=gd k j:=⟨_,rfl⟩
   rw [←hz] at cc hb
   have Hz:Hid (z=gd k j):=hz
   have HR:Hid (CR w wr (gd k) (fun i=>if i<j then cutf n (gd k) i else 0)):=hR
   have HN:Hid (∀v:Nat,v=cutf n (gd k) j→∀wq,CR w wq (gd k) (fun i=>if i<j then cutf n (gd k) i else 0)→CR w (wq.setCell ⟨w.heap.size+2,j,none⟩ (.int .u8 v)) (gd k) (fun i=>if i<j+1 then cutf n (gd k) i else 0)):=fun v hv wq h=>(h.set j v).congr (fun i _=>by
    by_cases e:i=j
    ·subst e
     rw [if_pos rfl,if_pos (by omega),hv]
    ·rw [if_neg e]
     by_cases l:i<j
     ·rw [if_pos l,if_pos (by omega)]
     ·rw [if_neg l,if_neg (by omega)])
   clear hR hz
   obtain ⟨d,hd⟩:∃d:Int,d=(n:Int) - 8*(j:Int):=⟨_,rfl⟩
   by_cases d1:8≤d
   ·have HV:Hid (z=cutf n (gd k) j):=by show z=_;rw [Hz.out];exact (qqe (by omega) _).symm
    have d1':8≤(n:Int) - 8*(j:Int):=by omega
    clear hd d1
    go_wp2_with fail
    go_roundg (32 - (j+1))
    case measure=>omega
    case rel=>exact ⟨j+1,by omega,rfl,by go_num,HN.out z HV.out wr HR.out⟩
   ·by_cases d2:0<d
    ·obtain ⟨s,hs⟩:∃s:Nat,(n:Int) - 8*(j:Int)=(s:Int):=⟨n - 8*j,by omega⟩
     have hs1:1≤s:=by omega
     have hs2:s≤7:=by omega
     have d1':¬8≤(s:Int):=by omega
     have d2':0<(s:Int):=by omega
     have HS:Hid (stay n j=s):=by show stay n j=s;unfold stay;omega
     clear hd d1 d2
     go_wp2_with fail
     go_loopg [8,9] (8 - s) (fun g kv jv wq=>∃q:Nat,s≤q∧q≤8∧g=8 - q∧kv=.int .u8 ((2 ^ (q - s):Nat):Int)∧jv=.int .i64 q∧wq=wr)
     case atStart=>exact ⟨s,Nat.le_refl _,by omega,rfl,by rw [Nat.sub_self];rfl,rfl,rfl⟩
     case round =>
      obtain ⟨q,hq1,hq2,rfl,rfl,rfl,hw'⟩:=hrel
      have hw'':=hw'.symm
      subst hw''
      have hp:=qyg hs1 hq1 hq2
      by_cases hq:q<8
      ·have hp2:2 ^ (q - s)≤64:=by
        have:2 ^ (q - s)≤2 ^ 6:=Nat.pow_le_pow_right (by decide) (by omega)
        omega
       have HP:Hid (2 ^ (q - s)*2=2 ^ (q+1 - s)):=by show _=_;rw [←Nat.pow_succ];congr 1;omega
       obtain ⟨P,hP⟩:∃P,P=2 ^ (q - s):=⟨_,rfl⟩
       have HP2:Hid (P=2 ^ (q - s)):=hP
       rw [←hP] at hp hp2 ⊢
       clear hP
       go_wp2_with fail
       go_roundg (8 - (q+1))
       case measure=>omega
       case rel=>exact ⟨q+1,by omega,by omega,rfl,by rw [←HP.out,←HP2.out];go_num,by go_num,rfl⟩
      ·have:q=8:=by omega
       subst this
       have hp0:1≤2 ^ (8 - s):=Nat.one_le_two_pow
       have HV:Hid (z - z % 2 ^ (8 - s)=cutf n (gd k) j):=by show _=_;unfold cutf keep;rw [HS.out,Hz.out]
       obtain ⟨P,hP⟩:∃P,P=2 ^ (8 - s):=⟨_,rfl⟩
       have HP2:Hid (P=2 ^ (8 - s)):=hP
       rw [←hP] at hp hp0 HV ⊢
       clear hP
       have hm:z % P≤z:=Nat.mod_le _ _
       have e1:(z:Int) % (P:Int)=((z % P:Nat):Int):=rfl
       obtain ⟨y,hy⟩:∃y,y=z % P:=⟨_,rfl⟩
       rw [←hy] at hm e1 HV
       clear hy
       have e2:(z:Int) - (y:Int)=((z - y:Nat):Int):=by omega
       go_wp2_with fail
       go_region
       go_wp2_with fail
       go_roundg (32 - (j+1))
       case measure=>omega
       case rel=>exact ⟨j+1,by omega,rfl,by go_num,HN.out (z - y) HV.out _ HR.out.drew⟩
    ·have HV:Hid (0=cutf n (gd k) j):=by show 0=_;unfold cutf;rw [qqf (by omega) _ (gd_lt hk.2 j)]
     have d1':¬8≤(n:Int) - 8*(j:Int):=by omega
     have d2':¬0<(n:Int) - 8*(j:Int):=by omega
     have HX:Hid (CR w wr (gd k) (fun i=>if i<j+1 then cutf n (gd k) i else 0)):=HR.out.congr (fun i _=>by
      by_cases e:i=j
      ·subst e
       rw [if_neg (by omega),if_pos (by omega)]
       exact HV.out
      ·by_cases l:i<j
       ·rw [if_pos l,if_pos (by omega)]
       ·rw [if_neg l,if_neg (by omega)])
     clear hd d1 d2
     go_wp2_with fail
     go_roundg (32 - (j+1))
     case measure=>omega
     case rel=>exact ⟨j+1,by omega,rfl,by go_num,HX.out⟩
  ·have:j=32:=by omega
   subst this
   obtain ⟨cs,hg,hsz,hcs⟩:=hR.out
   obtain ⟨os,og,osz,_⟩:=hR.res
   have hi:(Tryz.prog.info? 31).map (·.size)=some cs.size:=by rw [hsz];exact info26
   have h1:cs.all (·.oneCell')=true:=qbn (fun i hi=>⟨_,_,hcs i (by omega)⟩)
   have HR:Hid (CR w wr (gd k) (fun i=>if i<32 then cutf n (gd k) i else 0)):=hR
   have HC:Hid (cs=hA (lst 32 (cutf n (gd k)))):=qv0 hsz (fun i hi=>by rw [hcs i hi];simp only [if_pos hi])
   clear hR hcs
   go_wp2_with (first
    | refine wpList_load_row rfl 31 (.tmp 5) rfl (w.heap.size+2) rfl 31 cs (0,0) _ hg Tryz.underlying31 rfl hi ?_
    | refine wpList_store_row rfl 31 (.tmp 4) (.tmp 47) rfl (w.heap.size+1) cs rfl rfl 31 os og hi (by omega) h1 ?_)
   refine bodyPost_ret (v:=.agg cs) ?_ rfl ?_
   ·exact results_cell_row rfl _ _ (w.heap.size+1) 31 cs (0,0) _ rfl (setRow_heap _ _ _ _ _ _ og) Tryz.underlying31 rfl hi
   ·exact ⟨by rw [←HC.out],below_setRow HR.out.below (by omega) _⟩
end Go.Proofs.YtemcneddbhgadaaGreatDoor.Dg
