import Derived.Test.YtemcneddbhgadaaGreatDoorEnczz
import Derived.Lib.SliceRun
namespace Go.Proofs.YtemcneddbhgadaaGreatDoor
open Go.RowKit
def fl (ys:List (Bool × Value × Value)):List Value:=ys.flatMap (fun y=>[.bool y.1,y.2.1,y.2.2])
theorem qxm {ys:List (Bool × Value × Value)} {i:Nat} {y:Bool × Value × Value} (h:ys[i]?=some y):(fl ys)[i*3]?=some (.bool y.1)∧(fl ys)[i*3+1]?=some y.2.1∧(fl ys)[i*3+2]?=some y.2.2:=by
 unfold fl
 induction ys generalizing i with
 | nil=>simp at h
 | cons z t ih =>
  cases i with
  | zero =>
   simp at h
   subst h
   exact ⟨rfl,rfl,rfl⟩
  | succ i =>
   have:=ih (i:=i) (by simpa using h)
   rw [List.flatMap_cons,show (i+1)*3=i*3+3 by omega]
   exact this
theorem qxn (ys zs:List (Bool × Value × Value)):fl (ys++zs)=fl ys++fl zs:=by simp [fl]
inductive Own (w:World):Nat→Nat→It→Value→Value→Prop
  | str {lo hi:Nat} {b:List Nat} {vb:Value} (hb:w.ownsRow lo 5 1 vb b.length (bv b)) (hlt:∀q,vb.ownBlock=some q→q<hi) (ok:∀x∈b,x<256) (hl:b.length≤1048576):Own w lo hi (.mk false b []) vb (.slice none 0 0)
  | lst {lo hi : Nat} {xs : List It} {vi : Value} (ys : List (Bool × Value × Value)) (s t : Nat → Nat) (row : w.ownsRow lo 191 3 vi xs.length (fl ys)) (hlt : ∀ q, vi.ownBlock = some q → q < hi) (hl : ys.length = xs.length) (hn : xs.length ≤ 1048576)
      (h1:∀i,i<xs.length→lo≤s i) (h2:∀i,i+1<xs.length→t i≤s (i+1)) (h3:∀i,i<xs.length→t i≤hi) (h4:∀i,i<xs.length→s i≤t i) (hb:∀(i:Nat) (x:It) (y:Bool × Value × Value),xs[i]?=some x→ys[i]?=some y→y.1=x.l)
      (hr:∀(i:Nat) (x:It) (y:Bool × Value × Value),xs[i]?=some x→ys[i]?=some y→Own w (s i) (t i) x y.2.1 y.2.2):Own w lo hi (.mk true [] xs) (.slice none 0 0) vi
theorem qal {w w':World} {B e size n:Nat} {v:Value} {xs:List Value} (h:w.ownsRow B e size v n xs) (k:∀g,v.ownBlock=some g→w'.heap[g]?=w.heap[g]?):w'.ownsRow B e size v n xs:=by
 refine ⟨h.1,?_⟩
 rcases h.2 with q | ⟨g,cap,cur,rfl,hb,hg,r⟩
 ·exact Or.inl q
 ·exact Or.inr ⟨g,cap,cur,rfl,hb,(k g rfl).trans hg,r⟩
theorem Own.same {w w':World}:∀{lo hi:Nat} {x:It} {vb vi:Value},Own w lo hi x vb vi→(∀k,lo≤k→k<hi→w'.heap[k]?=w.heap[k]?)→Own w' lo hi x vb vi:=by
 intro lo hi x vb vi h
 induction h with
 | str hb hlt ok hl=>exact fun k=>.str (qal hb (fun g hg=>k g (hb.lt g hg).1 (hlt g hg))) hlt ok hl
 | lst ys s t row hlt hl hn h1 h2 h3 h4 hb hr ih =>
  intro k
  refine .lst ys s t (qal row (fun g hg=>k g (row.lt g hg).1 (hlt g hg))) hlt hl hn h1 h2 h3 h4 hb (fun i x y hx hy=>ih i x y hx hy (fun q q1 q2=>?_))
  have hi:=(List.getElem?_eq_some_iff.1 hx).1
  have:=h1 i hi
  have:=h3 i hi
  exact k q (by omega) (by omega)
theorem Own.wide {w:World} {lo hi lo' hi':Nat} {x:It} {vb vi:Value} (h:Own w lo hi x vb vi) (h1:lo'≤lo) (h2:hi≤hi'):Own w lo' hi' x vb vi:=by
 cases h with
 | str hb hlt ok hl=>exact .str (qai hb (fun g hg=>by have:=(hb.lt g hg).1;omega)) (fun q hq=>by have:=hlt q hq;omega) ok hl
 | lst ys s t row hlt hl hn h1' h2' h3 h4 hb hr =>
  exact .lst ys s t (qai row (fun g hg=>by have:=(row.lt g hg).1;omega)) (fun q hq=>by have:=hlt q hq;omega) hl hn (fun i hi=>by have:=h1' i hi;omega) h2' (fun i hi=>by have:=h3 i hi;omega) h4 hb hr
theorem qa9 {w:World} {B n:Nat} {v:Value} {s:List Nat} (h:w.ownsRow B 5 1 v n (bv s)) (hn:s.length=n) (ok:∀x∈s,x<256) (hl:n≤140737488351232):Vb w v s:=by
 subst hn
 have st:Str w (fun _=>True) v s:=⟨own_base h,fun _ _=>trivial,⟨by omega,ok⟩⟩
 obtain ⟨a,g,c,e,hc,hv,_⟩:=st.view
 refine ⟨a,g,0,c,e,hv,hc,fun ha=>?_,hl⟩
 subst ha
 rcases h.2 with ⟨e2,_⟩ | ⟨g',cap,cur,e2,_⟩
 ·rw [e] at e2
  injection e2
 ·rw [e] at e2
  injection e2 with e2
  cases e2
theorem Own.lies {w:World}:∀{lo hi:Nat} {x:It} {vb vi:Value},Own w lo hi x vb vi→Lies Vb w x vb vi:=by
 intro lo hi x vb vi h
 induction h with
 | str hb hlt ok hl=>exact Its.shut (xs:=[]) (a:=none) (blk:=0) (off:=0) (c:=0) ⟨fun h=>by simp at h,by simp,fun i x hx=>by simp at hx⟩ (qa9 hb rfl ok (by omega))
 | @lst lo hi xs vi ys s t row hlt hl hn h1 h2 h3 h4 hb hr ih =>
  obtain ⟨a,c,e⟩:=own_slice row
  subst e
  have hA:0<xs.length→∃g,a=some ⟨g,0,none⟩:=fun h0=>by
   rcases row.2 with ⟨_,q⟩ | ⟨g,cap,cur,e,_⟩
   ·omega
   ·injection e with e
    exact ⟨g,e⟩
  have hnil:Vb w (.slice none 0 0) []:=qa9 (B:=0) (n:=0) ⟨rfl,Or.inl ⟨rfl,rfl⟩⟩ rfl (by simp) (by omega)
  by_cases h0:xs.length=0
  ·exact Its.shut (blk:=0) (off:=0) ⟨fun h=>by omega,by omega,fun i x hx=>by have:=(List.getElem?_eq_some_iff.1 hx).1;omega⟩ hnil
  ·obtain ⟨g,rfl⟩:=hA (by omega)
   refine Its.shut (blk:=g) (off:=0) ⟨fun _=>rfl,by omega,fun i x hx=>?_⟩ hnil
   have hi:=(List.getElem?_eq_some_iff.1 hx).1
   obtain ⟨y,hy⟩:∃y,ys[i]?=some y:=⟨_,List.getElem?_eq_getElem (by omega)⟩
   obtain ⟨k1,k2,k3⟩:=qxm hy
   have hL:=ih i x y hx hy
   obtain ⟨a1,n1,c1,a2,n2,c2,e1,e2⟩:=hL.form
   have c1':=row.cells (g:=g) rfl _ _ k1
   have c2':=row.cells (g:=g) rfl _ _ k2
   have c3':=row.cells (g:=g) rfl _ _ k3
   rw [qa7] at c1' c2' c3'
   refine ⟨a1,n1,c1,a2,n2,c2,?_,?_,?_,?_⟩
   ·rw [Nat.zero_add,c1',hb i x y hx hy]
   ·rw [Nat.zero_add,c2',e1]
   ·rw [Nat.zero_add,c3',e2]
   ·rw [←e1,←e2];exact hL
theorem Own.zero (w:World) (lo hi:Nat):Own w lo hi (.mk false [] []) (.slice none 0 0) (.slice none 0 0):=.str ⟨rfl,Or.inl ⟨rfl,rfl⟩⟩ (fun q hq=>by cases hq) (by simp) (by simp)
set_option maxRecDepth 100000 in
set_option maxHeartbeats 1600000 in
theorem clone_any (w:World) (p:Addr) (b off c:Nat) (s:List Nat) (hv:Vw w (some p) b off s) (hl:s.length≤140737488351232) :
 Calls Tryz.prog 36 #[.slice (some p) s.length c] w fun e w'=>∃v,e=.returned v∧w'.ownsRow w.heap.size 5 1 v s.length (bv s)∧Below w.heap.size w w'∧∀q,v.ownBlock=some q→q<w'.heap.size:=by
 have q22:∀(w:World) (a:Option Addr) (n c n' c':Nat),(binOp .eql 33 (.slice a n c) (.slice none n' c')).run Tryz.prog w=.ok (.bool a.isNone) w:=fun w a n c n' c'=>Lib.run_eql_slice_nil w _ _ a n c n' c' Tryz.underlying33
 have own0:=World.ownsRow_lit (base:=w.heap.size) (e:=5) (size:=1) w #[] 0 (Nat.le_refl _) (by decide) rfl
 have v0:Vw (w.alloc (.cells #[] 5)) (some p) b off s:=hv.below (qaa w _)
 have HV0:Hid (Vw (w.alloc (.cells #[] 5)) (some p) b off s):=v0
 clear hv v0
 go_enter Tryz.func36,Tryz.ntmps36
 go_wp2_with (refine wpList_append_bytes (by rfl) (.tmp 5) (.tmp 6) (by rfl) w.heap.size _ 0 [] (by rfl) own0 (some p) b off s.length c _ (by rfl) HV0.out (fun h=>by cases h) (by omega) (by simp) ?_)
 intro v1 w1 own1 gr1 nn1
 have b1:Below w.heap.size w w1:=(qaa w _).trans (grown_below gr1 own0 (Nat.le_refl _) (by simp))
 have own2:w1.ownsRow w.heap.size 5 1 v1 s.length (bv s):=by rw [←vals_bv s];simpa using own1
 have HZ:Hid (w1.ownsRow w.heap.size 5 1 v1 s.length (bv s)∧Below w.heap.size w w1):=⟨own2,b1⟩
 clear own0 own1 own2 gr1 nn1 b1 HV0
 go_wp2_with fail
 go_ret
 exact ⟨v1,rfl,HZ.out.1,HZ.out.2,fun q hq=>(HZ.out.1.lt q hq).2⟩
open Go.RowKit
theorem qov:(Tryz.prog.info? 191).map (·.size)=some 3:=by kernel_rfl
theorem quj {w:World} {g o:Nat} {x y z:Value} (h0:w.cell? ⟨g,o,none⟩=some x) (h1:w.cell? ⟨g,o+1,none⟩=some y) (h2:w.cell? ⟨g,o+2,none⟩=some z):w.rangeAt g o [x,y,z]:=by
 intro j v hj
 match j,hj with
 | 0,hj=>simp at hj;subst hj;exact h0
 | 1,hj=>simp at hj;subst hj;exact h1
 | 2,hj=>simp at hj;subst hj;exact h2
theorem qd0 {w:World} {g:Nat} {x y z:Value} (h0:w.cell? ⟨g,0,none⟩=some x) (h1:w.cell? ⟨g,1,none⟩=some y) (h2:w.cell? ⟨g,2,none⟩=some z):(loadVar 191 ⟨g,0,none⟩).run Tryz.prog w=.ok (.agg #[x,y,z]) w :=
 run_loadVar_mid w g 0 191 [x,y,z] _ (quj h0 h1 h2) Tryz.underlying191 rfl qov
theorem res2 {fn : Func} {p t : Tmp} {ty : TypeId} (h : fn.results = #[.cell p ty, .tmp t]) (tmps : Array Value) (w : World) (g : Nat) (v u : Value)
    (hp:tmps.getD p undef=.pointer (some ⟨g,0,none⟩)) (ht:tmps.getD t undef=u) (hl:(loadVar ty ⟨g,0,none⟩).run Tryz.prog w=.ok v w) :
    (results fn tmps).run Tryz.prog w=.ok (.tuple #[v,u]) w:=by
  have hp':tmps[p]?.getD undef=.pointer (some ⟨g,0,none⟩):=by simpa using hp
  have ht':tmps[t]?.getD undef=u:=by simpa using ht
  simp [results,h,hp',ht',asAddr,hl]
theorem res3 {fn : Func} {p t q : Tmp} {ty : TypeId} (h : fn.results = #[.cell p ty, .tmp t, .tmp q]) (tmps : Array Value) (w : World) (g : Nat) (v u x : Value)
    (hp:tmps.getD p undef=.pointer (some ⟨g,0,none⟩)) (ht:tmps.getD t undef=u) (hq:tmps.getD q undef=x) (hl:(loadVar ty ⟨g,0,none⟩).run Tryz.prog w=.ok v w) :
    (results fn tmps).run Tryz.prog w=.ok (.tuple #[v,u,x]) w:=by
  have hp':tmps[p]?.getD undef=.pointer (some ⟨g,0,none⟩):=by simpa using hp
  have ht':tmps[t]?.getD undef=u:=by simpa using ht
  have hq':tmps[q]?.getD undef=x:=by simpa using hq
  simp [results,h,hp',ht',hq',asAddr,hl]
abbrev set3 (w:World) (g:Nat) (x y z:Value):World:=((w.setCell ⟨g,0,none⟩ x).setCell ⟨g,1,none⟩ y).setCell ⟨g,2,none⟩ z
theorem qbr {w:World} {g:Nat} {x y z x' y' z':Value} (h0:w.cell? ⟨g,0,none⟩=some x') (h1:w.cell? ⟨g,1,none⟩=some y') (h2:w.cell? ⟨g,2,none⟩=some z') :
 (set3 w g x y z).cell? ⟨g,0,none⟩=some x∧(set3 w g x y z).cell? ⟨g,1,none⟩=some y∧(set3 w g x y z).cell? ⟨g,2,none⟩=some z:=by
 unfold set3
 refine ⟨?_,?_,?_⟩
 ·rw [World.cell?_setCell_other _ _ _ _ (by simp),World.cell?_setCell_other _ _ _ _ (by simp),World.cell?_setCell_same _ _ _ h0]
 ·rw [World.cell?_setCell_other _ _ _ _ (by simp),World.cell?_setCell_same _ _ _ ((World.cell?_setCell_other _ _ _ _ (by simp)).trans h1)]
 ·rw [World.cell?_setCell_same _ _ _ ((World.cell?_setCell_other _ _ _ _ (by simp)).trans ((World.cell?_setCell_other _ _ _ _ (by simp)).trans h2))]
theorem qbl (w:World) (g:Nat) (x y z:Value):Turn (fun i=>i=g) w (set3 w g x y z) :=
 ((Turn.setCell (F:=fun i=>i=g) w ⟨g,0,none⟩ x rfl).trans (Turn.setCell (F:=fun i=>i=g) _ ⟨g,1,none⟩ y rfl) (fun _ q=>Or.inl q)).trans (Turn.setCell (F:=fun i=>i=g) _ ⟨g,2,none⟩ z rfl) (fun _ q=>Or.inl q)
theorem qjw (w:World) (g:Nat) (x y z:Value):(set3 w g x y z).heap.size=w.heap.size:=by simp
theorem Own.turn {F:Nat→Prop} {w w':World} {lo hi:Nat} {x:It} {vb vi:Value} (h:Own w lo hi x vb vi) (k:Turn F w w') (hF:∀i,lo≤i→i<hi→¬F i) (hh:hi≤w.heap.size):Own w' lo hi x vb vi:=h.same (fun q q1 q2=>k.block q (by omega) (hF q q1 q2))
open Go.RowKit
def qas (s:List Nat) (d p e:Nat) (w:World) (r:Ending) (w':World):Prop :=
 Below w.heap.size w w'∧match rd s d p e with
  | .ok x z=>∃vb vi,r=.returned (.tuple #[iv x.l vb vi,.int .i64 z])∧Own w' w.heap.size w'.heap.size x vb vi
  | .bad q c=>r=.panicked [flt q c]
set_option maxRecDepth 100000 in
set_option maxHeartbeats 1600000 in
theorem qgk (d : Nat) (hd : d ≤ 80) (KL : ∀ (w : World) (a : Option Addr) (b off e c p : Nat) (s : List Nat), Vp w a b off e c s → p < e → ¬ gd s p < 192 →
      Calls Tryz.prog 143 #[.slice a e c,.int .i64 p,.int .i64 ((80 - d:Nat):Int)] w (qas s d p e w))
    (w:World) (a:Option Addr) (b off e c p:Nat) (s:List Nat) (hv:Vp w a b off e c s) (hp:p≤e) :
    Calls Tryz.prog 133 #[.slice a e c,.int .i64 p,.int .i64 ((80 - d:Nat):Int)] w (qas s d p e w):=by
  have he:e≤1048576:=by have:=hv.len;have:=hv.small;omega
  obtain ⟨dd,edd⟩:∃dd,dd=80 - d:=⟨_,rfl⟩
  rw [←edd] at KL ⊢
  have hdd:dd≤80:=by omega
  by_cases h0:p=e
  · have er:∀r w',qas s d p e w r w'=(Below w.heap.size w w'∧r=.panicked [flt p 50]):=fun r w'=>by unfold qas;rw [qf2,if_pos h0]
    subst h0
    refine Calls.mono (R:=fun r w'=>r=.panicked [flt p 50]∧Below w.heap.size w w') ?_ (fun r w' h=>by rw [er];exact ⟨h.2,h.1⟩)
    clear er KL hv edd hd
    have KG:=fun w=>qcq w p 50
    go_enter Tryz.func133,Tryz.ntmps133
    go_wp2_with (go_at_call 134;refine (KG _).mono ?_;rintro e w' ⟨rfl,rfl⟩)
    exact ⟨rfl,rfl,qaa _ _⟩
  · obtain ⟨rfl,c0,hx⟩:=hv.cell (i:=p) (by omega)
    have hbw:b<w.heap.size:=World.block_lt_of_cell? _ _ c0
    replace c0:=((qaa w (.cells #[.bool false,.slice none 0 0,.slice none 0 0] 191)).cell (p:=⟨b,off+p,none⟩) hbw).trans c0
    by_cases h1:gd s p<128
    · have er:∀r w',qas s d p e w r w'=(Below w.heap.size w w'∧∃vb vi,r=.returned (.tuple #[iv false vb vi,.int .i64 ((p+1:Nat):Int)])∧Own w' w.heap.size w'.heap.size (.mk false [gd s p] []) vb vi):=fun r w'=>by unfold qas;rw [qf2,if_neg h0,if_pos h1];rfl
      generalize gd s p=x at *
      have HER:Hid (∀r w',qas s d p e w r w'=(Below w.heap.size w w'∧∃vb vi,r=.returned (.tuple #[iv false vb vi,.int .i64 ((p+1:Nat):Int)])∧Own w' w.heap.size w'.heap.size (.mk false [x] []) vb vi)):=er
      have i0:¬(p:Int)=e:=by omega
      have i1:(x:Int)<128:=by omega
      have i2:p<e:=by omega
      clear er KL hv edd hd
      go_enter Tryz.func133,Tryz.ntmps133
      go_wp2_with fail
      refine bodyPost_ret (res2 rfl _ _ w.heap.size _ _ rfl rfl (qd0 (x:=.bool false) (y:=.slice (some ⟨w.heap.size+1,0,none⟩) 1 1) (z:=.slice none 0 0) (by simp) (by simp) (by simp))) rfl ?_
      rw [HER.out]
      refine ⟨(qaa _ _).alloc (by simp) _,_,_,rfl,.str ?_ ?_ (by simpa using hx) (by simp)⟩
      · have:=World.ownsRow_lit (base:=w.heap.size) (e:=5) (size:=1) (w.alloc (.cells #[.bool false,.slice (some ⟨w.heap.size+1,0,none⟩) 1 1,.slice none 0 0] 191)) #[.int .u8 x] 1 (by simp) (by decide) rfl
        simpa [bv] using this
      · intro q hq
        have:q=w.heap.size+1:=(Option.some.inj hq).symm
        simp
        omega
    · have i0:¬(p:Int)=e:=by omega
      have i1:¬((gd s p:Nat):Int)<128:=by omega
      have i3:p<e:=by omega
      obtain ⟨w1,ew1⟩:∃w1,w1=w.alloc (.cells #[.bool false,.slice none 0 0,.slice none 0 0] 191):=⟨_,rfl⟩
      have b1:Below w.heap.size w w1:=by rw [ew1];exact qaa _ _
      have s1:w1.heap.size=w.heap.size+1:=by rw [ew1];simp
      have hv1:=hv.keep b1
      have HBX:Hid (∀wr,Below w1.heap.size w1 wr→(wr.cell? ⟨w.heap.size,0,none⟩=some (.bool false)∧wr.cell? ⟨w.heap.size,1,none⟩=some (.slice none 0 0)∧wr.cell? ⟨w.heap.size,2,none⟩=some (.slice none 0 0))∧∀j,wr.frozen? ⟨w.heap.size,j,none⟩=false):=fun wr h=>by
        rw [ew1] at h
        refine ⟨qfc h,fun j=>?_⟩
        rw [h.frozen (p:=⟨w.heap.size,j,none⟩) (by simp)]
        simp
      have HB1:Hid (Below w.heap.size w w1∧w1.heap.size=w.heap.size+1∧w1=w.alloc (.cells #[.bool false,.slice none 0 0,.slice none 0 0] 191)):=⟨b1,s1,ew1⟩
      by_cases h2:gd s p<192
      · have i2:((gd s p:Nat):Int)<192:=by omega
        have K:=qgj w1 _ _ _ _ _ p 128 (gd s p - 128) s hv1 i3 (by omega) (by omega)
        cases hh:qca s p e (gd s p - 128) with
        | bad q =>
          have HR:Hid (rd s d p e=.bad p q):=by
            show _=_
            rw [qf2,if_neg h0,if_neg h1,if_pos h2,hh]
          rw [hh] at K
          generalize hgx:gd s p=x at *
          clear hgx KL hv hv1 edd hd s1 b1 hbw ew1 hh
          go_enter Tryz.func133,Tryz.ntmps133
          go_wp2_with fail
          rw [←HB1.out.2.2]
          refine K.mono ?_
          rintro r w2 ⟨rfl,rfl⟩
          go_wp2_with fail
          exact ⟨rfl,by unfold qas;rw [HR.out];exact ⟨HB1.out.1,rfl⟩⟩
        | ok A Z =>
          obtain ⟨k1,k2,k3,k4,-⟩:=qdz (base:=128) hv.ok hv.len i3 (by omega) (by omega) hh
          rw [hh] at K
          have hcl:(cut s A Z).length=Z - A:=qao (by have:=hv.len;omega)
          have hcap:=hv.cap
          have sb:=qcy (some ⟨b,off,none⟩) e c A Z k2 (by omega)
          have hcut:=hv1.cut (l:=A) (z:=Z) k2 k3
          have KA:=qg1 w1 _ _ _ (c - A) _ hcut
          rw [hcl] at KA
          have ea:alone (cut s A Z)=decide (Z=A+1∧gd s A<128):=by
            unfold alone
            rw [hcl]
            by_cases q:Z - A=1
            · rw [qb7 (by omega),Nat.add_zero,decide_eq_true q]
              simp [show Z=A+1 by omega]
            · rw [decide_eq_false q]
              simp
              omega
          have hbh:∃pp,behind (some ⟨b,off,none⟩) c A=some pp:=by
            unfold behind
            split
            · exact ⟨_,rfl⟩
            · exact ⟨_,rfl⟩
          obtain ⟨pp,ebh⟩:=hbh
          rw [ebh] at sb KA hcut
          rw [ea] at KA
          by_cases h4:Z=A+1∧gd s A<128
          · have HR:Hid (rd s d p e=.bad p 52):=by
              show _=_
              rw [qf2,if_neg h0,if_neg h1,if_pos h2,hh]
              dsimp only
              rw [if_pos h4]
            rw [decide_eq_true h4] at KA
            have KG:=fun w=>qcq w p 52
            generalize hgx:gd s p=x at *
            clear hgx KL hv hv1 edd hd s1 b1 hbw ew1 hh hcut ea ebh hcl h4
            go_enter Tryz.func133,Tryz.ntmps133
            go_wp2_with fail
            rw [←HB1.out.2.2]
            refine K.mono ?_
            rintro r w2 ⟨rfl,rfl⟩
            go_wp2_with (first | (go_at_call 145;refine KA.mono ?_;rintro e w' ⟨rfl,rfl⟩) | (go_at_call 134;refine (KG _).mono ?_;rintro e w' ⟨rfl,rfl⟩))
            exact ⟨rfl,by unfold qas;rw [HR.out];exact ⟨HB1.out.1,rfl⟩⟩
          · have HR:Hid (rd s d p e=.ok (.mk false (cut s A Z) []) Z):=by
              show _=_
              rw [qf2,if_neg h0,if_neg h1,if_pos h2,hh]
              dsimp only
              rw [if_neg h4]
            rw [decide_eq_false h4] at KA
            have KC:=clone_any w1 pp _ _ (c - A) _ hcut (by rw [hcl];omega)
            have HO:Hid ((∀x∈cut s A Z,x<256)∧(cut s A Z).length=Z - A∧Z - A≤1048576):=⟨fun x hx=>hv.ok x (qdx hx),hcl,by omega⟩
            rw [hcl] at KC
            generalize hgx:gd s p=x at *
            clear hgx KL hv hv1 edd hd s1 b1 hbw ew1 hh hcut ea ebh hcl h4
            go_enter Tryz.func133,Tryz.ntmps133
            go_wp2_with fail
            rw [←HB1.out.2.2]
            refine K.mono ?_
            rintro r w2 ⟨rfl,rfl⟩
            go_wp2_with (go_at_call 145;refine KA.mono ?_;rintro e w' ⟨rfl,rfl⟩)
            refine KC.mono ?_
            rintro r w3 ⟨v,rfl,own3,hb3,hlt3⟩
            obtain ⟨⟨x0,x1,x2⟩,xf⟩:=HBX.out w3 hb3
            have f0:=xf 0
            have f1:=xf 1
            have f2:=xf 2
            obtain ⟨av,cv,ev⟩:=own_slice own3
            subst ev
            have HZ:Hid (w3.ownsRow w'.heap.size 5 1 (.slice av (Z - A) cv) (Z - A) (bv (cut s A Z))∧Below w'.heap.size w' w3∧∀q,(Value.slice av (Z - A) cv).ownBlock=some q→q<w3.heap.size):=⟨own3,hb3,hlt3⟩
            clear own3 hb3 hlt3 xf
            go_wp2_with fail
            refine bodyPost_ret (res2 rfl _ _ w.heap.size _ _ rfl rfl (qd0 (qbr x0 x1 x2).1 (qbr x0 x1 x2).2.1 (qbr x0 x1 x2).2.2)) rfl ?_
            have t3:=qbl w3 w.heap.size (.bool false) (.slice av (Z - A) cv) (.slice none 0 0)
            have z1:=HB1.out.2.1
            have z2:=HZ.out.2.1.size
            unfold qas
            rw [HR.out]
            refine ⟨(ch HB1.out.1 HZ.out.2.1).trans (t3.below (fun i q=>by omega) (by omega)),_,_,rfl,?_⟩
            have ho:Own w3 w'.heap.size w3.heap.size (.mk false (cut s A Z) []) (.slice av (Z - A) cv) (.slice none 0 0):=.str (by rw [HO.out.2.1];exact HZ.out.1) HZ.out.2.2 HO.out.1 (by rw [HO.out.2.1];exact HO.out.2.2)
            exact (ho.turn t3 (fun i q1 q2=>by omega) (Nat.le_refl _)).wide (by omega) (by simp)
      · have i2:¬((gd s p:Nat):Int)<192:=by omega
        have K:=KL w1 _ _ _ _ _ _ s hv1 i3 h2
        have er : ∀ r w', qas s d p e w1 r w' → Below w1.heap.size w1 w' ∧ match rd s d p e with
            | .ok x z=>∃vb vi,r=.returned (.tuple #[iv x.l vb vi,.int .i64 z])∧Own w' w1.heap.size w'.heap.size x vb vi
            | .bad q c=>r=.panicked [flt q c]:=fun r w' h=>h
        generalize hgx:gd s p=x at *
        clear hgx KL hv hv1 edd hd s1 b1 hbw ew1
        cases hrd:rd s d p e with
        | bad q cd =>
          have HR:Hid (rd s d p e=.bad q cd):=hrd
          rw [hrd] at er
          clear hrd
          go_enter Tryz.func133,Tryz.ntmps133
          go_wp2_with fail
          rw [←HB1.out.2.2]
          refine K.mono ?_
          intro r w2 hr
          obtain ⟨hb2,rfl⟩:=er r w2 hr
          have HZ:Hid (Below w.heap.size w w2):=ch HB1.out.1 hb2
          clear hr hb2
          go_wp2_with fail
          exact ⟨rfl,by unfold qas;rw [HR.out];exact ⟨HZ.out,rfl⟩⟩
        | ok y z =>
          have HR:Hid (rd s d p e=.ok y z):=hrd
          rw [hrd] at er
          clear hrd
          go_enter Tryz.func133,Tryz.ntmps133
          go_wp2_with fail
          rw [←HB1.out.2.2]
          refine K.mono ?_
          intro r w2 hr
          obtain ⟨hb2,vb,vi,rfl,ho⟩:=er r w2 hr
          obtain ⟨a1,n1,k1,a2,n2,k2,rfl,rfl⟩:=ho.lies.form
          obtain ⟨⟨x0,x1,x2⟩,xf⟩:=HBX.out w2 hb2
          have f0:=xf 0
          have f1:=xf 1
          have f2:=xf 2
          have HZ:Hid (Below w1.heap.size w1 w2∧Own w2 w1.heap.size w2.heap.size y (.slice a1 n1 k1) (.slice a2 n2 k2)):=⟨hb2,ho⟩
          clear hr hb2 ho xf
          go_wp2_with fail
          refine bodyPost_ret (res2 rfl _ _ w.heap.size _ _ rfl rfl (qd0 (qbr x0 x1 x2).1 (qbr x0 x1 x2).2.1 (qbr x0 x1 x2).2.2)) rfl ?_
          have t3:=qbl w2 w.heap.size (.bool y.l) (.slice a1 n1 k1) (.slice a2 n2 k2)
          have z1:=HB1.out.2.1
          have z2:=HZ.out.1.size
          unfold qas
          rw [HR.out]
          refine ⟨(ch HB1.out.1 HZ.out.1).trans (t3.below (fun i q=>by omega) (by omega)),_,_,rfl,?_⟩
          exact (HZ.out.2.turn t3 (fun i q1 q2=>by omega) (Nat.le_refl _)).wide (by omega) (by simp)
end Go.Proofs.YtemcneddbhgadaaGreatDoor
