import Derived.Test.YtemcneddbhgadaaGreatDoorZvzz
import Derived.Test.YtemcneddbhgadaaGreatDoorXJzz
namespace Go.Proofs.YtemcneddbhgadaaGreatDoor.Z
open Go.RowKit
theorem y_mki {ops:Array Oper} {S:World→Prop} {o:Oper} {a:Act} (T:TypeId) (x:Operand) (ho:o.op=.makeInterface T x) (v:Value) (hx:a.eval x=v) (hr:∀w,(Instr.makeInterface T v).run Tryz.prog w=.ok (.iface T v) w) (hw:Region.wanted o (yielded ops a.tmps)=true:=by kernel_rfl):YieldsIf Tryz.prog ops S o (.iface T v) a :=
 .inl ⟨hw,fun w _=>by
  have e:=hr w
  unfold execOp
  simp only [ho,hx,Sem.run_bind,e,Result.andThen_ok]
  rfl⟩
theorem r_mk {ops:Array Oper} {o:Oper} {a:Act} {Q:Exit→Act→World→Prop} {w:World} {K:Act→World→Prop} {E:Prop} (n:Nat) (hn:n≤1000) (x y:Operand) (ho:o.op=.makeSlice 33 x y) (hx:a.eval x=.int .i64 (n:Nat)) (hy:a.eval y=.int .i64 (n:Nat))
 (h:K (a.put o.dst (.slice (some ⟨w.heap.size,0,none⟩) n n)) (w.alloc (.cells (madeCells #[.int .u8 0] n) 5))) (hw:Region.wanted o (yielded ops a.tmps)=true:=by kernel_rfl):if Region.wanted o (yielded ops a.tmps)=true then Oper.wp Tryz.prog o a w K Q else E:=by
 refine qyk hw _ _ ?_ h
 have hm:=run_make_row' (P:=Tryz.prog) 33 5 (.int .u8 0) 1 Tryz.underlying33 Tryz.info5 rfl .i64 .i64 n (by omega) (by omega) (w:=w)
 unfold execOp
 simp only [ho,hx,hy,Sem.run_bind,hm,Result.andThen_ok]
 rfl
end Go.Proofs.YtemcneddbhgadaaGreatDoor.Z
namespace Go.Proofs.YtemcneddbhgadaaGreatDoor
open Go.RowKit Go.Maps
theorem ql3 (w:World) {h:List Nat} (hh:IsH h) (sv b kv:Value) (n:Int) (hc:∀W,Calls Tryz.prog 33 #[sv,b,.agg (bv h).toArray,kv,gfn] W fun e w'=>e=.returned (.tuple #[.slice none 0 0,.bool false,.int .i64 n])∧Below W.heap.size W w') :
 Calls Tryz.prog 10 #[sv,b,.agg (bv h).toArray,kv] w fun e w'=>e=.returned (.tuple #[.slice none 0 0,.bool false,.int .i64 n])∧Below w.heap.size w w':=by
 refine (qm6 w hh sv b kv (P:=fun W v f x w'=>v=.slice none 0 0∧f=.bool false∧x=.int .i64 n∧Below W.heap.size W w') (fun W _=>(hc W).mono ?_)).mono ?_
 ·rintro e w' ⟨rfl,q⟩
  exact ⟨_,_,_,rfl,rfl,rfl,rfl,q⟩
 ·rintro e w' ⟨v,f,x,rfl,W,bW,rfl,rfl,rfl,q⟩
  exact ⟨rfl,ch bW q⟩
structure Ls (w0 u:World) (bk N:Nat) (F:Nat→Prop) (sb hb:Nat) (k:List Nat):Prop where
 bk:Bk u bk 256 N F
 fl:∀i,F i→w0.heap.size≤i
 src:u.heap[sb]?=some (.cells #[.slice none 0 0,.slice none 0 0,.slice none 0 0,.slice none 0 0] 29 (0,0))
 rng:u.rangeAt hb 0 (bv k)
 nf:¬F sb∧¬F hb
 lt:sb<u.heap.size∧hb<u.heap.size
 bl:Below w0.heap.size w0 u
theorem Ls.keep {w0 u u':World} {bk N:Nat} {F:Nat→Prop} {sb hb:Nat} {k:List Nat} (h:Ls w0 u bk N F sb hb k) (b:Below u.heap.size u u'):Ls w0 u' bk N F sb hb k :=
 { h with bk:=h.bk.keep b,src:=(b.block _ h.lt.1).trans h.src,rng:=qay h.rng b,lt:=⟨Nat.lt_of_lt_of_le h.lt.1 b.size,Nat.lt_of_lt_of_le h.lt.2 b.size⟩,bl:=ch h.bl b }
theorem Ls.next {w0 u u':World} {bk N:Nat} {F:Nat→Prop} {sb hb:Nat} {k:List Nat} (h:Ls w0 u bk N F sb hb k) (t:Turn F u u') (hx:∃F',Bk u' bk 256 (N+1) F'∧∀i,F' i→F i∨u.heap.size≤i):∃F',Ls w0 u' bk (N+1) F' sb hb k:=by
 obtain ⟨F',q1,q2⟩:=hx
 have l:=h.bl.size
 have no:∀g,g<u.heap.size→¬F g→¬F' g:=fun g l n q=>(q2 g q).elim n (fun z=>by omega)
 exact ⟨F',q1,fun i q=>(q2 i q).elim (h.fl i) (fun z=>by omega),t.at_new h.src h.nf.1,qbj h.rng (t.block _ h.lt.2 h.nf.2),⟨no _ h.lt.1 h.nf.1,no _ h.lt.2 h.nf.2⟩,⟨Nat.lt_of_lt_of_le h.lt.1 t.size,Nat.lt_of_lt_of_le h.lt.2 t.size⟩,h.bl.trans (t.below h.fl l)⟩
theorem Ls.gr {w0 u:World} {bk N:Nat} {F:Nat→Prop} {sb hb:Nat} {k:List Nat} (h:Ls w0 u bk N F sb hb k) (g:Dg.Gr w0):Dg.Gr u:=g.below h.bl
theorem qxg {w0 u:World} {bk N:Nat} {F:Nat→Prop} {sb hb:Nat} (h:Ls w0 u bk N F sb hb (Dg.kh 256 s128)) (hG:Dg.Gr w0) (hN:N≤1000) (t:TypeId) (rv:Value) (ka:Option Addr) (kn kc:Nat) (hk:kn≤32) :
 Calls Tryz.prog 10 #[.iface t rv,.pointer (some ⟨bk,0,none⟩),.agg (bv (Dg.kh 256 s128)).toArray,.slice ka kn kc] u fun e w'=>e=.returned (.tuple #[.slice none 0 0,.bool false,.int .i64 0])∧∃F',Ls w0 w' bk (N+1) F' sb hb (Dg.kh 256 s128):=by
 refine (qm6 u (qby 256 s128) (.iface t rv) (.pointer (some ⟨bk,0,none⟩)) (.slice ka kn kc) (P:=fun W v f x w'=>v=.slice none 0 0∧f=.bool false∧x=.int .i64 0∧∃F',Ls w0 w' bk (N+1) F' sb hb (Dg.kh 256 s128)) (fun W bW=>?_)).mono ?_
 ·have hW:=h.keep bW
  refine (qm4 hW.bk (hW.gr hG).g hN rfl t rv gfn ka kn kc hk).mono ?_
  rintro e w' ⟨rfl,q1,q2⟩
  exact ⟨_,_,_,rfl,rfl,rfl,rfl,hW.next q1 q2⟩
 ·rintro e w' ⟨v,f,x,rfl,W,bW,rfl,rfl,rfl,q⟩
  exact ⟨rfl,q⟩
theorem qr6 {w0 u:World} {bk N:Nat} {F:Nat→Prop} {sb hb:Nat} (h:Ls w0 u bk N F sb hb (Dg.kh 256 s128)) (hG:Dg.Gr w0) (hN:N≤1000) (t:TypeId) (rv:Value) (ka:Option Addr) (kn kc:Nat) (hk:kn≤32) :
 Calls Tryz.prog 11 #[.iface t rv,.pointer (some ⟨bk,0,none⟩),.agg (bv (Dg.kh 256 s128)).toArray,.slice ka kn kc] u fun e w'=>e=.returned (.tuple #[.slice none 0 0,.int .i64 0])∧∃F',Ls w0 w' bk (N+1) F' sb hb (Dg.kh 256 s128):=by
 refine (qof u (qby 256 s128) (.iface t rv) (.pointer (some ⟨bk,0,none⟩)) (.slice ka kn kc) (F:=F) (fun i q=>(h.bk.lim i q).2) (P:=fun W w'=>∃F',Ls w0 w' bk (N+1) F' sb hb (Dg.kh 256 s128)) (fun W fn bW=>?_)).mono ?_
 ·have hW:=h.keep bW
  refine (qm4 hW.bk (hW.gr hG).g hN rfl t rv fn ka kn kc hk).mono ?_
  rintro e w' ⟨rfl,q1,q2⟩
  exact ⟨rfl,q1,hW.next q1 q2⟩
 ·rintro e w' ⟨rfl,W,bW,q1,q2⟩
  exact ⟨rfl,q2⟩
theorem qxh {w0 u:World} {bk N:Nat} {sb hb:Nat} {kk:List Nat} (e:kk=Dg.kh 256 s128) (h:∃F,Ls w0 u bk N F sb hb kk) (hG:Dg.Gr w0) (hN:N≤1000) (t:TypeId) (rv:Value) (ka:Option Addr) (kn kc:Nat) (hk:kn≤32) :
 Calls Tryz.prog 10 #[.iface t rv,.pointer (some ⟨bk,0,none⟩),.agg (bv kk).toArray,.slice ka kn kc] u fun e w'=>e=.returned (.tuple #[.slice none 0 0,.bool false,.int .i64 0])∧∃F',Ls w0 w' bk (N+1) F' sb hb kk:=by
 subst e
 obtain ⟨F,q⟩:=h
 exact qxg q hG hN t rv ka kn kc hk
theorem qr7 {w0 u:World} {bk N:Nat} {sb hb:Nat} {kk:List Nat} (e:kk=Dg.kh 256 s128) (h:∃F,Ls w0 u bk N F sb hb kk) (hG:Dg.Gr w0) (hN:N≤1000) (t:TypeId) (rv:Value) (ka:Option Addr) (kn kc:Nat) (hk:kn≤32) :
 Calls Tryz.prog 11 #[.iface t rv,.pointer (some ⟨bk,0,none⟩),.agg (bv kk).toArray,.slice ka kn kc] u fun e w'=>e=.returned (.tuple #[.slice none 0 0,.int .i64 0])∧∃F',Ls w0 w' bk (N+1) F' sb hb kk:=by
 subst e
 obtain ⟨F,q⟩:=h
 exact qr6 q hG hN t rv ka kn kc hk
theorem qud {w:World} (hG:Dg.Gr w):Calls Tryz.prog 9 #[.int .i64 256,.slice none 0 0] w fun e w'=>e=.returned (.agg (bv (Dg.kh 256 s128)).toArray)∧Below w.heap.size w w' :=
 qr0 (qby 256 s128) 256 _ (fun W bW=>(qrw (hG.below bW) 256 (Nat.le_refl _)).mono (by
  rintro e w' ⟨tb,rfl,b⟩
  exact ⟨_,_,rfl,b⟩))
set_option maxRecDepth 100000 in
set_option maxHeartbeats 12800000 in
theorem qor (w:World) (hGr:Dg.Gr w) :
 Calls Tryz.prog 3 #[] w fun e w'=>e=.returned (.bool true)∧Below w.heap.size w w':=by
 have HG:Hid (Dg.Gr w):=hGr
 clear hGr
 have bt:Tryz.prog.built 29 []=some #[.slice none 0 0,.slice none 0 0,.slice none 0 0,.slice none 0 0]:=by kernel_rfl
 have hz:=zvH
 obtain ⟨zz,ez⟩:∃z,z=z32:=⟨_,rfl⟩
 have hzz:IsH zz:=by rw [ez];exact qec
 rw [←ez] at hz
 clear ez
 obtain ⟨kk,ek⟩:∃k,k=Dg.kh 256 s128:=⟨_,rfl⟩
 have hkk:IsH kk:=by rw [ek];exact qby _ _
 have HK:Hid (kk=Dg.kh 256 s128):=ek
 clear ek
 go_enter Tryz.func3,Tryz.ntmps3
 go_wp2_with (go_at_call 8;change Hid (Calls _ _ _ _ _))
 unfold Hid
 refine (qr4 _ HG.out.g).mono ?_
 rintro _ u1 ⟨bk,F,rfl,hb1,hF1,b1⟩
 have H1:Hid (Bk u1 bk 256 0 F∧(∀i,F i→w.heap.size≤i)∧Below w.heap.size w u1):=⟨hb1,hF1,b1⟩
 clear hb1 hF1 b1
 go_wp2_with (go_at_call 9;change Hid (Calls _ _ _ _ _))
 unfold Hid
 obtain ⟨u2,e2⟩:∃u2,u2=u1.alloc (.cells #[.slice none 0 0,.slice none 0 0,.slice none 0 0,.slice none 0 0] 29):=⟨_,rfl⟩
 rw [←e2]
 have H2:Hid (Below u1.heap.size u1 u2∧u2.heap[u1.heap.size]?=some (.cells #[.slice none 0 0,.slice none 0 0,.slice none 0 0,.slice none 0 0] 29 (0,0))):=by rw [e2];exact ⟨qaa _ _,heap_alloc_new _ _⟩
 clear e2
 have KR:=qud (HG.out.below (ch H1.out.2.2 H2.out.1))
 rw [←HK.out] at KR
 refine KR.mono ?_
 rintro _ u3 ⟨rfl,b3⟩
 obtain ⟨u4,e4⟩:∃u4,u4=u3.alloc (.cells (bv kk).toArray 31):=⟨_,rfl⟩
 obtain ⟨sb,esb⟩:∃sb,sb=u1.heap.size:=⟨_,rfl⟩
 obtain ⟨hb,ehb⟩:∃hb,hb=u3.heap.size:=⟨_,rfl⟩
 have ls4:Ls w u4 bk 0 F sb hb kk:=by
  have b4:Below u3.heap.size u3 u4:=by rw [e4];exact qaa _ _
  have b24:=ch b3 b4
  have l2:=(Array.getElem?_eq_some_iff.1 H2.out.2).1
  have l3:=b3.size
  have l4:u3.heap.size<u4.heap.size:=by rw [e4];simp
  have lim:=H1.out.1.lim
  have l1:=H2.out.1.size
  rw [esb,ehb]
  exact ⟨(H1.out.1.keep H2.out.1).keep b24,H1.out.2.1,(b24.block _ l2).trans H2.out.2,by rw [e4];exact qa1 _ _ _,⟨fun q=>by have:=(lim _ q).2;omega,fun q=>by have:=(lim _ q).2;omega⟩,⟨by omega,l4⟩,ch (ch H1.out.2.2 H2.out.1) b24⟩
 have HE4:Hid (u4=u3.alloc (.cells (bv kk).toArray 31)∧hb=u3.heap.size):=⟨e4,ehb⟩
 have H4:Hid (Ls w u4 bk 0 F sb hb kk):=ls4
 rw [←esb]
 clear e4 esb ehb ls4 b3 KR H2 H1
 have hmk:=fun W=>run_make_row' (P:=Tryz.prog) 33 5 (.int .u8 0) 1 Tryz.underlying33 Tryz.info5 rfl .i64 .i64 33 (by decide) (by decide) (w:=W)
 go_wp2_with (first
  | (refine qds _ _ (by rfl) kk zz hkk hzz (by rfl) (by rfl) ?_;rw [←HE4.out.1,←HE4.out.2]))
 have H4:Hid (∃F,Ls w u4 bk 0 F sb hb kk):=⟨F,H4.out⟩
 simp only [Act.put]
 refine wp_region_held_drew (S:=fun u=>∃N F,N≤5∧Ls w u bk N F sb hb kk) (by kernel_rfl) (by obtain ⟨F,q⟩:=H4.out;exact ⟨_,F,by decide,q.keep (Below.refl _ _).drew⟩) ?_
 intro hS
 change wpAnyH _ _ _ _ _ 11 _ _ _
 refine Z.tk 0 (.pointer (some ⟨bk,0,none⟩)) (y:=Z.y_move _ rfl _ rfl) (s:=hS) (h:=?_)
 refine Z.tk 1 (.agg (bv kk).toArray) (y:=Z.y_s_Hash _ rfl _ _ rfl kk hkk.1 (fun u hs=>by obtain ⟨_,_,_,q⟩:=hs;exact q.rng)) (s:=hS) (h:=?_)
 refine Z.ly ?_
 refine Z.r1 2 fun K hK=>?_
 refine Z.r_mk 33 (by decide) _ _ (by rfl) (by rfl) (by rfl) ?_
 have HM:Hid (∃F,Ls w (u4.drew.alloc (.cells (madeCells #[.int .u8 0] 33) 5)) bk 0 F sb hb kk):=by obtain ⟨F,q⟩:=H4.out;exact ⟨F,(q.keep (Below.refl _ _).drew).keep (qaa _ _)⟩
 refine hK.out _ _ (by obtain ⟨F,q⟩:=HM.out;exact ⟨_,F,by decide,q⟩) (fun hS=>?_)
 clear hK K
 refine Z.ly ?_
 refine Z.r1 3 fun K hK=>?_
 go_simp
 have KC:=ql3 (u4.drew.alloc (.cells (madeCells #[.int .u8 0] 33) 5)) hkk .nilIface (.pointer (some ⟨bk,0,none⟩)) (.slice (some ⟨u4.drew.heap.size,0,none⟩) 33 33) 1 (fun W=>quz W _ _ _)
 refine KC.mono ?_
 rintro _ u5 ⟨rfl,bN⟩
 have H5:Hid (∃F,Ls w u5 bk 0 F sb hb kk):=by obtain ⟨F,q⟩:=HM.out;exact ⟨F,q.keep bN⟩
 clear KC bN HM
 refine hK.out _ _ (by obtain ⟨F,q⟩:=H5.out;exact ⟨_,F,by decide,q⟩) (fun hS=>?_)
 clear hK K
 refine Z.ly ?_
 refine Z.tk 4 (.tuple #[(.slice none 0 0),(.bool false),(.int .i64 1)]) (y:=Z.y_move _ rfl _ rfl) (s:=hS) (h:=?_)
 refine Z.tk 5 (.slice none 0 0) (y:=Z.y_ext _ _ rfl _ _ rfl rfl) (s:=hS) (h:=?_)
 refine Z.tk 6 (.bool false) (y:=Z.y_ext _ _ rfl _ _ rfl rfl) (s:=hS) (h:=?_)
 refine Z.tk 7 (.int .i64 1) (y:=Z.y_ext _ _ rfl _ _ rfl rfl) (s:=hS) (h:=?_)
 refine Z.tk 8 (.slice none 0 0) (y:=Z.y_assign _ rfl _ rfl) (s:=hS) (h:=?_)
 refine Z.ly ?_
 refine Z.tk 9 (.bool false) (y:=Z.y_assign _ rfl _ rfl) (s:=hS) (h:=?_)
 refine Z.tk 10 (.int .i64 1) (y:=Z.y_assign _ rfl _ rfl) (s:=hS) (h:=?_)
 refine Z.ly ?_
 refine wpAnyH_done (by kernel_rfl) ?_ _
 clear hS H4
 go_wp2_with fail
 refine wp_region_held_drew (S:=fun u=>∃N F,N≤5∧Ls w u bk N F sb hb kk) (by kernel_rfl) (by obtain ⟨F,q⟩:=H5.out;exact ⟨_,F,by decide,q.keep (Below.refl _ _).drew⟩) ?_
 intro hS
 change wpAnyH _ _ _ _ _ 12 _ _ _
 refine Z.tk 0 (.pointer (some ⟨sb,0,none⟩)) (y:=Z.y_move _ rfl _ rfl) (s:=hS) (h:=?_)
 refine Z.tk 1 (.iface 24 (.pointer (some ⟨sb,0,none⟩))) (y:=Z.y_mki _ _ rfl _ rfl (fun _=>by kernel_rfl)) (s:=hS) (h:=?_)
 refine Z.tk 2 (.agg (bv kk).toArray) (y:=Z.y_s_Hash _ rfl _ _ rfl kk hkk.1 (fun u hs=>by obtain ⟨_,_,_,q⟩:=hs;exact q.rng)) (s:=hS) (h:=?_)
 refine Z.ly ?_
 refine Z.r1 3 fun K hK=>?_
 refine Z.r_mk 33 (by decide) _ _ (by rfl) (by rfl) (by rfl) ?_
 have HM:Hid (∃F,Ls w (u5.drew.alloc (.cells (madeCells #[.int .u8 0] 33) 5)) bk 0 F sb hb kk):=by obtain ⟨F,q⟩:=H5.out;exact ⟨F,(q.keep (Below.refl _ _).drew).keep (qaa _ _)⟩
 refine hK.out _ _ (by obtain ⟨F,q⟩:=HM.out;exact ⟨_,F,by decide,q⟩) (fun hS=>?_)
 clear hK K
 refine Z.ly ?_
 refine Z.r1 4 fun K hK=>?_
 go_simp
 have KC:=ql3 (u5.drew.alloc (.cells (madeCells #[.int .u8 0] 33) 5)) hkk (.iface 24 (.pointer (some ⟨sb,0,none⟩))) (.pointer none) (.slice (some ⟨u5.drew.heap.size,0,none⟩) 33 33) 1 (fun W=>qy2 W _ _ _ _)
 refine KC.mono ?_
 rintro _ u6 ⟨rfl,bN⟩
 have H6:Hid (∃F,Ls w u6 bk 0 F sb hb kk):=by obtain ⟨F,q⟩:=HM.out;exact ⟨F,q.keep bN⟩
 clear KC bN HM
 refine hK.out _ _ (by obtain ⟨F,q⟩:=H6.out;exact ⟨_,F,by decide,q⟩) (fun hS=>?_)
 clear hK K
 refine Z.ly ?_
 refine Z.tk 5 (.tuple #[(.slice none 0 0),(.bool false),(.int .i64 1)]) (y:=Z.y_move _ rfl _ rfl) (s:=hS) (h:=?_)
 refine Z.tk 6 (.slice none 0 0) (y:=Z.y_ext _ _ rfl _ _ rfl rfl) (s:=hS) (h:=?_)
 refine Z.tk 7 (.bool false) (y:=Z.y_ext _ _ rfl _ _ rfl rfl) (s:=hS) (h:=?_)
 refine Z.tk 8 (.int .i64 1) (y:=Z.y_ext _ _ rfl _ _ rfl rfl) (s:=hS) (h:=?_)
 refine Z.tk 9 (.slice none 0 0) (y:=Z.y_assign _ rfl _ rfl) (s:=hS) (h:=?_)
 refine Z.ly ?_
 refine Z.tk 10 (.bool false) (y:=Z.y_assign _ rfl _ rfl) (s:=hS) (h:=?_)
 refine Z.tk 11 (.int .i64 1) (y:=Z.y_assign _ rfl _ rfl) (s:=hS) (h:=?_)
 refine Z.ly ?_
 refine wpAnyH_done (by kernel_rfl) ?_ _
 clear hS H5
 go_wp2_with fail
 refine wp_region_held_drew (S:=fun u=>∃N F,N≤5∧Ls w u bk N F sb hb kk) (by kernel_rfl) (by obtain ⟨F,q⟩:=H6.out;exact ⟨_,F,by decide,q.keep (Below.refl _ _).drew⟩) ?_
 intro hS
 change wpAnyH _ _ _ _ _ 13 _ _ _
 refine Z.tk 0 (.pointer (some ⟨sb,0,none⟩)) (y:=Z.y_move _ rfl _ rfl) (s:=hS) (h:=?_)
 refine Z.tk 1 (.iface 24 (.pointer (some ⟨sb,0,none⟩))) (y:=Z.y_mki _ _ rfl _ rfl (fun _=>by kernel_rfl)) (s:=hS) (h:=?_)
 refine Z.tk 2 (.pointer (some ⟨bk,0,none⟩)) (y:=Z.y_move _ rfl _ rfl) (s:=hS) (h:=?_)
 refine Z.tk 3 (.agg (bv kk).toArray) (y:=Z.y_s_Hash _ rfl _ _ rfl kk hkk.1 (fun u hs=>by obtain ⟨_,_,_,q⟩:=hs;exact q.rng)) (s:=hS) (h:=?_)
 refine Z.ly ?_
 refine Z.r1 4 fun K hK=>?_
 refine Z.r_mk 33 (by decide) _ _ (by rfl) (by rfl) (by rfl) ?_
 have HM:Hid (∃F,Ls w (u6.drew.alloc (.cells (madeCells #[.int .u8 0] 33) 5)) bk 0 F sb hb kk):=by obtain ⟨F,q⟩:=H6.out;exact ⟨F,(q.keep (Below.refl _ _).drew).keep (qaa _ _)⟩
 refine hK.out _ _ (by obtain ⟨F,q⟩:=HM.out;exact ⟨_,F,by decide,q⟩) (fun hS=>?_)
 clear hK K
 refine Z.ly ?_
 refine Z.r1 5 fun K hK=>?_
 go_simp
 have KC:=ql3 (u6.drew.alloc (.cells (madeCells #[.int .u8 0] 33) 5)) hkk (.iface 24 (.pointer (some ⟨sb,0,none⟩))) (.pointer (some ⟨bk,0,none⟩)) (.slice (some ⟨u6.drew.heap.size,0,none⟩) 33 33) 2 (fun W=>qq5 W _ _ _ _ _ 33 33 (by decide) (by decide))
 refine KC.mono ?_
 rintro _ u7 ⟨rfl,bN⟩
 have H7:Hid (∃F,Ls w u7 bk 0 F sb hb kk):=by obtain ⟨F,q⟩:=HM.out;exact ⟨F,q.keep bN⟩
 clear KC bN HM
 refine hK.out _ _ (by obtain ⟨F,q⟩:=H7.out;exact ⟨_,F,by decide,q⟩) (fun hS=>?_)
 clear hK K
 refine Z.ly ?_
 refine Z.tk 6 (.tuple #[(.slice none 0 0),(.bool false),(.int .i64 2)]) (y:=Z.y_move _ rfl _ rfl) (s:=hS) (h:=?_)
 refine Z.tk 7 (.slice none 0 0) (y:=Z.y_ext _ _ rfl _ _ rfl rfl) (s:=hS) (h:=?_)
 refine Z.tk 8 (.bool false) (y:=Z.y_ext _ _ rfl _ _ rfl rfl) (s:=hS) (h:=?_)
 refine Z.tk 9 (.int .i64 2) (y:=Z.y_ext _ _ rfl _ _ rfl rfl) (s:=hS) (h:=?_)
 refine Z.tk 10 (.slice none 0 0) (y:=Z.y_assign _ rfl _ rfl) (s:=hS) (h:=?_)
 refine Z.ly ?_
 refine Z.tk 11 (.bool false) (y:=Z.y_assign _ rfl _ rfl) (s:=hS) (h:=?_)
 refine Z.tk 12 (.int .i64 2) (y:=Z.y_assign _ rfl _ rfl) (s:=hS) (h:=?_)
 refine Z.ly ?_
 refine wpAnyH_done (by kernel_rfl) ?_ _
 clear hS H6
 go_wp2_with fail
 clear hmk
 have hmk:=fun W=>run_make_row' (P:=Tryz.prog) 33 5 (.int .u8 0) 1 Tryz.underlying33 Tryz.info5 rfl .i64 .i64 32 (by decide) (by decide) (w:=W)
 refine wp_region_held_drew (S:=fun u=>∃N F,N≤5∧Ls w u bk N F sb hb kk) (by kernel_rfl) (by obtain ⟨F,q⟩:=H7.out;exact ⟨_,F,by decide,q.keep (Below.refl _ _).drew⟩) ?_
 intro hS
 change wpAnyH _ _ _ _ _ 13 _ _ _
 refine Z.tk 0 (.pointer (some ⟨sb,0,none⟩)) (y:=Z.y_move _ rfl _ rfl) (s:=hS) (h:=?_)
 refine Z.tk 1 (.iface 24 (.pointer (some ⟨sb,0,none⟩))) (y:=Z.y_mki _ _ rfl _ rfl (fun _=>by kernel_rfl)) (s:=hS) (h:=?_)
 refine Z.tk 2 (.pointer (some ⟨bk,0,none⟩)) (y:=Z.y_move _ rfl _ rfl) (s:=hS) (h:=?_)
 refine Z.tk 3 (.agg (bv kk).toArray) (y:=Z.y_s_Hash _ rfl _ _ rfl kk hkk.1 (fun u hs=>by obtain ⟨_,_,_,q⟩:=hs;exact q.rng)) (s:=hS) (h:=?_)
 refine Z.ly ?_
 refine Z.r1 4 fun K hK=>?_
 refine Z.r_mk 32 (by decide) _ _ (by rfl) (by rfl) (by rfl) ?_
 have HM:Hid (∃F,Ls w (u7.drew.alloc (.cells (madeCells #[.int .u8 0] 32) 5)) bk 0 F sb hb kk):=by obtain ⟨F,q⟩:=H7.out;exact ⟨F,(q.keep (Below.refl _ _).drew).keep (qaa _ _)⟩
 refine hK.out _ _ (by obtain ⟨F,q⟩:=HM.out;exact ⟨_,F,by decide,q⟩) (fun hS=>?_)
 clear hK K
 refine Z.ly ?_
 refine Z.r1 5 fun K hK=>?_
 go_simp
 have KC:=qxh HK.out HM.out HG.out (by decide) 24 (.pointer (some ⟨sb,0,none⟩)) (some ⟨u7.drew.heap.size,0,none⟩) 32 32 (by decide)
 refine KC.mono ?_
 rintro _ u8 ⟨rfl,bN⟩
 have H8:Hid (∃F,Ls w u8 bk 1 F sb hb kk):=bN
 clear KC bN HM
 refine hK.out _ _ (by obtain ⟨F,q⟩:=H8.out;exact ⟨_,F,by decide,q⟩) (fun hS=>?_)
 clear hK K
 refine Z.ly ?_
 refine Z.tk 6 (.tuple #[(.slice none 0 0),(.bool false),(.int .i64 0)]) (y:=Z.y_move _ rfl _ rfl) (s:=hS) (h:=?_)
 refine Z.tk 7 (.slice none 0 0) (y:=Z.y_ext _ _ rfl _ _ rfl rfl) (s:=hS) (h:=?_)
 refine Z.tk 8 (.bool false) (y:=Z.y_ext _ _ rfl _ _ rfl rfl) (s:=hS) (h:=?_)
 refine Z.tk 9 (.int .i64 0) (y:=Z.y_ext _ _ rfl _ _ rfl rfl) (s:=hS) (h:=?_)
 refine Z.tk 10 (.slice none 0 0) (y:=Z.y_assign _ rfl _ rfl) (s:=hS) (h:=?_)
 refine Z.ly ?_
 refine Z.tk 11 (.bool false) (y:=Z.y_assign _ rfl _ rfl) (s:=hS) (h:=?_)
 refine Z.tk 12 (.int .i64 0) (y:=Z.y_assign _ rfl _ rfl) (s:=hS) (h:=?_)
 refine Z.ly ?_
 refine wpAnyH_done (by kernel_rfl) ?_ _
 clear hS H7
 have r8:u8.rangeAt hb 0 (bv kk):=by obtain ⟨_,q⟩:=H8.out;exact q.rng
 have KT:=qkp u8 hkk .nilIface (.pointer (some ⟨bk,0,none⟩)) (.slice none 0 0) 1 (by decide) (fun W fn _=>quz W _ _ fn)
 go_wp2_with (first
  | refine qaj _ (by rfl) hb 0 kk hkk.1 r8 (by rfl) ?_
  | (go_at_call 11;go_loud (refine KT.mono ?_;rintro _ u9 ⟨rfl,b9⟩;have H9:Hid (∃F,Ls w u9 bk 1 F sb hb kk):=(by obtain ⟨F,q⟩:=H8.out;exact ⟨F,q.keep b9⟩);clear b9 KT r8 H8)))
 clear hmk
 have hmk:=fun W=>run_make_row' (P:=Tryz.prog) 33 5 (.int .u8 0) 1 Tryz.underlying33 Tryz.info5 rfl .i64 .i64 33 (by decide) (by decide) (w:=W)
 refine wp_region_held_drew (S:=fun u=>∃N F,N≤5∧Ls w u bk N F sb hb kk) (by kernel_rfl) (by obtain ⟨F,q⟩:=H9.out;exact ⟨_,F,by decide,q.keep (Below.refl _ _).drew⟩) ?_
 intro hS
 change wpAnyH _ _ _ _ _ 11 _ _ _
 refine Z.tk 0 (.pointer (some ⟨sb,0,none⟩)) (y:=Z.y_move _ rfl _ rfl) (s:=hS) (h:=?_)
 refine Z.tk 1 (.iface 24 (.pointer (some ⟨sb,0,none⟩))) (y:=Z.y_mki _ _ rfl _ rfl (fun _=>by kernel_rfl)) (s:=hS) (h:=?_)
 refine Z.tk 2 (.pointer (some ⟨bk,0,none⟩)) (y:=Z.y_move _ rfl _ rfl) (s:=hS) (h:=?_)
 refine Z.tk 3 (.agg (bv kk).toArray) (y:=Z.y_s_Hash _ rfl _ _ rfl kk hkk.1 (fun u hs=>by obtain ⟨_,_,_,q⟩:=hs;exact q.rng)) (s:=hS) (h:=?_)
 refine Z.ly ?_
 refine Z.r1 4 fun K hK=>?_
 refine Z.r_mk 33 (by decide) _ _ (by rfl) (by rfl) (by rfl) ?_
 have HM:Hid (∃F,Ls w (u9.drew.alloc (.cells (madeCells #[.int .u8 0] 33) 5)) bk 1 F sb hb kk):=by obtain ⟨F,q⟩:=H9.out;exact ⟨F,(q.keep (Below.refl _ _).drew).keep (qaa _ _)⟩
 refine hK.out _ _ (by obtain ⟨F,q⟩:=HM.out;exact ⟨_,F,by decide,q⟩) (fun hS=>?_)
 clear hK K
 refine Z.ly ?_
 refine Z.r1 5 fun K hK=>?_
 go_simp
 have KC:=qkp (u9.drew.alloc (.cells (madeCells #[.int .u8 0] 33) 5)) hkk (.iface 24 (.pointer (some ⟨sb,0,none⟩))) (.pointer (some ⟨bk,0,none⟩)) (.slice (some ⟨u9.drew.heap.size,0,none⟩) 33 33) 2 (by decide) (fun W fn _=>qq5 W _ _ _ _ _ 33 33 (by decide) (by decide))
 refine KC.mono ?_
 rintro _ u10 ⟨rfl,bN⟩
 have H10:Hid (∃F,Ls w u10 bk 1 F sb hb kk):=by obtain ⟨F,q⟩:=HM.out;exact ⟨F,q.keep bN⟩
 clear KC bN HM
 refine hK.out _ _ (by obtain ⟨F,q⟩:=H10.out;exact ⟨_,F,by decide,q⟩) (fun hS=>?_)
 clear hK K
 refine Z.ly ?_
 refine Z.tk 6 (.tuple #[(.slice none 0 0),(.int .i64 2)]) (y:=Z.y_move _ rfl _ rfl) (s:=hS) (h:=?_)
 refine Z.tk 7 (.slice none 0 0) (y:=Z.y_ext _ _ rfl _ _ rfl rfl) (s:=hS) (h:=?_)
 refine Z.tk 8 (.int .i64 2) (y:=Z.y_ext _ _ rfl _ _ rfl rfl) (s:=hS) (h:=?_)
 refine Z.tk 9 (.slice none 0 0) (y:=Z.y_assign _ rfl _ rfl) (s:=hS) (h:=?_)
 refine Z.tk 10 (.int .i64 2) (y:=Z.y_assign _ rfl _ rfl) (s:=hS) (h:=?_)
 refine Z.ly ?_
 refine wpAnyH_done (by kernel_rfl) ?_ _
 clear hS H9
 have r10:u10.rangeAt hb 0 (bv kk):=by obtain ⟨_,q⟩:=H10.out;exact q.rng
 have KT:=qr7 HK.out H10.out HG.out (by decide) 24 (.pointer (some ⟨sb,0,none⟩)) none 0 0 (by decide)
 go_wp2_with (first
  | refine qaj _ (by rfl) hb 0 kk hkk.1 r10 (by rfl) ?_
  | (go_at_call 11;go_loud (refine KT.mono ?_;rintro _ u11 ⟨rfl,h11⟩;have H11:Hid (∃F,Ls w u11 bk 2 F sb hb kk):=h11;have c11:u11.cell? ⟨sb,1,none⟩=some (.slice none 0 0):=(by obtain ⟨_,q⟩:=h11;exact cell_of_row _ _ _ _ _ _ q.src);have KF:=qoq u11 (by obtain ⟨_,q⟩:=h11;exact q.gr HG.out);clear h11 KT r10 H10))
  | (go_at_call 12;go_loud (refine KF.mono ?_;rintro _ u12 ⟨rfl,b12⟩;have H12:Hid (Below w.heap.size w u12):=(by obtain ⟨_,q⟩:=H11.out;exact ch q.bl b12);clear b12 KF)))
 go_ret
 exact ⟨rfl,H12.out⟩
end Go.Proofs.YtemcneddbhgadaaGreatDoor
