import Derived.Test.YtemcneddbhgadaaGreatDoorX7zz
import Derived.Test.YtemcneddbhgadaaGreatDoorXGzz
import Derived.Test.YtemcneddbhgadaaGreatDoorXBzz
import Derived.Test.YtemcneddbhgadaaGreatDoorX9zz
import Derived.Lib.SlBytesConst
namespace Go.Proofs.YtemcneddbhgadaaGreatDoor
open Go.RowKit Go.Maps
theorem qaag:∀args w,(callFunc 184 args).run Tryz.prog w=.ok (.enter 184 args) w:=enters_of Tryz.func184 (by kernel_rfl) rfl
def sV (sb:Nat):Value:=.iface 24 (.pointer (some ⟨sb,0,none⟩))
theorem qu8 (sb:Nat):Sc (sV sb) 184 (.pointer (some ⟨sb,0,none⟩)):=⟨⟨_,rfl,fun _=>by kernel_rfl⟩,qaag⟩
def Rn (P:Nat→Prop) (sb:Nat) (tv av gv wv:Value) (L:List Td) (dv:Nat→Value) (A:List (List Nat)) (n:Nat) (k:List Nat) (a b:World):Prop:=a.heap.size≤b.heap.size∧∃av' gv' wv' gs' ws',So P b sb tv av' gv' wv' L dv (A++[k]) gs' ws'∧gs'.length=n+1∧ws'.length=n+1∧∀i,gS sb av' gv' wv' i→gS sb av gv wv i∨a.heap.size≤i
theorem qr3 {P F:Nat→Prop} {w:World} {sb:Nat} {tv av gv wv:Value} {L:List Td} {dv:Nat→Value} {A:List (List Nat)} {gs ws:List Value} (h:So P w sb tv av gv wv L dv A gs ws) (hP:∀i,P i→i<w.heap.size) (hPF:∀i,P i→¬F i) (hGF:∀i,gS sb av gv wv i→¬F i) {k s:List Nat} (hk:IsH k) (h0:(ask L k).err=0) (h1:(ask L k).data=s) {n:Nat} (hA:A.length≤1000000) (hg:gs.length=n) (hw:ws.length=n) (hn:n≤1000000) :
 ∀u F',Turn F w u→(∀i,F' i→i<u.heap.size)→Calls Tryz.prog 184 #[.pointer (some ⟨sb,0,none⟩),.agg (bv k).toArray] u (Got (gS sb av gv wv) F' s (Rn P sb tv av gv wv L dv A n k) u):=fun u F' t hF'=>by
 have hu:=h.turn t (fun i q _=>hPF i q) hGF
 refine (qtu hu (fun i q=>Nat.lt_of_lt_of_le (hP i q) t.size) hk h0 h1 ⟨hA,by omega,by omega⟩).mono ?_
 rintro e w' ⟨g,cap,av',gv',wv',uu,rfl,hr,hg2,hl,hv,hso,ht,hs⟩
 refine ⟨_,rfl,?_,ht,ht.size,av',gv',wv',_,_,hso,by rw [List.length_append,hg];rfl,by rw [List.length_append,hw];rfl,hs⟩
 obtain ⟨a,b,off,c,e,hvw,h3,h4,h5⟩:=hr.vb hl
 refine ⟨a,b,off,c,e,hvw,h3,h4,h5,fun h0=>?_⟩
 have ha:=hvw.at_ h0
 subst ha
 injection e with e1 _ _
 injection e1 with e2
 injection e2 with e3
 have:=hr.lt
 subst e3
 exact ⟨fun q=>by have:=hF' _ q;omega,this⟩
structure St (w0 w:World) (bk N:Nat) (F P:Nat→Prop) (sb:Nat) (tv:Value) (L:List Td) (dv:Nat→Value) (A:List (List Nat)) (n:Nat) (av gv wv:Value) (gs ws:List Value):Prop where
 bk:Bk w bk 256 N F
 gr:Dg.Ground w
 so:So P w sb tv av gv wv L dv A gs ws
 lg:gs.length=n
 lw:ws.length=n
 gf:∀i,gS sb av gv wv i→¬F i
 gl:∀i,gS sb av gv wv i→w0.heap.size≤i
 fl:∀i,F i→w0.heap.size≤i
 pl:∀i,P i→i<w.heap.size
 pf:∀i,P i→¬F i
 bl:Below w0.heap.size w0 w
 big:2<w0.heap.size
theorem St.keep {w0 w w':World} {bk N:Nat} {F P:Nat→Prop} {sb:Nat} {tv:Value} {L:List Td} {dv:Nat→Value} {A:List (List Nat)} {n:Nat} {av gv wv:Value} {gs ws:List Value} (h:St w0 w bk N F P sb tv L dv A n av gv wv gs ws) (k:Below w.heap.size w w'):St w0 w' bk N F P sb tv L dv A n av gv wv gs ws :=
 { h with bk:=h.bk.keep k,gr:=h.gr.below k,so:=h.so.keep k,pl:=fun i q=>Nat.lt_of_lt_of_le (h.pl i q) k.size,bl:=ch h.bl k }
theorem St.next {w0 w w' : World} {bk N : Nat} {F P : Nat → Prop} {sb : Nat} {tv : Value} {L : List Td} {dv : Nat → Value} {A : List (List Nat)} {n : Nat} {av gv wv : Value} {gs ws : List Value} {k : List Nat} {Z : Nat → Prop} (h : St w0 w bk N F P sb tv L dv A n av gv wv gs ws) (t : Turn (fun i => F i ∨ gS sb av gv wv i) w w')
    (hx:∃u1 u2 F',Turn F w u1∧Rn P sb tv av gv wv L dv A n k u1 u2∧Turn (fun i=>F i∨(w.heap.size≤i∧i<u1.heap.size)) u2 w'∧Bk w' bk 256 (N+2) F'∧(∀i,F' i→F i∨(w.heap.size≤i∧i<u1.heap.size)∨u2.heap.size≤i)∧∀g,Z g→u2.heap.size≤g∧¬F' g) :
    ∃F' av' gv' wv' gs' ws',St w0 w' bk (N+2) F' P sb tv L dv (A++[k]) (n+1) av' gv' wv' gs' ws'∧∀g,Z g→¬F' g∧¬gS sb av' gv' wv' g:=by
  obtain ⟨u1,u2,F',t1,⟨r0,av',gv',wv',gs',ws',r1,r2,r3,r4⟩,t2,b2,f2,fz⟩:=hx
  have s1:=t1.size
  have s2:=t2.size
  have lw:=h.so.lt
  have lf:=h.bk.lim
  have lo:=r1.lt
  have l0:=h.bl.size
  have key:∀i,gS sb av' gv' wv' i→¬(F i∨(w.heap.size≤i∧i<u1.heap.size)):=fun i q q2=>by
    rcases r4 i q with q3 | q3
    · rcases q2 with q2 | q2
      · exact h.gf i q3 q2
      · have:=lw i q3;omega
    · rcases q2 with q2 | q2
      · have:=(lf i q2).2;omega
      · omega
  refine ⟨F',av',gv',wv',gs',ws',⟨b2,qdl h.gr t (fun i q=>?_),r1.turn t2 (fun i q _ q2=>?_) key,r2,r3,fun i q q2=>?_,fun i q=>?_,fun i q=>?_,fun i q=>?_,fun i q q2=>?_,?_,h.big⟩,fun g q=>⟨(fz g q).2,fun q2=>by have:=(fz g q).1;have:=lo g q2;omega⟩⟩
  · rcases q with q | q
    · exact (lf i q).1
    · have:=h.gl i q;have:=h.big;omega
  · rcases q2 with q2 | q2
    · exact h.pf i q q2
    · have:=h.pl i q;omega
  · rcases f2 i q2 with q3 | q3 | q3
    · exact key i q (Or.inl q3)
    · exact key i q (Or.inr q3)
    · have:=lo i q;omega
  · rcases r4 i q with q3 | q3
    · exact h.gl i q3
    · omega
  · rcases f2 i q with q3 | q3 | q3
    · exact h.fl i q3
    · omega
    · omega
  · exact Nat.lt_of_lt_of_le (h.pl i q) t.size
  · rcases f2 i q2 with q3 | q3 | q3
    · exact h.pf i q q3
    · have:=h.pl i q;omega
    · have:=h.pl i q;omega
  · exact h.bl.trans (t.below (fun i q=>by
      rcases q with q | q
      · exact h.fl i q
      · exact h.gl i q) l0)
theorem qxe {w0 w : World} {bk N : Nat} {F P : Nat → Prop} {sb : Nat} {tv : Value} {L : List Td} {dv : Nat → Value} {A : List (List Nat)} {m : Nat} {av gv wv : Value} {gs ws : List Value} (h : St w0 w bk N F P sb tv L dv A m av gv wv gs ws) (hN : N + 1 ≤ 1000) (hA : A.length ≤ 1000000) (hm : m ≤ 1000000) {k s : List Nat} (hk : k = Dg.kh 256 s) (hne : k ≠ Dg.kh 256 s128) (h0 : (ask L k).err = 0) (h1 : (ask L k).data = s)
    {n:Nd} (hnW:n.W) (hd:decN KD s=some n) (hk1:n.k=1) (hms:mst 0 n=true) {key:List Nat} {ka:Option Addr} {kn kc:Nat} (hkv:Vo F w (.slice ka kn kc) key) (hkl:kn≤32) (hp:n.path=lst (2*key.length) (nib key)) (hv:0<n.val.length) :
    Calls Tryz.prog 10 #[sV sb,.pointer (some ⟨bk,0,none⟩),.agg (bv k).toArray,.slice ka kn kc] w fun e w'=>∃v,e=.returned (.tuple #[v,.bool true,.int .i64 0])∧w'.ownsRow 0 5 1 v n.val.length (bv n.val)∧Turn (fun i=>F i∨gS sb av gv wv i) w w'∧∃F' av' gv' wv' gs' ws',St w0 w' bk (N+2) F' P sb tv L dv (A++[k]) (m+1) av' gv' wv' gs' ws'∧∀g,v.ownBlock=some g→¬F' g∧¬gS sb av' gv' wv' g:=by
  have hI:IsH k:=by rw [hk];exact qby _ _
  refine (qm6 w hI (sV sb) (.pointer (some ⟨bk,0,none⟩)) (.slice ka kn kc) (P:=fun W v f x w'=>f=.bool true∧x=.int .i64 0∧w'.ownsRow 0 5 1 v n.val.length (bv n.val)∧Turn (fun i=>F i∨gS sb av gv wv i) W w'∧∃F' av' gv' wv' gs' ws',St w0 w' bk (N+2) F' P sb tv L dv (A++[k]) (m+1) av' gv' wv' gs' ws'∧∀g,v.ownBlock=some g→¬F' g∧¬gS sb av' gv' wv' g) (fun W bW=>?_)).mono ?_
  · have hW:=h.keep bW
    refine (qy3 hW.bk hW.gr hN hk hne (qu8 sb) (G:=gS sb av gv wv) (fun i q=>⟨by have:=hW.gl i q;have:=h.big;omega,hW.gf i q,hW.so.lt i q⟩) hnW hd hk1 hms (hkv.keep bW) hkl (qr3 hW.so hW.pl hW.pf hW.gf hI h0 h1 hA hW.lg hW.lw hm) (fun a b q=>q.1) hp hv).mono ?_
    rintro e w' ⟨v,rfl,q1,q2,q3⟩
    exact ⟨v,_,_,rfl,rfl,rfl,own_base q1,q2,hW.next (Z:=fun g=>v.ownBlock=some g) q2 q3⟩
  · rintro e w' ⟨v,f,x,rfl,W,bW,rfl,rfl,q1,q2,q3⟩
    exact ⟨v,rfl,q1,(Turn.of_below bW).trans q2 (fun _ q=>Or.inl q),q3⟩
theorem quc {w0 w : World} {bk N : Nat} {F P : Nat → Prop} {sb : Nat} {tv : Value} {L : List Td} {dv : Nat → Value} {A : List (List Nat)} {m : Nat} {av gv wv : Value} {gs ws : List Value} (h : St w0 w bk N F P sb tv L dv A m av gv wv gs ws) (hN : N + 1 ≤ 1000) (hA : A.length ≤ 1000000) (hm : m ≤ 1000000) {k s : List Nat} (hk : k = Dg.kh 256 s) (hne : k ≠ Dg.kh 256 s128) (h0 : (ask L k).err = 0) (h1 : (ask L k).data = s)
    {n:Nd} (hnW:n.W) (hd:decN KD s=some n) (hms:mst 0 n=true) {key:List Nat} {ka:Option Addr} {kn kc:Nat} (hkv:Vo F w (.slice ka kn kc) key) (hkl:kn≤32) (hp:pre n.path (lst (2*key.length) (nib key))=false) :
    Calls Tryz.prog 10 #[sV sb,.pointer (some ⟨bk,0,none⟩),.agg (bv k).toArray,.slice ka kn kc] w fun e w'=>e=.returned (.tuple #[.slice none 0 0,.bool false,.int .i64 0])∧Turn (fun i=>F i∨gS sb av gv wv i) w w'∧∃F' av' gv' wv' gs' ws',St w0 w' bk (N+2) F' P sb tv L dv (A++[k]) (m+1) av' gv' wv' gs' ws':=by
  have hI:IsH k:=by rw [hk];exact qby _ _
  refine (qm6 w hI (sV sb) (.pointer (some ⟨bk,0,none⟩)) (.slice ka kn kc) (P:=fun W v f x w'=>v=.slice none 0 0∧f=.bool false∧x=.int .i64 0∧Turn (fun i=>F i∨gS sb av gv wv i) W w'∧∃F' av' gv' wv' gs' ws',St w0 w' bk (N+2) F' P sb tv L dv (A++[k]) (m+1) av' gv' wv' gs' ws') (fun W bW=>?_)).mono ?_
  · have hW:=h.keep bW
    refine (qwv hW.bk hW.gr hN hk hne (qu8 sb) (G:=gS sb av gv wv) (fun i q=>⟨by have:=hW.gl i q;have:=h.big;omega,hW.gf i q,hW.so.lt i q⟩) hnW hd hms (hkv.keep bW) hkl (qr3 hW.so hW.pl hW.pf hW.gf hI h0 h1 hA hW.lg hW.lw hm) (fun a b q=>q.1) hp).mono ?_
    rintro e w' ⟨rfl,q2,q3⟩
    obtain ⟨y1,y2,y3,y4,y5,y6,y7,y8⟩:=q3
    obtain ⟨F',av',gv',wv',gs',ws',hs,-⟩:=hW.next (Z:=fun _=>False) q2 ⟨y1,y2,y3,y4,y5,y6,y7,y8,fun _ q=>q.elim⟩
    exact ⟨_,_,_,rfl,rfl,rfl,rfl,q2,F',av',gv',wv',gs',ws',hs⟩
  · rintro e w' ⟨v,f,x,rfl,W,bW,rfl,rfl,rfl,q1,q2⟩
    exact ⟨rfl,(Turn.of_below bW).trans q1 (fun _ q=>Or.inl q),q2⟩
open Go.RowKit Go.Maps
def nL:Nd:=lfN [1,2] [97]
theorem fNib:lst (2*[18].length) (nib [18])=[1,2]:=by decide
theorem fMay:mayN KD nL=true:=by kernel_rfl
theorem qzr:encN nL=qaz:=by kernel_rfl
theorem fEnc:eN (lfN (lst (2*[18].length) (nib [18])) [97])=qaz:=by
 rw [fNib]
 show eN nL=qaz
 unfold eN
 rw [fMay]
 exact qzr
theorem nL_w:nL.W:=qw2 (by decide) (by decide)
theorem fDec:decN KD qaz=some nL:=by
 rw [←qzr]
 exact qsi nL_w fMay
theorem fMst:mst 0 nL=true:=by decide
theorem fPre:pre nL.path (lst (2*[19].length) (nib [19]))=false:=by decide
theorem qaah:nbits (wrap64 (256 - 8))=256:=by kernel_rfl
theorem qr4 (w:World) (hG:Dg.Ground w):Calls Tryz.prog 8 #[.int .i64 256] w fun e w'=>∃bk F,e=.returned (.pointer (some ⟨bk,0,none⟩))∧Bk w' bk 256 0 F∧(∀i,F i→w.heap.size≤i)∧Below w.heap.size w w':=by
 have:=qta w hG 256
 rw [qaah] at this
 exact this
structure En1 (w:World) (eb ka va:Nat):Prop where
 c0:w.cell? ⟨eb,0,none⟩=some (.slice (some ⟨ka,0,none⟩) 1 1)
 c1:w.cell? ⟨eb,0+1,none⟩=some (.slice (some ⟨va,0,none⟩) 1 1)
 k:Vb w (.slice (some ⟨ka,0,none⟩) 1 1) [18]
 v:Vb w (.slice (some ⟨va,0,none⟩) 1 1) [97]
theorem En1.keep {w w':World} {eb ka va:Nat} (h:En1 w eb ka va) (k:Below w.heap.size w w'):En1 w' eb ka va :=
 ⟨(k.cell (World.block_lt_of_cell? _ _ h.c0)).trans h.c0,(k.cell (World.block_lt_of_cell? _ _ h.c1)).trans h.c1,h.k.keep k,h.v.keep k⟩
theorem vb_1 {w:World} {g x:Nat} {fr:Nat × Nat} (hx:x<256) (h:w.heap[g]?=some (.cells #[.int .u8 (x:Nat)] 5 fr)):Vb w (.slice (some ⟨g,0,none⟩) 1 1) [x]:=by
 refine ⟨_,g,0,1,rfl,⟨fun _=>rfl,fun i hi=>?_,fun i hi=>?_,by simp⟩,by simp,(fun q=>by cases q),by simp⟩
 ·obtain rfl:i=0:=by have:i<1:=hi;omega
  rw [cell_of_row _ _ _ _ _ _ h]
  rfl
 ·obtain rfl:i=0:=by have:i<1:=hi;omega
  show (0:Int)≤((x:Nat):Int)∧((x:Nat):Int)≤255
  omega
theorem qr5 {w:World} (hG:Dg.Gr w) {eb ka va ec:Nat} (h:En1 w eb ka va):Calls Tryz.prog 32 #[.int .i64 (256:Nat),.slice (some ⟨eb,0,none⟩) 1 ec] w fun e w'=>∃tb bl sv,e=.returned (.tuple #[.agg (bv (Dg.kh 256 qaz)).toArray,.pointer (some ⟨tb,0,none⟩),.int .i64 1])∧Tr w' tb 256 bl 1 0 0∧w'.ownsRow w.heap.size 79 33 bl 1 (bbc (Dg.kh 256 qaz) sv)∧Vb w' sv qaz∧w'.ownsRow w.heap.size 5 1 sv qaz.length (bv qaz)∧Below w.heap.size w w':=by
 have:=qrz hG 256 (Nat.le_refl _) (ec:=ec) h.c0 h.c1 h.k h.v (by decide) (by decide) (by rw [fNib];exact fMay)
 rw [fEnc] at this
 exact this
theorem qzs {w:World} (hG:Dg.Gr w) {eb ka va ec:Nat} (h:En1 w eb ka va):Calls Tryz.prog 9 #[.int .i64 256,.slice (some ⟨eb,0,none⟩) 1 ec] w fun e w'=>e=.returned (.agg (bv (Dg.kh 256 qaz)).toArray)∧Below w.heap.size w w' :=
 qr0 (qby 256 qaz) 256 _ (fun W bW=>(qr5 (hG.below bW) (h.keep bW)).mono (by
  rintro e w' ⟨tb,bl,sv,rfl,_,_,_,_,b⟩
  exact ⟨_,_,rfl,b⟩))
def Nds (B:Nat) (bl:Value) (w:World):Prop:=∃sg sc,w.ownsRow B 79 33 bl 1 (bbc (Dg.kh 256 qaz) (.slice (some ⟨sg,0,none⟩) 5 sc))∧Vb w (.slice (some ⟨sg,0,none⟩) 5 sc) qaz∧B≤sg∧sg<w.heap.size
theorem qxf {w:World} (hG:Dg.Gr w) {eb ka va ec:Nat} (h:En1 w eb ka va):Calls Tryz.prog 15 #[.int .i64 256,.slice (some ⟨eb,0,none⟩) 1 ec] w fun e w'=>∃ba bn bc,e=.returned (.slice ba bn bc)∧∃u,(Nds w.heap.size (.slice ba bn bc) u∧Below w.heap.size w u)∧Below u.heap.size u w':=by
 refine qub (qby 256 qaz) 256 _ (R:=fun bl u=>Nds w.heap.size bl u∧Below w.heap.size w u) ((qr5 hG h).mono ?_)
 rintro e w' ⟨tb,bl,sv,rfl,h1,h2,h3,h4,b⟩
 obtain ⟨ba,bc,ebl⟩:=own_slice h2
 subst ebl
 rcases h4.2 with ⟨_,q0⟩ | ⟨sg,sc,cur,e1,hb,hg,_⟩
 ·cases q0
 ·subst e1
  exact ⟨tb,ba,1,bc,_,rfl,h1,⟨sg,sc,h2,h3,hb,(Array.getElem?_eq_some_iff.1 hg).1⟩,b⟩
theorem qnh {w:World} {B e sz:Nat} {a:Option Addr} {c:Nat} {xs:List Value} (h:w.ownsRow B e sz (.slice a 1 c) 1 xs):∃g,a=some ⟨g,0,none⟩∧B≤g∧g<w.heap.size∧w.rangeAt g 0 xs:=by
 rcases h.2 with ⟨e1,h0⟩ | ⟨g,cap,cur,e1,hb,hg,_⟩
 ·cases h0
 ·injection e1 with e2 _ _
  subst e2
  refine ⟨g,rfl,hb,(Array.getElem?_eq_some_iff.1 hg).1,fun j v hv=>?_⟩
  have:=h.cells (g:=g) rfl j v hv
  rw [qa7] at this
  rw [Nat.zero_add]
  exact this
theorem tls1 {w:World} {tg tc sg sc:Nat} (h:w.rangeAt tg 0 (tdc ⟨Dg.kh 256 qaz,qaz,0⟩ (.slice (some ⟨sg,0,none⟩) 5 sc))) (hg:tg<w.heap.size) (hv:Vb w (.slice (some ⟨sg,0,none⟩) 5 sc) qaz) :
 Tls (fun i=>i=tg∨i=sg) w (.slice (some ⟨tg,0,none⟩) 1 tc) [⟨Dg.kh 256 qaz,qaz,0⟩] (fun _=>.slice (some ⟨sg,0,none⟩) 5 sc):=by
 obtain ⟨a,b,off,c,e,hvw,h1,h2,h3⟩:=hv
 have ha:=hvw.at_ (by decide)
 injection e with e1 e2 e3
 rw [ha] at e1
 injection e1 with e1
 injection e1 with e4 e5
 subst e3
 subst e4
 refine ⟨⟨_,tg,0,tc,rfl,fun _=>⟨rfl,Or.inl rfl,hg⟩,fun i t ht=>?_⟩,fun t ht=>?_,fun i t ht=>?_,by decide⟩
 ·obtain ⟨rfl,rfl⟩:i=0∧t=⟨Dg.kh 256 qaz,qaz,0⟩:=by
   cases i with
   | zero=>exact ⟨rfl,(Option.some.inj ht).symm⟩
   | succ i=>simp at ht
  exact h
 ·rw [List.mem_singleton.1 ht]
  exact qby _ _
 ·obtain ⟨rfl,rfl⟩:i=0∧t=⟨Dg.kh 256 qaz,qaz,0⟩:=by
   cases i with
   | zero=>exact ⟨rfl,(Option.some.inj ht).symm⟩
   | succ i=>simp at ht
  rw [ha] at hvw
  exact ⟨_,sg,off,sc,by rw [←e5];rfl,hvw,h1,(fun q=>by cases q),h3,fun _=>Or.inr rfl⟩
theorem ask1:(ask [⟨Dg.kh 256 qaz,qaz,0⟩] (Dg.kh 256 qaz)).err=0∧(ask [⟨Dg.kh 256 qaz,qaz,0⟩] (Dg.kh 256 qaz)).data=qaz:=by
 rw [qq9 (k:=0) (t:=⟨Dg.kh 256 qaz,qaz,0⟩) rfl rfl (fun j x hj=>by omega)]
 exact ⟨rfl,rfl⟩
open Go.RowKit Go.Maps
theorem qzt {w0 u1 u6:World} {bk:Nat} {F:Nat→Prop} {tg tc sg sc:Nat} (hb:Bk u1 bk 256 0 F) (hF:∀i,F i→w0.heap.size≤i) (b1:Below w0.heap.size w0 u1) (hG:Dg.Ground w0) (k:Below u1.heap.size u1 u6) (h:u6.rangeAt tg 0 (tdc ⟨Dg.kh 256 qaz,qaz,0⟩ (.slice (some ⟨sg,0,none⟩) 5 sc))) (hg:tg<u6.heap.size) (hg1:u1.heap.size≤tg) (hs:sg<u6.heap.size) (hs1:u1.heap.size≤sg) (hv:Vb u6 (.slice (some ⟨sg,0,none⟩) 5 sc) qaz) :
 St w0 (u6.alloc (.cells #[.slice (some ⟨tg,0,none⟩) 1 tc,.slice none 0 0,.slice none 0 0,.slice none 0 0] 29)) bk 0 F (fun i=>i=tg∨i=sg) u6.heap.size (.slice (some ⟨tg,0,none⟩) 1 tc) [⟨Dg.kh 256 qaz,qaz,0⟩] (fun _=>.slice (some ⟨sg,0,none⟩) 5 sc) [] 0 (.slice none 0 0) (.slice none 0 0) (.slice none 0 0) [] []:=by
 have kA:=qaa u6 (.cells #[.slice (some ⟨tg,0,none⟩) 1 tc,.slice none 0 0,.slice none 0 0,.slice none 0 0] 29)
 have l1:=b1.size
 have l6:=k.size
 have lF:=hb.lim
 have gs:∀i,gS u6.heap.size (.slice none 0 0) (.slice none 0 0) (.slice none 0 0) i→i=u6.heap.size:=fun i q=>by
  rcases q with q | q | q | q
  ·exact q
  ·cases q
  ·cases q
  ·cases q
 refine ⟨(hb.keep k).keep kA,((hG.below b1).below k).below kA,⟨heap_alloc_new _ _,(tls1 h hg hv).keep kA,⟨rfl,Or.inl ⟨rfl,rfl⟩⟩,⟨rfl,Or.inl ⟨rfl,rfl⟩⟩,⟨rfl,Or.inl ⟨rfl,rfl⟩⟩,(fun i q=>by cases q),fun i q q2=>?_⟩,rfl,rfl,fun i q q2=>?_,fun i q=>?_,hF,fun i q=>?_,fun i q q2=>?_,ch (ch b1 k) kA,hG.big⟩
 ·have:=gs i q2
  rcases q with q | q <;> omega
 ·have:=gs i q
  have:=(lF i q2).2
  omega
 ·have:=gs i q
  omega
 ·have:=kA.size
  rcases q with q | q <;> omega
 ·have:=(lF i q2).2
  rcases q with q | q <;> omega
set_option maxRecDepth 100000 in
set_option maxHeartbeats 12800000 in
theorem qoq (w:World) (hGr:Dg.Gr w) :
 Calls Tryz.prog 12 #[] w fun e w'=>e=.returned (.bool true)∧Below w.heap.size w w':=by
 have HG:Hid (Dg.Gr w):=hGr
 clear hGr
 go_enter Tryz.func12,Tryz.ntmps12
 go_wp2_with (go_at_call 8;change Hid (Calls _ _ _ _ _))
 unfold Hid
 refine (qr4 _ HG.out.g).mono ?_
 rintro _ u1 ⟨bk,F,rfl,hb1,hF1,b1⟩
 have H1:Hid (Bk u1 bk 256 0 F∧(∀i,F i→w.heap.size≤i)∧Below w.heap.size w u1):=⟨hb1,hF1,b1⟩
 clear hb1 hF1 b1
 have cvA:∀W:World,(convert 33 33 (.slice (some ⟨W.heap.size,0,none⟩) 1 1)).run Tryz.prog (W.alloc (.cells #[.int .u8 97] 5))=.ok (.slice (some ⟨W.heap.size,0,none⟩) 1 1) (W.alloc (.cells #[.int .u8 97] 5 (1,2))):=fun W=>Lib.run_convert_bytes_const (P:=Tryz.prog) W 33 5 #[.int .u8 97] 1 1 Tryz.underlying33 Tryz.underlying5
 have cvB:=cvA (u1.alloc (.cells #[.int .u8 18] 5))
 rw [World.size_alloc] at cvB
 go_wp2_with (go_at_call 9;change Hid (Calls _ _ _ _ _))
 unfold Hid
 obtain ⟨u2,e2⟩:∃u2,u2=(((u1.alloc (.cells #[.int .u8 18] 5)).alloc (.cells #[.int .u8 97] 5 (1,2))).alloc (.cells #[.slice (some ⟨u1.heap.size,0,none⟩) 1 1,.slice (some ⟨u1.heap.size+1,0,none⟩) 1 1] 47)):=⟨_,rfl⟩
 have en:En1 u2 (u1.heap.size+1+1) u1.heap.size (u1.heap.size+1)∧Below u1.heap.size u1 u2:=by
  have g0:u2.heap[u1.heap.size]?=some (.cells #[.int .u8 (18:Nat)] 5 (0,0)):=by rw [e2,heap_alloc_old _ _ (by simp;omega),heap_alloc_old _ _ (by simp)];exact heap_alloc_new _ _
  have g1:u2.heap[u1.heap.size+1]?=some (.cells #[.int .u8 (97:Nat)] 5 (1,2)):=by
   rw [e2,heap_alloc_old _ _ (by simp)]
   have:=heap_alloc_new (u1.alloc (.cells #[.int .u8 18] 5)) (.cells #[.int .u8 97] 5 (1,2))
   rw [World.size_alloc] at this
   exact this
  have g2:u2.heap[u1.heap.size+1+1]?=some (.cells #[.slice (some ⟨u1.heap.size,0,none⟩) 1 1,.slice (some ⟨u1.heap.size+1,0,none⟩) 1 1] 47 (0,0)):=by
   rw [e2]
   have:=heap_alloc_new ((u1.alloc (.cells #[.int .u8 18] 5)).alloc (.cells #[.int .u8 97] 5 (1,2))) (.cells #[.slice (some ⟨u1.heap.size,0,none⟩) 1 1,.slice (some ⟨u1.heap.size+1,0,none⟩) 1 1] 47)
   rw [World.size_alloc,World.size_alloc] at this
   exact this
  exact ⟨⟨cell_of_row _ _ _ _ _ _ g2,cell_of_row _ _ _ _ _ _ g2,vb_1 (by decide) g0,vb_1 (by decide) g1⟩,by rw [e2];exact ch (ch (qaa _ _) (qaa _ _)) (qaa _ _)⟩
 rw [←e2]
 clear e2 cvA cvB
 obtain ⟨kk,ek⟩:∃k,k=Dg.kh 256 qaz:=⟨_,rfl⟩
 have hkk:IsH kk:=by rw [ek];exact qby _ _
 have HK:Hid (kk=Dg.kh 256 qaz):=ek
 have KR:=qzs (HG.out.below (ch H1.out.2.2 en.2)) (ec:=1) en.1
 rw [←ek] at KR
 have hz:=zvH
 obtain ⟨zz,ez⟩:∃z,z=z32:=⟨_,rfl⟩
 have hzz:IsH zz:=by rw [ez];exact qec
 rw [←ez] at hz
 have H2:Hid (En1 u2 (u1.heap.size+1+1) u1.heap.size (u1.heap.size+1)∧Below u1.heap.size u1 u2):=en
 clear ez ek en
 refine KR.mono ?_
 rintro _ u3 ⟨rfl,b3⟩
 have b4:=ch b3 (qaa u3 (.cells (bv kk).toArray 31))
 have KNo:=qxf (HG.out.below (ch (ch H1.out.2.2 H2.out.2) b4)) (ec:=1) (H2.out.1.keep b4)
 have H3:Hid (Below u1.heap.size u1 (u3.alloc (.cells (bv kk).toArray 31))∧(u3.alloc (.cells (bv kk).toArray 31)).rangeAt u3.heap.size 0 (bv kk)∧u1.heap.size≤u3.heap.size∧(u3.alloc (.cells (bv kk).toArray 31)).heap.size=u3.heap.size+1):=⟨ch H2.out.2 b4,qa1 _ _ _,Nat.le_trans H2.out.2.size b3.size,by simp⟩
 clear b3 b4 KR
 go_wp2_with (first
  | refine qds _ _ (by rfl) kk zz hkk hzz (by rfl) (by rfl) ?_
  | (go_at_call 15;change Hid (Calls _ _ _ _ _)))
 unfold Hid
 refine KNo.mono ?_
 rintro _ u5 ⟨ba,bn,bc,rfl,u,⟨⟨sg,sc,o1,v1,s1,s2⟩,bu⟩,bu5⟩
 obtain ⟨a',c',e'⟩:=own_slice o1
 injection e' with e1' e2' e3'
 subst e1'
 subst e2'
 subst e3'
 obtain ⟨bb,hba,hb1,hb2,hb3⟩:=qnh o1
 subst hba
 rw [←HK.out] at hb3
 have KB:=qr2 (bc:=bc) (s:=qaz) hkk (qay hb3 bu5)
 have H5:Hid (Below u1.heap.size u1 u5∧u5.rangeAt u3.heap.size 0 (bv kk)∧Vb u5 (.slice (some ⟨sg,0,none⟩) 5 sc) qaz∧u3.heap.size<sg∧sg<u5.heap.size∧u3.heap.size<u5.heap.size):=⟨ch (ch H3.out.1 bu) bu5,qay (qay H3.out.2.1 bu) bu5,v1.keep bu5,by have:=H3.out.2.2.2;omega,Nat.lt_of_lt_of_le s2 bu5.size,by have:=H3.out.2.2.2;have:=bu.size;have:=bu5.size;omega⟩
 clear o1 v1 s1 s2 bu bu5 hb1 hb2 hb3 KNo
 go_wp2_with (go_at_call 14;change Hid (Calls _ _ _ _ _))
 unfold Hid
 refine KB.mono ?_
 rintro _ u6 ⟨tv,rfl,o6,b6⟩
 obtain ⟨ta,tc,et⟩:=own_slice o6
 subst et
 obtain ⟨tg,hta,hg1,hg2,hg3⟩:=qnh o6
 subst hta
 rw [HK.out] at hg3
 have hst:=qzt (tc:=tc) H1.out.1 H1.out.2.1 H1.out.2.2 HG.out.g (ch H5.out.1 b6) hg3 hg2 (by have:=H5.out.1.size;omega) (Nat.lt_of_lt_of_le H5.out.2.2.2.2.1 b6.size) (by have:=H5.out.2.2.2.1;have:=H3.out.2.2.1;omega) (H5.out.2.2.1.keep b6)
 rw [←HK.out] at hst
 obtain ⟨u7,e7⟩:∃u7,u7=(u6.alloc (.cells #[.slice (some ⟨tg,0,none⟩) 1 tc,.slice none 0 0,.slice none 0 0,.slice none 0 0] 29)):=⟨_,rfl⟩
 rw [←e7] at hst
 have r7:u7.rangeAt u3.heap.size 0 (bv kk):=by rw [e7];exact qay (qay H5.out.2.1 b6) (qaa _ _)
 have HE7:Hid (u7=(u6.alloc (.cells #[.slice (some ⟨tg,0,none⟩) 1 tc,.slice none 0 0,.slice none 0 0,.slice none 0 0] 29))∧u3.heap.size<u6.heap.size∧u1.heap.size≤u3.heap.size∧u7.heap.size=u6.heap.size+1):=⟨e7,Nat.lt_of_lt_of_le H5.out.2.2.2.2.2 b6.size,H3.out.2.2.1,by rw [e7];simp⟩
 have H7:Hid (St w u7 bk 0 F (fun i=>i=tg∨i=sg) u6.heap.size (.slice (some ⟨tg,0,none⟩) 1 tc) [⟨kk,qaz,0⟩] (fun _=>.slice (some ⟨sg,0,none⟩) 5 sc) [] 0 (.slice none 0 0) (.slice none 0 0) (.slice none 0 0) [] []∧u7.rangeAt u3.heap.size 0 (bv kk)∧∀i,F i→i<u1.heap.size):=⟨hst,r7,fun i q=>(H1.out.1.lim i q).2⟩
 have r6:(u6.alloc (.cells #[.slice (some ⟨tg,0,none⟩) 1 tc,.slice none 0 0,.slice none 0 0,.slice none 0 0] 29)).rangeAt u3.heap.size 0 (bv kk):=by rw [←e7];exact r7
 clear o6 b6 hg1 hg2 hg3 hst r7 e7 H5 H3 H2 KB
 go_wp2_with (first
  | refine qaj _ (by rfl) u3.heap.size 0 kk hkk.1 r6 (by rfl) ?_
  | (go_at_call 10;change Hid (Calls _ _ _ _ _)))
 unfold Hid
 rw [←HE7.out.1]
 have h87:(u7.alloc (.cells #[.int .u8 18] 5)).heap[u6.heap.size+1]?=some (.cells #[.int .u8 (18:Nat)] 5 (0,0)):=by rw [←HE7.out.2.2.2];exact heap_alloc_new _ _
 have nF:∀{F0:Nat→Prop} {g:Nat} {W:World} {x:Nat},¬F0 g→g<W.heap.size→Vb W (.slice (some ⟨g,0,none⟩) 1 1) [x]→Vo F0 W (.slice (some ⟨g,0,none⟩) 1 1) [x]:=fun hn hl hv=>by
  obtain ⟨a,b,off,c,e,hvw,q1,q2,q3⟩:=hv
  have ha:=hvw.at_ (by simp)
  refine ⟨a,b,off,c,e,hvw,q1,q2,q3,fun _=>?_⟩
  injection e with e1 _ _
  rw [ha] at e1
  injection e1 with e1
  injection e1 with e4 _
  rw [←e4]
  exact ⟨hn,hl⟩
 have kv1:=nF (F0:=F) (fun q=>by have:=H7.out.2.2 _ q;have:=HE7.out;omega) (Array.getElem?_eq_some_iff.1 h87).1 (vb_1 (by decide) h87)
 have ask2:=ask1
 rw [←HK.out] at ask2
 have KG:=qxe (H7.out.1.keep (qaa u7 (.cells #[.int .u8 18] 5))) (by decide) (by decide) (by decide) HK.out (by rw [HK.out];exact qy1) ask2.1 ask2.2 nL_w fDec rfl fMst kv1 (by decide) fNib.symm (by decide)
 refine KG.mono ?_
 rintro _ u9 ⟨v,rfl,ov,t9,F9,av,gv,wv,gs,ws,st9,nf⟩
 have ov':u9.ownsRow 0 5 1 v 1 (bv [97]):=ov
 obtain ⟨va,vc,evv⟩:=own_slice ov'
 subst evv
 have gz:∀i,gS u6.heap.size (.slice none 0 0) (.slice none 0 0) (.slice none 0 0) i→i=u6.heap.size:=fun i q=>by
  rcases q with q | q | q | q
  ·exact q
  ·cases q
  ·cases q
  ·cases q
 have r9:u9.rangeAt u3.heap.size 0 (bv kk):=qbj (qay H7.out.2.1 (qaa u7 (.cells #[.int .u8 18] 5))) (t9.block _ (qxw (qay H7.out.2.1 (qaa u7 (.cells #[.int .u8 18] 5))) (by rw [bv_len,hkk.1];decide)) (fun q=>by
  rcases q with q | q
  ·have:=H7.out.2.2 _ q;have:=HE7.out;omega
  ·have:=gz _ q;have:=HE7.out;omega))
 have H9:Hid (St w u9 bk 2 F9 (fun i=>i=tg∨i=sg) u6.heap.size (.slice (some ⟨tg,0,none⟩) 1 tc) [⟨kk,qaz,0⟩] (fun _=>.slice (some ⟨sg,0,none⟩) 5 sc) [kk] 1 av gv wv gs ws∧u9.ownsRow 0 5 1 (.slice va 1 vc) 1 (bv [97])∧∀g,(Value.slice va 1 vc).ownBlock=some g→¬F9 g∧¬gS u6.heap.size av gv wv g):=⟨st9,ov',nf⟩
 clear ov ov' t9 st9 nf KG kv1 h87 r6 gz
 go_wp2_with (first
  | refine qaj _ (by rfl) u3.heap.size 0 kk hkk.1 r9 (by rfl) ?_
  | (go_at_call 10;change Hid (Calls _ _ _ _ _)))
 unfold Hid
 have h10:(u9.alloc (.cells #[.int .u8 19] 5)).heap[u9.heap.size]?=some (.cells #[.int .u8 (19:Nat)] 5 (0,0)):=heap_alloc_new _ _
 have kv2:=nF (F0:=F9) (fun q=>by have:=(H9.out.1.bk.lim _ q).2;omega) (Array.getElem?_eq_some_iff.1 h10).1 (vb_1 (by decide) h10)
 have KG2:=quc (H9.out.1.keep (qaa u9 (.cells #[.int .u8 19] 5))) (by decide) (by simp) (by decide) HK.out (by rw [HK.out];exact qy1) ask2.1 ask2.2 nL_w fDec fMst kv2 (by decide) fPre
 refine KG2.mono ?_
 rintro _ u11 ⟨rfl,t11,F11,av2,gv2,wv2,gs2,ws2,st11⟩
 have ov11:=own_turn (qal H9.out.2.1 (fun g hg=>(qaa u9 (.cells #[.int .u8 19] 5)).block g (H9.out.2.1.lt g hg).2)) t11 (fun g hg q=>by
  rcases q with q | q
  ·exact (H9.out.2.2 g hg).1 q
  ·exact (H9.out.2.2 g hg).2 q)
 have cvS:=qjj (qcb (s:=[97]) ov11 (by decide) (by decide))
 rw [show sB [97]=⟨#[97]⟩ by kernel_rfl] at cvS
 have cvS':(convert 33 9 (.slice va 1 vc)).run Tryz.prog u11=.ok (.string ⟨#[97]⟩) u11:=cvS
 have as2:u11.ownsRow 0 31 32 av2 2 (hcs [kk,kk]):=st11.so.a
 obtain ⟨xa,xc,ex⟩:=own_slice as2
 have c11:=st11.so.at_.2.1
 rw [ex] at c11
 have HF:Hid (Below w.heap.size w u11):=st11.bl
 clear KG2 t11 st11 ov11 as2 ex cvS kv2 h10 H9 nF
 go_wp2_with fail
 go_ret
 exact ⟨rfl,HF.out⟩
end Go.Proofs.YtemcneddbhgadaaGreatDoor
