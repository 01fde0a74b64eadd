import Derived.Test.YtemcneddbhgadaaGreatDoorChecked
import Derived.Conc.MuLone
import Derived.KernelRfl
import Derived.Test.YtemcneddbhgadaaGreatDoorQRCutzz
import Derived.Test.YtemcneddbhgadaaGreatDoorQEqAzz
import Derived.Test.YtemcneddbhgadaaGreatDoorSazz
import Derived.Test.YtemcneddbhgadaaGreatDoorQAddzz
import Derived.Test.YtemcneddbhgadaaGreatDoorQSlzz
namespace Go.Proofs.YtemcneddbhgadaaGreatDoor.Dg
abbrev mu:Go.Conc.Locks.MuLink:={ lock:=39,unlock:=40,ilock:=62,iunlock:=63,lockSlow:=89,unlockSlow:=92,disable:=85,enable:=87,acquire:=88,relMerge:=90,cas32:=86,add32:=91,tMutex:=90,tIMutex:=88,tPMutex:=125,tPIMutex:=149,tPI32:=151,tUP:=153,tNoCopy:=85,tU32:=86 }
theorem qqd:Go.Conc.Locks.MuLib Tryz.prog mu :=
 ⟨Tryz.func39,Tryz.func40,Tryz.func62,Tryz.func63,Tryz.func85,Tryz.func87,Tryz.func88,Tryz.func90,Tryz.func86,Tryz.func91,Tryz.underlying88,Tryz.runUnderlying88,Tryz.sizeOf88,Tryz.isAgg88,Tryz.zeroValue88,Tryz.underlying90,Tryz.runUnderlying90,Tryz.sizeOf90,Tryz.isAgg90,Tryz.zeroValue90,Tryz.underlying125,Tryz.runUnderlying125,Tryz.sizeOf125,Tryz.isAgg125,Tryz.zeroValue125,Tryz.underlying149,Tryz.runUnderlying149,Tryz.sizeOf149,Tryz.isAgg149,Tryz.zeroValue149,Tryz.underlying151,Tryz.runUnderlying151,Tryz.sizeOf151,Tryz.isAgg151,Tryz.zeroValue151,Tryz.underlying153,Tryz.runUnderlying153,Tryz.sizeOf153,Tryz.isAgg153,Tryz.zeroValue153,Tryz.underlying85,Tryz.runUnderlying85,Tryz.sizeOf85,Tryz.isAgg85,Tryz.zeroValue85,Tryz.underlying21,Tryz.runUnderlying21,Tryz.sizeOf21,Tryz.isAgg21,Tryz.zeroValue21,(by kernel_rfl)⟩
open Go.RowKit
open Go.RowKit
open Go.RowKit Go.Sort Go.Maps
def sum (s:List Nat):List Nat:=lst 32 (hb (digest s.length (gd s)))
def kh (bits:Nat) (s:List Nat):List Nat:=lst 32 (cutf bits (gd (sum s)))
def cod (S:Nat→Nat) (s:List Nat):List Nat:=lst 32 (hb (hmac (blk 32 S) s.length (gd s)))
def kc (bits:Nat) (S:Nat→Nat) (s:List Nat):List Nat:=lst 32 (cutf bits (gd (cod S s)))
theorem qlg (s:List Nat):IsH (sum s):=qp1 (fun _=>Nat.mod_lt _ (by decide))
theorem kh_isH (bits:Nat) (s:List Nat):IsH (kh bits s):=qp1 (qv6 (gd_lt (qlg s).2))
def bkc (bits cbits:Nat) (S:Nat→Nat) (bh nh bc nc bf nf:Nat) (lock:Int) (i:Nat):Value :=
 if i=0 then .int .i64 bits else if i=1 then .int .i64 cbits else if i<34 then .int .u8 (S (i - 2)) else if i=34 then .int .i32 lock else if i=35 then .int .u32 0
 else if i=36 then .map (some bh) else if i=37 then .int .i64 nh else if i=38 then .map (some bc) else if i=39 then .int .i64 nc else if i=40 then .map (some bf) else if i=41 then .int .i64 nf else .int .i64 0
structure Bst where
 bits:Nat
 cbits:Nat
 S:Nat→Nat
 LH:List (List Nat)
 LC:List (List Nat)
 LF:List (List Nat)
structure qbz (w:World) (B sb:Nat) (st:Bst) (lock:Int) (bh bc bf:Nat) (Fh Fc Ff:Nat→Prop):Prop where
 row:w.rowIs sb 95 42 (bkc st.bits st.cbits st.S bh st.LH.length bc st.LC.length bf st.LF.length lock)
 nh:qe4 w bh Fh (kh st.bits) st.LH
 nc:qe4 w bc Fc (kc st.cbits st.S) st.LC
 nf:qe4 w bf Ff (kc st.cbits st.S) st.LF
 hc:∀i,Fh i→¬Fc i
 hf:∀i,Fh i→¬Ff i
 cf:∀i,Fc i→¬Ff i
 oh:¬Fh sb
 oc:¬Fc sb
 of_:¬Ff sb
 lim:∀i,(Fh i∨Fc i∨Ff i)→i<w.heap.size
 base:B≤sb∧∀i,(Fh i∨Fc i∨Ff i)→B≤i
 b1:8≤st.bits∧st.bits≤256
 b2:8≤st.cbits∧st.cbits≤256
 S8:∀i,st.S i<256
def Book (w:World) (B sb:Nat) (st:Bst) (F:Nat→Prop):Prop:=∃bh bc bf Fh Fc Ff,qbz w B sb st 0 bh bc bf Fh Fc Ff∧∀i,F i↔i=sb∨Fh i∨Fc i∨Ff i
theorem qbz.lt {w:World} {B sb:Nat} {st:Bst} {lock:Int} {bh bc bf:Nat} {Fh Fc Ff:Nat→Prop} (h:qbz w B sb st lock bh bc bf Fh Fc Ff):sb<w.heap.size:=h.row.lt
theorem qbz.turn {w w':World} {B sb:Nat} {st:Bst} {lock:Int} {bh bc bf:Nat} {Fh Fc Ff G:Nat→Prop} (h:qbz w B sb st lock bh bc bf Fh Fc Ff) (t:Turn G w w') (hs:¬G sb) (hd:∀i,(Fh i∨Fc i∨Ff i)→¬G i):qbz w' B sb st lock bh bc bf Fh Fc Ff :=
 { h with
  row:=h.row.of_block (t.block sb h.lt hs)
  nh:=h.nh.turn t (fun i q _=>hd i (Or.inl q))
  nc:=h.nc.turn t (fun i q _=>hd i (Or.inr (Or.inl q)))
  nf:=h.nf.turn t (fun i q _=>hd i (Or.inr (Or.inr q)))
  lim:=fun i q=>Nat.lt_of_lt_of_le (h.lim i q) t.size }
theorem qbz.below {w w':World} {B sb:Nat} {st:Bst} {lock:Int} {bh bc bf:Nat} {Fh Fc Ff:Nat→Prop} (h:qbz w B sb st lock bh bc bf Fh Fc Ff) (hb:Below w.heap.size w w'):qbz w' B sb st lock bh bc bf Fh Fc Ff :=
 h.turn (Turn.of_below hb (F:=fun _=>False)) (fun q=>q) (fun _ _ q=>q)
theorem Book.turn {w w':World} {B sb:Nat} {st:Bst} {F G:Nat→Prop} (h:Book w B sb st F) (t:Turn G w w') (hd:∀i,F i→¬G i):Book w' B sb st F:=by
 obtain ⟨bh,bc,bf,Fh,Fc,Ff,hx,hF⟩:=h
 exact ⟨bh,bc,bf,Fh,Fc,Ff,hx.turn t (hd sb ((hF sb).2 (Or.inl rfl))) (fun i q=>hd i ((hF i).2 (Or.inr q))),hF⟩
theorem Book.lim {w:World} {B sb:Nat} {st:Bst} {F:Nat→Prop} (h:Book w B sb st F):∀i,F i→B≤i∧i<w.heap.size:=by
 obtain ⟨bh,bc,bf,Fh,Fc,Ff,hx,hF⟩:=h
 intro i q
 rcases (hF i).1 q with e | q
 ·exact ⟨e ▸ hx.base.1,e ▸ hx.lt⟩
 ·exact ⟨hx.base.2 i q,hx.lim i q⟩
theorem qbz.lock {w:World} {B sb:Nat} {st:Bst} {l:Int} {bh bc bf:Nat} {Fh Fc Ff:Nat→Prop} (h:qbz w B sb st l bh bc bf Fh Fc Ff) (l':Int):qbz (w.setCell ⟨sb,34,none⟩ (.int .i32 l')) B sb st l' bh bc bf Fh Fc Ff:=by
 have t:Turn (fun i=>i=sb) w (w.setCell ⟨sb,34,none⟩ (.int .i32 l')):=Turn.setCell w _ _ rfl
 refine { h with row:=(h.row.set 34 _).congr (fun i _=>?_),nh:=h.nh.turn t (fun i q _ e=>h.oh (e ▸ q)),nc:=h.nc.turn t (fun i q _ e=>h.oc (e ▸ q)),nf:=h.nf.turn t (fun i q _ e=>h.of_ (e ▸ q)),lim:=fun i q=>Nat.lt_of_lt_of_le (h.lim i q) t.size }
 unfold bkc
 by_cases e:i=34
 ·subst e
  simp
 ·rw [if_neg e]
  by_cases e0:i=0
  ·rw [if_pos e0,if_pos e0]
  ·rw [if_neg e0,if_neg e0]
   by_cases e1:i=1
   ·rw [if_pos e1,if_pos e1]
   ·rw [if_neg e1,if_neg e1]
    by_cases e2:i<34
    ·rw [if_pos e2,if_pos e2]
    ·rw [if_neg e2,if_neg e2,if_neg e,if_neg e]
theorem qbz.state {w:World} {B sb:Nat} {st:Bst} {l:Int} {bh bc bf:Nat} {Fh Fc Ff:Nat→Prop} (h:qbz w B sb st l bh bc bf Fh Fc Ff):w.cell? ⟨sb,34,none⟩=some (.int .i32 l):=h.row.cell (i:=34) (by decide)
theorem qbz.frozen {w:World} {B sb:Nat} {st:Bst} {l:Int} {bh bc bf:Nat} {Fh Fc Ff:Nat→Prop} (h:qbz w B sb st l bh bc bf Fh Fc Ff) (i:Nat):w.frozen? ⟨sb,i,none⟩=false:=h.row.frozen i
theorem qbz.cBits {w:World} {B sb:Nat} {st:Bst} {l:Int} {bh bc bf:Nat} {Fh Fc Ff:Nat→Prop} (h:qbz w B sb st l bh bc bf Fh Fc Ff):w.cell? ⟨sb,0,none⟩=some (.int .i64 st.bits):=h.row.cell (i:=0) (by decide)
theorem qbz.natH {w:World} {B sb:Nat} {st:Bst} {l:Int} {bh bc bf:Nat} {Fh Fc Ff:Nat→Prop} (h:qbz w B sb st l bh bc bf Fh Fc Ff):NAt w sb 36 bh Fh (kh st.bits) st.LH :=
 ⟨h.row.cell (i:=36) (by decide),h.row.cell (i:=37) (by decide),h.row.frozen _,h.nh,h.oh,fun i q=>h.lim i (Or.inl q)⟩
structure quu (w w':World) (B sb:Nat) (st:Bst) (F:Nat→Prop):Prop where
 book:∃F',(∀i,F i→F' i)∧(∀i,F' i→F i∨w.heap.size≤i)∧Book w' B sb st F'
 turn:Turn F w w'
theorem qz3 (bits cbits:Nat) (S:Nat→Nat) (bh nh bc nc bf nf nh':Nat) (l:Int) (i:Nat):(if i=36+1 then Value.int .i64 nh' else bkc bits cbits S bh nh bc nc bf nf l i)=bkc bits cbits S bh nh' bc nc bf nf l i:=by
 unfold bkc
 by_cases e:i=37
 ·subst e
  simp
 ·rw [if_neg (show ¬i=36+1 from e)]
  simp only [if_neg e]
theorem qbz.addedH {w w':World} {B sb:Nat} {st:Bst} {l:Int} {bh bc bf:Nat} {Fh Fc Ff:Nat→Prop} (h:qbz w B sb st l bh bc bf Fh Fc Ff) {L:List (List Nat)} (a:qlf w w' sb 36 bh Fh (kh st.bits) L) :
 ∃F',(∀i,Fh i→F' i)∧(∀i,F' i→Fh i∨w.heap.size≤i)∧qbz w' B sb { st with LH:=L } l bh bc bf F' Fc Ff:=by
 obtain ⟨F',h1,h2,hn⟩:=a.notes
 have hb:=h.base
 have hl:=h.lt
 refine ⟨F',h1,fun i q=>(h2 i q).imp id (fun z=>z.1),{ h with
  row:=(a.self _ _ _ h.row).congr (fun i _=>qz3 _ _ _ _ _ _ _ _ _ _ _ i)
  nh:=hn
  nc:=h.nc.turn a.turn (fun i q _ z=>?_)
  nf:=h.nf.turn a.turn (fun i q _ z=>?_)
  hc:=fun i q z=>?_
  hf:=fun i q z=>?_
  oh:=fun q=>?_
  lim:=fun i q=>?_
  base:=⟨hb.1,fun i q=>?_⟩ }⟩
 ·rcases z with z | z
  ·exact h.hc i z q
  ·exact h.oc (z ▸ q)
 ·rcases z with z | z
  ·exact h.hf i z q
  ·exact h.of_ (z ▸ q)
 ·rcases h2 i q with q | q
  ·exact h.hc i q z
  ·have:=h.lim i (Or.inr (Or.inl z));omega
 ·rcases h2 i q with q | q
  ·exact h.hf i q z
  ·have:=h.lim i (Or.inr (Or.inr z));omega
 ·rcases h2 sb q with q | q
  ·exact h.oh q
  ·omega
 ·rcases q with q | q | q
  ·rcases h2 i q with q | q
   ·exact Nat.lt_of_lt_of_le (h.lim i (Or.inl q)) a.turn.size
   ·exact q.2
  ·exact Nat.lt_of_lt_of_le (h.lim i (Or.inr (Or.inl q))) a.turn.size
  ·exact Nat.lt_of_lt_of_le (h.lim i (Or.inr (Or.inr q))) a.turn.size
 ·rcases q with q | q | q
  ·rcases h2 i q with q | q
   ·exact hb.2 i (Or.inl q)
   ·omega
  ·exact hb.2 i (Or.inr (Or.inl q))
  ·exact hb.2 i (Or.inr (Or.inr q))
open Go.RowKit Go.Sort Go.Maps
theorem Ground.turn {w w':World} {F:Nat→Prop} (h:Ground w) (t:Turn F w w') (hF:∀i,F i→2<i):Ground w' :=
 ⟨fun i hi=>(t.cell (q:=⟨0,i,none⟩) (by have:=h.big;show (0:Nat)<_;omega) (fun f=>by have:=hF _ f;simp at this)).trans (h.first i hi),
  fun i hi=>(t.cell (q:=⟨2,i,none⟩) h.big (fun f=>by have:=hF _ f;simp at this)).trans (h.roots i hi),Nat.lt_of_lt_of_le h.big t.size⟩
theorem qyd (m:Nat) (Y:Nat→Nat):jn (fun _=>m) (fun _=>Y) 1=Y:=by
 funext i
 simp [jn,cat,tot]
open Go.RowKit Go.Sort Go.Maps Go.MuLone
instance (κ:List Nat→List Nat) (L:List (List Nat)):Decidable (Lone κ L):=inferInstanceAs (Decidable (List.Pairwise _ L))
open Go.RowKit Go.Sort Go.Maps Go.MuLone
theorem qeo {w w8:World} {B sb:Nat} {st:Bst} {bh bc bf:Nat} {Fh Fc Ff F:Nat→Prop} (h:qbz w8 B sb st 1 bh bc bf Fh Fc Ff) (t:Turn F w w8) (hs:F sb) (h1:∀i,F i→i=sb∨Fh i∨Fc i∨Ff i) (h2:∀i,(Fh i∨Fc i∨Ff i)→F i∨w.heap.size≤i) :
 quu w (w8.setCell ⟨sb,34,none⟩ (.int .i32 0)) B sb st F:=by
 refine ⟨⟨fun i=>i=sb∨Fh i∨Fc i∨Ff i,h1,fun i q=>?_,⟨bh,bc,bf,Fh,Fc,Ff,h.lock 0,fun i=>Iff.rfl⟩⟩,t.trans (Turn.setCell w8 ⟨sb,34,none⟩ _ (F:=F) hs) (fun i q=>Or.inl q)⟩
 rcases q with q | q
 ·exact Or.inl (q ▸ hs)
 ·exact h2 i q
open Go.RowKit
end Go.Proofs.YtemcneddbhgadaaGreatDoor.Dg
