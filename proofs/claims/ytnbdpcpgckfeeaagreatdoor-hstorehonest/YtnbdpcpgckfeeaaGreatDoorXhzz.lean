import Derived.Test.YtnbdpcpgckfeeaaGreatDoorW1zz
import Derived.Test.YtnbdpcpgckfeeaaGreatDoorChecked
import Derived.DeepKeys
import Derived.DeepKeys4
import Derived.RangeFuncSeq
import Derived.RangeFuncGives
import Derived.Sort.MapsRangeIn
import Derived.Sort.KeysCollected
import Derived.Maps.AppendAt
import Derived.Shelf.Abstract
import Derived.Shelf.AbstractIn
import Derived.WalkKit
import Derived.OwnWalkIn
import Derived.TacticsInMore
import Derived.RegionIn
import Derived.LoopNIn
import Derived.LoopIn
namespace Go.Sy
open Go Go.Ev
def Im(A B:Prop):Prop:=A→B
theorem Im.l{A B C:Prop}(f:B→C)(k:Im A B):Im A C:=fun a=>f (k a)
theorem Im.r{A:Prop}:Im A A:=id
theorem eqV_int{k:IntKind}{n:Int}:eqV 5 (.int k n) (.int k n)=true:=by
 show (k==k&&n==n)=true
 rw [show (n==n)=true from beq_self_eq_true n,Bool.and_true]
 cases k<;>rfl
theorem eqV_bool{b:Bool}:eqV 5 (.bool b) (.bool b)=true:=by cases b<;>rfl
theorem eqV_slice{q:Option Addr}{n c:Nat}:eqV 5 (.slice q n c) (.slice q n c)=true:=by
 show (q==q&&Nat.beq n n&&Nat.beq c c)=true
 rw [Nat.beq_refl,Nat.beq_refl,beq_self_eq_true];rfl
theorem eqV_ptr{q:Option Addr}:eqV 5 (.pointer q) (.pointer q)=true:=by
 show (q==q)=true
 exact beq_self_eq_true q
theorem go{G G':Prop}(h':G')(h:Im G' G:=by
  (repeat (first
   |apply Im.l (Wo.val (by exact rfl) (Xv.move (by exact rfl)) (by exact rfl))
   |apply Im.l (Wo.val (by exact rfl) (Xv.assign (by exact rfl)) (by exact rfl))
   |apply Im.l (Wo.val (by exact rfl) (Xv.lenS (by exact rfl) (by exact rfl)) (by exact rfl))
   |apply Im.l (Wo.val (by exact rfl) (Xv.lt (by exact rfl) (by exact rfl)) (by exact rfl))
   |apply Im.l (Wo.val (by exact rfl) (Xv.le (by exact rfl) (by exact rfl)) (by exact rfl))
   |apply Im.l (Wo.val (by exact rfl) (Xv.gt (by exact rfl) (by exact rfl)) (by exact rfl))
   |apply Im.l (Wo.val (by exact rfl) (Xv.ge (by exact rfl) (by exact rfl)) (by exact rfl))
   |apply Im.l (Wo.val (by exact rfl) (Xv.eq (by exact rfl) (by exact rfl)) (by exact rfl))
   |apply Im.l (Wo.val (by exact rfl) (Xv.ne (by exact rfl) (by exact rfl)) (by exact rfl))
   |apply Im.l (Wo.val (by exact rfl) (Xv.addI (by exact rfl) (by exact rfl) (by omega)) (by exact rfl))
   |apply Im.l (Wo.val (by exact rfl) (Xv.subI (by exact rfl) (by exact rfl) (by omega) (by omega)) (by exact rfl))
   |apply Im.l (Wo.val (by exact rfl) (Xv.minI (by exact rfl) (by exact rfl)) (by exact rfl))
   |apply Im.l (Wo.val (by exact rfl) (Xv.not (by exact rfl)) (by exact rfl))
   |apply Im.l (Wo.val (by exact rfl) (Xv.pick (by exact rfl) (by exact rfl) (by exact rfl)) (by exact rfl))
   |apply Im.l (Wd.val (by exact rfl) (Xv.move (by exact rfl)) (by exact rfl) (Nat.le_refl _))
   |apply Im.l (Wd.val (by exact rfl) (Xv.assign (by exact rfl)) (by exact rfl) (Nat.le_refl _))
   |apply Im.l (Wd.val (by exact rfl) (Xv.lenS (by exact rfl) (by exact rfl)) (by exact rfl) (Nat.le_refl _))
   |apply Im.l (Wd.val (by exact rfl) (Xv.lt (by exact rfl) (by exact rfl)) (by exact rfl) (Nat.le_refl _))
   |apply Im.l (Wd.val (by exact rfl) (Xv.eq (by exact rfl) (by exact rfl)) (by exact rfl) (Nat.le_refl _))
   |apply Im.l (Wd.val (by exact rfl) (Xv.ne (by exact rfl) (by exact rfl)) (by exact rfl) (Nat.le_refl _))
   |apply Im.l (Wo.val (by exact rfl) (Xv.iaB (by exact rfl) (by exact rfl) (by exact rfl) (by exact rfl) (by assumption) (by omega) (by omega)) (by exact rfl))
   |apply Im.l (Wo.val (by exact rfl) (Xv.ld (by exact rfl) (by exact rfl) (by exact rfl) (by exact Bs.ld (by assumption) (by omega))) (by exact rfl))
   |apply Im.l (Wd.val (by exact rfl) (Xv.iaB (by exact rfl) (by exact rfl) (by exact rfl) (by exact rfl) (by assumption) (by omega) (by omega)) (by exact rfl) (Nat.le_refl _))
   |apply Im.l (Wd.read (by exact rfl) (Xv.ld (by exact rfl) (by exact rfl) (by exact rfl) (by exact Bs.ld (by assumption) (by omega))) (by exact rfl) eqV_int (by exact⟨Xv.ld rfl rfl rfl (Bs.ld (by assumption) (by omega)),trivial⟩))
   |apply Im.l rnd.r
   |apply Im.l rnd.x
   |apply Im.l W.seq
   |apply Im.l W.reg
   |apply Im.l Wo.nil
   |apply Im.l Wd.nil
   |apply Im.l andThen.n
   |apply Im.l andThen.x
   |apply Im.l andThen.r
   |apply Im.l W.block
   |apply Im.l W.skip
   |apply Im.l W.exit
   |apply Im.l W.ret
   |apply Im.l blk.n
   |apply Im.l blk.r
   |apply Im.l blk.x
   |apply Im.l (blk.y (by exact rfl))))
  exact Im.r):G:=h h'
end Go.Sy
namespace Go.Sy
open Go Go.Ev
def colr(b:Nat)(o:Ob):Nat:=match o with
 | .row _ g=>grpOf g b
 |_=>b
structure Wf(s:St):Prop where
 lt:∀b o,s.hp.get b=some o→b<s.nx∧colr b o<s.nx
 mem:∀g ms m o,s.gr.get g=some ms→m∈ms→s.hp.get m=some o→o= .dead∨∃cs,o= .row cs g
 zero:∀b cs,s.hp.get b=some (.row cs 0)→s.gr.get b=none
 tag:∀b cs g,s.hp.get b=some (.row cs g)→g≠0→∃ms,s.gr.get g=some ms
 pos:∀b cs g,s.hp.get b=some (.row cs g)→0<b
 glt:∀g ms,s.gr.get g=some ms→0<g∧g<s.nx
 mlt:∀g ms m,s.gr.get g=some ms→m∈ms→m<s.nx
 one:0<s.nx
structure Kp(C:Nat→Prop)(s s':St):Prop where
 le:s.nx≤s'.nx
 wf:Wf s→Wf s'
 kp:Wf s→∀b o,s.hp.get b=some o→¬C (colr b o)→s'.hp.get b=some o
theorem Kp.refl{C:Nat→Prop}{s:St}:Kp C s s:=⟨Nat.le_refl _,id,fun _ _ _ h _=>h⟩
theorem Kp.trans{C:Nat→Prop}{s s1 s2:St}(h:Kp C s s1)(k:Kp C s1 s2):Kp C s s2:=
 ⟨Nat.le_trans h.le k.le,fun w=>k.wf (h.wf w),fun w b o hb hc=>k.kp (h.wf w) b o (h.kp w b o hb hc) hc⟩
theorem Kp.mono{C D:Nat→Prop}{s s':St}(h:Kp C s s')(k:∀c,C c→D c):Kp D s s':=⟨h.le,h.wf,fun w b o hb hd=>h.kp w b o hb fun hc=>hd (k _ hc)⟩
theorem Kp.w{D:Nat→Prop}{s s':St}(h:Kp (fun _=>False) s s'):Kp D s s':=h.mono fun _ h=>absurd h id
abbrev Kn(s s':St):Prop:=Kp (fun _=>False) s s'
theorem Kp.new{N:Nat}{s s1 s2:St}(h:Kn s s1)(k:Kp (fun c=>N≤c) s1 s2)(hN:s.nx≤N):Kn s s2:=
 ⟨Nat.le_trans h.le k.le,fun w=>k.wf (h.wf w),fun w b o hb _=>k.kp (h.wf w) b o (h.kp w b o hb id) fun hc=>by have:=(w.lt b o hb).2;omega⟩
theorem grpOf_pos{g b:Nat}(h:g≠0):grpOf g b=g:=by
 unfold grpOf
 cases e:Nat.beq g 0 with
 |true=>exact absurd (Nat.eq_of_beq_eq_true e) h
 |false=>rfl
theorem setO_ok(hp:Tr Ob)(nx:Nat)(gr:Tr (List Nat))(b:Nat)(o:Ob):setO hp nx gr b o=some (.mk (hp.set o b) nx gr):=by
 unfold setO
 have hn:∀t:Tr Ob,t.get b≠none→Tr.casesOn (motive:=fun _=>Option St) t none (fun v a b c d=>some (.mk (.node v a b c d) nx gr))=some (.mk t nx gr):=fun t ht=>by
  cases t with
  |nil=>exact absurd Tr.get_nil ht
  |node=>rfl
 exact hn _ (by rw [Tr.get_set _ _ _ (Nat.lt_succ_self _),if_pos rfl];exact Option.some_ne_none _)
theorem newO_ok{β:Type}(s:St)(o:Ob)(k:Nat→St→Option β):newO s o k=k s.nx (.mk (s.hp.set o s.nx) (s.nx+1) s.gr):=by
 obtain⟨hp,nx,gr⟩:=s
 show cond (Nat.blt nx (Nat.succ nx)) (Tr.casesOn (motive:=fun _=>Option β) (hp.set o nx) none fun v a b c d=>fN (Nat.succ nx) fun n=>k nx (.mk (.node v a b c d) n gr)) none=_
 rw [show Nat.blt nx (Nat.succ nx)=true from Nat.ble_eq_true_of_le (Nat.le_refl _)]
 have hn:∀t:Tr Ob,t.get nx≠none→Tr.casesOn (motive:=fun _=>Option β) t none (fun v a b c d=>fN (Nat.succ nx) fun n=>k nx (.mk (.node v a b c d) n gr))=k nx (.mk t (nx+1) gr):=fun t ht=>by
  cases t with
  |nil=>exact absurd Tr.get_nil ht
  |node=>exact fN_eq _ _
 exact hn _ (by rw [Tr.get_set _ _ _ (Nat.lt_succ_self _),if_pos rfl];exact Option.some_ne_none _)
theorem get_set'(o:Ob)(hp:Tr Ob)(b m:Nat):(hp.set o b).get m=if m=b then some o else hp.get m:=Tr.get_set _ _ _ (Nat.lt_succ_self _) _
theorem Kn.new{s:St}{o:Ob}(h:∀cs g,o= .row cs g→g=0):Kn s (.mk (s.hp.set o s.nx) (s.nx+1) s.gr):=by
 have hg:∀m,(St.mk (s.hp.set o s.nx) (s.nx+1) s.gr).hp.get m=if m=s.nx then some o else s.hp.get m:=fun m=>get_set' o s.hp s.nx m
 have hc:colr s.nx o=s.nx:=by
  unfold colr
  split
  ·rename_i cs g;rw [h cs g rfl];rfl
  ·rfl
 refine⟨Nat.le_succ _,fun w=>⟨fun b o' hb=>?_,fun g ms m o' hgr hm hb=>?_,fun b cs hb=>?_,fun b cs g hb hg0=>?_,fun b cs g hb=>?_,fun g ms hgr=>⟨(w.glt g ms hgr).1,Nat.lt_succ_of_lt (w.glt g ms hgr).2⟩,fun g ms m hgr hm=>Nat.lt_succ_of_lt (w.mlt g ms m hgr hm),Nat.succ_pos _⟩,fun w b o' hb _=>?_⟩
 ·rw [hg]at hb
  show b<s.nx+1∧_<s.nx+1
  split at hb
  ·rename_i e;cases hb;subst e;rw [hc];exact⟨Nat.lt_succ_self _,Nat.lt_succ_self _⟩
  ·have:=w.lt b o' hb;omega
 ·rw [hg]at hb
  split at hb
  ·rename_i e;cases hb;subst e
   exact absurd (w.mlt g ms _ hgr hm) (Nat.lt_irrefl _)
  ·exact w.mem g ms m o' hgr hm hb
 ·rw [hg]at hb
  split at hb
  ·rename_i e;subst e
   cases hq:s.gr.get s.nx with
   |none=>exact hq
   |some ms=>exact absurd (w.glt _ ms hq).2 (Nat.lt_irrefl _)
  ·exact w.zero b cs hb
 ·rw [hg]at hb
  split at hb
  ·cases hb;exact absurd (h cs g rfl) hg0
  ·exact w.tag b cs g hb hg0
 ·rw [hg]at hb
  split at hb
  ·rename_i e;subst e;exact w.one
  ·exact w.pos b cs g hb
 ·rw [hg,if_neg fun e=>by have:=(w.lt b o' hb).1;omega];exact hb
structure Tch(S:Nat→Prop)(s s':St):Prop where
 nx:s'.nx=s.nx
 gr:s'.gr=s.gr
 kp:∀m,¬S m→s'.hp.get m=s.hp.get m
 tg:∀m,s'.hp.get m=s.hp.get m∨(∃cs g,s.hp.get m=some (.row cs g)∧(s'.hp.get m=some .dead∨∃cs',s'.hp.get m=some (.row cs' g)))
theorem Tch.refl{S:Nat→Prop}{s:St}:Tch S s s:=⟨rfl,rfl,fun _ _=>rfl,fun _=>.inl rfl⟩
theorem Tch.mono{S S':Nat→Prop}{s s':St}(h:Tch S s s')(k:∀m,S m→S' m):Tch S' s s':=⟨h.nx,h.gr,fun m hm=>h.kp m fun a=>hm (k m a),h.tg⟩
theorem Tch.trans{S:Nat→Prop}{s s1 s2:St}(h:Tch S s s1)(k:Tch S s1 s2):Tch S s s2:=by
 refine⟨k.nx.trans h.nx,k.gr.trans h.gr,fun m hm=>(k.kp m hm).trans (h.kp m hm),fun m=>?_⟩
 rcases h.tg m with a|⟨cs,g,a,b⟩
 ·rw [←a];exact k.tg m
 ·refine .inr ⟨cs,g,a,?_⟩
  rcases k.tg m with c|⟨cs1,g1,c,d⟩
  ·rw [c];exact b
  ·rcases b with b|⟨cs',b⟩
   ·rw [b]at c;cases c
   ·rw [b]at c;cases c;exact d
theorem tch_set{s:St}{m:Nat}{cs:List Value}{g:Nat}{o:Ob}(h:s.hp.get m=some (.row cs g))(ho:o= .dead∨∃cs',o= .row cs' g):Tch (fun k=>k=m) s (.mk (s.hp.set o m) s.nx s.gr):=by
 refine⟨rfl,rfl,fun k hk=>?_,fun k=>?_⟩
 ·show (s.hp.set o m).get k=_;rw [get_set',if_neg hk]
 ·by_cases e:k=m
  ·subst e
   refine .inr ⟨cs,g,h,?_⟩
   show (s.hp.set o k).get k=_∨∃cs',(s.hp.set o k).get k=_
   rw [get_set',if_pos rfl]
   rcases ho with rfl|⟨cs',rfl⟩
   ·exact .inl rfl
   ·exact .inr ⟨cs',rfl⟩
  ·exact .inl (by show (s.hp.set o m).get k=_;rw [get_set',if_neg e])
theorem spoilL_tch(b n:Nat):∀(ms:List Nat) (s:St),∃s',spoilL b n ms s=some s'∧Tch (fun m=>m∈ms∧m≠b) s s'
 |[],s=>⟨s,rfl,.refl⟩
 |m::ms,s=>by
  obtain⟨hp,nx,gr⟩:=s
  have step:∀s1,Tch (fun k=>k∈m::ms∧k≠b) (.mk hp nx gr) s1→∃s',spoilL b n ms s1=some s'∧Tch (fun k=>k∈m::ms∧k≠b) (.mk hp nx gr) s':=fun s1 h1=>by
   obtain⟨s',h2,h3⟩:=spoilL_tch b n ms s1
   exact⟨s',h2,h1.trans (h3.mono fun k ⟨a,c⟩=>⟨List.mem_cons_of_mem _ a,c⟩)⟩
  show ∃s',cond (Nat.beq m b) (spoilL b n ms (.mk hp nx gr)) (match hp.get m with
   |some (.row cs g)=>match setO hp nx gr m (.row (cutTo n cs) g)with
    |some s=>spoilL b n ms s
    |none=>none
   |_=>spoilL b n ms (.mk hp nx gr))=some s'∧_
  cases hb:Nat.beq m b with
  |true=>exact step _ .refl
  |false=>
   show ∃s',(match hp.get m with
    |some (.row cs g)=>match setO hp nx gr m (.row (cutTo n cs) g)with
     |some s=>spoilL b n ms s
     |none=>none
    |_=>spoilL b n ms (.mk hp nx gr))=some s'∧_
   split
   ·rename_i cs g hm
    rw [setO_ok]
    exact step _ ((tch_set (s:=.mk hp nx gr) hm (.inr ⟨_,rfl⟩)).mono fun k e=>⟨e▸List.mem_cons_self,e▸Nat.ne_of_beq_eq_false hb⟩)
   ·exact step _ .refl
theorem kill_tch:∀(ks:List Nat) (s:St),(∀k∈ks,∀o,s.hp.get k=some o→o= .dead∨∃cs g,o= .row cs g)→∃s',kill ks s=some s'∧Tch (fun m=>m∈ks) s s'
 |[],s,_=>⟨s,rfl,.refl⟩
 |k::ks,s,hk=>by
  obtain⟨hp,nx,gr⟩:=s
  have step:∀s1,Tch (fun m=>m∈k::ks) (.mk hp nx gr) s1→∃s',kill ks s1=some s'∧Tch (fun m=>m∈k::ks) (.mk hp nx gr) s':=fun s1 h1=>by
   obtain⟨s',h2,h3⟩:=kill_tch ks s1 fun m hm o ho=>by
    rcases h1.tg m with a|⟨cs,g,a,b⟩
    ·exact hk m (List.mem_cons_of_mem _ hm) o (a▸ho)
    ·rcases b with b|⟨cs',b⟩
     ·rw [b]at ho;cases ho;exact .inl rfl
     ·rw [b]at ho;cases ho;exact .inr ⟨_,_,rfl⟩
   exact⟨s',h2,h1.trans (h3.mono fun m a=>List.mem_cons_of_mem _ a)⟩
  show ∃s',(match hp.get k with
   |none=>kill ks (.mk hp nx gr)
   |some _=>match setO hp nx gr k .dead with
    |some s=>kill ks s
    |none=>none)=some s'∧_
  split
  ·exact step _ .refl
  ·rename_i o ho
   rw [setO_ok]
   refine step _ ?_
   rcases hk k List.mem_cons_self o ho with rfl|⟨cs,g,rfl⟩
   ·refine⟨rfl,rfl,fun m hm=>?_,fun m=>.inl ?_⟩
    ·show (hp.set .dead k).get m=_;rw [get_set'];split
     ·rename_i e;subst e;exact ho.symm
     ·rfl
    ·show (hp.set .dead k).get m=_;rw [get_set'];split
     ·rename_i e;subst e;exact ho.symm
     ·rfl
   ·exact(tch_set (s:=.mk hp nx gr) ho (.inl rfl)).mono fun m e=>e▸List.mem_cons_self
theorem Tch.wf{S:Nat→Prop}{s s':St}(h:Tch S s s')(w:Wf s):Wf s':=by
 have hb:∀b o,s'.hp.get b=some o→s.hp.get b=some o∨(∃cs g,s.hp.get b=some (.row cs g)∧(o= .dead∨∃cs',o= .row cs' g)):=fun b o ho=>by
  rcases h.tg b with a|⟨cs,g,a,c⟩
  ·exact .inl (a▸ho)
  ·refine .inr ⟨cs,g,a,?_⟩
   rcases c with c|⟨cs',c⟩
   ·rw [c]at ho;cases ho;exact .inl rfl
   ·rw [c]at ho;cases ho;exact .inr ⟨cs',rfl⟩
 refine⟨fun b o ho=>?_,fun g ms m o hg hm ho=>?_,fun b cs ho=>?_,fun b cs g ho hg=>?_,fun b cs g ho=>?_,fun g ms hg=>?_,fun g ms m hg hm=>?_,by rw [h.nx];exact w.one⟩
 ·rw [h.nx]
  rcases hb b o ho with a|⟨cs,g,a,rfl|⟨cs',rfl⟩⟩
  ·exact w.lt b o a
  ·exact⟨(w.lt b _ a).1,(w.lt b _ a).1⟩
  ·exact⟨(w.lt b _ a).1,(w.lt b _ a).2⟩
 ·rw [h.gr]at hg
  rcases hb m o ho with a|⟨cs,g',a,rfl|⟨cs',rfl⟩⟩
  ·exact w.mem g ms m o hg hm a
  ·exact .inl rfl
  ·rcases w.mem g ms m _ hg hm a with e|⟨cs2,e⟩
   ·cases e
   ·cases e;exact .inr ⟨cs',rfl⟩
 ·rw [h.gr]
  rcases hb b _ ho with a|⟨cs1,g',a,e|⟨cs',e⟩⟩
  ·exact w.zero b cs a
  ·cases e
  ·cases e;exact w.zero b cs1 a
 ·rw [h.gr]
  rcases hb b _ ho with a|⟨cs1,g',a,e|⟨cs',e⟩⟩
  ·exact w.tag b cs g a hg
  ·cases e
  ·cases e;exact w.tag b cs1 _ a hg
 ·rcases hb b _ ho with a|⟨cs1,g',a,e|⟨cs',e⟩⟩
  ·exact w.pos b cs g a
  ·cases e
  ·exact w.pos b _ _ a
 ·rw [h.gr]at hg;rw [h.nx];exact w.glt g ms hg
 ·rw [h.gr]at hg;rw [h.nx];exact w.mlt g ms m hg hm
theorem Tch.kpc{S:Nat→Prop}{γ:Nat}{s s':St}(h:Tch S s s')(k:Wf s→∀m cs g,s.hp.get m=some (.row cs g)→S m→grpOf g m=γ):Kp (fun c=>c=γ) s s':=
 ⟨Nat.le_of_eq h.nx.symm,h.wf,fun w b o ho hc=>by
  by_cases hs:S b
  ·rcases h.tg b with a|⟨cs,g,a,_⟩
   ·rw [a];exact ho
   ·rw [a]at ho;cases ho;exact absurd (k w b cs g a hs) hc
  ·rw [h.kp b hs];exact ho⟩
end Go.Sy
namespace Go.Proofs.YtnbdpcpgckfeeaaGreatDoor
open Go Go.RowKit Go.Maps Go.Sort Go.Shelf
set_option maxRecDepth 100000
def hb (n : Nat) : Value := .int .u8 (.ofNat n)
structure Hs where
 k : List Nat
 len : k.length = 32
 lt : ∀ x ∈ k, x < 256
def hv (h : Hs) : Value := .agg ⟨h.k.map hb⟩
theorem hv_inj {a b : Hs} (h : hv a = hv b) : a = b := by
 have e : a.k.map hb = b.k.map hb := by
  have : (Value.agg ⟨a.k.map hb⟩) = .agg ⟨b.k.map hb⟩ := h
  injection this with this
  injection this
 have e := ((List.map_inj_right (fun x y e => by injection e with _ e; injection e)).1 e)
 cases a; cases b; cases e; rfl
def hkb (h : Hs) : List UInt8 := keyBytes (h.k.map fun x => Lit.int .u8 (.ofNat x))
theorem mapM_some {α β : Type} (f : α → Option β) (g : α → β) : ∀ l : List α, (∀ x ∈ l, f x = some (g x)) → l.mapM f = some (l.map g)
 | [], _ => rfl
 | x :: l, h => by
  rw [List.mapM_cons, h x (by simp), mapM_some f g l (fun y hy => h y (by simp [hy]))]
  rfl
theorem flat_one {α β : Type} (f : α → β) : ∀ l : List α, (l.map (fun i => [f i])).flatten = l.map f
 | [] => rfl
 | x :: l => by simp [flat_one f l]
theorem c26 : Tryz.prog.cellsOf 26 = 32 := by kernel_rfl
theorem c5 : Tryz.prog.cellsOf 5 = 1 := by kernel_rfl
theorem wf8 {x : Nat} (h : x < 256) : (Lit.int .u8 (.ofNat x)).wf = true := by
 simp [Lit.wf, IntKind.min, IntKind.max, IntKind.bits, IntKind.signed]
 omega
theorem lits_hash (d : Nat) (h : Hs) : Tryz.prog.keyLits (d + 2) 26 (h.k.map hb) = some (h.k.map fun x => Lit.int .u8 (.ofNat x)) := by
 obtain ⟨k, hl, hx⟩ := h
 show Tryz.prog.keyLits (d + 2) 26 (k.map hb) = some (k.map fun x => Lit.int .u8 (.ofNat x))
 unfold Program.keyLits
 rw [Tryz.underlying26]
 simp only [List.length_map, hl, c26, if_true]
 rw [mapM_some _ (fun i => [Lit.int .u8 (.ofNat (k.getD i 0))]) (List.range 32) ?_]
 ·simp only [Option.map_some, Option.some.injEq]
  rw [flat_one]
  refine List.ext_getElem? fun i => ?_
  by_cases hi : i < 32
  ·rw [List.getElem?_map, List.getElem?_range hi, List.getElem?_map, List.getElem?_eq_getElem (by omega)]
   simp [List.getD_eq_getElem?_getD, List.getElem?_eq_getElem (show i < k.length by omega)]
  ·rw [List.getElem?_eq_none (by simp; omega), List.getElem?_eq_none (by simp; omega)]
 ·intro i hi
  have hi' : i < 32 := by simpa using hi
  have e : ((k.map hb).drop (i * Tryz.prog.cellsOf 5)).take (Tryz.prog.cellsOf 5) = [.int .u8 (.ofNat (k.getD i 0))] := by
   rw [c5, Nat.mul_one]
   have hl' : i < (k.map hb).length := by rw [List.length_map, hl]; exact hi'
   rw [List.drop_eq_getElem_cons hl', List.take_succ_cons, List.take_zero, List.getElem_map]
   simp [hb, List.getD_eq_getElem?_getD, List.getElem?_eq_getElem (show i < k.length by omega)]
  rw [e]
  unfold Program.keyLits
  rw [Tryz.underlying5]
  have : k.getD i 0 < 256 := by
   rw [List.getD_eq_getElem?_getD, List.getElem?_eq_getElem (by omega)]
   exact hx _ (List.getElem_mem _)
  simp only [wf8 this, and_self, if_true]
theorem keyType26 : Tryz.prog.keyType 26 = true := by kernel_rfl
theorem types_two : ∃ d, Tryz.prog.types.size + 1 = d + 2 := ⟨Tryz.prog.types.size - 1, by
 have : 1 ≤ Tryz.prog.types.size := by
  have h : (decide (1 ≤ Tryz.prog.types.size)) = true := by kernel_rfl
  exact of_decide_eq_true h
 omega⟩
theorem keyOf_hash (h : Hs) : keyOf Tryz.prog 26 (hv h) = some (.string (hkb h)) := by
 obtain ⟨d, hd⟩ := types_two
 have hf : (hv h).formed Tryz.prog 26 = true := by
  unfold hv Value.formed
  rw [Tryz.underlying26, c26]
  show ((⟨h.k.map hb⟩ : Array Value).size == 32) = true
  have : (⟨h.k.map hb⟩ : Array Value).size = 32 := by simp [h.len]
  rw [this]; rfl
 unfold keyOf
 rw [Tryz.underlying26]
 simp only [keyType26, hf, Bool.and_self, if_true, hd]
 have : (hv h).cells.toList = h.k.map hb := by simp [Value.cells, hv]
 rw [this, lits_hash d h]
 rfl
theorem keyed : Keyed Tryz.prog 26 :=
 Keyed.of_law (deep_law_laid (by kernel_rfl) (m := 2) (by decide) (by
  have h : (decide (26 < Tryz.prog.types.size)) = true := by kernel_rfl
  exact of_decide_eq_true h) (by kernel_rfl) (by rw [Tryz.underlying26]))
theorem kb_inj {a b : Hs} (e : hkb a = hkb b) : a = b := by
 have h := keyOf_hash b
 rw [← e] at h
 exact hv_inj (keyed.inj (keyOf_hash a) h)
theorem mapM_get {α β : Type} {f : α → Option β} : ∀ {l : List α} {r : List β}, l.mapM f = some r → ∀ x ∈ l, ∃ y, f x = some y
 | [], _, _, x, hx => (List.not_mem_nil hx).elim
 | a :: l, r, h, x, hx => by
  rw [List.mapM_cons] at h
  cases h1 : f a with
  | none => rw [h1] at h; cases h
  | some y =>
   cases h2 : l.mapM f with
   | none => rw [h1, h2] at h; cases h
   | some ys =>
    rcases List.mem_cons.1 hx with rfl | hx
    ·exact ⟨y, h1⟩
    ·exact mapM_get h2 x hx
theorem keyOf_inv {key : Value} {kl : Lit} (h : keyOf Tryz.prog 26 key = some kl) : ∃ x : Hs, key = hv x := by
 unfold keyOf at h
 rw [Tryz.underlying26] at h
 simp only [keyType26, Bool.true_and] at h
 split at h
 case isFalse => cases h
 rename_i hf
 unfold Value.formed at hf
 rw [Tryz.underlying26, c26] at hf
 obtain ⟨cs, rfl, hcs⟩ : ∃ cs : Array Value, key = .agg cs ∧ cs.size = 32 := by
  cases key <;> first | cases hf | exact ⟨_, rfl, by simpa using hf⟩
 obtain ⟨cs⟩ := cs
 have hl : cs.length = 32 := by simpa using hcs
 cases hk : Tryz.prog.keyLits (Tryz.prog.types.size + 1) 26 (Value.agg ⟨cs⟩).cells.toList with
 | none => rw [hk] at h; cases h
 | some ls =>
  have hc : (Value.agg ⟨cs⟩).cells.toList = cs := by simp [Value.cells]
  rw [hc] at hk
  obtain ⟨d, hd⟩ := types_two
  rw [hd] at hk
  unfold Program.keyLits at hk
  rw [Tryz.underlying26] at hk
  simp only [hl, c26, if_true] at hk
  cases hm : (List.range 32).mapM fun i => Tryz.prog.keyLits (d + 1) 5 ((cs.drop (i * Tryz.prog.cellsOf 5)).take (Tryz.prog.cellsOf 5)) with
  | none => rw [hm] at hk; cases hk
  | some r =>
   have one : ∀ i, ∃ n : Nat, n < 256 ∧ (i < 32 → cs[i]? = some (hb n)) := fun i => by
    by_cases hi : i < 32
    ·obtain ⟨y, hy⟩ := mapM_get hm i (List.mem_range.2 hi)
     rw [c5, Nat.mul_one, List.drop_eq_getElem_cons (by omega), List.take_succ_cons, List.take_zero] at hy
     unfold Program.keyLits at hy
     rw [Tryz.underlying5] at hy
     have hci : cs[i]? = some cs[i] := List.getElem?_eq_getElem (by omega)
     generalize cs[i] = c at hy hci
     cases c <;> try (cases hy; done)
     rename_i q n
     simp only at hy
     split at hy
     case isFalse => cases hy
     rename_i hq
     obtain ⟨rfl, hw⟩ := hq
     simp [Lit.wf, IntKind.min, IntKind.max, IntKind.bits, IntKind.signed] at hw
     refine ⟨n.toNat, by omega, fun _ => ?_⟩
     rw [hci]
     have : n = Int.ofNat n.toNat := by show n = (n.toNat : Int); omega
     unfold hb
     rw [← this]
    ·exact ⟨0, by decide, fun h => absurd h hi⟩
   refine ⟨⟨(List.range 32).map fun i => (one i).choose, by simp, fun x hx => by obtain ⟨i, _, rfl⟩ := List.mem_map.1 hx; exact (one i).choose_spec.1⟩, ?_⟩
   unfold hv
   congr 2
   refine List.ext_getElem? fun i => ?_
   by_cases hi : i < 32
   ·rw [(one i).choose_spec.2 hi, List.getElem?_map, List.getElem?_map, List.getElem?_range hi]; rfl
   ·rw [List.getElem?_eq_none (by omega), List.getElem?_eq_none (by simp; omega)]
end Go.Proofs.YtnbdpcpgckfeeaaGreatDoor
