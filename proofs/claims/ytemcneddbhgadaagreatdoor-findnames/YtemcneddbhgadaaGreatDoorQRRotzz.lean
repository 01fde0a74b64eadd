import Derived.Test.YtemcneddbhgadaaGreatDoorChecked
import Derived.WalkKit
import Derived.Deep.OwnRows
import Derived.Deep.LoopGhost
import Derived.Deep.QuietTactic
import Derived.BigQuiet
import Derived.Deep.Light
import Derived.Laws.BytesArg
import Derived.WalkSmall
import Derived.Laws.BitsAllLaws
namespace Go.Proofs.YtemcneddbhgadaaGreatDoor.Dg
open Go.RowKit
theorem Tryz.info5:(Tryz.prog.info? 5).map (fun i=>(i.zero,i.size,i.bytes))=some (some (.int .u8 0),1,1):=by kernel_rfl
structure View (w:World) (a:Option Addr) (b off n:Nat) (Z:Nat→Int):Prop where
 at_:0<n→a=some ⟨b,off,none⟩
 cell:∀i,i<n→w.cell? ⟨b,off+i,none⟩=some (.int .u8 (Z i))
 bd:∀i,i<n→0≤Z i∧Z i≤255
 len:n≤281474976710656
theorem View.lt {w:World} {a:Option Addr} {b off n:Nat} {Z:Nat→Int} (h:View w a b off n Z) (hn:0<n):b<w.heap.size :=
 World.block_lt_of_cell? _ _ (h.cell 0 hn)
theorem View.of_cells {w w':World} {a:Option Addr} {b off n:Nat} {Z:Nat→Int} (h:View w a b off n Z) (hc:∀p:Addr,p.block<w.heap.size→w'.cell? p=w.cell? p):View w' a b off n Z :=
 ⟨h.at_,fun i hi=>(hc _ (h.lt (by omega))).trans (h.cell i hi),h.bd,h.len⟩
theorem View.below {w w':World} {a:Option Addr} {b off n:Nat} {Z:Nat→Int} (h:View w a b off n Z) (hb:Below w.heap.size w w'):View w' a b off n Z :=
 h.of_cells fun _ hp=>hb.cell hp
theorem View.congr {w:World} {a:Option Addr} {b off n:Nat} {Z Y:Nat→Int} (h:View w a b off n Z) (e:∀i,i<n→Z i=Y i):View w a b off n Y :=
 ⟨h.at_,fun i hi=>by rw [←e i hi];exact h.cell i hi,fun i hi=>by rw [←e i hi];exact h.bd i hi,h.len⟩
def cmpL:List Nat→List Nat→Int
 | [],[]=>0
 | [],_::_=>-1
 | _::_,[]=>1
 | a::x,b::y=>if a<b then -1 else if b<a then 1 else cmpL x y
theorem qfk:∀x:List Nat,cmpL x x=0
 | []=>rfl
 | a::x=>by simp [cmpL,qfk x]
theorem cmpL_eq:∀{x y:List Nat},cmpL x y=0→x=y
 | [],[],_=>rfl
 | [],_::_,h=>by simp [cmpL] at h
 | _::_,[],h=>by simp [cmpL] at h
 | a::x,b::y,h=>by
  simp only [cmpL] at h
  split at h
  ·cases h
  ·split at h
   ·cases h
   ·have:a=b:=by omega
    rw [this,cmpL_eq h]
theorem qg5 {x y:List Nat}:cmpL x y=0↔x=y:=⟨cmpL_eq,fun e=>by rw [e];exact qfk _⟩
theorem qiy:∀x y:List Nat,cmpL y x=- cmpL x y
 | [],[]=>rfl
 | [],_::_=>rfl
 | _::_,[]=>rfl
 | a::x,b::y=>by
  simp only [cmpL]
  by_cases h1:a<b
  ·rw [if_pos h1,if_neg (by omega),if_pos h1];rfl
  ·by_cases h2:b<a
   ·rw [if_pos h2,if_neg h1,if_pos h2]
   ·rw [if_neg h2,if_neg h1,if_neg h1,if_neg h2];exact qiy x y
theorem qf6:∀x y:List Nat,cmpL x y=-1∨cmpL x y=0∨cmpL x y=1
 | [],[]=>by simp [cmpL]
 | [],_::_=>by simp [cmpL]
 | _::_,[]=>by simp [cmpL]
 | a::x,b::y=>by
  simp only [cmpL]
  split
  ·exact Or.inl rfl
  ·split
   ·exact Or.inr (Or.inr rfl)
   ·exact qf6 x y
def lt (x y:List Nat):Prop:=cmpL x y<0
instance (x y:List Nat):Decidable (lt x y):=inferInstanceAs (Decidable (cmpL x y<0))
theorem lt_irrefl (x:List Nat):¬lt x x:=by unfold lt;rw [qfk];decide
theorem qdj:∀{x y z:List Nat},lt x y→lt y z→lt x z
 | [],y,[],h,k=>by
  cases y <;> simp [lt,cmpL] at h k
 | [],_,_::_,_,_=>by simp [lt,cmpL]
 | _::_,[],_,h,_=>by simp [lt,cmpL] at h
 | _::_,_::_,[],_,k=>by simp [lt,cmpL] at k
 | a::x,b::y,c::z,h,k=>by
  unfold lt at h k ⊢
  simp only [cmpL] at h k ⊢
  split at h <;> split at k
  ·rw [if_pos (by omega)];decide
  ·split at k
   ·exact absurd k (by decide)
   ·rw [if_pos (by omega)];decide
  ·split at h
   ·exact absurd h (by decide)
   ·rw [if_pos (by omega)];decide
  ·split at h
   ·exact absurd h (by decide)
   ·split at k
    ·exact absurd k (by decide)
    ·rw [if_neg (by omega),if_neg (by omega)]
     exact qdj (x:=x) (y:=y) (z:=z) h k
theorem qsj {x y:List Nat} (h:lt x y):¬lt y x:=fun k=>lt_irrefl x (qdj h k)
theorem qpj (x y:List Nat):lt x y∨x=y∨lt y x:=by
 rcases qf6 x y with h | h | h
 ·exact Or.inl (by unfold lt;omega)
 ·exact Or.inr (Or.inl (cmpL_eq h))
 ·refine Or.inr (Or.inr ?_)
  unfold lt
  rw [qiy,h]
  decide
theorem qiz {x y:List Nat} (h:lt x y):cmpL x y=-1:=by
 rcases qf6 x y with e | e | e
 ·exact e
 ·exact absurd h (by unfold lt;omega)
 ·exact absurd h (by unfold lt;omega)
theorem qi0 {x y:List Nat} (h:lt y x):cmpL x y=1:=by rw [qiy,qiz h];rfl
abbrev Ris (L:List (List Nat)):Prop:=L.Pairwise lt
def ins (s:List Nat):List (List Nat)→List (List Nat)
 | []=>[s]
 | x::r=>if cmpL s x<0 then s::x::r else if cmpL s x=0 then x::r else x::ins s r
theorem ins_cons (s x:List Nat) (r:List (List Nat)):ins s (x::r)=if cmpL s x<0 then s::x::r else if cmpL s x=0 then x::r else x::ins s r:=rfl
theorem qd2 {s x:List Nat}:∀{L:List (List Nat)},x∈ins s L↔x=s∨x∈L
 | []=>by simp [ins]
 | y::r=>by
  unfold ins
  split
  ·simp
  ·split
   ·rename_i _ h
    have:=cmpL_eq h
    subst this
    simp
   ·simp only [List.mem_cons,qd2 (L:=r)]
    constructor
    ·rintro (h | h | h) <;> simp [h]
    ·rintro (h | h | h) <;> simp [h]
theorem qpk {s:List Nat}:∀{L:List (List Nat)},Ris L→Ris (ins s L)
 | [],_=>by simp [ins]
 | y::r,h=>by
  obtain ⟨h1,h2⟩:=List.pairwise_cons.1 h
  unfold ins
  split
  ·rename_i h3
   refine List.pairwise_cons.2 ⟨fun z hz=>?_,h⟩
   rcases List.mem_cons.1 hz with e | hz
   ·rw [e];exact h3
   ·exact qdj h3 (h1 z hz)
  ·split
   ·exact h
   ·rename_i h3 h4
    refine List.pairwise_cons.2 ⟨fun z hz=>?_,qpk h2⟩
    rcases qd2.1 hz with e | hz
    ·rw [e]
     rcases qpj s y with k | k | k
     ·exact absurd k h3
     ·exact absurd (qg5.2 k) h4
     ·exact k
    ·exact h1 z hz
theorem qkx {s:List Nat}:∀{L:List (List Nat)},Ris L→s∈L→ins s L=L
 | [],_,h=>by simp at h
 | y::r,hr,h=>by
  obtain ⟨h1,h2⟩:=List.pairwise_cons.1 hr
  unfold ins
  rcases List.mem_cons.1 h with e | h
  ·subst e
   rw [qfk]
   rfl
  ·have:=h1 s h
   have e:=qi0 this
   rw [e,if_neg (by decide),if_neg (by decide),qkx h2 h]
theorem qel {s:List Nat}:∀{L:List (List Nat)},s∉L→(ins s L).length=L.length+1
 | [],_=>rfl
 | y::r,h=>by
  unfold ins
  split
  ·simp
  ·split
   ·rename_i h3
    exact absurd (cmpL_eq h3) (fun e=>h (by simp [e]))
   ·have k:=qel (s:=s) (L:=r) (fun k=>h (List.mem_cons_of_mem _ k))
    simp [k]
def pos (s:List Nat) (L:List (List Nat)):Nat:=L.countP (fun x=>decide (lt x s))
theorem qup (s:List Nat) (L:List (List Nat)):pos s L≤L.length:=List.countP_le_length
theorem quq {s:List Nat}:∀{L:List (List Nat)},Ris L→s∉L→ins s L=L.take (pos s L)++s::L.drop (pos s L)
 | [],_,_=>rfl
 | y::r,hr,h=>by
  obtain ⟨h1,h2⟩:=List.pairwise_cons.1 hr
  unfold ins
  by_cases k:lt y s
  ·have e:=qi0 k
   rw [e,if_neg (by decide),if_neg (by decide)]
   have ep:pos s (y::r)=pos s r+1:=by simp [pos,k]
   rw [ep,List.take_succ_cons,List.drop_succ_cons,quq h2 (fun q=>h (by simp [q]))]
   rfl
  ·have k2:lt s y:=by
    rcases qpj s y with q | q | q
    ·exact q
    ·exact absurd (by simp [q]) h
    ·exact absurd q k
   have e:=qiz k2
   rw [e,if_pos (by decide)]
   have ep:pos s (y::r)=0:=by
    unfold pos
    rw [List.countP_eq_zero]
    intro z hz
    rcases List.mem_cons.1 hz with e | hz
    ·rw [e];simpa using k
    ·simpa using qsj (qdj k2 (h1 z hz))
   rw [ep]
   rfl
theorem qh0 {s:List Nat} (p:List Nat→Bool):∀{L:List (List Nat)},Ris L→(ins s L).filter p=if p s=true then ins s (L.filter p) else L.filter p
 | [],_=>by
  by_cases h:p s=true <;> simp [ins,h]
 | y::r,hr=>by
  obtain ⟨h1,h2⟩:=List.pairwise_cons.1 hr
  rw [ins_cons]
  by_cases k:lt s y
  ·have e:=qiz k
   rw [e,if_pos (by decide),List.filter_cons]
   by_cases ps:p s=true
   ·rw [if_pos ps,if_pos ps]
    cases hf:(y::r).filter p with
    | nil=>rfl
    | cons z t =>
     have hz:z∈(y::r).filter p:=by rw [hf];simp
     have hz2:=(List.mem_filter.1 hz).1
     have:lt s z:=by
      rcases List.mem_cons.1 hz2 with e | hz2
      ·rw [e];exact k
      ·exact qdj k (h1 z hz2)
     rw [ins_cons,qiz this,if_pos (by decide)]
   ·rw [if_neg ps,if_neg ps]
  ·by_cases e0:cmpL s y=0
   ·rw [e0,if_neg (by decide),if_pos rfl]
    have:=cmpL_eq e0
    subst this
    by_cases ps:p s=true
    ·rw [if_pos ps,qkx (hr.sublist List.filter_sublist) (List.mem_filter.2 ⟨by simp,ps⟩)]
    ·rw [if_neg ps]
   ·have k2:lt y s:=by
     rcases qpj s y with q | q | q
     ·exact absurd q k
     ·exact absurd (qg5.2 q) e0
     ·exact q
    rw [qi0 k2,if_neg (by decide),if_neg (by decide),List.filter_cons,qh0 p h2]
    by_cases py:p y=true
    ·rw [if_pos py,List.filter_cons,if_pos py]
     by_cases ps:p s=true
     ·rw [if_pos ps,if_pos ps]
      rw [ins_cons,qi0 k2,if_neg (by decide),if_neg (by decide)]
     ·rw [if_neg ps,if_neg ps]
    ·rw [if_neg py,List.filter_cons,if_neg py]
theorem qky {s:List Nat} {L:List (List Nat)} (hr:Ris L) (i:Nat) (hi:i<L.length):i<pos s L↔lt L[i] s:=by
 induction L generalizing i with
 | nil=>simp at hi
 | cons y r ih =>
  obtain ⟨h1,h2⟩:=List.pairwise_cons.1 hr
  by_cases k:lt y s
  ·have ep:pos s (y::r)=pos s r+1:=by simp [pos,k]
   rw [ep]
   cases i with
   | zero=>simpa using k
   | succ i=>simpa using ih h2 i (by simpa using hi)
  ·have ep:pos s (y::r)=0:=by
    unfold pos
    rw [List.countP_eq_zero]
    intro z hz
    rcases List.mem_cons.1 hz with e | hz
    ·rw [e];simpa using k
    ·intro q
     exact k (qdj (h1 z hz) (by simpa using q))
   rw [ep]
   constructor
   ·intro h;omega
   ·intro h
    cases i with
    | zero=>exact absurd h k
    | succ i=>exact absurd (qdj (h1 _ (List.getElem_mem (by simpa using hi))) h) k
theorem qpl {s:List Nat} {L:List (List Nat)} (hr:Ris L):s∈L↔∃h:pos s L<L.length,L[pos s L]=s:=by
 constructor
 ·intro h
  obtain ⟨i,hi,e⟩:=List.getElem_of_mem h
  have h1:¬i<pos s L:=fun k=>lt_irrefl s (by have:=(qky hr i hi).1 k;rwa [e] at this)
  have h2:¬pos s L<i:=fun k=>by
   have hp:pos s L<L.length:=by omega
   have q:lt L[pos s L] L[i]:=(List.pairwise_iff_getElem.1 hr) _ _ hp hi k
   rw [e] at q
   have:=(qky hr _ hp).2 q
   omega
  have:i=pos s L:=by omega
  subst this
  exact ⟨hi,e⟩
 ·rintro ⟨h,e⟩
  rw [←e]
  exact List.getElem_mem h
def grp (κ:List Nat→List Nat) (L:List (List Nat)) (k:List Nat):List (List Nat):=L.filter (fun x=>decide (κ x=k))
theorem qg6 {κ:List Nat→List Nat} {L:List (List Nat)} {k x:List Nat}:x∈grp κ L k↔x∈L∧κ x=k:=by simp [grp]
theorem qpm {κ:List Nat→List Nat} {L:List (List Nat)} (h:Ris L) (k:List Nat):Ris (grp κ L k):=h.sublist List.filter_sublist
theorem qpn {κ:List Nat→List Nat} {L:List (List Nat)} (h:Ris L) (s k:List Nat):grp κ (ins s L) k=if κ s=k then ins s (grp κ L k) else grp κ L k:=by
 unfold grp
 rw [qh0 _ h]
 by_cases e:κ s=k
 ·rw [if_pos (by simpa using e),if_pos e]
 ·rw [if_neg (by simpa using e),if_neg e]
def Lone (κ:List Nat→List Nat) (L:List (List Nat)):Prop:=L.Pairwise (fun x y=>κ x≠κ y)
theorem qj2 {κ:List Nat→List Nat} {L:List (List Nat)} {s:List Nat} (h:grp κ L (κ s)=[]):Lone κ (ins s L)↔Lone κ L:=by
 have hn:∀x∈L,κ x≠κ s:=fun x hx e=>by have:x∈grp κ L (κ s):=qg6.2 ⟨hx,e⟩;rw [h] at this;simp at this
 clear h
 induction L with
 | nil=>simp [ins,Lone]
 | cons y r ih =>
  have ih:=ih (fun x hx=>hn x (by simp [hx]))
  rw [ins_cons]
  split
  ·constructor
   ·intro h;exact (List.pairwise_cons.1 h).2
   ·intro h;exact List.pairwise_cons.2 ⟨fun x hx=>(hn x hx).symm,h⟩
  ·split
   ·exact Iff.rfl
   ·unfold Lone at ih ⊢
    rw [List.pairwise_cons,List.pairwise_cons]
    constructor
    ·rintro ⟨h1,h2⟩
     exact ⟨fun x hx=>h1 x (qd2.2 (Or.inr hx)),ih.1 h2⟩
    ·rintro ⟨h1,h2⟩
     refine ⟨fun x hx=>?_,ih.2 h2⟩
     rcases qd2.1 hx with e | hx
     ·rw [e];exact hn y (by simp)
     ·exact h1 x hx
theorem qkz {κ:List Nat→List Nat} {L:List (List Nat)} {x y:List Nat} (hx:x∈L) (hy:y∈L) (hne:x≠y) (e:κ x=κ y):¬Lone κ L:=by
 intro h
 induction L with
 | nil=>simp at hx
 | cons z r ih =>
  obtain ⟨h1,h2⟩:=List.pairwise_cons.1 h
  rcases List.mem_cons.1 hx with e1 | hx'
  ·rcases List.mem_cons.1 hy with e2 | hy'
   ·exact hne (e1.trans e2.symm)
   ·exact h1 y hy' (e1 ▸ e)
  ·rcases List.mem_cons.1 hy with e2 | hy'
   ·exact h1 x hx' (e2 ▸ e.symm)
   ·exact ih hx' hy' h2
open Go.RowKit
def rot (x n:Nat):Nat:=(x >>> n) ||| ((x <<< (32 - n)) % 4294967296)
theorem qbx {x:Nat} (n:Nat) (hx:x<4294967296):rot x n<4294967296:=by
 unfold rot
 refine Nat.or_lt_two_pow (n:=32) ?_ (Nat.mod_lt _ (by decide))
 rw [Nat.shiftRight_eq_div_pow]
 exact Nat.lt_of_le_of_lt (Nat.div_le_self _ _) hx
theorem qpo (x n:Nat) (hx:x<4294967296):bits .or .u32 ((x:Int) / 2 ^ n) ((x:Int)*2 ^ (32 - n) % 4294967296)=((rot x n:Nat):Int):=by
 have e1:(x:Int) / 2 ^ n=((x >>> n:Nat):Int):=by rw [Nat.shiftRight_eq_div_pow];simp
 have e2:(x:Int)*2 ^ (32 - n) % 4294967296=(((x <<< (32 - n)) % 4294967296:Nat):Int):=by rw [Nat.shiftLeft_eq];simp
 rw [e1,e2]
 refine u32_or_nat _ _ ?_ (Nat.mod_lt _ (by decide))
 rw [Nat.shiftRight_eq_div_pow]
 exact Nat.lt_of_le_of_lt (Nat.div_le_self _ _) hx
theorem qsk (x n:Nat) (hx:x<4294967296):bits .or .u32 ((x:Int)*2 ^ (32 - n) % 4294967296) ((x:Int) / 2 ^ n)=((rot x n:Nat):Int):=by
 rw [←qpo x n hx]
 simp only [bits,BitVec.or_comm]
theorem qnq:∀n:Nat,n<32→1≤n→bits .and .u64 (IntKind.u64.wrap (-(n:Int))) 31=((32 - n:Nat):Int):=by decide
set_option maxHeartbeats 400000 in
theorem qsl (w:World) (x:Nat) (n:Nat) (h2:x<4294967296) (hn:1≤n) (hm:n≤31) :
 Calls Tryz.prog 128 #[.int .u32 x,.int .i64 (-(n:Int))] w fun e w'=>e=.returned (.int .u32 (rot x n))∧w'=w:=by
 have hc:=qnq n (by omega) hn
 obtain ⟨m,hm'⟩:∃m,m=32 - n:=⟨_,rfl⟩
 have h3:Hid (n=32 - m):=by show n=32 - m;omega
 have h5:m+n≤32:=by omega
 have h6:32≤m+n:=by omega
 rw [←hm'] at hc
 have h4:m≤31:=by omega
 clear hm'
 go_enter Tryz.func128,Tryz.ntmps128
 go_wp2
 have e1:=qsk x n h2
 rw [show 32 - n=m by omega] at e1
 rw [show 32 - m=n by omega,e1]
 go_ret
 exact ⟨rfl,rfl⟩
set_option maxHeartbeats 400000 in
theorem qci (w:World) (x:Nat) (n:Nat) (h2:x<4294967296) (hn:1≤n) (hm:n≤31) :
 Calls Tryz.prog 118 #[.int .u32 x,.int .i64 (n:Int)] w fun e w'=>e=.returned (.int .u32 (rot x n))∧w'=w:=by
 have c:=qsl w x n h2 hn hm
 go_enter Tryz.func118,Tryz.ntmps118
 go_wp2_with (refine c.mono ?_;rintro _ _ ⟨rfl,rfl⟩)
 go_ret
 exact ⟨rfl,rfl⟩
def M:Nat:=4294967296
def be (B:Nat→Nat) (t:Nat):Nat:=((B (4*t) <<< 24 ||| B (4*t+1) <<< 16) ||| B (4*t+2) <<< 8) ||| B (4*t+3)
def s0 (x:Nat):Nat:=(rot x 7 ^^^ rot x 18) ^^^ (x >>> 3)
def s1 (x:Nat):Nat:=(rot x 17 ^^^ rot x 19) ^^^ (x >>> 10)
def wnew (a b c d:Nat):Nat:=(((s1 a+b) % M+s0 c) % M+d) % M
def sched (B:Nat→Nat) (t:Nat):Nat :=
 if t<16 then be B t else wnew (sched B (t - 2)) (sched B (t - 7)) (sched B (t - 15)) (sched B (t - 16))
termination_by t
decreasing_by all_goals omega
structure W8 where
 a:Nat
 b:Nat
 c:Nat
 d:Nat
 e:Nat
 f:Nat
 g:Nat
 h:Nat
def big1 (e:Nat):Nat:=(rot e 6 ^^^ rot e 11) ^^^ rot e 25
def big0 (a:Nat):Nat:=(rot a 2 ^^^ rot a 13) ^^^ rot a 22
def pick (e f g:Nat):Nat:=(e &&& f) ^^^ ((4294967295 ^^^ e) &&& g)
def most (a b c:Nat):Nat:=((a &&& b) ^^^ (a &&& c)) ^^^ (b &&& c)
def t1 (s:W8) (k w:Nat):Nat:=((((s.h+big1 s.e) % M+pick s.e s.f s.g) % M+k) % M+w) % M
def t2 (s:W8):Nat:=(big0 s.a+most s.a s.b s.c) % M
def qfl (s:W8) (k w:Nat):W8:=⟨(t1 s k w+t2 s) % M,s.a,s.b,s.c,(s.d+t1 s k w) % M,s.e,s.f,s.g⟩
def turns (K W:Nat→Nat) (s:W8):Nat→W8
 | 0=>s
 | t+1=>qfl (turns K W s t) (K t) (W t)
def plus (s r:W8):W8:=⟨(s.a+r.a) % M,(s.b+r.b) % M,(s.c+r.c) % M,(s.d+r.d) % M,(s.e+r.e) % M,(s.f+r.f) % M,(s.g+r.g) % M,(s.h+r.h) % M⟩
def KL:List Nat:=[1116352408,1899447441,3049323471,3921009573,961987163,1508970993,2453635748,2870763221,3624381080,310598401,607225278,1426881987,1925078388,2162078206,2614888103,3248222580,3835390401,4022224774,264347078,604807628,770255983,1249150122,1555081692,1996064986,2554220882,2821834349,2952996808,3210313671,3336571891,3584528711,113926993,338241895,666307205,773529912,1294757372,1396182291,1695183700,1986661051,2177026350,2456956037,2730485921,2820302411,3259730800,3345764771,3516065817,3600352804,4094571909,275423344,430227734,506948616,659060556,883997877,958139571,1322822218,1537002063,1747873779,1955562222,2024104815,2227730452,2361852424,2428436474,2756734187,3204031479,3329325298]
def K (t:Nat):Nat:=KL.getD t 0
def qc1 (s:W8) (B:Nat→Nat):W8:=plus s (turns K (sched B) s 64)
def H0:W8:=⟨1779033703,3144134277,1013904242,2773480762,1359893119,2600822924,528734635,1541459225⟩
structure Ok8 (s:W8):Prop where
 a:s.a<4294967296
 b:s.b<4294967296
 c:s.c<4294967296
 d:s.d<4294967296
 e:s.e<4294967296
 f:s.f<4294967296
 g:s.g<4294967296
 h:s.h<4294967296
theorem qsm {s:W8} (h:Ok8 s) (k w:Nat):Ok8 (qfl s k w) :=
 ⟨Nat.mod_lt _ (by decide),h.a,h.b,h.c,Nat.mod_lt _ (by decide),h.e,h.f,h.g⟩
theorem qfm {s:W8} (h:Ok8 s) (K W:Nat→Nat):∀t,Ok8 (turns K W s t)
 | 0=>h
 | t+1=>qsm (qfm h K W t) _ _
theorem qvv (s r:W8):Ok8 (plus s r) :=
 ⟨Nat.mod_lt _ (by decide),Nat.mod_lt _ (by decide),Nat.mod_lt _ (by decide),Nat.mod_lt _ (by decide),Nat.mod_lt _ (by decide),Nat.mod_lt _ (by decide),Nat.mod_lt _ (by decide),Nat.mod_lt _ (by decide)⟩
theorem qsn (s:W8) (B:Nat→Nat):Ok8 (qc1 s B):=qvv _ _
theorem qzz:Ok8 H0:=⟨by decide,by decide,by decide,by decide,by decide,by decide,by decide,by decide⟩
theorem K_lt (t:Nat) (h:t<64):K t<4294967296:=by
 have:∀t,t<64→K t<4294967296:=by decide
 exact this t h
theorem qz0 {B:Nat→Nat} (hB:∀i,B i<256) (t:Nat):be B t<4294967296:=by
 unfold be
 have sh:∀x n:Nat,x<256→n≤24→x <<< n<2 ^ 32:=by
  intro x n hx hn
  rw [Nat.shiftLeft_eq]
  calc x*2 ^ n<2 ^ 8*2 ^ n:=Nat.mul_lt_mul_of_pos_right (by simpa using hx) (Nat.two_pow_pos n)
   _=2 ^ (8+n):=by rw [Nat.pow_add]
   _≤2 ^ 32:=Nat.pow_le_pow_right (by decide) (by omega)
 have e:(4294967296:Nat)=2 ^ 32:=by decide
 rw [e]
 refine Nat.or_lt_two_pow (Nat.or_lt_two_pow (Nat.or_lt_two_pow (sh _ _ (hB _) (by decide)) (sh _ _ (hB _) (by decide))) (sh _ _ (hB _) (by decide))) ?_
 exact Nat.lt_of_lt_of_le (hB _) (by decide)
theorem qcj {B:Nat→Nat} (hB:∀i,B i<256) (t:Nat):sched B t<4294967296:=by
 unfold sched
 split
 ·exact qz0 hB t
 ·exact Nat.mod_lt _ (by decide)
theorem qaw (B:Nat→Nat) {t:Nat} (h:t<16):sched B t=be B t:=by
 rw [sched,if_pos h]
theorem qc2 (B:Nat→Nat) {t:Nat} (h:16≤t):sched B t=wnew (sched B (t - 2)) (sched B (t - 7)) (sched B (t - 15)) (sched B (t - 16)):=by
 rw [sched,if_neg (by omega)]
theorem qso {B C:Nat→Nat} (h:∀i,i<64→B i=C i) {t:Nat} (ht:t<16):be B t=be C t:=by
 unfold be
 rw [h _ (by omega),h _ (by omega),h _ (by omega),h _ (by omega)]
theorem qk0 {B C:Nat→Nat} (h:∀i,i<64→B i=C i) (t:Nat):sched B t=sched C t:=by
 induction t using Nat.strongRecOn with
 | _ t ih =>
  by_cases ht:t<16
  ·rw [qaw B ht,qaw C ht,qso h ht]
  ·rw [qc2 B (by omega),qc2 C (by omega),ih _ (by omega),ih _ (by omega),ih _ (by omega),ih _ (by omega)]
theorem qey {B C:Nat→Nat} (h:∀i,i<64→B i=C i) (s:W8):qc1 s B=qc1 s C:=by
 unfold qc1
 rw [show sched B=sched C from funext (qk0 h)]
open Go.RowKit
set_option maxHeartbeats 400000 in
theorem qbg (w:World) (x:Nat) (n:Nat) (h2:x<4294967296) (hn:1≤n) (hm:n≤31) :
 Calls Tryz.prog 109 #[.int .u32 x,.int .i64 (n:Int)] w fun e w'=>e=.returned (.int .u32 (rot x n))∧∃q,w'=w.drewN q:=by
 go_enter Tryz.func109,Tryz.ntmps109
 go_wp2
 go_quiet (fail)
 go_wp2
 rw [qpo x n h2]
 go_ret
 exact ⟨rfl,nq,rfl⟩
end Go.Proofs.YtemcneddbhgadaaGreatDoor.Dg
