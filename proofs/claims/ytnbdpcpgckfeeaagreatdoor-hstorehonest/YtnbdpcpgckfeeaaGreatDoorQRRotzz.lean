import Derived.Test.YtnbdpcpgckfeeaaGreatDoorChecked
import Derived.WalkKit
import Derived.Deep.OwnRows
import Derived.Deep.LoopGhost
import Derived.Deep.QuietTactic
import Derived.BigQuiet
import Derived.Deep.Light
import Derived.Laws.BytesArg
import Derived.WalkSmall
import Derived.Laws.BitsAllLaws
import Derived.BigRegion
import Derived.Laws.Rows
namespace Go.Proofs.YtnbdpcpgckfeeaaGreatDoor.Dg
open Go.RowKit
structure View(w:World)(a:Option Addr)(b off n:Nat)(Z:Nat→Int):Prop where
 at_:0<n→a=some ⟨b,off,none⟩
 cell:∀i,i<n→w.cell? ⟨b,off+i,none⟩=some (.int .u8 (Z i))
 bd:∀i,i<n→0≤Z i∧Z i≤255
 len:n≤281474976710656
theorem View.lt{w:World}{a:Option Addr}{b off n:Nat}{Z:Nat→Int}(h:View w a b off n Z)(hn:0<n):b<w.heap.size:=
 World.block_lt_of_cell? _ _ (h.cell 0 hn)
theorem View.of_cells{w w':World}{a:Option Addr}{b off n:Nat}{Z:Nat→Int}(h:View w a b off n Z)(hc:∀p:Addr,p.block<w.heap.size→w'.cell? p=w.cell? p):View w' a b off n Z:=
 ⟨h.at_,fun i hi=>(hc _ (h.lt (by omega))).trans (h.cell i hi),h.bd,h.len⟩
theorem View.below{w w':World}{a:Option Addr}{b off n:Nat}{Z:Nat→Int}(h:View w a b off n Z)(hb:Below w.heap.size w w'):View w' a b off n Z:=
 h.of_cells fun _ hp=>hb.cell hp
open Go.RowKit
def rot(x n:Nat):Nat:=(x>>>n)|||((x<<<(32-n))%4294967296)
theorem rot_lt{x:Nat}(n:Nat)(hx:x<4294967296):rot x n<4294967296:=by
 unfold rot
 refine Nat.or_lt_two_pow (n:=32) ?_ (Nat.mod_lt _ (by decide))
 rw [Nat.shiftRight_eq_div_pow]
 exact Nat.lt_of_le_of_lt (Nat.div_le_self _ _) hx
theorem turn_or(x n:Nat)(hx:x<4294967296):bits .or .u32 ((x:Int)/2^n) ((x:Int)*2^(32-n)%4294967296)=((rot x n:Nat):Int):=by
 have e1:(x:Int)/2^n=((x>>>n:Nat):Int):=by rw [Nat.shiftRight_eq_div_pow];simp
 have e2:(x:Int)*2^(32-n)%4294967296=(((x<<<(32-n))%4294967296:Nat):Int):=by rw [Nat.shiftLeft_eq];simp
 rw [e1,e2]
 refine u32_or_nat _ _ ?_ (Nat.mod_lt _ (by decide))
 rw [Nat.shiftRight_eq_div_pow]
 exact Nat.lt_of_le_of_lt (Nat.div_le_self _ _) hx
theorem turn_or'(x n:Nat)(hx:x<4294967296):bits .or .u32 ((x:Int)*2^(32-n)%4294967296) ((x:Int)/2^n)=((rot x n:Nat):Int):=by
 rw [←turn_or x n hx]
 simp only[bits,BitVec.or_comm]
theorem left_count:∀n:Nat,n<32→1≤n→bits .and .u64 (IntKind.u64.wrap (-(n:Int))) 31=((32-n:Nat):Int):=by decide
set_option maxHeartbeats 400000 in
theorem left_any(w:World)(x:Nat)(n:Nat)(h2:x<4294967296)(hn:1≤n)(hm:n≤31):
  Calls Tryz.prog 143 #[.int .u32 x,.int .i64 (-(n:Int))] w fun e w'=>e= .returned (.int .u32 (rot x n))∧w'=w:=by
 have hc:=left_count n (by omega) hn
 obtain⟨m,hm'⟩:∃m,m=32-n:=⟨_,rfl⟩
 have h3:Hid (n=32-m):=by show n=32-m;omega
 have h5:m+n≤32:=by omega
 have h6:32≤m+n:=by omega
 rw [←hm']at hc
 have h4:m≤31:=by omega
 clear hm'
 go_enter Tryz.func143, Tryz.ntmps143
 go_wp2
 have e1:=turn_or' x n h2
 rw [show 32-n=m by omega]at e1
 rw [show 32-m=n by omega,e1]
 go_ret
 exact⟨rfl,rfl⟩
set_option maxHeartbeats 400000 in
theorem rotR_any(w:World)(x:Nat)(n:Nat)(h2:x<4294967296)(hn:1≤n)(hm:n≤31):
  Calls Tryz.prog 114 #[.int .u32 x,.int .i64 (n:Int)] w fun e w'=>e= .returned (.int .u32 (rot x n))∧w'=w:=by
 have c:=left_any w x n h2 hn hm
 go_enter Tryz.func114, Tryz.ntmps114
 go_wp2_with (refine c.mono ?_;rintro _ _ ⟨rfl,rfl⟩)
 go_ret
 exact⟨rfl,rfl⟩
def M:Nat:=4294967296
def be(B:Nat→Nat)(t:Nat):Nat:=((B (4*t)<<<24|||B (4*t+1)<<<16)|||B (4*t+2)<<<8)|||B (4*t+3)
def s0(x:Nat):Nat:=(rot x 7^^^rot x 18)^^^(x>>>3)
def s1(x:Nat):Nat:=(rot x 17^^^rot x 19)^^^(x>>>10)
def wnew(a b c d:Nat):Nat:=(((s1 a+b)%M+s0 c)%M+d)%M
def sched(B:Nat→Nat)(t:Nat):Nat:=
 if t<16 then be B t else wnew (sched B (t-2)) (sched B (t-7)) (sched B (t-15)) (sched B (t-16))
termination_by t
decreasing_by all_goals omega
structure W8 where
 a:Nat
 b:Nat
 c:Nat
 d:Nat
 e:Nat
 f:Nat
 g:Nat
 h:Nat
def big1(e:Nat):Nat:=(rot e 6^^^rot e 11)^^^rot e 25
def big0(a:Nat):Nat:=(rot a 2^^^rot a 13)^^^rot a 22
def pick(e f g:Nat):Nat:=(e&&&f)^^^((4294967295^^^e)&&&g)
def most(a b c:Nat):Nat:=((a&&&b)^^^(a&&&c))^^^(b&&&c)
def t1(s:W8)(k w:Nat):Nat:=((((s.h+big1 s.e)%M+pick s.e s.f s.g)%M+k)%M+w)%M
def t2(s:W8):Nat:=(big0 s.a+most s.a s.b s.c)%M
def turn1(s:W8)(k w:Nat):W8:=⟨(t1 s k w+t2 s)%M,s.a,s.b,s.c,(s.d+t1 s k w)%M,s.e,s.f,s.g⟩
def turns(K W:Nat→Nat)(s:W8):Nat→W8
 |0=>s
 |t+1=>turn1 (turns K W s t) (K t) (W t)
def plus(s r:W8):W8:=⟨(s.a+r.a)%M,(s.b+r.b)%M,(s.c+r.c)%M,(s.d+r.d)%M,(s.e+r.e)%M,(s.f+r.f)%M,(s.g+r.g)%M,(s.h+r.h)%M⟩
def KL:List Nat:=[1116352408,1899447441,3049323471,3921009573,961987163,1508970993,2453635748,2870763221,3624381080,310598401,607225278,1426881987,1925078388,2162078206,2614888103,3248222580,3835390401,4022224774,264347078,604807628,770255983,1249150122,1555081692,1996064986,2554220882,2821834349,2952996808,3210313671,3336571891,3584528711,113926993,338241895,666307205,773529912,1294757372,1396182291,1695183700,1986661051,2177026350,2456956037,2730485921,2820302411,3259730800,3345764771,3516065817,3600352804,4094571909,275423344,430227734,506948616,659060556,883997877,958139571,1322822218,1537002063,1747873779,1955562222,2024104815,2227730452,2361852424,2428436474,2756734187,3204031479,3329325298]
def K(t:Nat):Nat:=KL.getD t 0
def fold1(s:W8)(B:Nat→Nat):W8:=plus s (turns K (sched B) s 64)
def H0:W8:=⟨1779033703,3144134277,1013904242,2773480762,1359893119,2600822924,528734635,1541459225⟩
structure Ok8(s:W8):Prop where
 a:s.a<4294967296
 b:s.b<4294967296
 c:s.c<4294967296
 d:s.d<4294967296
 e:s.e<4294967296
 f:s.f<4294967296
 g:s.g<4294967296
 h:s.h<4294967296
theorem turn1_ok{s:W8}(h:Ok8 s)(k w:Nat):Ok8 (turn1 s k w):=
 ⟨Nat.mod_lt _ (by decide),h.a,h.b,h.c,Nat.mod_lt _ (by decide),h.e,h.f,h.g⟩
theorem turns_ok{s:W8}(h:Ok8 s)(K W:Nat→Nat):∀t,Ok8 (turns K W s t)
 |0=>h
 |t+1=>turn1_ok (turns_ok h K W t) _ _
theorem plus_ok(s r:W8):Ok8 (plus s r):=
 ⟨Nat.mod_lt _ (by decide),Nat.mod_lt _ (by decide),Nat.mod_lt _ (by decide),Nat.mod_lt _ (by decide),Nat.mod_lt _ (by decide),Nat.mod_lt _ (by decide),Nat.mod_lt _ (by decide),Nat.mod_lt _ (by decide)⟩
theorem fold1_ok(s:W8)(B:Nat→Nat):Ok8 (fold1 s B):=plus_ok _ _
theorem K_lt(t:Nat)(h:t<64):K t<4294967296:=by
 have:∀t,t<64→K t<4294967296:=by decide
 exact this t h
theorem be_lt{B:Nat→Nat}(hB:∀i,B i<256)(t:Nat):be B t<4294967296:=by
 unfold be
 have sh:∀x n:Nat,x<256→n≤24→x<<<n<2^32:=by
  intro x n hx hn
  rw [Nat.shiftLeft_eq]
  calc x*2^n<2^8*2^n:=Nat.mul_lt_mul_of_pos_right (by simpa using hx) (Nat.two_pow_pos n)
   _=2^(8+n):=by rw [Nat.pow_add]
   _≤2^32:=Nat.pow_le_pow_right (by decide) (by omega)
 have e:(4294967296:Nat)=2^32:=by decide
 rw [e]
 refine Nat.or_lt_two_pow (Nat.or_lt_two_pow (Nat.or_lt_two_pow (sh _ _ (hB _) (by decide)) (sh _ _ (hB _) (by decide))) (sh _ _ (hB _) (by decide))) ?_
 exact Nat.lt_of_lt_of_le (hB _) (by decide)
theorem sched_lt{B:Nat→Nat}(hB:∀i,B i<256)(t:Nat):sched B t<4294967296:=by
 unfold sched
 split
 ·exact be_lt hB t
 ·exact Nat.mod_lt _ (by decide)
theorem sched_low(B:Nat→Nat){t:Nat}(h:t<16):sched B t=be B t:=by
 rw [sched,if_pos h]
theorem sched_high(B:Nat→Nat){t:Nat}(h:16≤t):sched B t=wnew (sched B (t-2)) (sched B (t-7)) (sched B (t-15)) (sched B (t-16)):=by
 rw [sched,if_neg (by omega)]
open Go.RowKit
structure Two64(w wr:World)(f:Nat→Nat):Prop where
 below:Below w.heap.size w wr
 size:wr.heap.size=w.heap.size+2
 out:wr.rowIs w.heap.size 135 64 (fun _=>.int .u32 0)
 row:wr.rowIs (w.heap.size+1) 135 64 (fun i=>.int .u32 (f i))
theorem Two64.set{w wr:World}{f:Nat→Nat}(h:Two64 w wr f)(i v:Nat):Two64 w (wr.setCell ⟨w.heap.size+1,i,none⟩ (.int .u32 v)) (fun j=>if j=i then v else f j):=
 ⟨h.below.setCell (Nat.le_succ _) _,by simp[h.size],h.out.setOther (by show w.heap.size≠w.heap.size+1;omega) _,(h.row.set i _).congr (fun j _=>by split<;>rfl)⟩
theorem Two64.drewN{w wr:World}{f:Nat→Nat}(h:Two64 w wr f)(q:Nat):Two64 w (wr.drewN q) f:=
 ⟨below_drewN h.below q,h.size,h.out.of_block rfl,h.row.of_block rfl⟩
theorem Two64.congr{w wr:World}{f g:Nat→Nat}(h:Two64 w wr f)(e:∀i,i<64→f i=g i):Two64 w wr g:=
 ⟨h.below,h.size,h.out,h.row.congr (fun i hi=>by rw [e i hi])⟩
theorem Two64.drew{w wr:World}{f:Nat→Nat}(h:Two64 w wr f):Two64 w wr.drew f:=
 ⟨h.below.drew,h.size,h.out.drew,h.row.drew⟩
def Z64:Array Value:= #[.int .u32 0,.int .u32 0,.int .u32 0,.int .u32 0,.int .u32 0,.int .u32 0,.int .u32 0,.int .u32 0,.int .u32 0,.int .u32 0,.int .u32 0,.int .u32 0,.int .u32 0,.int .u32 0,.int .u32 0,.int .u32 0,.int .u32 0,.int .u32 0,.int .u32 0,.int .u32 0,.int .u32 0,.int .u32 0,.int .u32 0,.int .u32 0,.int .u32 0,.int .u32 0,.int .u32 0,.int .u32 0,.int .u32 0,.int .u32 0,.int .u32 0,.int .u32 0,.int .u32 0,.int .u32 0,.int .u32 0,.int .u32 0,.int .u32 0,.int .u32 0,.int .u32 0,.int .u32 0,.int .u32 0,.int .u32 0,.int .u32 0,.int .u32 0,.int .u32 0,.int .u32 0,.int .u32 0,.int .u32 0,.int .u32 0,.int .u32 0,.int .u32 0,.int .u32 0,.int .u32 0,.int .u32 0,.int .u32 0,.int .u32 0,.int .u32 0,.int .u32 0,.int .u32 0,.int .u32 0,.int .u32 0,.int .u32 0,.int .u32 0,.int .u32 0]
theorem Z64_rep:Z64=Array.replicate 64 (.int .u32 0):=by rfl
theorem zeros_row(w:World)(z:Value)(n t:Nat):(w.alloc (.cells (Array.replicate n z) t)).rowIs w.heap.size t n (fun _=>z):=by
 have h:=World.rowIs_alloc w (Array.replicate n z) t (fun _=>z) (fun i hi=>by rw [Array.size_replicate]at hi;simp[hi])
 rwa[Array.size_replicate]at h
theorem two64_start(w:World):Two64 w ((w.alloc (.cells Z64 135)).alloc (.cells Z64 135)) (fun _=>0):=by
 rw [Z64_rep]
 refine⟨((Below.refl _ _).alloc (Nat.le_refl _) _).alloc (by simp) _,by simp,(zeros_row w _ 64 135).alloc _,?_⟩
 have h:=zeros_row (w.alloc (.cells (Array.replicate 64 (.int .u32 0)) 135)) (.int .u32 0) 64 135
 rwa[World.size_alloc]at h
theorem sh24{x:Nat}(h:x<256):(x:Int)%(4294967296:Int)*(16777216:Int)%(4294967296:Int)=((x<<<24:Nat):Int):=by rw [Nat.shiftLeft_eq];omega
theorem sh16{x:Nat}(h:x<256):(x:Int)%(4294967296:Int)*(65536:Int)%(4294967296:Int)=((x<<<16:Nat):Int):=by rw [Nat.shiftLeft_eq];omega
theorem sh8{x:Nat}(h:x<256):(x:Int)%(4294967296:Int)*(256:Int)%(4294967296:Int)=((x<<<8:Nat):Int):=by rw [Nat.shiftLeft_eq];omega
theorem sh0{x:Nat}(h:x<256):(x:Int)%(4294967296:Int)=(x:Int):=by omega
theorem shl_lt{x:Nat}(n:Nat)(hx:x<256)(hn:n≤24):x<<<n<4294967296:=by
 rw [Nat.shiftLeft_eq]
 calc x*2^n<2^8*2^n:=Nat.mul_lt_mul_of_pos_right (by simpa using hx) (Nat.two_pow_pos n)
  _=2^(8+n):=by rw [Nat.pow_add]
  _≤2^32:=Nat.pow_le_pow_right (by decide) (by omega)
theorem or_lt{x y:Nat}(h:x<4294967296)(g:y<4294967296):x|||y<4294967296:=Nat.or_lt_two_pow (n:=32) h g
theorem be_spelt{B:Nat→Nat}(hB:∀i,B i<256)(k:Nat):
  bits .or .u32 (bits .or .u32 (bits .or .u32 ((B (4*k):Int)%4294967296*16777216%4294967296) ((B (4*k+1):Int)%4294967296*65536%4294967296)) ((B (4*k+2):Int)%4294967296*256%4294967296)) ((B (4*k+3):Int)%4294967296)=((be B k:Nat):Int):=by
 have a0:=shl_lt 24 (hB (4*k)) (by omega)
 have a1:=shl_lt 16 (hB (4*k+1)) (by omega)
 have a2:=shl_lt 8 (hB (4*k+2)) (by omega)
 have a3:=hB (4*k+3)
 rw [sh24 (hB _),sh16 (hB _),sh8 (hB _),sh0 (hB _),u32_or_nat _ _ a0 a1,u32_or_nat _ _ (or_lt a0 a1) a2,u32_or_nat _ _ (or_lt (or_lt a0 a1) a2) (by omega)]
 rfl
theorem xor_lt{x y:Nat}(h:x<4294967296)(g:y<4294967296):x^^^y<4294967296:=Nat.xor_lt_two_pow (n:=32) h g
theorem s0_spelt{x:Nat}(h:x<4294967296):bits .xor .u32 (bits .xor .u32 ((rot x 7:Nat):Int) ((rot x 18:Nat):Int)) ((x:Int)/8)=((s0 x:Nat):Int):=by
 have e:(x:Int)/(8:Int)=((x>>>3:Nat):Int):=by rw [Nat.shiftRight_eq_div_pow];omega
 have l:x>>>3<4294967296:=by rw [Nat.shiftRight_eq_div_pow];omega
 rw [e,u32_xor_nat _ _ (rot_lt 7 h) (rot_lt 18 h),u32_xor_nat _ _ (xor_lt (rot_lt 7 h) (rot_lt 18 h)) l]
 rfl
theorem s0_lt{x:Nat}(h:x<4294967296):s0 x<4294967296:=by
 have l:x>>>3<4294967296:=by rw [Nat.shiftRight_eq_div_pow];omega
 exact xor_lt (xor_lt (rot_lt 7 h) (rot_lt 18 h)) l
theorem s1_lt{x:Nat}(h:x<4294967296):s1 x<4294967296:=by
 have l:x>>>10<4294967296:=by rw [Nat.shiftRight_eq_div_pow];omega
 exact xor_lt (xor_lt (rot_lt 17 h) (rot_lt 19 h)) l
theorem info62:(Tryz.prog.info? 135).map (·.size)=some 64:=by kernel_rfl
theorem all_one{cs:Array Value}(h:∀i,i<cs.size→∃k v,cs[i]? =some (.int k v)):cs.all (·.oneCell')=true:=by
 rw [Array.all_eq_true_iff_forall_mem]
 intro v hv
 obtain⟨i,hi,rfl⟩:=Array.getElem_of_mem hv
 obtain⟨k,x,e⟩:=h i hi
 rw [Array.getElem?_eq_getElem hi]at e
 rw [Option.some.inj e]
 rfl
theorem below_setRow{B g:Nat}{w w':World}(h:Below B w w')(hg:B≤g)(cs:Array Value):Below B w (w'.setRow g cs):=
 ⟨h.os,h.tape,h.output,by simp;exact h.size,fun i hi=>(setRow_other w' g i cs (by omega)).trans (h.block i hi)⟩
theorem s1_spelt{x:Nat}(h:x<4294967296):bits .xor .u32 (bits .xor .u32 ((rot x 17:Nat):Int) ((rot x 19:Nat):Int)) ((x:Int)/1024)=((s1 x:Nat):Int):=by
 have e:(x:Int)/(1024:Int)=((x>>>10:Nat):Int):=by rw [Nat.shiftRight_eq_div_pow];omega
 have l:x>>>10<4294967296:=by rw [Nat.shiftRight_eq_div_pow];omega
 rw [e,u32_xor_nat _ _ (rot_lt 17 h) (rot_lt 19 h),u32_xor_nat _ _ (xor_lt (rot_lt 17 h) (rot_lt 19 h)) l]
 rfl
set_option maxRecDepth 100000 in
set_option maxHeartbeats 8000000 in
theorem sched_any(w:World)(a:Option Addr)(b off c:Nat)(B:Nat→Nat)(h:View w a b off 64 (fun i=>(B i:Int)))(hB:∀i,B i<256):
  Calls Tryz.prog 113 #[.slice a 64 c] w fun e w'=>(∃cs:Array Value,e= .returned (.agg cs)∧cs.size=64∧∀i,i<64→cs[i]? =some (.int .u32 (sched B i)))∧Below w.heap.size w w':=by
 obtain rfl:=h.at_ (by omega)
 have hb:=h.lt (by omega)
 go_enter Tryz.func113, Tryz.ntmps113
 go_wp2
 go_loopg [8] 16 (fun g i wr=> ∃k:Nat,k≤16∧g=16-k∧i= .int .i64 k∧Two64 w wr (fun i=>if i<k then sched B i else 0))
 case atStart=>exact⟨0,by omega,rfl,rfl,(two64_start w).congr (fun i _=>by simp)⟩
 case round=>
  obtain⟨k,hk,rfl,rfl,hR⟩:=hrel
  by_cases hkn:k<16
  ·have c0:wr.cell? ⟨b,off+4*k,none⟩=some (.int .u8 (B (4*k))):=(hR.below.cell (p:=⟨b,off+4*k,none⟩) hb).trans (h.cell (4*k) (by omega))
   have c1:wr.cell? ⟨b,off+(4*k+1),none⟩=some (.int .u8 (B (4*k+1))):=(hR.below.cell (p:=⟨b,off+(4*k+1),none⟩) hb).trans (h.cell (4*k+1) (by omega))
   have c2:wr.cell? ⟨b,off+(4*k+2),none⟩=some (.int .u8 (B (4*k+2))):=(hR.below.cell (p:=⟨b,off+(4*k+2),none⟩) hb).trans (h.cell (4*k+2) (by omega))
   have c3:wr.cell? ⟨b,off+(4*k+3),none⟩=some (.int .u8 (B (4*k+3))):=(hR.below.cell (p:=⟨b,off+(4*k+3),none⟩) hb).trans (h.cell (4*k+3) (by omega))
   have fz:=hR.row.frozen k
   have cc:=hR.row.cell (i:=k) (by omega)
   simp only[Nat.lt_irrefl,if_false]at cc
   have HR:Hid (Two64 w wr (fun i=>if i<k then sched B i else 0)):=hR
   clear hR
   go_wp2
   go_region
   go_wp2
   rw [be_spelt hB k]
   clear cc fz c0 c1 c2 c3
   go_roundg (16-(k+1))
   case measure=>omega
   case rel=>
    refine⟨k+1,by omega,rfl,by go_num,((HR.out.set k (be B k)).drew).congr (fun i _=>?_)⟩
    by_cases e:i=k
    ·subst e
     rw [if_pos rfl,if_pos (by omega),sched_low B hkn]
    ·rw [if_neg e]
     by_cases e2:i<k
     ·rw [if_pos e2,if_pos (by omega)]
     ·rw [if_neg e2,if_neg (by omega)]
  ·have:k=16:=by omega
   subst this
   go_wp2
   have HR:Hid (Two64 w wr (fun i=>if i<16 then sched B i else 0)):=hR
   clear hR
   go_loopg [5] 48 (fun g i wr=> ∃k:Nat,16≤k∧k≤64∧g=64-k∧i= .int .i64 k∧Two64 w wr (fun i=>if i<k then sched B i else 0))
   case atStart=>exact⟨16,by omega,by omega,rfl,rfl,HR⟩
   case round=>
    clear HR
    obtain⟨k,hk0,hk,rfl,rfl,hR⟩:=hrel
    by_cases hkn:k<64
    ·have c2:=hR.row.cell (i:=k-2) (by omega)
     have c7:=hR.row.cell (i:=k-7) (by omega)
     have c15:=hR.row.cell (i:=k-15) (by omega)
     have c16:=hR.row.cell (i:=k-16) (by omega)
     rw [if_pos (by omega)]at c2 c7 c15 c16
     have l2:=sched_lt hB (k-2)
     have l7:=sched_lt hB (k-7)
     have l15:=sched_lt hB (k-15)
     have l16:=sched_lt hB (k-16)
     have E:=sched_high B hk0
     obtain⟨x2,h2⟩:∃x,x=sched B (k-2):=⟨_,rfl⟩
     obtain⟨x7,h7⟩:∃x,x=sched B (k-7):=⟨_,rfl⟩
     obtain⟨x15,h15⟩:∃x,x=sched B (k-15):=⟨_,rfl⟩
     obtain⟨x16,h16⟩:∃x,x=sched B (k-16):=⟨_,rfl⟩
     rw [←h2]at c2 l2
     rw [←h7]at c7 l7
     rw [←h15]at c15 l15
     rw [←h16]at c16 l16
     rw [←h2,←h7,←h15,←h16]at E
     clear h2 h7 h15 h16
     have HE:Hid (sched B k=wnew x2 x7 x15 x16):=E
     clear E
     have fz:=hR.row.frozen k
     have cc:=hR.row.cell (i:=k) (by omega)
     simp only[Nat.lt_irrefl,if_false]at cc
     have HR:Hid (Two64 w wr (fun i=>if i<k then sched B i else 0)):=hR
     clear hR
     go_wp2
     refine wp_region_quiet_lit (by kernel_rfl) (by kernel_rfl) ?_
     repeat (go_big_quiet_step (fail))
     go_big_quiet_step (first|(go_at_call 114;refine Calls.quiet_of_same (rotR_any _ x15 7 l15 (by omega) (by omega))))
     repeat (go_big_quiet_step (fail))
     go_big_quiet_step (first|(go_at_call 114;refine Calls.quiet_of_same (rotR_any _ x15 18 l15 (by omega) (by omega))))
     repeat (go_big_quiet_step (fail))
     refine wpQuiet_nil ?_
     intro wz hwz
     obtain⟨nq,rfl⟩:=hwz
     obtain⟨wq,hwq⟩:∃x,x=wr.drewN nq:=⟨_,rfl⟩
     rw [←hwq]
     have d2:wq.cell? ⟨w.heap.size+1,k-2,none⟩=some (.int .u32 x2):=by rw [hwq];exact c2
     have d7:wq.cell? ⟨w.heap.size+1,k-7,none⟩=some (.int .u32 x7):=by rw [hwq];exact c7
     have d16:wq.cell? ⟨w.heap.size+1,k-16,none⟩=some (.int .u32 x16):=by rw [hwq];exact c16
     have HQ:Hid (Two64 w wq (fun i=>if i<k then sched B i else 0)):=by rw [hwq];exact HR.out.drewN nq
     clear hwq c2 c7 c15 c16 HR fz cc
     go_wp2
     refine wp_region_quiet_lit (by kernel_rfl) (by kernel_rfl) ?_
     repeat (go_big_quiet_step (fail))
     go_big_quiet_step (first|(go_at_call 114;refine Calls.quiet_of_same (rotR_any _ x2 17 l2 (by omega) (by omega))))
     repeat (go_big_quiet_step (fail))
     go_big_quiet_step (first|(go_at_call 114;refine Calls.quiet_of_same (rotR_any _ x2 19 l2 (by omega) (by omega))))
     repeat (go_big_quiet_step (fail))
     refine wpQuiet_nil ?_
     intro wz hwz
     obtain⟨nq,rfl⟩:=hwz
     go_wp2
     obtain⟨wp,hwp⟩:∃x,x=wq.drewN nq:=⟨_,rfl⟩
     rw [←hwp]
     have c7:wp.cell? ⟨w.heap.size+1,k-7,none⟩=some (.int .u32 x7):=by rw [hwp];exact d7
     have c16:wp.cell? ⟨w.heap.size+1,k-16,none⟩=some (.int .u32 x16):=by rw [hwp];exact d16
     have HR:Hid (Two64 w wp (fun i=>if i<k then sched B i else 0)):=by rw [hwp];exact HQ.out.drewN nq
     clear hwp d2 d7 d16 HQ
     have fz:=HR.out.row.frozen k
     have cc:=HR.out.row.cell (i:=k) (by omega)
     simp only[Nat.lt_irrefl,if_false]at cc
     rw [s0_spelt l15,s1_spelt l2]
     have m0:=s0_lt l15
     have m1:=s1_lt l2
     obtain⟨y0,hy0⟩:∃y,y=s0 x15:=⟨_,rfl⟩
     obtain⟨y1,hy1⟩:∃y,y=s1 x2:=⟨_,rfl⟩
     rw [←hy0]at m0 ⊢
     rw [←hy1]at m1 ⊢
     have Hy:Hid (y0=s0 x15∧y1=s1 x2):=⟨hy0,hy1⟩
     clear hy0 hy1
     go_wp2
     go_region
     go_wp2
     have V:((y1:Int)+(x7:Int)+(y0:Int)+(x16:Int))%4294967296=((sched B k:Nat):Int):=by
      rw [HE.out,Hy.out.1,Hy.out.2]
      simp only[wnew,M]
      omega
     rw [V]
     clear cc fz c7 c16
     go_roundg (64-(k+1))
     case measure=>omega
     case rel=>
      refine⟨k+1,by omega,by omega,rfl,by go_num,((HR.out.set k (sched B k)).drew).congr (fun i _=>?_)⟩
      by_cases e:i=k
      ·subst e
       rw [if_pos rfl,if_pos (by omega)]
      ·rw [if_neg e]
       by_cases e2:i<k
       ·rw [if_pos e2,if_pos (by omega)]
       ·rw [if_neg e2,if_neg (by omega)]
    ·have:k=64:=by omega
     subst this
     obtain⟨cs,hg,hsz,hcs⟩:=hR.row
     obtain⟨os,og,osz,_⟩:=hR.out
     have hi:(Tryz.prog.info? 135).map (·.size)=some cs.size:=by rw [hsz];exact info62
     have h1:cs.all (·.oneCell')=true:=all_one (fun i hi=>⟨_,_,hcs i (by omega)⟩)
     have HR:Hid (Two64 w wr (fun i=>if i<64 then sched B i else 0)):=hR
     clear hR
     go_wp2_with (first
      |refine wpList_load_row rfl 135 (.tmp 3) rfl (w.heap.size+1) rfl 135 cs (0,0) _ hg Tryz.underlying135 rfl hi ?_
      |refine wpList_store_row rfl 135 (.tmp 2) (.tmp 100) rfl w.heap.size cs rfl rfl 135 os og hi (by omega) h1 ?_)
     refine bodyPost_ret (v:=.agg cs) ?_ rfl ?_
     ·exact results_cell_row rfl _ _ w.heap.size 135 cs (0,0) _ rfl (setRow_heap _ _ _ _ _ _ og) Tryz.underlying135 rfl hi
     refine⟨⟨cs,rfl,hsz,fun i hi=>by rw [hcs i hi,if_pos hi]⟩,below_setRow HR.out.below (Nat.le_refl _) _⟩
open Go.RowKit
set_option maxHeartbeats 400000 in
theorem turned_any(w:World)(x:Nat)(n:Nat)(h2:x<4294967296)(hn:1≤n)(hm:n≤31):
  Calls Tryz.prog 79 #[.int .u32 x,.int .i64 (n:Int)] w fun e w'=>e= .returned (.int .u32 (rot x n))∧∃q,w'=w.drewN q:=by
 go_enter Tryz.func79, Tryz.ntmps79
 go_wp2
 go_quiet (fail)
 go_wp2
 rw [turn_or x n h2]
 go_ret
 exact⟨rfl,nq,rfl⟩
end Go.Proofs.YtnbdpcpgckfeeaaGreatDoor.Dg
