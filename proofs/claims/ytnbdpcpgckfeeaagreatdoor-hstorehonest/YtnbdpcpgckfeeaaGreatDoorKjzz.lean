import Derived.Test.YtnbdpcpgckfeeaaGreatDoorC1zz
import Derived.Test.YtnbdpcpgckfeeaaGreatDoorQRWordszz
import Derived.Test.YtnbdpcpgckfeeaaGreatDoorQEbzz
import Derived.Test.YtnbdpcpgckfeeaaGreatDoorCards
import Derived.Test.YtnbdpcpgckfeeaaGreatDoorTie
import Derived.ProofKit
import Derived.OpenShut
import Derived.Deep.DeepHandedRow
import Derived.Lib.LaidTab
import Derived.Lib.LaidU8
import Derived.Test.YtnbdpcpgckfeeaaGreatDoorWf1zz
import Derived.Laws.Strings
namespace Go.Ev
open Go Go.RowKit
theorem stp_below{N:Nat}{E:En}{s:St}{w w':World}(h:Rel N E s w)(b:Below w.heap.size w w'):Stp N E s w E s w':=by
 have hs:=b.size
 refine⟨.refl E,⟨h.nx,h.lo,h.hi,h.base,Nat.le_trans h.flr hs,fun k o hk=>?_,h.flo,h.dis,h.grp,h.ro⟩,b.os,b.tape,b.output,hs,fun B hB _=>b.block B hB,fun k o hk ho=>.inr ⟨k,o,hk,ho,rfl⟩⟩
 obtain⟨h1,h2⟩:=h.ob k o hk
 refine⟨h1,?_⟩
 by_cases e:o= .dead
 ·subst e;trivial
 ·exact h2.keep (.refl E) h1 (b.block _ (h2.lt e))
end Go.Ev
namespace Go.Proofs.YtnbdpcpgckfeeaaGreatDoor.Dg
open Go Go.Ev Go.RowKit
def nats:List Value→Option (List Nat)
 |[]=>some []
 | .int .u32 (.ofNat n)::l=>match nats l with
  |some r=>cond (Nat.blt n 4294967296) (some (n::r)) none
  |none=>none
 |_=>none
def bytesN:List Value→Option (List Nat)
 |[]=>some []
 | .int .u8 (.ofNat n)::l=>match bytesN l with
  |some r=>cond (Nat.blt n 256) (some (n::r)) none
  |none=>none
 |_=>none
theorem nats_some:∀{l:List Value} {r:List Nat},nats l=some r→l=r.map (fun n=>.int .u32 (.ofNat n))∧∀n∈r,n<4294967296
 |[],r,h=>by cases h;exact⟨rfl,fun n hn=>by cases hn⟩
 |v::l,r,h=>by
  unfold nats at h
  split at h
  ·rename_i e;cases e
  ·rename_i n l' e
   cases e
   split at h
   ·rename_i r' hr
    cases hb:Nat.blt n 4294967296 with
    |false=>rw [hb]at h;cases h
    |true=>
     rw [hb]at h
     cases h
     obtain⟨h1,h2⟩:=nats_some hr
     have hn:n<4294967296:=Nat.le_of_ble_eq_true hb
     exact⟨by rw [h1];rfl,fun m hm=>(List.mem_cons.1 hm).elim (fun e=>by rw [e];exact hn) (h2 m)⟩
   ·cases h
  ·cases h
theorem bytesN_some:∀{l:List Value} {r:List Nat},bytesN l=some r→l=r.map (fun n=>.int .u8 (.ofNat n))∧∀n∈r,n<256
 |[],r,h=>by cases h;exact⟨rfl,fun n hn=>by cases hn⟩
 |v::l,r,h=>by
  unfold bytesN at h
  split at h
  ·rename_i e;cases e
  ·rename_i n l' e
   cases e
   split at h
   ·rename_i r' hr
    cases hb:Nat.blt n 256 with
    |false=>rw [hb]at h;cases h
    |true=>
     rw [hb]at h
     cases h
     obtain⟨h1,h2⟩:=bytesN_some hr
     have hn:n<256:=Nat.le_of_ble_eq_true hb
     exact⟨by rw [h1];rfl,fun m hm=>(List.mem_cons.1 hm).elim (fun e=>by rw [e];exact hn) (h2 m)⟩
   ·cases h
  ·cases h
def KV:List Value:=KL.map fun n=>.int .u32 (.ofNat n)
def out8(s:W8)(t:St):Rv:=match s with
 |⟨a,b,c,d,e,f,g,h⟩=>.ok (.agg ⟨[.int .u32 (.ofNat a),.int .u32 (.ofNat b),.int .u32 (.ofNat c),.int .u32 (.ofNat d),.int .u32 (.ofNat e),.int .u32 (.ofNat f),.int .u32 (.ofNat g),.int .u32 (.ofNat h)]⟩) t
def mixN(ws bs:Option (List Nat))(ok:Bool)(t:St):Rv:=match ws,bs with
 |some [a,b,c,d,e,f,g,h],some l=>cond ok (out8 (eb ⟨a,b,c,d,e,f,g,h⟩ l) t) .no
 |_,_=>.no
def bytesO(o:Option (List Value)):Option (List Nat):=match o with
 |some l=>bytesN l
 |none=>none
def sameO(o:Option (List Value)):Bool:=match o with
 |some l=>sameL l KV
 |none=>false
def mixH(G:Nat)(args:List Value)(t:St):Rv:=match args with
 |[.agg ws,.slice (some ⟨b,off,none⟩) n _]=>cond (Nat.beq n 64) (mixN (nats ws.toList) (bytesO (readAt t b off 64)) (sameO (readAt t G 0 64)) t) .no
 |_=>.no
theorem mixH_ok{P:Program}{N G:Nat}(hG:G<1000){f:FuncId}
  (hc:∀(w:World) (s:W8) (_:Ok8 s) (a:Option Addr) (b off c:Nat) (B:Nat→Nat) (_:View w a b off 64 (fun i=>(B i:Int))) (_:∀i,B i<256) (_:∀i,i<64→w.cell? ⟨G,i,none⟩=some (.int .u32 (K i))) (_:G<w.heap.size),
   Calls P f #[.agg (arr8 s),.slice a 64 c] w fun e w'=>e= .returned (.agg (arr8 (fold1 s B)))∧Below w.heap.size w w')
  {args args':List Value} {s s':St} {v:Value} {E:En} {w:World} (h:Go.Ev.Rel N E s w) (ha:VRs E args args') (hx:mixH G args s= .ok v s'):
  Calls P f ⟨args'⟩ w fun e w'=> ∃E' v',e= .returned v'∧VR E' v v'∧Stp N E s w E' s' w':=by
 unfold mixH at hx
 split at hx
 case h_2=>cases hx
 rename_i ws b off n c
 cases hn:Nat.beq n 64 with
 |false=>rw [hn]at hx;cases hx
 |true=>
 rw [hn]at hx
 have hn':=Nat.eq_of_beq_eq_true hn
 subst hn'
 have hx1:mixN (nats ws.toList) (bytesO (readAt s b off 64)) (sameO (readAt s G 0 64)) s= .ok v s':=hx
 unfold mixN at hx1
 split at hx1
 case h_2=>cases hx1
 rename_i a8 b8 c8 d8 e8 f8 g8 h8 l hws hbs
 cases hok:sameO (readAt s G 0 64)with
 |false=>rw [hok]at hx1;cases hx1
 |true=>
 rw [hok]at hx1
 cases ha with
 |cons _ p _ l' hp hl=>
 obtain⟨q,rfl,hq⟩:=hl.one_inv
 obtain⟨hb,c',rfl,_⟩:=hq.sl_inv
 obtain⟨ws',rfl,hww⟩:=hp.agg_inv
 obtain⟨n1,n2⟩:=nats_some hws
 have hok8:Ok8 ⟨a8,b8,c8,d8,e8,f8,g8,h8⟩:=⟨n2 _ (by simp),n2 _ (by simp),n2 _ (by simp),n2 _ (by simp),n2 _ (by simp),n2 _ (by simp),n2 _ (by simp),n2 _ (by simp)⟩
 have hws':ws'=ws.toList:=by
  refine VRs.plain_eq (p:=plain 1) (fun v v'=>plain_eq 1 v v') _ _ ?_ hww
  rw [n1]
  rfl
 unfold bytesO at hbs
 split at hbs
 case h_2=>cases hbs
 rename_i cells hcells
 obtain⟨m1,m2⟩:=bytesN_some hbs
 subst m1
 have hlen:l.length=64:=by
  have:=readAt_len hcells
  rwa[List.length_map]at this
 obtain⟨r',k1,k2⟩:=readAt_cell P h.obs hcells
 have e1:=k1.ints_eq
 subst e1
 unfold sameO at hok
 split at hok
 case h_2=>cases hok
 rename_i tab htab
 have e2:=sameL_eq hok
 subst e2
 obtain⟨t',j1,j2⟩:=readAt_cell P h.obs htab
 have e3:t'=KV:=VRs.plain_eq (p:=plain 1) (fun v v'=>plain_eq 1 v v') _ _ (by kernel_rfl) j1
 subst e3
 obtain⟨i1,i2⟩:=h.base G hG
 rw [i1,i2]at j2
 have hK:∀i,i<64→w.cell? ⟨G,i,none⟩=some (.int .u32 (K i)):=by
  intro i hi
  have:=j2 i (.int .u32 (K i)) (by
   unfold KV
   rw [List.getElem?_map,KL_get i hi,Nat.zero_add]
   rfl)
  simpa using this
 have hlt:G<w.heap.size:=World.block_lt_of_cell? _ _ (hK 0 (by decide))
 have hV:View w (some ⟨E.ι b,E.sh b+off,none⟩) (E.ι b) (E.sh b+off) 64 (fun i=>((l.getD i 0:Nat):Int)):=by
  refine⟨fun _=>rfl,fun i hi=>?_,fun i hi=>?_,by decide⟩
  ·have hg:l[i]? =some (l.getD i 0):=by
    rw [List.getD_eq_getElem?_getD,List.getElem?_eq_getElem (by omega)];rfl
   exact k2 i _ (by rw [List.getElem?_map,hg];rfl)
  ·have:l.getD i 0<256:=by
    rw [List.getD_eq_getElem?_getD,List.getElem?_eq_getElem (by omega)]
    exact m2 _ (List.getElem_mem _)
   omega
 have hB:∀i,l.getD i 0<256:=by
  intro i
  rcases Nat.lt_or_ge i l.length with hi|hi
  ·rw [List.getD_eq_getElem?_getD,List.getElem?_eq_getElem hi]
   exact m2 _ (List.getElem_mem _)
  ·rw [List.getD_eq_getElem?_getD,List.getElem?_eq_none hi];decide
 have hrange:l=(List.range 64).map fun i=>l.getD i 0:=by
  apply List.ext_getElem?
  intro i
  rw [List.getElem?_map]
  rcases Nat.lt_or_ge i 64 with hi|hi
  ·rw [List.getElem?_range hi,List.getElem?_eq_getElem (by omega),Option.map_some,List.getD_eq_getElem?_getD,List.getElem?_eq_getElem (by omega)];rfl
  ·rw [List.getElem?_eq_none (by omega),List.getElem?_eq_none (by simpa using hi)];rfl
 have hx2:out8 (eb ⟨a8,b8,c8,d8,e8,f8,g8,h8⟩ l) s= .ok v s':=hx1
 rw [hrange,eb_eq]at hx2
 have call:=hc w ⟨a8,b8,c8,d8,e8,f8,g8,h8⟩ hok8 (some ⟨E.ι b,E.sh b+off,none⟩) (E.ι b) (E.sh b+off) c' (fun i=>l.getD i 0) hV hB hK hlt
 rw [show (⟨[.agg ⟨ws'⟩,.slice (some ⟨E.ι b,E.sh b+off,none⟩) 64 c']⟩:Array Value)= #[.agg (arr8 ⟨a8,b8,c8,d8,e8,f8,g8,h8⟩),.slice (some ⟨E.ι b,E.sh b+off,none⟩) 64 c']by rw [hws',n1];rfl]
 refine call.mono fun e w' ⟨he,hbel⟩=>?_
 refine⟨E,_,he,?_,?_⟩
 ·generalize fold1 ⟨a8,b8,c8,d8,e8,f8,g8,h8⟩ (fun i=>l.getD i 0)=z at hx2
  obtain⟨a,b,c,d,e,f,g,h⟩:=z
  cases hx2
  exact plain_VR E 2 _ rfl
 ·have es:s'=s:=by
   generalize fold1 ⟨a8,b8,c8,d8,e8,f8,g8,h8⟩ (fun i=>l.getD i 0)=z at hx2
   obtain⟨a,b,c,d,e,f,g,h⟩:=z
   cases hx2
   rfl
  subst es
  exact stp_below h hbel
def hooks(f:FuncId):Option (List Value→St→Rv):=
 cond (Nat.beq f 90) (some (mixH 2)) (cond (Nat.beq f 50) (some (mixH 0)) none)
theorem hooks_ok{N:Nat}:HookOk N Tryz.prog hooks:=by
 intro f g hf args args' s s' v E w h ha hx
 unfold hooks at hf
 cases h1:Nat.beq f 90 with
 |true=>
  rw [h1]at hf
  cases hf
  obtain rfl:=Nat.eq_of_beq_eq_true h1
  exact mixH_ok (by decide) (fun w s hs a b off c B hv hB hK hw=>folded_any w s hs a b off c B hv hB hK hw) h ha hx
 |false=>
  rw [h1]at hf
  cases h2:Nat.beq f 50 with
  |true=>
   rw [h2]at hf
   cases hf
   obtain rfl:=Nat.eq_of_beq_eq_true h2
   exact mixH_ok (by decide) (fun w s hs a b off c B hv hB hK hw=>mixed_any w s hs a b off c B hv hB hK hw) h ha hx
  |false=>rw [h2]at hf;cases hf
open Go Go.Ev Go.ChangeShapes Go.WideShapes Go.ChangeAt Go.RowKit
theorem own:ownKnob Tryz.prog.godebug=none:=by kernel_rfl
theorem mixed: Tryz.prog.follows .mixedOrders=true:=by kernel_rfl
theorem tab_of{W:World}{name:String}{k:IntKind}{zs:List Int}{g:Nat}{t e:TypeId}{n:Nat}
  (hg: Tryz.prog.globalNamed name=some g) (hty:(Tryz.prog.globals[g]?).map (·.type)=some t) (ht: Tryz.prog.underlying t=some (.array n e)) (he: Tryz.prog.underlying e=some (.int k)) (hce: Tryz.prog.cellsOf e=1) (hct: Tryz.prog.cellsOf t=n)
  (h:Lib.VarReads Tryz.prog W name (Lib.tabData k zs)):Lib.TabIs Tryz.prog W name k zs:=by
 obtain⟨g',t',cs,fuel,p,hg',ht',hvar,hd⟩:=h
 obtain rfl:=Option.some.inj (hg.symm.trans hg')
 obtain rfl:=Option.some.inj (hty.symm.trans ht')
 unfold Lib.TabIs
 rw [hvar,←Lib.cells_of_tab ht he hce hct hd]
def HL:List Nat:=[1779033703,3144134277,1013904242,2773480762,1359893119,2600822924,528734635,1541459225]
def HV:List Value:=HL.map fun n=>.int .u32 (.ofNat n)
def HI:List Int:=[1779033703,3144134277,1013904242,2773480762,1359893119,2600822924,528734635,1541459225]
def KI:List Int:=[1116352408,1899447441,3049323471,3921009573,961987163,1508970993,2453635748,2870763221,3624381080,310598401,607225278,1426881987,1925078388,2162078206,2614888103,3248222580,3835390401,4022224774,264347078,604807628,770255983,1249150122,1555081692,1996064986,2554220882,2821834349,2952996808,3210313671,3336571891,3584528711,113926993,338241895,666307205,773529912,1294757372,1396182291,1695183700,1986661051,2177026350,2456956037,2730485921,2820302411,3259730800,3345764771,3516065817,3600352804,4094571909,275423344,430227734,506948616,659060556,883997877,958139571,1322822218,1537002063,1747873779,1955562222,2024104815,2227730452,2361852424,2428436474,2756734187,3204031479,3329325298]
theorem tab_heap{W:World}{name:String}{g:Nat}{zs:List Int}{ns:List Nat}(hg: Tryz.prog.globalNamed name=some g)(h:Lib.TabIs Tryz.prog W name .u32 zs)(hz:zs=ns.map fun n=>((n:Nat):Int))(hn:0<ns.length):
  ∃c t fr,W.heap[g]? =some (.cells c t fr)∧∀(i:Nat) (v:Value),(ns.map fun n=>(Value.int .u32 (.ofNat n)))[i]? =some v→c[i]? =some v∧plain 1 v=true:=by
 have hc:∀i,i<ns.length→W.cell? ⟨g,i,none⟩=some (.int .u32 (.ofNat (ns.getD i 0))):=by
  intro i hi
  have:=h.cell hg i (by rw [hz,List.length_map];exact hi)
  rw [this,hz,List.getD_eq_getElem?_getD,List.getElem?_map,List.getD_eq_getElem?_getD,List.getElem?_eq_getElem hi]
  rfl
 have h0:=hc 0 hn
 unfold World.cell? at h0
 split at h0
 case h_2=>cases h0
 rename_i c t fr hw
 refine⟨c,t,fr,hw,fun i v hv=>?_⟩
 rw [List.getElem?_map]at hv
 rcases Nat.lt_or_ge i ns.length with hi|hi
 ·rw [List.getElem?_eq_getElem hi]at hv
  cases hv
  have h1:=hc i hi
  unfold World.cell? at h1
  rw [hw]at h1
  rw [List.getD_eq_getElem?_getD,List.getElem?_eq_getElem hi]at h1
  exact⟨h1,rfl⟩
 ·rw [List.getElem?_eq_none hi]at hv;cases hv
theorem gFirst: Tryz.prog.globalNamed "cairn/sha.first" =some 1 :=by kernel_rfl
theorem gRoots: Tryz.prog.globalNamed "cairn/sha.roots" =some 2 :=by kernel_rfl
theorem gRounds: Tryz.prog.globalNamed "cairn/cairnref02.rounds" =some 0 :=by kernel_rfl
theorem tFirst:(Tryz.prog.globals[1]?).map (·.type)=some 103 :=by kernel_rfl
theorem tRoots:(Tryz.prog.globals[2]?).map (·.type)=some 135 :=by kernel_rfl
theorem tRounds:(Tryz.prog.globals[0]?).map (·.type)=some 135 :=by kernel_rfl
theorem cells32: Tryz.prog.cellsOf 68 =1:=by kernel_rfl
theorem cells8: Tryz.prog.cellsOf 103 =8:=by kernel_rfl
theorem cells64: Tryz.prog.cellsOf 135 =64:=by kernel_rfl
def tabs:List (Nat×List Value):=[(1,HV),(2,KV),(0,KV)]
theorem tabs_met{W:World}{l:List (String×DataW Unit)}(h:laidMet Tryz.prog l W)(m1:("cairn/sha.first",Rows.laid_cairn_sha_first)∈l)(m2:("cairn/sha.roots",Rows.laid_cairn_sha_roots)∈l)(m3:("cairn/cairnref02.rounds",Rows.laid_cairn_cairnref02_rounds)∈l):
  ∀p∈tabs,p.1<1000∧∃c t fr,W.heap[p.1]? =some (.cells c t fr)∧∀(i:Nat) (v:Value),p.2[i]? =some v→c[i]? =some v∧plain 1 v=true:=by
 have t1:Lib.TabIs Tryz.prog W "cairn/sha.first" .u32 HI:=tab_of gFirst tFirst Tryz.underlying103 Tryz.underlying68 cells32 cells8 (Lib.laidMet.reads h m1)
 have t2:Lib.TabIs Tryz.prog W "cairn/sha.roots" .u32 KI:=tab_of gRoots tRoots Tryz.underlying135 Tryz.underlying68 cells32 cells64 (Lib.laidMet.reads h m2)
 have t3:Lib.TabIs Tryz.prog W "cairn/cairnref02.rounds" .u32 KI:=tab_of gRounds tRounds Tryz.underlying135 Tryz.underlying68 cells32 cells64 (Lib.laidMet.reads h m3)
 intro p hp
 rcases List.mem_cons.1 hp with rfl|hp
 ·exact⟨by decide,tab_heap (ns:=HL) gFirst t1 (by kernel_rfl) (by decide)⟩
 rcases List.mem_cons.1 hp with rfl|hp
 ·exact⟨by decide,tab_heap (ns:=KL) gRoots t2 (by kernel_rfl) (by decide)⟩
 rcases List.mem_cons.1 hp with rfl|hp
 ·exact⟨by decide,tab_heap (ns:=KL) gRounds t3 (by kernel_rfl) (by decide)⟩
 cases hp
def setCells(c:Array Value):Obj→Obj
 | .cells _ t frozen=>.cells c t frozen
 |o=>o
def LaidIs(os:Os)(V:World):Prop:=V={World.holding Tryz.prog os ⟨#[], #[],[]⟩with heap:=((((World.holding Tryz.prog os ⟨#[], #[],[]⟩).heap.modify 1 (setCells ⟨HV⟩)).modify 2 (setCells ⟨KV⟩)).modify 0 (setCells ⟨KV⟩))}
end Go.Proofs.YtnbdpcpgckfeeaaGreatDoor.Dg
namespace Go.Sy
open Go Go.Ev
theorem eqV4{q:Option Addr}{n c:Nat}:eqV 4 (.slice q n c) (.slice q n c)=true:=by
 show (q==q&&Nat.beq n n&&Nat.beq c c)=true
 rw [Nat.beq_refl,Nat.beq_refl,beq_self_eq_true];rfl
abbrev El:=(Value×Value)×Ety
section
variable{s0 s s':St}{b γ:Nat}{l:List El}
end
end Go.Sy
namespace Go.Sy
open Go Go.Ev
section
variable{X:Fx}{env:Env}{df:List Deferred}{s:St}{Q:Post}
structure meet{α:Type}(I:α→Env)(S:α→St)(ok:α→Prop)(df:List Deferred)(e:Ex)(env:Env)(df':List Deferred)(s':St):Prop where
 h:e= .normal∧∃i,ok i∧Sub (I i) env∧df'=df∧s'=S i
theorem meet.n{α:Type}{I:α→Env}{S:α→St}{ok:α→Prop}(i:α)(h:ok i)(h1:Sub (I i) env)(h2:s=S i):meet I S ok df .normal env df s:=⟨rfl,i,h,h1,rfl,h2⟩
theorem meet.go{α:Type}{I:α→Env}{S:α→St}{ok:α→Prop}{rest:Code}(k:∀i,ok i→W X rest (I i) df (S i) Q){e:Ex}{env':Env}{df':List Deferred}{s':St}(m:meet I S ok df e env' df' s'):andThen X rest Q e env' df' s':=by
 obtain⟨rfl,i,hi,hs,rfl,rfl⟩:=m.h
 exact andThen.n ((k i hi).sub hs)
theorem W.meet{α:Type}(I:α→Env)(S:α→St)(ok:α→Prop){c rest:Code}(h:W X c env df s (meet I S ok df))(k:∀i,ok i→W X rest (I i) df (S i) Q):W X c env df s (andThen X rest Q):=⟨h.w.mono fun _ _ _ _ m=>m.go k⟩
end
theorem half_ok{i j:Nat}(h:i+j<2^62):wrapN .i64 (Nat.shiftRight (Nat.mod (i+j) 18446744073709551616) 1)=some ((i+j)/2):=by
 have e:Nat.shiftRight (Nat.mod (i+j) 18446744073709551616) 1=(i+j)/2:=by
  rw [show Nat.mod (i+j) 18446744073709551616=i+j from Nat.mod_eq_of_lt (by omega)]
  show (i+j)>>>1=_
  rw [Nat.shiftRight_eq_div_pow]
 rw [e]
 exact wrapI (by omega)
section
variable{α:Type}{f:α→List Nat}
end
end Go.Sy
namespace Go.Sy
open Go Go.Ev
def strB(A:List Nat):ByteArray:=⟨⟨A.map UInt8.ofNat⟩⟩
theorem strB_inj{A D:List Nat}(hA:∀x∈A,x<256)(hD:∀x∈D,x<256)(h:strB A=strB D):A=D:=by
 have h1:A.map UInt8.ofNat=D.map UInt8.ofNat:=by injection h with h;injection h
 induction A generalizing D with
 |nil=>cases D with
  |nil=>rfl
  |cons=>cases h1
 |cons a A ih=>cases D with
  |nil=>cases h1
  |cons d D=>
   simp only[List.map_cons,List.cons.injEq]at h1
   have e:a=d:=by
    have:=congrArg UInt8.toNat h1.1
    rw [UInt8.toNat_ofNat',UInt8.toNat_ofNat']at this
    have ha:=hA a List.mem_cons_self
    have hd:=hD d List.mem_cons_self
    rwa[Nat.mod_eq_of_lt ha,Nat.mod_eq_of_lt hd]at this
   rw [e,ih (fun x hx=>hA x (List.mem_cons_of_mem _ hx)) (fun x hx=>hD x (List.mem_cons_of_mem _ hx)) (by unfold strB;rw [h1.2]) h1.2]
theorem bytesOf_map:∀A:List Nat,bytesOf (A.map nB)=some (A.map UInt8.ofNat)
 |[]=>rfl
 |a::A=>by
  show (match bytesOf (A.map nB)with|some bs=>some (UInt8.ofNat a::bs)|none=>none)=_
  rw [bytesOf_map A];rfl
section
variable{X:Fx}{env:Env}{s:St}
theorem Xv.b2s{src dst t0 n e t1 n1 t2 n2:Nat}{z z1 z2:Option (List Value)}{x:Operand}{q:Option Addr}{c:Nat}{A:List Nat}(hs:tk X.B.T src=some ⟨t0,n,.sl e,z⟩)(he:tk X.B.T e=some ⟨t1,n1,.it .u8,z1⟩)(hd:tk X.B.T dst=some ⟨t2,n2,.str,z2⟩)(hx:ev env x=some (.slice q A.length c))(hA:Bs s q A):Xv X (.convert src dst x) env s (.string (strB A)) s:=fun tm hf=>by
 show xConv X.P src dst (opd tm x) s=_
 rw [ev_opd hf hx]
 have h1:X.P.underlying src=some (.slice e):=X.B.un hs
 have h2:X.P.underlying dst=some .string:=X.B.un hd
 have h3:X.P.underlying e=some (.int .u8):=X.B.un he
 unfold xConv
 simp only[h1,h2]
 unfold toStr
 simp only[h3,isU8,cond,hA.cells,bytesOf_map]
 rfl
theorem beq_str(a b:ByteArray):(a.toList==b.toList)=decide (a=b):=by
 rw [ByteArray.toList_eq,ByteArray.toList_eq]
 obtain⟨⟨x⟩⟩:=a
 obtain⟨⟨y⟩⟩:=b
 by_cases h:x=y
 ·subst h;rw [decide_eq_true rfl];exact beq_self_eq_true _
 ·rw [decide_eq_false fun e=>h (by injection e with e;injection e)];exact beq_eq_false_iff_ne.2 h
theorem Xv.seq{t t':TypeId}{x y:Operand}{a b:ByteArray}(hx:ev env x=some (.string a))(hy:ev env y=some (.string b)):Xv X (.binOp .eql t x y t') env s (.bool (decide (a=b))) s:=fun tm hf=>by
 show xBin X.P .eql t x y (opd tm x) (opd tm y) s=_
 rw [ev_opd hf hx,ev_opd hf hy]
 show okB (a.toList==b.toList) s=_
 rw [beq_str];cases decide (a=b)<;>rfl
end
end Go.Sy
namespace Go.Sy
open Go Go.Ev
end Go.Sy
namespace Go.Sy
open Go Go.Ev
section
variable{X:Fx}{env:Env}{df:List Deferred}{s:St}{Q:Post}{all os:List Oper}{d:Option Nat}{ty:TypeId}{pos:String}{af:Array Edge}{g:Option (Nat×Bool)}
theorem Gw.any{s s':St}{q:Option Addr}{n c size γ γ':Nat}{cs:List Value}(h:Gw s q n c size cs γ)(hq:q=none):Gw s' q n c size cs γ':=by
 rcases h.at' with e|⟨b,g,e,_⟩
 ·exact⟨h.len,.inl e⟩
 ·rw [hq]at e;cases e
theorem Gw.keep{C:Nat→Prop}{s s':St}{q:Option Addr}{n c size γ:Nat}{cs:List Value}(h:Gw s q n c size cs γ)(w:Wf s)(k:Kp C s s')(hc:q≠none→¬C γ):Gw s' q n c size cs γ:=by
 by_cases hq:q=none
 ·exact h.any hq
 ·exact h.kp w k (hc hq)
theorem Gw.ltn{s:St}{q:Option Addr}{n c size γ:Nat}{cs:List Value}(h:Gw s q n c size cs γ)(w:Wf s)(hq:q≠none):γ<s.nx:=by
 rcases h.at' with e|⟨b,g,_,h1,h2,_⟩
 ·exact absurd e.1 hq
 ·rw [←h2];exact(w.lt b _ h1).2
theorem Xv.app2{x y:Operand}{t u e n0 nu size:Nat}{z0 zu:Option (List Value)}{z:List Value}{t0 t1 tu:Nat}{ke ku:Sh}(ht:tk X.B.T t=some ⟨t0,n0,.sl e,z0⟩)(he:tk X.B.T e=some ⟨t1,size,ke,some z⟩)(hu:tk X.B.T u=some ⟨tu,nu,ku,zu⟩)(hn:notI ku=true)(h0:Nat.blt 0 size=true)
  {q:Option Addr} {n c:Nat} {v:Value} {γ k:Nat} {cs new:List Value} (hx:ev env x=some (.slice q n c)) (hy:ev env y=some v) (w:Wf s) (hg:Gw s q n c size cs γ) (hk:lenOfV v=some k) (hv:cellsFrom s size k v=some new) (hl:new.length=k*size) (h1:∀v∈new,Ev.one v=true) {y0:Nat} (hV:lkV X.B.V e=some y0) (hr:(5*(n+k)+3072)*y0≤1125899906842624) (hb:n+k≤4611686018427387904):
  ∃q' c' γ' s',Xv X (.call ⟨.builtin .append, #[x,y], #[t,u]⟩) env s (.slice q' (n+k) c') s'∧Gw s' q' (n+k) c' size (cs++new) γ'∧Kp (fun c=>q≠none∧c=γ) s s'∧((q≠none∧γ'=γ)∨γ'=s.nx):=by
 by_cases hq:q=none
 ·obtain⟨q',c',γ',s',a,b,k1,k2,_⟩:=Xv.app (X:=X) (env:=env) ht he hu hn h0 hx hy w (hg.any (s':=s) (γ':=s.nx) hq) hk hv hl h1 hV hr hb
  refine⟨q',c',γ',s',a,b,(Kp.new (N:=s.nx) .refl (k1.mono fun c e=>Nat.le_of_eq e.symm) (Nat.le_refl _)).mono fun _ e=>e.elim,.inr ?_⟩
  rcases k2 with k2|⟨k2,_⟩<;>exact k2
 ·obtain⟨q',c',γ',s',a,b,k1,k2,_⟩:=Xv.app (X:=X) (env:=env) ht he hu hn h0 hx hy w hg hk hv hl h1 hV hr hb
  refine⟨q',c',γ',s',a,b,k1.mono fun c e=>⟨hq,e⟩,?_⟩
  rcases k2 with k2|⟨k2,_⟩
  ·exact .inl ⟨hq,k2⟩
  ·exact .inr k2
theorem Wo.app2{x y:Operand}{t u e n0 nu size:Nat}{z0 zu:Option (List Value)}{z:List Value}{t0 t1 tu:Nat}{ke ku:Sh}(hgd:wantsE all env g=some true)(ht:tk X.B.T t=some ⟨t0,n0,.sl e,z0⟩)(he:tk X.B.T e=some ⟨t1,size,ke,some z⟩)(hu:tk X.B.T u=some ⟨tu,nu,ku,zu⟩)(hn:notI ku=true)(h0:Nat.blt 0 size=true)(hd:dOk X d=true)
  {q:Option Addr} {n c:Nat} {v:Value} {γ k:Nat} {cs new:List Value} (hx:ev env x=some (.slice q n c)) (hy:ev env y=some v) (w:Wf s) (hg:Gw s q n c size cs γ) (hk:lenOfV v=some k) (hv:cellsFrom s size k v=some new) (hl:new.length=k*size) (h1:∀v∈new,Ev.one v=true) {y0:Nat} (hV:lkV X.B.V e=some y0) (hr:(5*(n+k)+3072)*y0≤1125899906842624) (hb:n+k≤4611686018427387904)
  (K:∀q' c' γ' s',Gw s' q' (n+k) c' size (cs++new) γ'→Kp (fun c=>q≠none∧c=γ) s s'→((q≠none∧γ'=γ)∨γ'=s.nx)→Wo X all os (up d (.slice q' (n+k) c') env) df s' Q):
  Wo X all (⟨d,.call ⟨.builtin .append, #[x,y], #[t,u]⟩,ty,pos,af,g⟩::os) env df s Q:=by
 obtain⟨q',c',γ',s',a,b,c1,d1⟩:=Xv.app2 (X:=X) (env:=env) ht he hu hn h0 hx hy w hg hk hv hl h1 hV hr hb
 exact Wo.val hgd a hd (K q' c' γ' s' b c1 d1)
theorem Wd.app2{i m:Nat}{L:List Sp}{past:Past}{x y:Operand}{t u e n0 nu size:Nat}{z0 zu:Option (List Value)}{z:List Value}{t0 t1 tu:Nat}{ke ku:Sh}(hgd:wantsE all env g=some true)(ht:tk X.B.T t=some ⟨t0,n0,.sl e,z0⟩)(he:tk X.B.T e=some ⟨t1,size,ke,some z⟩)(hu:tk X.B.T u=some ⟨tu,nu,ku,zu⟩)(hn:notI ku=true)(h0:Nat.blt 0 size=true)(hd:dOk X d=true)
  {q:Option Addr} {n c:Nat} {v:Value} {γ k:Nat} {cs new:List Value} (hx:ev env x=some (.slice q n c)) (hy:ev env y=some v) (w:Wf s) (hg:Gw s q n c size cs γ) (hk:lenOfV v=some k) (hv:cellsFrom s size k v=some new) (hl:new.length=k*size) (h1:∀v∈new,Ev.one v=true) {y0:Nat} (hV:lkV X.B.V e=some y0) (hr:(5*(n+k)+3072)*y0≤1125899906842624) (hb:n+k≤4611686018427387904)
  (K:∀q' c' γ' s',Gw s' q' (n+k) c' size (cs++new) γ'→Kp (fun c=>q≠none∧c=γ) s s'→((q≠none∧γ'=γ)∨γ'=s.nx)→Wd X all L ((some i,s')::past) (up d (.slice q' (n+k) c') env) df s' Q):
  Wd X all (.mk .acts i ⟨d,.call ⟨.builtin .append, #[x,y], #[t,u]⟩,ty,pos,af,g⟩ m::L) past env df s Q:=by
 obtain⟨q',c',γ',s',a,b,c1,d1⟩:=Xv.app2 (X:=X) (env:=env) ht he hu hn h0 hx hy w hg hk hv hl h1 hV hr hb
 exact Wd.act hgd a hd c1.le (K q' c' γ' s' b c1 d1)
end
structure Ce where
 q:Option Addr
 c:Nat
 γ:Nat
 A:List Nat
def Ce.v(x:Ce):Value:=.slice x.q x.A.length x.c
abbrev EC:=List (Ce×Ce)
def efl(M:EC):List Ce:=M.flatMap fun p=>[p.1,p.2]
def ecs(M:EC):List Value:=M.flatMap fun p=>[p.1.v,p.2.v]
end Go.Sy
namespace Go.Sy
open Go Go.Ev
theorem pureRun_bind{α β:Type}{P:Program}(m:Sem α)(f:α→Sem β):pureRun P (m>>=f)=(match pureRun P m with|some a=>pureRun P (f a)|none=>none):=by
 induction m with
 |pure a=>rfl
 |program k ih=>exact ih P
 |_=>rfl
theorem pureRun_und{P:Program}{t:TypeId}{d:TypeDesc}(h:P.underlying t=some d):pureRun P (underlying t)=some d:=by
 show pureRun P (match P.underlying t with|some d=>pure d|none=>stuck "no such type")=_
 rw [h];rfl
theorem pureRun_size{P:Program}{t:TypeId}{n:Nat}(h:sizeOfT P t=some n):pureRun P (sizeOf t)=some n:=by
 unfold sizeOfT at h
 split at h
 case h_2=>cases h
 rename_i i hi
 cases h
 show pureRun P ((match P.info? t with|some i=>pure i|none=>stuck "no such type")>>=fun i=>pure i.size)=_
 rw [hi];rfl
section
variable{X:Fx}{env:Env}{s:St}
theorem Xv.slN{t t0 n0 e t1 size:Nat}{z0 z:Option (List Value)}{ke:Sh}{x y:Operand}{k:IntKind}(ht:tk X.B.T t=some ⟨t0,n0,.sl e,z0⟩)(he:tk X.B.T e=some ⟨t1,size,ke,z⟩)(hx:ev env x=some (.slice none 0 0))(hy:ev env y=some (.int k (.ofNat 0))):
  Xv X (.slice t x none (some y) none) env s (.slice none 0 0) s∧Xv X (.slice t x (some y) none none) env s (.slice none 0 0) s:=by
 have hu:X.P.underlying t=some (.slice e):=X.B.un ht
 have hs:sizeOfT X.P e=some size:=X.B.sz he
 constructor
 ·intro tm hf
  show xSlice X.P t (opd tm x) none (some (opd tm y)) none s=_
  rw [ev_opd hf hx,ev_opd hf hy]
  unfold xSlice
  simp only[hu]
  show ofPure X.P (Instr.slice t (.slice none 0 0) none (some (.int k (.ofNat 0))) none) s=_
  unfold ofPure Instr.slice
  rw [pureRun_bind,pureRun_und hu]
  simp only[Instr.sliceBounds,Instr.sliceBound,asIntOf,pureRun_bind,pureRun_size hs]
  rfl
 ·intro tm hf
  show xSlice X.P t (opd tm x) (some (opd tm y)) none none s=_
  rw [ev_opd hf hx,ev_opd hf hy]
  unfold xSlice
  simp only[hu]
  show ofPure X.P (Instr.slice t (.slice none 0 0) (some (.int k (.ofNat 0))) none none) s=_
  unfold ofPure Instr.slice
  rw [pureRun_bind,pureRun_und hu]
  simp only[Instr.sliceBounds,Instr.sliceBound,asIntOf,pureRun_bind,pureRun_size hs]
  rfl
theorem At.drop{s:St}{b o:Nat}{cs:List Value}(h:At s (some ⟨b,o,none⟩) cs){n:Nat}(hn:n≤cs.length):At s (some ⟨b,o+n,none⟩) (cs.drop n):=by
 rcases h with⟨rfl,h⟩|⟨b',o',h,hr⟩
 ·rcases h with h|⟨_,_,_,h⟩<;>cases h
 ·cases h
  obtain⟨l,h1,h2,h3⟩:=readAt_some hr
  refine .inr ⟨b,o+n,rfl,?_⟩
  rw [List.length_drop]at h2 ⊢
  rw [readAt_of h1 (by rw [List.length_drop];omega)]
  congr 1
  rw [h3,List.drop_take,List.drop_drop]
  congr 1
  rw [List.length_take,List.length_drop];omega
theorem Xv.slHi{t t0 n0 e t1 size:Nat}{z0 z:Option (List Value)}{ke:Sh}{x y:Operand}{k:IntKind}{q:Option Addr}{n c γ h:Nat}{cs:List Value}(ht:tk X.B.T t=some ⟨t0,n0,.sl e,z0⟩)(he:tk X.B.T e=some ⟨t1,size,ke,z⟩)(hx:ev env x=some (.slice q n c))(hy:ev env y=some (.int k (.ofNat h)))(hg:Gw s q n c size cs γ)(hh:h≤n)(hn:n<2^60):
  Xv X (.slice t x none (some y) none) env s (.slice q h c) s∧At s q (cs.take (h*size)):=by
 refine⟨?_,(hg.sl.at).take (by rw [hg.len];exact Nat.mul_le_mul_right _ hh)⟩
 rcases hg.at' with⟨rfl,rfl,rfl⟩|⟨b,g,rfl,h1,h2,h3⟩
 ·have h0:h=0:=by omega
  subst h0
  exact(Xv.slN ht he hx hy).1
 ·rcases h3 with rfl|rfl
  ·obtain⟨a1,a2,a3⟩:=cap_least (n:=n) (es:=size) (by omega)
   exact Xv.sl0 ht he hx hy (by rw [a1];exact hh) (fun h=>by rw [a2]at h;cases h)
  ·exact Xv.sl0 ht he hx hy (by rw [cap_sure.1];exact hh) (fun _=>by rw [cap_sure.1])
theorem Xv.slLo{t t0 n0 e t1 size:Nat}{z0 z:Option (List Value)}{ke:Sh}{x y:Operand}{k:IntKind}{q:Option Addr}{n c γ l:Nat}{cs:List Value}(ht:tk X.B.T t=some ⟨t0,n0,.sl e,z0⟩)(he:tk X.B.T e=some ⟨t1,size,ke,z⟩)(hx:ev env x=some (.slice q n c))(hy:ev env y=some (.int k (.ofNat l)))(hg:Gw s q n c size cs γ)(hh:l≤n)(hn:n<2^60):
  ∃q' c',Xv X (.slice t x (some y) none none) env s (.slice q' (n-l) c') s∧At s q' (cs.drop (l*size))∧(q'≠none→q≠none):=by
 rcases hg.at' with⟨rfl,rfl,rfl⟩|⟨b,g,rfl,h1,h2,h3⟩
 ·have h0:l=0:=by omega
  subst h0
  refine⟨none,0,(Xv.slN ht he hx hy).2,?_,id⟩
  have:=hg.len
  have hcs:cs=[]:=List.eq_nil_of_length_eq_zero (by omega)
  subst hcs
  exact .inl ⟨by simp,.inl rfl⟩
 ·have hA:=hg.sl.at
  have hd:At s (some ⟨b,0+l*size,none⟩) (cs.drop (l*size)):=hA.drop (by rw [hg.len];exact Nat.mul_le_mul_right _ hh)
  have base:∀tm,Fits env tm→exec X.P (.slice t x (some y) none none) tm s=ofO (slice2 size b 0 c l n) s:=fun tm hf=>by
   show xSlice X.P t (opd tm x) (some (opd tm y)) none none s=_
   rw [ev_opd hf hx,ev_opd hf hy]
   unfold xSlice
   simp only[show X.P.underlying t=_ from X.B.un ht,show sizeOfT X.P e=_ from X.B.sz he]
   rfl
  have hcap:capOf c=n:=by
   rcases h3 with rfl|rfl
   ·exact(cap_least (by omega)).1
   ·exact cap_sure.1
  have key:slice2 size b 0 c l n=cond (capSure c) (cond (Nat.beq n l) (mkSl b 0 (Nat.sub n l) (sure (Nat.sub n l))) (mkSl b (Nat.add 0 (Nat.mul l size)) (Nat.sub n l) (sure (Nat.sub n l)))) (cond (Nat.beq l 0) (mkSl b 0 n c) (cond (Nat.blt l n) (cond (Nat.beq (esOf c) size) (mkSl b (Nat.add 0 (Nat.mul l size)) (Nat.sub n l) (least (Nat.sub n l) size)) none) (some (.slice (some ⟨b,0,some 0⟩) 0 0)))):=by
   unfold slice2
   rw [hcap,show Nat.ble l n=true from Nat.ble_eq_true_of_le hh,show Nat.ble n n=true from Nat.ble_eq_true_of_le (Nat.le_refl _)];rfl
  have mk:∀o m d:Nat,mkSl b o m d=some (.slice (some ⟨b,o,none⟩) m d):=fun o m d=>by unfold mkSl;simp only[fN_eq]
  rcases h3 with rfl|rfl
  ·obtain⟨a1,a2,a3⟩:=cap_least (n:=n) (es:=size) (by omega)
   rw [a2,a3,Nat.beq_refl]at key
   by_cases hl0:l=0
   ·subst hl0
    refine⟨some ⟨b,0,none⟩,least n size,fun tm hf=>?_,by rw [Nat.zero_mul,List.drop_zero];exact hA,fun h=>h⟩
    rw [base tm hf,key]
    show ofO (mkSl b 0 n _) s=_
    rw [mk];rfl
   ·by_cases hln:l<n
    ·refine⟨some ⟨b,0+l*size,none⟩,least (n-l) size,fun tm hf=>?_,hd,fun _ h=>by cases h⟩
     rw [base tm hf,key,show Nat.beq l 0=false from by cases l with|zero=>exact absurd rfl hl0|succ n=>rfl,show Nat.blt l n=true from Nat.ble_eq_true_of_le hln]
     show ofO (mkSl b (0+l*size) (n-l) (least (n-l) size)) s=_
     rw [mk];rfl
    ·have hle:l=n:=by omega
     subst hle
     refine⟨some ⟨b,0,some 0⟩,0,fun tm hf=>?_,?_,fun _ h=>by cases h⟩
     ·rw [base tm hf,key,show Nat.beq l 0=false from by cases l with|zero=>exact absurd rfl hl0|succ n=>rfl,show Nat.blt l l=false from by rw [blt_dec];exact decide_eq_false (Nat.lt_irrefl _),Nat.sub_self]
      rfl
     ·exact .inl ⟨List.drop_eq_nil_of_le (by rw [hg.len];exact Nat.le_refl _),.inr ⟨b,0,0,rfl⟩⟩
  ·rw [cap_sure.2]at key
   by_cases hln:n=l
   ·subst hln
    refine⟨some ⟨b,0,none⟩,sure (n-n),fun tm hf=>?_,?_,fun _ h=>by cases h⟩
    ·rw [base tm hf,key,Nat.beq_refl]
     show ofO (mkSl b 0 (n-n) (sure (n-n))) s=_
     rw [mk];rfl
    ·rw [List.drop_eq_nil_of_le (by rw [hg.len];exact Nat.le_refl _)]
     have:=hA.take (n:=0) (Nat.zero_le _)
     rwa[List.take_zero]at this
   ·refine⟨some ⟨b,0+l*size,none⟩,sure (n-l),fun tm hf=>?_,hd,fun _ h=>by cases h⟩
    rw [base tm hf,key,show Nat.beq n l=false from by rw [beq_dec];exact decide_eq_false hln]
    show ofO (mkSl b (0+l*size) (n-l) (sure (n-l))) s=_
    rw [mk];rfl
end
section
variable{X:Fx}{env:Env}{df:List Deferred}{s:St}{Q:Post}{all os:List Oper}{d:Option Nat}{ty:TypeId}{pos:String}{af:Array Edge}{g:Option (Nat×Bool)}
end
end Go.Sy
namespace Go.Proofs.YtnbdpcpgckfeeaaGreatDoor
open Go Go.Ev Go.RowKit
set_option maxRecDepth 1000000 in
theorem whole:isT (run Tryz.prog Dg.hooks 400 (.call 10 []) (.mk (tables Dg.tabs) 1000 .nil))=true:=by kernel_rfl
end Go.Proofs.YtnbdpcpgckfeeaaGreatDoor
