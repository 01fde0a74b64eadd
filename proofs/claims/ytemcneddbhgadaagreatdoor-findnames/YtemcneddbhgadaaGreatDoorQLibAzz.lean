import Derived.Test.YtemcneddbhgadaaGreatDoorQMemzz
import Derived.Laws.Externs
import Derived.Lib.SliceRun
import Derived.Shelf.Abstract
namespace Go.Proofs.YtemcneddbhgadaaGreatDoor.Dg
open Go.RowKit
def u8 (x:Nat):UInt8:=((x:Int).toNat).toUInt8
def qhd (acc:ByteArray) (s:List Nat):ByteArray:=s.foldl (fun a x=>a.push (u8 x)) acc
theorem run_loadBytes (P:Program) (w:World) (b:Nat):∀(s:List Nat) (off:Nat) (acc:ByteArray),(∀i,i<s.length→w.cell? ⟨b,off+i,none⟩=some (.int .u8 (gd s i:Nat))) →
 (Extern.Bytes.loadBytes ⟨b,off,none⟩ s.length acc).run P w=.ok (qhd acc s) w
 | [],_,_,_=>rfl
 | x::s,off,acc,h=>by
  have h0:=h 0 (by simp)
  have ih:=run_loadBytes P w b s (off+1) (acc.push (u8 x)) (fun i hi=>by
   have:=h (i+1) (by simp;omega)
   rw [show off+1+i=off+(i+1) by omega]
   exact this)
  have ha:(⟨b,off,none⟩:Addr).add 1=⟨b,off+1,none⟩:=rfl
  have hl:(load ⟨b,off,none⟩).run P w=.ok (.int .u8 ((gd (x::s) 0:Nat):Int)) w:=by
   simp only [Nat.add_zero] at h0
   rw [run_load,h0]
  simp only [List.length_cons,Extern.Bytes.loadBytes,Sem.run_bind,hl,Result.andThen_ok,ha]
  exact ih
theorem qgo:∀(s:List Nat) (acc:ByteArray),(qhd acc s).data=acc.data++(s.map u8).toArray
 | [],acc=>by simp [qhd]
 | x::s,acc=>by
  have:=qgo s (acc.push (u8 x))
  unfold qhd at this ⊢
  rw [List.foldl_cons,this]
  simp [ByteArray.push,List.map_cons]
def ba (s:List Nat):ByteArray:=qhd .empty s
theorem qp8 (s:List Nat):(ba s).data=(s.map u8).toArray:=by
 unfold ba
 rw [qgo]
 show (#[]:Array UInt8)++_=_
 rw [Array.empty_append]
theorem qk7 (s:List Nat):(ba s).size=s.length:=by
 show (ba s).data.size=_
 rw [qp8]
 simp
theorem qmo (s:List Nat) (i:Nat) (h:i<s.length):(ba s)[i]! = u8 (gd s i):=by
 have h1:i<(ba s).size:=by rw [qk7];exact h
 rw [getElem!_pos (ba s) i h1]
 show (ba s).data[i]=_
 have:(ba s).data[i]?=some (u8 (gd s i)):=by
  rw [qp8]
  simp [List.getElem?_eq_getElem h,gd_get h]
 have h2:i<(ba s).data.size:=h1
 rw [Array.getElem?_eq_getElem h2] at this
 exact Option.some.inj this
theorem qmp {x:Nat} (h:x<256):(u8 x).toNat=x:=by
 unfold u8
 rw [Int.toNat_natCast]
 exact UInt8.toNat_ofNat_of_lt h
theorem qya {x y:Nat} (hx:x<256) (hy:y<256):u8 x<u8 y↔x<y:=by
 rw [UInt8.lt_iff_toNat_lt,qmp hx,qmp hy]
theorem qz2 {x y:Nat} (hx:x<256) (hy:y<256):(u8 x != u8 y)=(x != y):=by
 by_cases e:x=y
 ·subst e
  rw [bne_self_eq_false,bne_self_eq_false]
 ·have:u8 x≠u8 y:=fun q=>e (by rw [←qmp hx,←qmp hy,q])
  rw [bne_iff_ne.2 this,bne_iff_ne.2 e]
def cmpA (s t:List Nat):Int :=
 match (List.range (min s.length t.length)).find? fun i=>gd s i != gd t i with
 | some i=>if gd s i<gd t i then -1 else 1
 | none=>if s.length<t.length then -1 else if s.length > t.length then 1 else 0
theorem qp9:∀s t:List Nat,cmpA s t=cmpL s t
 | [],[]=>rfl
 | [],b::t=>by simp [cmpA,cmpL]
 | a::s,[]=>by simp [cmpA,cmpL]
 | a::s,b::t=>by
  have ih:=qp9 s t
  unfold cmpA at ih ⊢
  have em:min (a::s).length (b::t).length=min s.length t.length+1:=by simp only [List.length_cons];omega
  rw [em,List.range_succ_eq_map,List.find?_cons]
  have e0:(gd (a::s) 0 != gd (b::t) 0)=(a != b):=rfl
  rw [e0]
  by_cases e:a=b
  ·have e1:(a != b)=false:=by simp [e]
   rw [e1]
   simp only [List.find?_map]
   have e2:((fun i=>gd (a::s) i != gd (b::t) i) ∘ Nat.succ)=fun i=>gd s i != gd t i:=rfl
   rw [e2]
   simp only [cmpL,e,Nat.lt_irrefl,if_false]
   rw [←ih]
   cases (List.range (min s.length t.length)).find? fun i=>gd s i != gd t i with
   | none=>simp
   | some i=>rfl
  ·have e1:(a != b)=true:=by simp [e]
   rw [e1]
   show (if a<b then (-1:Int) else 1)=cmpL (a::s) (b::t)
   simp only [cmpL]
   by_cases h:a<b
   ·rw [if_pos h,if_pos h]
   ·rw [if_neg h,if_neg h,if_pos (by omega)]
theorem find_congr {α:Type} {p q:α→Bool}:∀{l:List α},(∀x∈l,p x=q x)→l.find? p=l.find? q
 | [],_=>rfl
 | a::l,h=>by
  rw [List.find?_cons,List.find?_cons,h a (by simp),find_congr (fun x hx=>h x (by simp [hx]))]
theorem qyb {s t:List Nat} (hs:∀x∈s,x<256) (ht:∀x∈t,x<256):Extern.BytealgCompare.cmp (ba s) (ba t)=cmpL s t:=by
 rw [←qp9]
 unfold Extern.BytealgCompare.cmp cmpA
 rw [qk7,qk7]
 have e:((List.range (min s.length t.length)).find? fun i=>(ba s)[i]! != (ba t)[i]!)=(List.range (min s.length t.length)).find? fun i=>gd s i != gd t i :=
  find_congr (fun i hi=>by
   have hi:=List.mem_range.1 hi
   rw [qmo s i (by omega),qmo t i (by omega),qz2 (gd_lt hs i) (gd_lt ht i)])
 rw [e]
 cases hf:(List.range (min s.length t.length)).find? fun i=>gd s i != gd t i with
 | none=>rfl
 | some i =>
  have hi:=List.mem_range.1 (List.mem_of_find?_eq_some hf)
  simp only []
  rw [qmo s i (by omega),qmo t i (by omega)]
  by_cases h:gd s i<gd t i
  ·rw [if_pos h,if_pos ((qya (gd_lt hs i) (gd_lt ht i)).2 h)]
  ·rw [if_neg h,if_neg (fun q=>h ((qya (gd_lt hs i) (gd_lt ht i)).1 q))]
theorem qhe {P:Program} {w:World} {a:Option Addr} {b off:Nat} {s:List Nat} (h:Vw w a b off s) (c:Nat):(Extern.Bytes.bytesOf (.slice a s.length c)).run P w=.ok (ba s) w:=by
 cases s with
 | nil=>cases a <;> rfl
 | cons x s =>
  rw [h.at_ (by simp)]
  exact run_loadBytes P w b (x::s) off .empty h.cell
theorem qk8 {P:Program} {w:World} {a a':Option Addr} {b off b' off':Nat} {s t:List Nat} (h:Vw w a b off s) (h':Vw w a' b' off' t) (c c':Nat) :
 (Extern.BytealgCompare.compare #[.slice a s.length c,.slice a' t.length c']).run P w=.ok (.int .i64 (cmpL s t)) w:=by
 show ((Extern.Bytes.bytesOf (.slice a s.length c)) >>= fun x=>(Extern.Bytes.bytesOf (.slice a' t.length c')) >>= fun y=>pure (goInt (Extern.BytealgCompare.cmp x y))).run P w=_
 simp only [Sem.run_bind,qhe h c,qhe h' c',Result.andThen_ok,Sem.run_pure,qyb (vw_ok h).2 (vw_ok h').2]
 rfl
open Go.RowKit Go.Shelf
theorem qhf (w:World) (a a':Option Addr) (b off c b' off' c':Nat) (s t:List Nat) (h:Vw w a b off s) (h':Vw w a' b' off' t) :
 Calls Tryz.prog 96 #[.slice a s.length c,.slice a' t.length c'] w fun e w'=>e=.returned (.int .i64 (cmpL s t))∧w'=w:=by
 have hx:(callFunc 119 #[.slice a s.length c,.slice a' t.length c']).run Tryz.prog w=.ok (.value (.int .i64 (cmpL s t))) w:=by
  rw [run_callFunc_extern Tryz.func119 (by kernel_rfl) (by kernel_rfl) (by kernel_rfl) (e:=Extern.BytealgCompare.compare) (by kernel_rfl),qk8 h h' c c']
  rfl
 generalize cmpL s t=r at hx ⊢
 generalize s.length=n at hx ⊢
 generalize t.length=m at hx ⊢
 clear h h'
 go_enter Tryz.func96,Tryz.ntmps96
 go_wp2
 go_ret
 exact ⟨rfl,rfl⟩
theorem qqa (g i:Nat):(⟨g,0,none⟩:Addr).add i=⟨g,i,none⟩:=by
 unfold Addr.add
 split <;> simp_all
set_option maxRecDepth 1000000 in
set_option maxHeartbeats 1600000 in
theorem qk9 (w : World) (v : Value) (xs : List Value) (ls : List (List Nat)) (F : Nat → Prop) (own : w.ownsRow 0 33 1 v ls.length xs) (st : Strs w F xs ls) (hr : Ris ls) (hl : ls.length ≤ 1099511627776)
    (a:Option Addr) (b off c:Nat) (t:List Nat) (ht:Vw w a b off t) :
    Calls Tryz.prog 95 #[v,.slice a t.length c,.func (.func 96) #[] #[]] w fun e w'=>e=.returned (.tuple #[.int .i64 (pos t ls:Nat),.bool (decide (t∈ls))])∧w'=w:=by
  have eg:∀args w,(callFunc 96 args).run Tryz.prog w=.ok (.enter 96 args) w:=enters_of Tryz.func96 (by kernel_rfl) rfl
  have hp:=qup t ls
  have HF:Hid (t∈ls↔∃h:pos t ls<ls.length,ls[pos t ls]=t):=qpl hr
  have HG:Hid (∀i (hi:i<ls.length),i<pos t ls↔lt ls[i] t):=qky hr
  have HT:Hid (Vw w a b off t):=ht
  obtain ⟨K,hK⟩:∃K,K=pos t ls:=⟨_,rfl⟩
  rw [←hK] at hp HF HG ⊢
  clear hK ht
  obtain ⟨m,hm⟩:∃m,m=t.length:=⟨_,rfl⟩
  rw [←hm]
  have HM:Hid (m=t.length):=hm
  clear hm
  obtain ⟨N,hN⟩:∃N,N=ls.length:=⟨_,rfl⟩
  have HN:Hid (N=ls.length):=hN
  rw [←hN] at own hl hp
  clear hN
  obtain ⟨va,g,cap,rfl,hva,hcl⟩:∃va g cap,v=.slice va N cap∧(0<N→va=some ⟨g,0,none⟩)∧∀i u,i<N→xs[i]?=some u→w.cell? ⟨g,i,none⟩=some u:=by
    rcases own.2 with ⟨rfl,h0⟩ | ⟨g,cap,cur,rfl,_,hg,hnc,hcm,_,_⟩
    · exact ⟨none,0,0,by rw [h0],fun k=>by omega,fun i u hi=>by omega⟩
    · refine ⟨_,g,cap,rfl,fun _=>rfl,fun i u _ hu=>?_⟩
      have:=own.cells (g:=g) rfl i _ hu
      rwa [qqa] at this
  have HC:Hid (∀i,i<N→∃ua ub uc,∃s:List Nat,(∃hi:i<ls.length,ls[i]=s)∧w.cell? ⟨g,i,none⟩=some (.slice ua s.length uc)∧Vw w ua ub 0 s):=by
    intro i hi
    have hi':i<ls.length:=by have:=HN.out;omega
    obtain ⟨u,hu,su⟩:=st.get i hi'
    obtain ⟨ua,ub,uc,rfl,_,vu,_⟩:=su.view
    exact ⟨ua,ub,uc,ls[i],⟨hi',rfl⟩,hcl i _ hi hu,vu⟩
  clear own st hcl
  obtain ⟨ans,hans⟩:∃x,x=decide (t∈ls):=⟨_,rfl⟩
  rw [←hans]
  have HA:Hid (ans=decide (t∈ls)):=hans
  clear hans
  go_enter Tryz.func95,Tryz.ntmps95
  go_wp2_with fail
  go_loopg [9,10] N (fun gg i j wr=>∃lo hi:Nat,lo≤K∧K≤hi∧hi≤N∧gg=hi - lo∧i=.int .i64 lo∧j=.int .i64 hi∧wr=w)
  case atStart=>exact ⟨0,N,by omega,hp,by omega,by omega,rfl,rfl,rfl⟩
  case round =>
    obtain ⟨lo,hi,h1,h2,h3,rfl,rfl,rfl,rfl⟩:=hrel
    by_cases hlh:lo<hi
    · obtain rfl:=hva (by omega)
      obtain ⟨q,hq⟩:∃q,q=(lo+hi) / 2:=⟨_,rfl⟩
      have q1:lo≤q:=by omega
      have q2:q<hi:=by omega
      obtain ⟨ua,ub,uc,s,⟨hi1,hs1⟩,hcell,hvu⟩:=HC.out q (by omega)
      have hcmp:=qhf wr ua a ub 0 uc b off c s t hvu HT.out
      have HL:Hid (q<K↔cmpL s t<0):=by
        have:=HG.out q hi1
        rw [hs1] at this
        exact this
      rw [←HM.out] at hcmp
      clear hvu
      obtain ⟨r,hr'⟩:∃r,r=cmpL s t:=⟨_,rfl⟩
      rw [←hr'] at hcmp HL
      clear hr' hs1 hi1
      generalize s.length=sl at hcell hcmp
      have hsum:(lo:Int)+(hi:Int)=((lo+hi:Nat):Int):=by omega
      have hA:(0:Int)≤(lo:Int)+(hi:Int):=by omega
      have hB:(lo:Int)+(hi:Int)<18446744073709551616:=by omega
      have hw1:((lo:Int)+(hi:Int)) / 2=(q:Int):=by omega
      have q3:(q:Int)<(N:Int):=by omega
      clear hsum
      have HQ:Hid (q=(lo+hi) / 2):=hq
      clear hq
      by_cases hc:r<0
      · have HL2:Hid (q<K):=HL.out.2 hc
        clear HL
        go_wp2_with (go_at_call 96;refine hcmp.mono ?_;rintro _ _ ⟨rfl,rfl⟩)
        go_roundg (hi - (q+1))
        case measure=>omega
        case rel=>exact ⟨q+1,hi,HL2.out,h2,h3,rfl,by go_num,rfl,rfl⟩
      · have HL2:Hid (K≤q):=by
          have:¬q<K:=fun k=>hc (HL.out.1 k)
          show K≤q
          omega
        have hc':decide (r<0)=false:=decide_eq_false hc
        clear HL hc
        go_wp2_with (go_at_call 96;refine hcmp.mono ?_;rintro _ _ ⟨rfl,rfl⟩)
        go_roundg (q - lo)
        case measure=>omega
        case rel=>exact ⟨lo,q,h1,HL2.out,by omega,rfl,rfl,rfl,rfl⟩
    · have HE:Hid (lo=K):=by show lo=K;omega
      have hlq:¬(lo:Int)<(hi:Int):=by omega
      clear hlh
      by_cases hKN:lo<N
      · obtain rfl:=hva (by omega)
        obtain ⟨ua,ub,uc,s,⟨hi1,hs1⟩,hcell,hvu⟩:=HC.out lo hKN
        have hcmp:=qhf wr ua a ub 0 uc b off c s t hvu HT.out
        have HD:Hid (ans=decide (cmpL s t=0)):=by
          have e:(t∈ls)↔cmpL s t=0:=by
            rw [HF.out,qg5,←hs1]
            constructor
            · rintro ⟨h,k⟩
              rw [←k]
              congr 1
              try exact HE.out
            · intro k
              refine ⟨HE.out ▸ hi1,?_⟩
              rw [←k]
              congr 1
              try exact HE.out.symm
          show ans=decide (cmpL s t=0)
          rw [HA.out]
          by_cases k:cmpL s t=0
          · rw [decide_eq_true k,decide_eq_true (e.2 k)]
          · rw [decide_eq_false k,decide_eq_false (fun q=>k (e.1 q))]
        rw [←HM.out] at hcmp
        clear hvu hs1 hi1
        generalize cmpL s t=r at hcmp HD
        generalize s.length=sl at hcell hcmp
        have q3:(lo:Int)<(N:Int):=by omega
        clear h1 h2 h3
        go_wp2_with (go_at_call 96;refine hcmp.mono ?_;rintro _ _ ⟨rfl,rfl⟩)
        go_ret2
        rw [HD.out,HE.out]
        exact ⟨rfl,rfl⟩
      · have HD:Hid (ans=false):=by
          have:¬t∈ls:=fun k=>by
            obtain ⟨h,_⟩:=HF.out.1 k
            have:=HN.out
            have:=HE.out
            omega
          show ans=false
          rw [HA.out]
          exact decide_eq_false this
        have q3:¬(lo:Int)<(N:Int):=by omega
        clear h1 h2 h3
        go_wp2_with fail
        go_ret2
        rw [HD.out,HE.out]
        exact ⟨rfl,rfl⟩
end Go.Proofs.YtemcneddbhgadaaGreatDoor.Dg
