import GoSem.Machine.Exec
import GoSem.Extern.BytealgCompare
namespace Go.Ev
open Go
inductive D4 where
 |q0|q1|q2|q3
inductive Tr(α:Type) where
 |nil
 |node (v:Option α) (a b c d:Tr α)
def dig(k:Nat):D4:=cond (Nat.beq k 0) .q0 (cond (Nat.beq k 1) .q1 (cond (Nat.beq k 2) .q2 .q3))
def consD(x:D4)(l:List D4):List D4:=
 D4.casesOn x (List.casesOn l [.q0] fun x xs=>.q0::x::xs) (List.casesOn l [.q1] fun x xs=>.q1::x::xs) (List.casesOn l [.q2] fun x xs=>.q2::x::xs) (List.casesOn l [.q3] fun x xs=>.q3::x::xs)
def pathN(n:Nat):Nat→List D4:=
 Nat.rec (fun _=>[]) (fun _ ih k=>cond (Nat.beq k 0) [] (consD (dig (Nat.mod (Nat.sub k 1) 4)) (ih (Nat.div (Nat.sub k 1) 4)))) n
def path(k:Nat):List D4:=pathN (Nat.succ k) k
def getP{α:Type}:List D4→Tr α→Option α
 |[],t=>Tr.casesOn t none fun v _ _ _ _=>v
 |x::p,t=>Tr.casesOn t none fun _ a b c d=>D4.casesOn x (getP p a) (getP p b) (getP p c) (getP p d)
structure WayG(α:Type) where
 f:Tr α→Option α
structure WayS(α:Type) where
 f:α→Tr α→Tr α
def mkG{α:Type}:List D4→WayG α
 |[]=>⟨fun t=>Tr.casesOn t none fun v _ _ _ _=>v⟩
 |x::p=>D4.casesOn x ⟨fun t=>Tr.casesOn t none fun _ a _ _ _=>(mkG p).f a⟩ ⟨fun t=>Tr.casesOn t none fun _ _ b _ _=>(mkG p).f b⟩ ⟨fun t=>Tr.casesOn t none fun _ _ _ c _=>(mkG p).f c⟩ ⟨fun t=>Tr.casesOn t none fun _ _ _ _ d=>(mkG p).f d⟩
def Tr.get{α:Type}(t:Tr α)(k:Nat):Option α:=(mkG (path k)).f t
def nodeA{α:Type}(v:Option α)(a b c d:Tr α):Tr α:=Tr.casesOn a (.node v .nil b c d) fun v1 a1 b1 c1 d1=>.node v (.node v1 a1 b1 c1 d1) b c d
def nodeB{α:Type}(v:Option α)(a b c d:Tr α):Tr α:=Tr.casesOn b (.node v a .nil c d) fun v1 a1 b1 c1 d1=>.node v a (.node v1 a1 b1 c1 d1) c d
def nodeC{α:Type}(v:Option α)(a b c d:Tr α):Tr α:=Tr.casesOn c (.node v a b .nil d) fun v1 a1 b1 c1 d1=>.node v a b (.node v1 a1 b1 c1 d1) d
def nodeD{α:Type}(v:Option α)(a b c d:Tr α):Tr α:=Tr.casesOn d (.node v a b c .nil) fun v1 a1 b1 c1 d1=>.node v a b c (.node v1 a1 b1 c1 d1)
def setP{α:Type}(x:α):List D4→Tr α→Tr α
 |[],t=>Tr.casesOn t (.node (some x) .nil .nil .nil .nil) fun _ a b c d=>.node (some x) a b c d
 |y::p,t=>Tr.casesOn t (D4.casesOn y (nodeA none (setP x p .nil) .nil .nil .nil) (nodeB none .nil (setP x p .nil) .nil .nil) (nodeC none .nil .nil (setP x p .nil) .nil) (nodeD none .nil .nil .nil (setP x p .nil)))
  fun v a b c d=>D4.casesOn y (nodeA v (setP x p a) b c d) (nodeB v a (setP x p b) c d) (nodeC v a b (setP x p c) d) (nodeD v a b c (setP x p d))
def mkS{α:Type}:List D4→WayS α
 |[]=>⟨fun x t=>Tr.casesOn t (.node (some x) .nil .nil .nil .nil) fun _ a b c d=>.node (some x) a b c d⟩
 |y::p=>D4.casesOn y
  ⟨fun x t=>Tr.casesOn t (nodeA none ((mkS p).f x .nil) .nil .nil .nil) fun v a b c d=>nodeA v ((mkS p).f x a) b c d⟩
  ⟨fun x t=>Tr.casesOn t (nodeB none .nil ((mkS p).f x .nil) .nil .nil) fun v a b c d=>nodeB v a ((mkS p).f x b) c d⟩
  ⟨fun x t=>Tr.casesOn t (nodeC none .nil .nil ((mkS p).f x .nil) .nil) fun v a b c d=>nodeC v a b ((mkS p).f x c) d⟩
  ⟨fun x t=>Tr.casesOn t (nodeD none .nil .nil .nil ((mkS p).f x .nil)) fun v a b c d=>nodeD v a b c ((mkS p).f x d)⟩
def Tr.set{α:Type}(t:Tr α)(x:α)(k:Nat):Tr α:=(mkS (path k)).f x t
def fN{α:Type}(n:Nat)(k:Nat→α):α:=Nat.rec (k 0) (fun m _=>k (Nat.succ m)) n
def fI{α:Type}(n:Int)(k:Int→α):α:=Int.casesOn n (fun m=>fN m fun m=>k (.ofNat m)) (fun m=>fN m fun m=>k (.negSucc m))
inductive Ob where
 |row (cs:List Value) (g:Nat)
 |ro (cs:List Value)
 |map (es:List MapEntry) (clock:Nat)
 |loop (l:Loop) (n:Nat) (tm:Tr Value)
 |dfr (c:Option (List Deferred))
 |iter (m:Option Nat) (since:Nat) (seen:List Nat) (last:Nat)
 |dead
inductive St where
 |mk (hp:Tr Ob) (nx:Nat) (gr:Tr (List Nat))
inductive Ac where
 |mk (n:Nat) (tm:Tr Value) (df:List Deferred)
def orUndef(o:Option Value):Value:=Option.casesOn o undef fun v=>v
def one(v:Value):Bool:=match v with
 | .agg _=>false
 | .tuple _=>false
 | .chan none=>false
 |_=>true
def plain(n:Nat):Value→Bool:=
 Nat.rec (fun _=>false) (fun _ ih v=>match v with
  | .bool _| .int _ _| .float _ _| .string _| .pointer none| .slice none _ _| .map none| .nilFunc| .nilIface=>true
  | .iface _ v=>ih v
  | .agg cs=>cs.toList.all ih
  | .tuple cs=>cs.toList.all ih
  |_=>false) n
def constV(v:Value):Value:=cond (plain 5 v) v (.chan none)
def globV(g:Nat):Value:=cond (Nat.blt g 1000) (.pointer (some ⟨g,0,none⟩)) (.chan none)
def opd(tm:Tr Value)(x:Operand):Value:=
 Operand.casesOn x (fun t=>orUndef (tm.get t)) constV globV (fun f=>.func (.func f) #[] #[])
def fV{β:Type}(v:Value)(c:Value→β):β:=
 Value.casesOn (motive_1:=fun _=>(Value→β)→β) v (fun b c=>Bool.casesOn b (c (.bool false)) (c (.bool true))) (fun k n c=>c (.int k n)) (fun k n c=>c (.float k n)) (fun k a b c=>c (.complex k a b)) (fun s c=>c (.string s)) (fun a c=>c (.pointer a)) (fun a l n c=>c (.slice a l n))
  (fun r c=>c (.map r)) (fun r c=>c (.chan r)) (fun f x y c=>c (.func f x y)) (fun c=>c .nilFunc) (fun t v c=>c (.iface t v)) (fun c=>c .nilIface) (fun cs c=>c (.agg cs)) (fun cs c=>c (.tuple cs)) c
def cellsL(v:Value):Option (List Value):=match v with
 | .agg cs=>some cs.toList
 | .tuple _=>none
 | .chan _=>none
 |v=>fV v fun v=>some [v]
def setT(n:Nat)(tm:Tr Value)(df:List Deferred)(d:Nat)(v:Value):Option Ac:=
 cond (Nat.blt d n) (Tr.casesOn (tm.set v d) none fun y a b c d=>some (.mk n (.node y a b c d) df)) none
def put(d:Option Tmp)(n:Nat)(tm:Tr Value)(df:List Deferred)(v:Value):Option Ac:=
 Option.casesOn d (some (.mk n tm df)) fun d=>fV v fun v=>setT n tm df d v
def pureRun{α:Type}(P:Program):Sem α→Option α
 | .pure a=>some a
 | .program k=>pureRun P (k P)
 |_=>none
def consO(x:Value)(o:Option (List Value)):Option (List Value):=Option.casesOn o none fun ys=>some (x::ys)
def sp8(f:List Value→Option (List Value))(k:Nat):List Value→Option (List Value):=
 Nat.rec f (fun _ ih l=>List.casesOn l none fun a l=>List.casesOn l none fun b l=>List.casesOn l none fun c l=>List.casesOn l none fun d l=>List.casesOn l none fun e l=>List.casesOn l none fun g l=>List.casesOn l none fun h l=>List.casesOn l none fun i l=>
  Option.casesOn (ih l) none fun l=>some (a::b::c::d::e::g::h::i::l)) k
def take1(n:Nat):List Value→Option (List Value):=
 Nat.rec (fun _=>some []) (fun _ ih l=>List.casesOn l none fun x xs=>consO x (ih xs)) n
def takeO(n:Nat)(l:List Value):Option (List Value):=sp8 (take1 (Nat.mod n 8)) (Nat.div n 8) l
def drop1(n:Nat):List Value→List Value:=
 Nat.rec (fun l=>l) (fun _ ih l=>List.casesOn l [] fun _ xs=>ih xs) n
def drop8(k:Nat):List Value→List Value:=
 Nat.rec (fun l=>l) (fun _ ih l=>List.casesOn l [] fun _ l=>List.casesOn l [] fun _ l=>List.casesOn l [] fun _ l=>List.casesOn l [] fun _ l=>List.casesOn l [] fun _ l=>List.casesOn l [] fun _ l=>List.casesOn l [] fun _ l=>List.casesOn l [] fun _ l=>ih l) k
def dropL(n:Nat)(l:List Value):List Value:=drop1 (Nat.mod n 8) (drop8 (Nat.div n 8) l)
def headO(l:List Value):Option Value:=List.casesOn l none fun x _=>some x
def over:List Value→List Value→Option (List Value)
 |[],xs=>some xs
 |v::vs,xs=>List.casesOn xs none fun _ xs=>cond (one v) (consO v (over vs xs)) none
def splice1(vs:List Value)(n:Nat):List Value→Option (List Value):=
 Nat.rec (over vs) (fun _ ih l=>List.casesOn l none fun x xs=>consO x (ih xs)) n
def splice(vs:List Value)(n:Nat)(l:List Value):Option (List Value):=sp8 (splice1 vs (Nat.mod n 8)) (Nat.div n 8) l
def consS(x:Value)(l:List Value):List Value:=List.casesOn l [x] fun y ys=>x::y::ys
def appO:List Value→List Value→List Value
 |[],ys=>ys
 |x::xs,ys=>consS x (appO xs ys)
def repO(z:List Value)(n:Nat):List Value:=Nat.rec [] (fun _ ih=>appO z ih) n
def setO(hp:Tr Ob)(nx:Nat)(gr:Tr (List Nat))(b:Nat)(o:Ob):Option St:=
 Tr.casesOn (hp.set o b) none fun v a b c d=>some (.mk (.node v a b c d) nx gr)
def newO{β:Type}(s:St)(o:Ob)(k:Nat→St→Option β):Option β:=
 St.casesOn s fun hp nx gr=>cond (Nat.blt nx (Nat.succ nx)) (Tr.casesOn (hp.set o nx) none fun v a b c d=>fN (Nat.succ nx) fun n=>k nx (.mk (.node v a b c d) n gr)) none
def cutTo(n:Nat)(l:List Value):List Value:=Option.casesOn (takeO n l) l fun ys=>ys
def spoilL(b n:Nat):List Nat→St→Option St
 |[],s=>some s
 |m::ms,s=>cond (Nat.beq m b) (spoilL b n ms s) (match s with
  | .mk hp nx gr=>match hp.get m with
   |some (.row cs g)=>match setO hp nx gr m (.row (cutTo n cs) g)with
    |some s=>spoilL b n ms s
    |none=>none
   |_=>spoilL b n ms s)
def spoil(s:St)(g b n:Nat):Option St:=match s with
 | .mk hp nx gr=>match gr.get g with
  |none=>some (.mk hp nx gr)
  |some ms=>spoilL b n ms (.mk hp nx gr)
def readOb(off n:Nat)(o:Option Ob):Option (List Value):=match o with
 |some (.row cs _)=>takeO n (dropL off cs)
 |some (.ro cs)=>takeO n (dropL off cs)
 |_=>none
def readAt(s:St)(b off n:Nat):Option (List Value):=St.casesOn s fun hp _ _=>readOb off n (hp.get b)
def readOb1(off:Nat)(o:Option Ob):Option Value:=match o with
 |some (.row cs _)=>headO (dropL off cs)
 |some (.ro cs)=>headO (dropL off cs)
 |_=>none
def readAt1(s:St)(b off:Nat):Option Value:=St.casesOn s fun hp _ _=>readOb1 off (hp.get b)
def wrote(g b off:Nat)(s:Option St):Option St:=match s with
 |none=>none
 |some s=>cond (Nat.beq g 0) (some s) (spoil s g b off)
def writeOb(hp:Tr Ob)(nx:Nat)(gr:Tr (List Nat))(b off:Nat)(vs:List Value)(o:Option Ob):Option St:=match o with
 |some (.row cs g)=>match splice vs off cs with
  |none=>none
  |some cs=>wrote g b off (setO hp nx gr b (.row cs g))
 |_=>none
def writeAt(s:St)(b off:Nat)(vs:List Value):Option St:=
 List.casesOn vs (some s) fun v vs=>St.casesOn s fun hp nx gr=>writeOb hp nx gr b off (v::vs) (hp.get b)
def zeroOf(P:Program)(t:TypeId):Option Value:=match P.info? t with
 |some i=>i.zero
 |none=>none
def sizeOfT(P:Program)(t:TypeId):Option Nat:=match P.info? t with
 |some i=>some i.size
 |none=>none
def isAggT(P:Program)(t:TypeId):Option Bool:=match P.underlying t with
 |some (.struct _)=>some true
 |some (.array _ _)=>some true
 |some _=>some false
 |none=>none
inductive Nx where
 |val (v:Value)
 |enter (f:FuncId) (args:List Value)
 |round (l:Nat) (args:List Value)
 |defer (d:Deferred)
 |recover
inductive Re where
 |no
 |ok (x:Nx) (s:St)
def ofO(o:Option Value)(s:St):Re:=Option.casesOn o .no fun v=>.ok (.val v) s
def ofI(k:IntKind)(n:Int)(s:St):Re:=fI n fun n=>.ok (.val (.int k n)) s
def okB(b:Bool)(s:St):Re:=Bool.casesOn b (.ok (.val (.bool false)) s) (.ok (.val (.bool true)) s)
def ofV(v:Value)(s:St):Re:=match v with
 | .int k n=>ofI k n s
 | .bool b=>okB b s
 | .string t=>.ok (.val (.string t)) s
 | .slice none l c=>.ok (.val (.slice none l c)) s
 |_=>.no
def ofPure(P:Program)(m:Sem Value)(s:St):Re:=match pureRun P m with
 |some v=>ofV v s
 |none=>.no
def ofS(o:Option St):Re:=Option.casesOn o .no fun s=>.ok (.val undef) s
def loadG(P:Program)(s:St)(t:TypeId)(b off:Nat)(g:Option Bool):Option Value:=match g with
 |some true=>match sizeOfT P t with
  |some n=>match readAt s b off n with
   |some cs=>some (.agg ⟨cs⟩)
   |none=>none
  |none=>none
 |some false=>readAt1 s b off
 |none=>none
def loadT(P:Program)(s:St)(t:TypeId)(b off:Nat):Option Value:=loadG P s t b off (isAggT P t)
def natOf(v:Value):Option Nat:=match v with
 | .int _ (.ofNat n)=>some n
 |_=>none
def partG(P:Program)(t:TypeId)(cs:List Value)(off:Nat)(g:Option Bool):Option Value:=match g with
 |some true=>match sizeOfT P t with
  |some n=>match takeO n (dropL off cs)with
   |some cs=>some (.agg ⟨cs⟩)
   |none=>none
  |none=>none
 |some false=>headO (dropL off cs)
 |none=>none
def partT(P:Program)(t:TypeId)(cs:List Value)(off:Nat):Option Value:=partG P t cs off (isAggT P t)
def capSure(c:Nat):Bool:=Nat.beq (Nat.mod c 2) 1
def capOf(c:Nat):Nat:=cond (capSure c) (Nat.div c 2) (Nat.mod (Nat.div c 2) 18446744073709551616)
def esOf(c:Nat):Nat:=Nat.div (Nat.div c 2) 18446744073709551616
def sure(c:Nat):Nat:=Nat.succ (Nat.mul 2 c)
def least(c es:Nat):Nat:=Nat.mul 2 (Nat.add c (Nat.mul 18446744073709551616 es))
def bound(o:Option Value)(d:Nat):Option Nat:=match o with
 |none=>some d
 |some v=>natOf v
def mkSl(b o n c:Nat):Option Value:=fN o fun o=>fN n fun n=>fN c fun c=>some (.slice (some ⟨b,o,none⟩) n c)
def slice3(size b off c:Nat)(l h m:Nat):Option Value:=
 cond (Nat.ble l h&&Nat.ble h m&&Nat.ble m (capOf c))
  (cond (Nat.beq m l) (mkSl b off (Nat.sub h l) (sure (Nat.sub m l))) (mkSl b (Nat.add off (Nat.mul l size)) (Nat.sub h l) (sure (Nat.sub m l)))) none
def slice2(size b off c:Nat)(l h:Nat):Option Value:=
 cond (Nat.ble l h&&Nat.ble h (capOf c))
  (cond (capSure c)
   (cond (Nat.beq (capOf c) l) (mkSl b off (Nat.sub h l) (sure (Nat.sub (capOf c) l))) (mkSl b (Nat.add off (Nat.mul l size)) (Nat.sub h l) (sure (Nat.sub (capOf c) l))))
   (cond (Nat.beq l 0) (mkSl b off h c)
    (cond (Nat.blt l (capOf c)) (cond (Nat.beq (esOf c) size) (mkSl b (Nat.add off (Nat.mul l size)) (Nat.sub h l) (least (Nat.sub (capOf c) l) size)) none) (some (.slice (some ⟨b,0,some 0⟩) 0 0)))))
  none
def sliceRow(size b off len c:Nat)(lo hi mx:Option Value):Option Value:=
 match bound lo 0,bound hi len,mx with
 |some l,some h,none=>slice2 size b off c l h
 |some l,some h,some m=>match natOf m,hi with
  |some m,some _=>slice3 size b off c l h m
  |_,_=>none
 |_,_,_=>none
def bytesOf:List Value→Option (List UInt8)
 |[]=>some []
 | .int .u8 (.ofNat n)::vs=>match bytesOf vs with
  |some bs=>some (UInt8.ofNat n::bs)
  |none=>none
 |_=>none
def cellsFrom(s:St)(size n:Nat)(v:Value):Option (List Value):=match v with
 | .slice (some ⟨b,off,none⟩) _ _=>readAt s b off (Nat.mul n size)
 | .slice (some ⟨_,_,some _⟩) _ _=>cond (Nat.beq n 0) (some []) none
 | .slice none _ _=>cond (Nat.beq n 0) (some []) none
 | .string t=>cond (Nat.beq size 1&&Nat.ble n t.size) (some ((t.extract 0 n).data.toList.map fun b=>.int .u8 b.toNat)) none
 |_=>none
def lenOfV(v:Value):Option Nat:=match v with
 | .slice _ n _=>some n
 | .string t=>some t.size
 |_=>none
def okSl(b n c:Nat)(s:St):Re:=fN c fun c=>.ok (.val (.slice (some ⟨b,0,none⟩) n c)) s
def okLs(b n es:Nat)(s:St):Re:=cond (Nat.blt n 18446744073709551616) (okSl b n (least n es) s) .no
def ofR(o:Option Re):Re:=Option.casesOn o .no fun r=>r
def newSl(s:St)(cs:List Value)(n c:Nat):Re:=ofR (newO s (.row cs 0) fun b s=>some (okSl b n c s))
def newLs(s:St)(cs:List Value)(n es:Nat):Re:=ofR (newO s (.row cs 0) fun b s=>some (okLs b n es s))
def newPt(s:St)(cs:List Value):Re:=ofR (newO s (.row cs 0) fun b s=>some (.ok (.val (.pointer (some ⟨b,0,none⟩))) s))
def grpOf(g b:Nat):Nat:=cond (Nat.beq g 0) b g
def kill:List Nat→St→Option St
 |[],s=>some s
 |m::ms,s=>match s with
  | .mk hp nx gr=>match hp.get m with
   |none=>kill ms (.mk hp nx gr)
   |some _=>match setO hp nx gr m .dead with
    |some s=>kill ms s
    |none=>none
def others(b:Nat)(ms:List Nat):List Nat:=ms.filter fun m=>!Nat.beq m b
def membersOf(o:Option (List Nat)):List Nat:=match o with
 |some ms=>ms
 |none=>[]
def setG(s:St)(g:Nat)(ms:List Nat):Option St:=match s with
 | .mk hp nx gr=>Tr.casesOn (gr.set ms g) none fun v a b c d=>some (.mk hp nx (.node v a b c d))
def killL(os:List Nat):List Nat:=(os.drop 100).take (os.length-103)
def keepL(os:List Nat):List Nat:=os.take 100++(os.drop 100).drop (os.length-103)
def fK(s:St)(b g:Nat)(os:List Nat)(b':Nat):Option St:=match kill (killL os) s with
 |none=>none
 |some s=>setG s g (b'::b::keepL os)
def extend(s:St)(b g need es n:Nat)(old new:List Value):Re:=match s with
 | .mk hp nx gr=>fN (grpOf g b) fun g=>cond (Nat.blt 0 g&&Nat.blt g (Nat.succ g)) (match setO hp nx gr b (.row old g)with
  |none=>.no
  |some s=>match spoil s g b n with
   |none=>.no
   |some s=>match fK s b g (others b (membersOf (gr.get g))) nx with
    |none=>.no
    |some s=>ofR (newO s (.row (appO old new) g) fun b' s=>some (okLs b' need es s))) .no
def someOne(l:List Value):Bool:=match l with
 |[]=>false
 |v::vs=>one v&&vs.all one
def appendB(s:St)(size b off n c need:Nat)(new:List Value):Re:=
 cond (Nat.ble need (capOf c))
  (match writeAt s b (Nat.add off (Nat.mul n size)) new with
   |some s=>.ok (.val (.slice (some ⟨b,off,none⟩) need c)) s
   |none=>.no)
  (match readAt s b off (Nat.mul n size)with
   |none=>.no
   |some old=>cond (capSure c) (newLs s (appO old new) need size)
    (cond (Nat.beq off 0&&Nat.beq (esOf c) size&&someOne new) (match s with
     | .mk hp nx gr=>match hp.get b with
      |some (.row _ g)=>extend (.mk hp nx gr) b g need size (Nat.mul n size) old new
      |_=>.no) .no))
def zeroFit(P:Program)(e:TypeId)(size:Nat):Bool:=match P.info? e with
 |some i=>Nat.ble i.bytes 8192&&(match i.zero with
  |some z=>Nat.beq z.cells.toList.length size
  |none=>false)
 |none=>false
def roomFor(P:Program)(e:TypeId)(need:Nat):Bool:=match P.info? e with
 |some i=>Nat.ble (Nat.mul (Nat.add (Nat.mul 5 need) 3072) i.bytes) 1125899906842624&&Nat.ble need 4611686018427387904
 |none=>false
def appendN(P:Program)(s:St)(elem:TypeId)(size:Nat)(base:Option Addr)(n c need:Nat)(new:List Value):Re:=
 cond (roomFor P elem need&&zeroFit P elem size) (match base with
  |none=>cond (Nat.beq n 0&&Nat.beq c 0) (cond (Nat.beq need 0) (.ok (.val (.slice none 0 0)) s) (newLs s new need size)) .no
  |some ⟨b,off,none⟩=>appendB s size b off n c need new
  |_=>.no) .no
def appendV(P:Program)(s:St)(elem:TypeId)(x y:Value):Re:=
 match sizeOfT P elem,x,lenOfV y with
 |some size,.slice base n c,some k=>
  match cellsFrom s size k y with
  |none=>.no
  |some new=>fN (Nat.add n k) fun need=>appendN P s elem size base n c need new
 |_,_,_=>.no
def appendZ(P:Program)(s:St)(e:TypeId)(x y:Value):Re:=match x,y,sizeOfT P e,P.info? e with
 | .slice none n c,.int .i64 (.ofNat m),some size,some i=>match i.zero with
  |some z=>match z.cells.toList with
   |[v]=>cond (Nat.beq n 0&&Nat.beq c 0&&Nat.beq size 1&&Nat.blt 0 m&&roomFor P e m&&Nat.ble i.bytes 8192&&plain 1 v) (newLs s (repO [v] m) m 1) .no
   |_=>.no
  |none=>.no
 |_,_,_,_=>.no
def copyV(P:Program)(s:St)(elem:TypeId)(x y:Value):Re:=
 match sizeOfT P elem,x,lenOfV y with
 |some size,.slice base n _,some k=>
  fN (Nat.min k n) fun m=>
  match cellsFrom s size m y with
  |none=>.no
  |some new=>match base with
   |some ⟨b,off,none⟩=>match writeAt s b off new with
    |some s=>.ok (.val (.int .i64 (.ofNat m))) s
    |none=>.no
   |_=>cond (Nat.beq m 0) (.ok (.val (.int .i64 (.ofNat 0))) s) .no
 |_,_,_=>.no
def sameB(op:BinOp)(r:Bool)(s:St):Re:=match op with
 | .eql=>okB r s
 | .neq=>okB (!r) s
 |_=>.no
def eqNil(d:Option TypeDesc)(a b:Value):Option Bool:=match d,a,b with
 |some (.pointer _),.pointer none,.pointer q=>some q.isNone
 |some (.pointer _),.pointer (some _),.pointer none=>some false
 |some (.slice _),.slice none _ _,.slice q _ _=>some q.isNone
 |some (.slice _),.slice (some _) _ _,.slice none _ _=>some false
 |some (.map _ _),.map none,.map q=>some q.isNone
 |some (.map _ _),.map (some _),.map none=>some false
 |some (.func _ _ _),.nilFunc,.func _ _ _=>some false
 |some (.func _ _ _),.func _ _ _,.nilFunc=>some false
 |some (.interface _),.nilIface,.iface _ _=>some false
 |some (.interface _),.iface _ _,.nilIface=>some false
 |_,_,_=>none
def eqA(P:Program)(op:BinOp)(t:TypeId)(x y:Operand)(a b:Value)(s:St):Re:=
 match eqNil (P.underlying t) a b with
 |some r=>sameB op r s
 |none=>cond (plain 5 a&&plain 5 b) (ofPure P (do eqGuard op t x y a b;binOp op t a b) s) .no
def methodOf(P:Program)(t:TypeId)(name:String):Option FuncId:=
 match P.info? t with
 |some i=>match i.methods.find? (·.name==name)with
  |some m=>cond m.path.isEmpty (match m.func with
    |some (f,true)=>match P.underlying t with
     |some (.pointer _)=>some f
     |_=>none
    |_=>none) none
  |none=>none
 |none=>none
def callV(P:Program)(f:FuncId)(args:List Value)(s:St):Re:=
 match P.funcs[f]? with
 |some fn=>cond (fn.body.isSome&&!(fn.name== "runtime.NumGoroutine")) (.ok (.enter f args) s) .no
 |none=>.no
def markV(s:St):Re:=.ok (.val (.tuple ⟨[]⟩)) s
def casV(s:St)(b off:Nat)(x y:Int):Re:=match readAt1 s b off with
 |some (.int .i32 z)=>cond (decide (z=x)) (match writeAt s b off [.int .i32 y]with
  |some s=>.ok (.val (.bool true)) s
  |none=>.no) .no
 |_=>.no
def addW(s:St)(b off:Nat)(o:Option Value):Re:=match o with
 |some (.int .i32 n)=>fI n fun n=>match writeAt s b off [.int .i32 n]with
  |some s=>.ok (.val (.int .i32 n)) s
  |none=>.no
 |_=>.no
def addV(P:Program)(s:St)(b off:Nat)(y:Int):Re:=match readAt1 s b off with
 |some (.int .i32 z)=>addW s b off (pureRun P (Op.intArith .add .i32 z y))
 |_=>.no
def bytesIn(s:St)(q:Option Addr)(n c:Nat):Option (List UInt8):=match cellsFrom s 1 n (.slice q n c)with
 |some cs=>bytesOf cs
 |none=>none
def cmpV(s:St)(x y:Option (List UInt8)):Re:=match x,y with
 |some x,some y=>ofI .i64 (Extern.BytealgCompare.cmp ⟨⟨x⟩⟩ ⟨⟨y⟩⟩) s
 |_,_=>.no
def extV(P:Program)(fn:Func)(args:List Value)(s:St):Re:=match args with
 |[]=>cond (fn.name== "internal/race.Disable" ||fn.name== "internal/race.Enable") (markV s) .no
 |[.pointer (some ⟨_,_,none⟩)]=>cond (fn.name== "internal/race.Acquire" ||fn.name== "internal/race.ReleaseMerge") (markV s) .no
 |[.pointer (some ⟨b,off,none⟩),.int .i32 y]=>cond (fn.name== "sync/atomic.AddInt32") (addV P s b off y) .no
 |[.pointer (some ⟨b,off,none⟩),.int .i32 x,.int .i32 y]=>cond (fn.name== "sync/atomic.CompareAndSwapInt32") (casV s b off x y) .no
 |[.slice q n c,.slice q' n' c']=>cond (fn.name== "internal/bytealg.Compare") (cmpV s (bytesIn s q n c) (bytesIn s q' n' c')) .no
 |_=>.no
def callE(P:Program)(f:FuncId)(args:List Value)(s:St):Re:=match P.funcs[f]? with
 |some fn=>match fn.body with
  |some _=>callV P f args s
  |none=>cond (fn.origin== "") (extV P fn args s) .no
 |none=>.no
def wrapN(k:IntKind)(n:Nat):Option Nat:=match k with
 | .u8=>some (Nat.mod n 256)
 | .u16=>some (Nat.mod n 65536)
 | .u32=>some (Nat.mod n 4294967296)
 | .u64=>some (Nat.mod n 18446744073709551616)
 | .i64=>cond (Nat.blt n 9223372036854775808) (some n) none
 | .i32=>cond (Nat.blt n 2147483648) (some n) none
 |_=>none
def modulus(k:IntKind):Nat:=match k with
 | .u8=>256
 | .u16=>65536
 | .u32=>4294967296
 | .u64=>18446744073709551616
 |_=>0
def bitsN(k:IntKind):Nat:=match k with
 | .u8=>8
 | .u16=>16
 | .u32=>32
 | .u64=>64
 | .i64=>64
 | .i32=>32
 |_=>0
def subN(k:IntKind)(a b:Nat):Option Nat:=
 cond (Nat.ble b a) (wrapN k (Nat.sub a b)) (cond (Nat.beq (modulus k) 0) none (cond (Nat.ble b (Nat.add a (modulus k))) (wrapN k (Nat.sub (Nat.add a (modulus k)) b)) none))
def arN(op:BinOp)(k:IntKind)(a b:Nat):Option Nat:=match op with
 | .add=>wrapN k (Nat.add a b)
 | .sub=>subN k a b
 | .mul=>wrapN k (Nat.mul a b)
 | .and=>wrapN k (Nat.land a b)
 | .or=>wrapN k (Nat.lor a b)
 | .xor=>wrapN k (Nat.xor a b)
 | .shl=>cond (Nat.ble b (bitsN k)) (wrapN k (Nat.shiftLeft a b)) none
 | .shr=>cond (Nat.ble b (bitsN k)) (some (Nat.shiftRight a b)) none
 | .quo=>cond (Nat.beq b 0) none (wrapN k (Nat.div a b))
 | .rem=>cond (Nat.beq b 0) none (some (Nat.mod a b))
 |_=>none
def kNum(k:IntKind):Nat:=match k with
 | .i8=>0
 | .i16=>1
 | .i32=>2
 | .i64=>3
 | .u8=>4
 | .u16=>5
 | .u32=>6
 | .u64=>7
def kinds(op:BinOp)(k k':IntKind):Bool:=match op with
 | .shl=>true
 | .shr=>true
 |_=>Nat.beq (kNum k) (kNum k')
def cmN(op:BinOp)(a b:Nat):Option Bool:=match op with
 | .eql=>some (Nat.beq a b)
 | .neq=>some (!Nat.beq a b)
 | .lss=>some (Nat.blt a b)
 | .leq=>some (Nat.ble a b)
 | .gtr=>some (Nat.blt b a)
 | .geq=>some (Nat.ble b a)
 |_=>none
def okN(k:IntKind)(n:Nat)(s:St):Re:=fN n fun n=>.ok (.val (.int k (.ofNat n))) s
def intsN(P:Program)(op:BinOp)(t:TypeId)(k k':IntKind)(a b:Nat)(s:St):Re:=
 cond (kinds op k k') (match arN op k a b with
 |some n=>okN k n s
 |none=>match cmN op a b with
  |some r=>okB r s
  |none=>ofPure P (binOp op t (.int k (.ofNat a)) (.int k' (.ofNat b))) s) .no
def ints(P:Program)(op:BinOp)(t:TypeId)(k k':IntKind)(a b:Int)(s:St):Re:=
 match a,b with
 | .ofNat a,.ofNat b=>intsN P op t k k' a b s
 |a,b=>ofPure P (binOp op t (.int k a) (.int k' b)) s
def xBin(P:Program)(op:BinOp)(t:TypeId)(x y:Operand)(u v:Value)(s:St):Re:=
 match u,v with
 | .int k m,.int k' n=>ints P op t k k' m n s
 | .string m,.string n=>ofPure P (Op.stringOp op m n) s
 |u,v=>eqA P op t x y u v s
def xPick(c x y:Value)(s:St):Re:=match c with
 | .bool true=>.ok (.val x) s
 | .bool false=>.ok (.val y) s
 |_=>.no
def xBox(o:Option (List Value))(s:St):Re:=match o with
 |some cs=>newPt s cs
 |none=>.no
def cellsP(v:Value):Option (List Value):=cond (plain 5 v) (cellsL v) none
def xAlloc(P:Program)(e:TypeId)(s:St):Re:=match zeroOf P e with
 |some z=>xBox (cellsP z) s
 |none=>.no
def places(P:Program)(fs:List Field)(i:Nat):Option (Nat×Nat):=match fs[i]? with
 |some f=>match sizeOfT P f.type with
  |some n=>some (f.offset,n)
  |none=>none
 |none=>none
def fillP(pl:Nat→Option (Nat×Nat))(tm:Tr Value):List (Nat×Operand)→List Value→Option (List Value)
 |[],cs=>some cs
 |(i,x)::ps,cs=>match pl i with
  |none=>none
  |some (off,n)=>
   match cellsL (opd tm x)with
   |none=>none
   |some vs=>cond (Nat.beq vs.length n) (match splice vs off cs with
    |some cs=>fillP pl tm ps cs
    |none=>none) none
def okAgg(o:Option (List Value))(s:St):Re:=match o with
 |some cs=>.ok (.val (.agg ⟨cs⟩)) s
 |none=>.no
def zeroCs(P:Program)(t:TypeId):Option (List Value):=match zeroOf P t with
 |some z=>cellsP z
 |none=>none
def sized(P:Program)(fs:List Field):Bool:=fs.all fun f=>(sizeOfT P f.type).isSome
def xBuild(P:Program)(t:TypeId)(parts:List (Nat×Operand))(tm:Tr Value)(s:St):Re:=
 match zeroCs P t,P.underlying t with
 |some z,some (.struct fs)=>cond (sized P fs.toList) (okAgg (fillP (places P fs.toList) tm parts z) s) .no
 |some z,some (.array _ e)=>match sizeOfT P e with
  |some n=>okAgg (fillP (fun i=>some (Nat.mul i n,n)) tm parts z) s
  |none=>.no
 |_,_=>.no
def xBuildSl(P:Program)(t:TypeId)(len:Nat)(parts:List (Nat×Operand))(tm:Tr Value)(s:St):Re:=
 match P.underlying t with
 |some (.slice e)=>match sizeOfT P e,zeroCs P e with
  |some n,some z=>cond (Nat.beq z.length n&&Nat.ble (Nat.mul len n) 16777216) (match fillP (fun i=>some (Nat.mul i n,n)) tm parts (repO z len)with
   |some cs=>newSl s cs len (sure len)
   |none=>.no) .no
  |_,_=>.no
 |_=>.no
def xLoad(P:Program)(t:TypeId)(v:Value)(s:St):Re:=match v with
 | .pointer (some ⟨b,off,none⟩)=>ofO (loadT P s t b off) s
 |_=>.no
def xStore(P:Program)(t:TypeId)(v:Value)(cs:Option (List Value))(s:St):Re:=match v,cs with
 | .pointer (some ⟨b,off,none⟩),some cs=>match sizeOfT P t with
  |some n=>cond (Nat.beq cs.length n) (ofS (writeAt s b off cs)) .no
  |none=>.no
 |_,_=>.no
def xNil(v:Value)(s:St):Re:=match v with
 | .pointer (some a)=>.ok (.val (.pointer (some a))) s
 | .func (.func f) x y=>.ok (.val (.func (.func f) x y)) s
 | .func (.yield f) x y=>.ok (.val (.func (.yield f) x y)) s
 | .iface t v=>.ok (.val (.iface t v)) s
 |_=>.no
def xUn(P:Program)(op:UnOp)(v:Value)(s:St):Re:=match v with
 | .int k n=>ofPure P (Op.unary op (.int k n)) s
 | .bool b=>ofPure P (Op.unary op (.bool b)) s
 |_=>.no
def intTo(P:Program)(src dst:TypeId)(k:IntKind)(n:Int)(s:St)(d:Option TypeDesc):Re:=match d,n with
 |some (.int j),.ofNat m=>match cond (P.underlying src).isSome (wrapN j m) none with
  |some m=>okN j m s
  |none=>ofPure P (convert src dst (.int k (.ofNat m))) s
 |_,n=>ofPure P (convert src dst (.int k n)) s
def isU8(d:Option TypeDesc):Bool:=match d with
 |some (.int .u8)=>true
 |_=>false
def okStr(o:Option (List UInt8))(s:St):Re:=match o with
 |some bs=>.ok (.val (.string ⟨⟨bs⟩⟩)) s
 |none=>.no
def toStr(P:Program)(e:TypeId)(q:Option Addr)(n c:Nat)(s:St):Re:=
 cond (isU8 (P.underlying e)) (match cellsFrom s 1 n (.slice q n c)with
  |some cs=>okStr (bytesOf cs) s
  |none=>.no) .no
def asBytes(q:Option Addr)(n c:Nat)(s:St):Re:=match q,s with
 |some ⟨b,off,none⟩,.mk hp nx gr=>match hp.get b with
  |some (.row cs g)=>cond (Nat.beq g 0) (match setO hp nx gr b (.row cs b)with
   |some s=>match cond (Nat.blt 0 b&&Option.isNone (gr.get b)) (setG s b [b]) none with
    |some s=>.ok (.val (.slice (some ⟨b,off,none⟩) n c)) s
    |none=>.no
   |none=>.no) (.ok (.val (.slice (some ⟨b,off,none⟩) n c)) (.mk hp nx gr))
  |_=>.no
 |_,_=>.no
def filled(o:Option Nat):Bool:=match o with
 |some n=>Nat.blt 0 n
 |none=>false
def toRaw(b off:Nat)(o:Option Value)(s:St):Re:=match o with
 |some _=>.ok (.val (.pointer (some ⟨b,off,none⟩))) s
 |none=>.no
def xConv(P:Program)(src dst:TypeId)(v:Value)(s:St):Re:=match v with
 | .int k n=>intTo P src dst k n s (P.underlying dst)
 | .string t=>match P.underlying src,P.underlying dst with
  |some .string,some .string=>.ok (.val (.string t)) s
  |some .string,some (.slice _)=>.no
  |_,_=>.no
 | .slice q n c=>match P.underlying src,P.underlying dst with
  |some (.slice e),some .string=>toStr P e q n c s
  |some (.slice _),some (.slice e)=>cond (Nat.beq src dst&&isU8 (P.underlying e)) (asBytes q n c s) .no
  |_,_=>.no
 | .pointer q=>match P.underlying src,P.underlying dst,q with
  |some (.pointer t),some .unsafePointer,some ⟨b,off,none⟩=>cond (filled (sizeOfT P t)) (toRaw b off (readAt1 s b off) s) .no
  |_,_,_=>.no
 |_=>.no
def bytesSmall(P:Program)(t:TypeId):Bool:=match P.info? t with
 |some i=>Nat.ble i.bytes 8192
 |none=>false
def sizedAs(P:Program)(e:TypeId)(z:List Value):Bool:=match sizeOfT P e with
 |some n=>Nat.beq z.length n&&Nat.blt 0 n&&bytesSmall P e
 |none=>false
def xMakeSl(P:Program)(t:TypeId)(l c:Value)(s:St):Re:=match P.underlying t,natOf l,natOf c with
 |some (.slice e),some l,some c=>match zeroCs P e with
  |some z=>cond (Nat.ble l c&&roomFor P e c&&sizedAs P e z) (newSl s (repO z c) l (sure c)) .no
  |none=>.no
 |_,_,_=>.no
def natO(o:Option Value):Bool:=match o with
 |none=>true
 |some v=>(natOf v).isSome
def xSlice(P:Program)(t:TypeId)(v:Value)(lo hi mx:Option Value)(s:St):Re:=match P.underlying t,v with
 |some (.array n e),.pointer (some ⟨b,off,none⟩)=>match sizeOfT P e with
  |some size=>ofO (sliceRow size b off n (sure n) lo hi mx) s
  |none=>.no
 |some (.slice e),.slice (some ⟨b,off,none⟩) len c=>match sizeOfT P e with
  |some size=>ofO (sliceRow size b off len c lo hi mx) s
  |none=>.no
 |some (.slice _),.slice none len c=>cond (natO lo&&natO hi&&natO mx) (ofPure P (Instr.slice t (.slice none len c) lo hi mx) s) .no
 |some .string,.string u=>cond (natO lo&&natO hi&&natO mx) (ofPure P (Instr.slice t (.string u) lo hi mx) s) .no
 |_,_=>.no
def okPt(b o:Nat)(s:St):Re:=fN o fun o=>.ok (.val (.pointer (some ⟨b,o,none⟩))) s
def xArr(P:Program)(t:TypeId)(v:Value)(s:St):Re:=match P.underlying t,v with
 |some (.array n _),.slice (some ⟨b,off,none⟩) len _=>cond (Nat.ble n len) (okPt b off s) .no
 |_,_=>.no
def xFieldAddr(P:Program)(t:TypeId)(f:Nat)(v:Value)(s:St):Re:=match v with
 | .pointer (some ⟨b,off,none⟩)=>match P.underlying t with
  |some (.struct fs)=>match fs[f]? with
   |some fd=>cond (filled (sizeOfT P fd.type)) (okPt b (Nat.add off fd.offset) s) .no
   |none=>.no
  |_=>.no
 |_=>.no
def xField(P:Program)(t:TypeId)(f:Nat)(v:Value)(s:St):Re:=match v with
 | .agg cs=>match P.underlying t with
  |some (.struct fs)=>match fs[f]? with
   |some fd=>ofO (partT P fd.type cs.toList fd.offset) s
   |none=>.no
  |_=>.no
 |_=>.no
def atI(P:Program)(e:TypeId)(b off n i:Nat)(s:St):Re:=match sizeOfT P e with
 |some size=>cond (Nat.blt i n) (okPt b (Nat.add off (Nat.mul i size)) s) .no
 |none=>.no
def xIndexAddr(P:Program)(t:TypeId)(v:Value)(i:Option Nat)(s:St):Re:=match v,i with
 | .pointer (some ⟨b,off,none⟩),some i=>match P.underlying t with
  |some (.array n e)=>atI P e b off n i s
  |_=>.no
 | .slice (some ⟨b,off,none⟩) n _,some i=>match P.underlying t with
  |some (.slice e)=>atI P e b off n i s
  |_=>.no
 |_,_=>.no
def xIndex(P:Program)(t:TypeId)(v ix:Value)(s:St):Re:=match v with
 | .agg cs=>match P.underlying t,natOf ix with
  |some (.array n e),some i=>match sizeOfT P e with
   |some size=>cond (Nat.blt i n) (ofO (partT P e cs.toList (Nat.mul i size)) s) .no
   |none=>.no
  |_,_=>.no
 | .string u=>match ix with
  | .int k n=>ofPure P (Instr.index t (.string u) (.int k n)) s
  |_=>.no
 |_=>.no
def entriesOf(s:St)(v:Value):Option (List MapEntry):=match v,s with
 | .map none,_=>some []
 | .map (some r),.mk hp _ _=>match hp.get r with
  |some (.map es _)=>some es
  |_=>none
 |_,_=>none
def findK(P:Program)(emp:Bool)(key:TypeId)(k:Value)(es:List MapEntry):Option (Option Nat):=
 cond (plain 5 k) (match pureRun P (Instr.checkKey emp 10000 key k),pureRun P (Instr.findKey key k es)with
  |some _,some none=>some none
  |some _,some (some (i,_))=>fN i fun i=>some (some i)
  |_,_=>none) none
def entV(i:Nat)(es:List MapEntry):Option Value:=match es[i]? with
 |some e=>some e.val
 |none=>none
def okLook(v:Value)(b ok:Bool)(s:St):Re:=cond ok (.ok (.val (.tuple ⟨[v,.bool b]⟩)) s) (.ok (.val v) s)
def xLookup(P:Program)(t:TypeId)(v k:Value)(ok:Bool)(s:St):Re:=match P.underlying t,entriesOf s v with
 |some (.map key e),some es=>match findK P es.isEmpty key k es with
  |some none=>match zeroOf P e with
   |some z=>cond (plain 5 z) (okLook z false ok s) .no
   |none=>.no
  |some (some i)=>match entV i es with
   |some v=>okLook v true ok s
   |none=>.no
  |none=>.no
 |_,_=>.no
def setV(k v:Value)(i:Nat)(es:List MapEntry):List MapEntry:=es.modify i fun e=>⟨k,v,e.born⟩
def staysK(P:Program)(k:Value)(i:Nat)(es:List MapEntry):Option Value:=match es[i]? with
 |some e=>match pureRun P (Instr.keyThatStays e.key k)with
  |some k=>cond (plain 5 k) (some k) none
  |none=>none
 |none=>none
def xMapUp(P:Program)(t:TypeId)(v k x:Value)(s:St):Re:=match P.underlying t,v,s with
 |some (.map key _),.map (some r),.mk hp nx gr=>match hp.get r with
  |some (.map es clock)=>match findK P false key k es with
   |some none=>fN (Nat.succ clock) fun c=>ofS (setO hp nx gr r (.map (es++[⟨k,x,clock⟩]) c))
   |some (some i)=>match staysK P k i es with
    |some k=>ofS (setO hp nx gr r (.map (setV k x i es) clock))
    |none=>.no
   |none=>.no
  |_=>.no
 |_,_,_=>.no
def okEnt(v:Value)(born:Nat)(o:Option St):Re:=match o with
 |some s=>fN born fun b=>.ok (.val (.tuple ⟨[v,.int .i64 (.ofNat b)]⟩)) s
 |none=>.no
def entAt(es:List MapEntry)(i:Nat)(k:Option Value)(r clock:Nat)(hp:Tr Ob)(nx:Nat)(gr:Tr (List Nat)):Re:=match es[i]?,k with
 |some e,some k=>okEnt e.val e.born (setO hp nx gr r (.map (es.modify i fun e=>⟨k,e.val,e.born⟩) clock))
 |_,_=>.no
def xMapEntry(P:Program)(t:TypeId)(v k:Value)(s:St):Re:=match P.underlying t,v,s with
 |some (.map key e),.map (some r),.mk hp nx gr=>match hp.get r with
  |some (.map es clock)=>match findK P false key k es with
   |some none=>match zeroOf P e with
    |some z=>cond (plain 5 z) (fN (Nat.succ clock) fun c=>okEnt z clock (setO hp nx gr r (.map (es++[⟨k,z,clock⟩]) c))) .no
    |none=>.no
   |some (some i)=>entAt es i (staysK P k i es) r clock hp nx gr
   |none=>.no
  |_=>.no
 |_,_,_=>.no
def xEntryStore(v st x:Value)(s:St):Re:=match v,st,s with
 | .map (some r),.int _ (.ofNat b),.mk hp nx gr=>match hp.get r with
  |some (.map es clock)=>match es.findIdx? (fun e=>Nat.beq e.born b)with
   |some i=>ofS (setO hp nx gr r (.map (es.modify i fun e=>⟨e.key,x,e.born⟩) clock))
   |none=>.no
  |_=>.no
 |_,_,_=>.no
def xExtract(v:Value)(i:Nat)(s:St):Re:=match v with
 | .tuple vs=>ofO (headO (dropL i vs.toList)) s
 |_=>.no
def headT(P:Program)(ts:List TypeId):Option TypeDesc:=match ts with
 |t::_=>P.underlying t
 |[]=>none
def xLen(P:Program)(ts:List TypeId)(args:List Value)(s:St):Re:=match headT P ts,args with
 |some (.slice _),[.slice _ n _]=>.ok (.val (.int .i64 (.ofNat n))) s
 |some .string,[.string t]=>okN .i64 t.size s
 |some (.array n _),[_]=>okN .i64 n s
 |some (.map _ _),[.map none]=>.ok (.val (.int .i64 (.ofNat 0))) s
 |some (.map _ _),[.map (some r)]=>match entriesOf s (.map (some r))with
  |some es=>okN .i64 es.length s
  |none=>.no
 |_,_=>.no
def xCap(P:Program)(ts:List TypeId)(args:List Value)(s:St):Re:=match headT P ts,args with
 |some (.slice _),[.slice none _ c]=>okN .i64 c s
 |some (.slice _),[.slice (some ⟨_,_,none⟩) _ c]=>cond (capSure c) (okN .i64 (capOf c) s) .no
 |_,_=>.no
def allInt(args:List Value):Bool:=args.all fun v=>match v with
 | .int _ _=>true
 |_=>false
def xAppend(P:Program)(ts:List TypeId)(args:List Value)(s:St):Re:=match ts,args with
 |t::u::_,[x,y]=>match P.underlying t,P.underlying u with
  |some (.slice e),some (.int _)=>appendZ P s e x y
  |some (.slice e),some _=>appendV P s e x y
  |_,_=>.no
 |_,_=>.no
def xCopy(P:Program)(ts:List TypeId)(args:List Value)(s:St):Re:=match ts,args with
 |t::_,[x,y]=>match P.underlying t with
  |some (.slice e)=>copyV P s e x y
  |_=>.no
 |_,_=>.no
def erased(r:Nat)(es:List MapEntry)(clock:Nat)(hp:Tr Ob)(nx:Nat)(gr:Tr (List Nat))(o:Option (Option Nat)):Re:=match o with
 |some none=>ofS (setO hp nx gr r (.map es clock))
 |some (some i)=>ofS (setO hp nx gr r (.map (es.eraseIdx i) clock))
 |none=>.no
def xDelete(P:Program)(ts:List TypeId)(args:List Value)(s:St):Re:=match headT P ts,args,s with
 |some (.map key _),[.map (some r),k],.mk hp nx gr=>match hp.get r with
  |some (.map es clock)=>erased r es clock hp nx gr (findK P es.isEmpty key k es)
  |_=>.no
 |_,_,_=>.no
def clearB(P:Program)(e:TypeId)(q:Option Addr)(n:Nat)(s:St):Re:=match q,zeroCs P e with
 |some ⟨b,off,none⟩,some z=>cond (Nat.blt 0 z.length) (ofS (writeAt s b off (repO z n))) .no
 |_,_=>.no
def xClear(P:Program)(ts:List TypeId)(args:List Value)(s:St):Re:=match headT P ts,args,s with
 |some (.slice e),[.slice q n _],s=>cond (Nat.beq n 0) (.ok (.val undef) s) (clearB P e q n s)
 |some (.map _ _),[.map none],s=>.ok (.val undef) s
 |some (.map _ _),[.map (some r)],.mk hp nx gr=>match hp.get r with
  |some (.map _ clock)=>ofS (setO hp nx gr r (.map [] clock))
  |_=>.no
 |_,_,_=>.no
def xBuiltin(P:Program)(b:Builtin)(ts:Array TypeId)(args:List Value)(s:St):Re:=match b with
 | .len=>xLen P ts.toList args s
 | .cap=>xCap P ts.toList args s
 | .append=>xAppend P ts.toList args s
 | .copy=>xCopy P ts.toList args s
 | .min=>cond (allInt args) (ofPure P (Builtin.min_ #[] 0 ⟨args⟩) s) .no
 | .max=>cond (allInt args) (ofPure P (Builtin.max_ #[] 0 ⟨args⟩) s) .no
 | .recover=>.ok .recover s
 | .delete=>xDelete P ts.toList args s
 | .clear=>xClear P ts.toList args s
 |_=>.no
def xInvoke(P:Program)(name:String)(v:Value)(args:List Value)(s:St):Re:=match v with
 | .iface t v=>match methodOf P t name with
  |some f=>callV P f (v::args) s
  |none=>.no
 |_=>.no
def xCallV(P:Program)(v:Value)(args:List Value)(s:St):Re:=match v with
 | .func (.func f) x y=>callE P f (appO x.toList (appO args y.toList)) s
 | .func (.yield l) x _=>.ok (.round l (appO x.toList args)) s
 | .func (.method name) x _=>match x.toList with
  |v::rest=>xInvoke P name v (appO rest args) s
  |_=>.no
 |_=>.no
def consV(v:Value)(l:List Value):List Value:=fV v fun v=>consS v l
def opds(tm:Tr Value):List Operand→List Value
 |[]=>[]
 |x::xs=>consV (opd tm x) (opds tm xs)
def xCall(P:Program)(c:Call)(tm:Tr Value)(s:St):Re:=match c with
 |⟨callee,args,ts⟩=>match callee with
  | .builtin b=>xBuiltin P b ts (opds tm args.toList) s
  | .value f=>xCallV P (opd tm f) (opds tm args.toList) s
  | .invoke r name=>xInvoke P name (opd tm r) (opds tm args.toList) s
def xDefer(c:Call)(tm:Tr Value)(s:St):Re:=match c with
 |⟨.value f,args,_⟩=>match opd tm f with
  | .func (.func g) x y=>.ok (.defer ⟨.fn (.func g) y,⟨appO x.toList (opds tm args.toList)⟩⟩) s
  |_=>.no
 |_=>.no
def xIface(d:Option TypeDesc)(t:TypeId)(v:Value)(s:St):Re:=match d with
 |some (.interface _)=>.no
 |some _=>.ok (.val (.iface t v)) s
 |none=>.no
def fnOk(f:Fn):Bool:=match f with
 | .func _=>true
 | .method _=>true
 |_=>false
def xMakeMap(r:Option Operand)(s:St):Re:=match r with
 |none=>ofR (newO s (.map [] 0) fun b s=>some (.ok (.val (.map (some b))) s))
 |some _=>.no
def xRange(P:Program)(t:TypeId)(v:Value)(s:St):Re:=match P.underlying t,v,s with
 |some (.map _ _),.map none,s=>ofR (newO s (.iter none 0 [] 0) fun b s=>some (.ok (.val (.pointer (some ⟨b,0,none⟩))) s))
 |some (.map _ _),.map (some r),.mk hp nx gr=>match hp.get r with
  |some (.map _ clock)=>ofR (newO (.mk hp nx gr) (.iter (some r) clock [] clock) fun b s=>some (.ok (.val (.pointer (some ⟨b,0,none⟩))) s))
  |_=>.no
 |_,_,_=>.no
def ofT(v:Value)(o:Option St):Re:=match o with
 |some s=>.ok (.val v) s
 |none=>.no
def nextE(hp:Tr Ob)(nx:Nat)(gr:Tr (List Nat))(b r since:Nat)(seen:List Nat)(clock:Nat)(left:List MapEntry):Re:=match left with
 |[]=>.ok (.val (.tuple ⟨[.bool false]⟩)) (.mk hp nx gr)
 |[e]=>cond (Nat.blt e.born since&&plain 5 e.key) (ofT (.tuple ⟨[.bool true,e.key,e.val]⟩) (setO hp nx gr b (.iter (some r) since (seen++[e.born]) clock))) .no
 |_=>.no
def xNext(v:Value)(str:Bool)(s:St):Re:=match v,str,s with
 | .pointer (some ⟨b,0,none⟩),false,.mk hp nx gr=>match hp.get b with
  |some (.iter none _ _ _)=>.ok (.val (.tuple ⟨[.bool false]⟩)) (.mk hp nx gr)
  |some (.iter (some r) since seen last)=>match hp.get r with
   |some (.map es clock)=>cond (!seen.isEmpty&&!es.isEmpty&&es.all (fun e=>Nat.ble last e.born)) .no (nextE hp nx gr b r since seen clock (es.filter fun e=>!seen.contains e.born))
   |_=>.no
  |_=>.no
 |_,_,_=>.no
def entE(o:Option MapEntry)(s:St):Re:=match o with
 |some e=>cond (plain 5 e.key) (.ok (.val (.tuple ⟨[e.key,e.val]⟩)) s) .no
 |none=>.no
def xEntry(v:Value)(s:St):Re:=match v,s with
 | .pointer (some ⟨b,0,none⟩),.mk hp nx gr=>match hp.get b with
  |some (.iter (some r) _ seen last)=>match seen.getLast?,hp.get r with
   |some stamp,some (.map es clock)=>cond (Nat.beq clock last) (entE (es.find? (fun e=>Nat.beq e.born stamp)) (.mk hp nx gr)) .no
   |_,_=>.no
  |_=>.no
 |_,_=>.no
def opdO(tm:Tr Value)(x:Option Operand):Option Value:=Option.casesOn x none fun x=>some (opd tm x)
structure Hd where
 f:Tr Value→St→Re
def compile(P:Program)(op:Op):Hd:=
 match op with
 | .move x=>⟨fun tm s=>.ok (.val (opd tm x)) s⟩
 | .assign x=>⟨fun tm s=>.ok (.val (opd tm x)) s⟩
 | .pick c x y=>⟨fun tm s=>xPick (opd tm c) (opd tm x) (opd tm y) s⟩
 | .alloc e=>⟨fun _ s=>xAlloc P e s⟩
 | .box _ x=>⟨fun tm s=>xBox (cellsL (opd tm x)) s⟩
 | .build t ps=>⟨fun tm s=>xBuild P t ps.toList tm s⟩
 | .buildSlice t len ps=>⟨fun tm s=>xBuildSl P t len ps.toList tm s⟩
 | .load t x=>⟨fun tm s=>xLoad P t (opd tm x) s⟩
 | .store t x y=>⟨fun tm s=>xStore P t (opd tm x) (cellsL (opd tm y)) s⟩
 | .nilCheck x=>⟨fun tm s=>xNil (opd tm x) s⟩
 | .binOp op t x y _=>⟨fun tm s=>xBin P op t x y (opd tm x) (opd tm y) s⟩
 | .unOp op _ x=>⟨fun tm s=>xUn P op (opd tm x) s⟩
 | .convert src dst x=>⟨fun tm s=>xConv P src dst (opd tm x) s⟩
 | .makeInterface t x=>⟨fun tm s=>xIface (P.underlying t) t (opd tm x) s⟩
 | .makeFunc fn x y=>⟨fun tm s=>cond (fnOk fn) (.ok (.val (.func fn ⟨opds tm x.toList⟩ ⟨opds tm y.toList⟩)) s) .no⟩
 | .makeMap _ r=>⟨fun _ s=>xMakeMap r s⟩
 | .makeSlice t l c=>⟨fun tm s=>xMakeSl P t (opd tm l) (opd tm c) s⟩
 | .slice t x lo hi mx=>⟨fun tm s=>xSlice P t (opd tm x) (opdO tm lo) (opdO tm hi) (opdO tm mx) s⟩
 | .sliceToArrayPointer t x=>⟨fun tm s=>xArr P t (opd tm x) s⟩
 | .fieldAddr t x f=>⟨fun tm s=>xFieldAddr P t f (opd tm x) s⟩
 | .field t x f=>⟨fun tm s=>xField P t f (opd tm x) s⟩
 | .indexAddr t x i=>⟨fun tm s=>xIndexAddr P t (opd tm x) (natOf (opd tm i)) s⟩
 | .index t x i=>⟨fun tm s=>xIndex P t (opd tm x) (opd tm i) s⟩
 | .lookup t x k ok=>⟨fun tm s=>xLookup P t (opd tm x) (opd tm k) ok s⟩
 | .mapUpdate t m k x=>⟨fun tm s=>xMapUp P t (opd tm m) (opd tm k) (opd tm x) s⟩
 | .insert t m k x=>⟨fun tm s=>xMapUp P t (opd tm m) (opd tm k) (opd tm x) s⟩
 | .mapEntry t m k=>⟨fun tm s=>xMapEntry P t (opd tm m) (opd tm k) s⟩
 | .entryStore _ m st x=>⟨fun tm s=>xEntryStore (opd tm m) (opd tm st) (opd tm x) s⟩
 | .extract t i=>⟨fun tm s=>xExtract (opd tm t) i s⟩
 | .range t x=>⟨fun tm s=>xRange P t (opd tm x) s⟩
 | .next x b=>⟨fun tm s=>xNext (opd tm x) b s⟩
 | .entry x=>⟨fun tm s=>xEntry (opd tm x) s⟩
 | .call c=>⟨fun tm s=>xCall P c tm s⟩
 | .defer c=>⟨fun tm s=>xDefer c tm s⟩
 |_=>⟨fun _ _=>.no⟩
def exec(P:Program)(op:Op)(tm:Tr Value)(s:St):Re:=(compile P op).f tm s
inductive Kd where
 |none|reads|makes|acts
def kindOf(P:Program):Op→Kd
 | .load .. | .lookup .. =>.reads
 | .alloc _| .box .. | .buildSlice .. | .makeSlice .. | .makeMap .. =>.makes
 | .convert src dst _=>match P.underlying src,P.underlying dst with
  |some (.slice _),some .string=>.reads
  |some .string,some (.slice _)=>.makes
  |some (.slice _),some (.slice _)=>.acts
  |some (.pointer _),some .unsafePointer=>.reads
  |_,_=>.none
 | .call {callee:=.builtin .len,argTypes, ..}=>match (argTypes[0]?).bind P.underlying with
  |some (.map _ _)=>.reads
  |_=>.none
 | .call {callee:=.builtin .cap, ..}| .call {callee:=.builtin .min, ..}| .call {callee:=.builtin .max, ..}=>.none
 | .store .. | .ready _| .waits _| .makeChan .. | .insert .. | .mapUpdate .. | .mapEntry .. | .entryStore .. | .range .. | .next .. | .entry _| .call _| .go _| .defer _| .panic _| .send .. | .recv .. | .select .. =>.acts
 |_=>.none
def masks:List Oper→List Nat→List Nat
 |[],acc=>acc
 |o::os,acc=>masks os (acc++[o.after.toList.foldl (fun m e=>cond (Region.binds .any e) (Nat.lor (Nat.lor m (Nat.pow 2 e.on)) (acc.getD e.on 0)) m) 0])
inductive Sp where
 |mk (k:Kd) (i:Nat) (o:Oper) (m:Nat)
def isActs(k:Kd):Bool:=match k with
 | .acts=>true
 |_=>false
def actsOf(P:Program):List Oper→Nat→List Nat
 |[],_=>[]
 |o::os,i=>cond (isActs (kindOf P o.op)) (i::actsOf P os (i+1)) (actsOf P os (i+1))
def orderGo(ms:List Nat)(n:Nat):List Nat→Nat→List Nat
 |[],done=>(List.range n).filter fun i=>!Nat.testBit done i
 |e::es,done=>((List.range n).filter fun i=>Nat.testBit (ms.getD e 0) i&&!Nat.testBit done i)++e::orderGo ms n es (Nat.lor (Nat.lor done (ms.getD e 0)) (2^e))
def resolveP(P:Program)(ops:List Oper)(ms:List Nat):List Nat→Option (List Sp)
 |[]=>some []
 |i::r=>match ops[i]?,resolveP P ops ms r with
  |some o,some l=>some (.mk (kindOf P o.op) i o (ms.getD i 0)::l)
  |_,_=>none
def kOf(t:Tmp):List Oper→Nat→Option Nat
 |[],_=>none
 |o::os,i=>match o.dst with
  |some d=>cond (Nat.beq d t) (some i) (kOf t os (i+1))
  |none=>kOf t os (i+1)
def isI(k:Option Nat)(i:Nat):Bool:=match k with
 |some k=>Nat.beq k i
 |none=>false
def dstOk(ops:List Oper):List Oper→Nat→Bool
 |[],_=>true
 |o::os,i=>match o.dst with
  |some d=>isI (kOf d ops 0) i&&dstOk ops os (i+1)
  |none=>dstOk ops os (i+1)
def backOk:List Oper→Nat→Bool
 |[],_=>true
 |o::os,i=>(o.after.toList.all fun e=>!Region.binds .any e||Nat.blt e.on i)&&backOk os (i+1)
def guardT(ops:List Oper)(g:Option (Nat×Bool)):List Tmp:=match g with
 |some (j,_)=>match ops[j]? with
  |some p=>p.dst.toList
  |none=>[]
 |none=>[]
def tmpOf(x:Operand):Option Tmp:=match x with
 | .tmp t=>some t
 |_=>none
def looks(ops:List Oper)(o:Oper):List Tmp:=o.op.operands.toList.filterMap tmpOf++guardT ops o.guard
def lookOk(ops:List Oper)(ms:List Nat)(i m done:Nat)(t:Tmp):Bool:=match kOf t ops 0 with
 |none=>true
 |some k=>cond (Nat.testBit done k) (Nat.testBit m k) (Nat.beq k i||Nat.testBit (ms.getD k 0) i)
def chk(ops:List Oper)(ms:List Nat)(n:Nat):List Sp→Nat→Nat→Bool
 |[],done,_=>(List.range n).all fun i=>Nat.testBit done i
 | .mk k i o m::r,done,since=>!Nat.testBit done i&&(!isActs k||Nat.beq (Nat.land since m) since)&&(looks ops o).all (lookOk ops ms i m done)&&chk ops ms n r (Nat.lor done (2^i)) (cond (isActs k) (2^i) (Nat.lor since (2^i)))
def planWith(P:Program)(ops:List Oper)(ms:List Nat):Option (List Sp):=match resolveP P ops ms (orderGo ms ops.length (actsOf P ops 0) 0)with
 |some l=>cond (dstOk ops ops 0&&backOk ops 0&&chk ops ms ops.length l 0 0) (some l) none
 |none=>none
def planOf(P:Program)(ops:List Oper):Option (List Sp):=planWith P ops (masks ops [])
inductive Ex where
 |normal
 |exit (id:Nat)
 |goto (l:Nat)
 |ret
inductive Task where
 |call (f:FuncId) (args:List Value)
 |late (f:FuncId) (args:List Value)
 |round (l:Nat) (args:List Value)
inductive Rv where
 |no
 |ok (v:Value) (s:St)
abbrev Rec:=Task→St→Rv
inductive Ro where
 |no
 |ok (a:Ac) (s:St)
inductive Rc where
 |no
 |ok (e:Ex) (a:Ac) (s:St)
def dstAt(ops:List Oper)(j:Nat):Option Tmp:=match ops[j]? with
 |some p=>p.dst
 |none=>none
def eqB(want b:Bool):Bool:=match b,want with
 |true,true=>true
 |false,false=>true
 |_,_=>false
def boolAt(tm:Tr Value)(want:Bool)(d:Option Tmp):Option Bool:=match d with
 |some d=>match orUndef (tm.get d)with
  | .bool b=>some (eqB want b)
  | .chan _=>none
  |_=>some false
 |none=>some false
def wants(ops:List Oper)(tm:Tr Value)(g:Option (Nat×Bool)):Option Bool:=match g with
 |none=>some true
 |some (j,want)=>boolAt tm want (dstAt ops j)
def roA(a:Option Ac)(s:St):Ro:=match a with
 |some a=>.ok a s
 |none=>.no
def roV(d:Option Tmp)(n:Nat)(tm:Tr Value)(df:List Deferred)(r:Rv):Ro:=match r with
 | .ok v s=>roA (put d n tm df v) s
 | .no=>.no
def after(rec:Rec)(rd:Option Nat)(d:Option Tmp)(n:Nat)(tm:Tr Value)(df:List Deferred)(r:Re):Ro:=match r with
 | .no=>.no
 | .ok x s=>match x with
  | .val v=>roA (put d n tm df v) s
  | .enter f args=>roV d n tm df (rec (.call f args) s)
  | .round l args=>roV d n tm df (rec (.round l args) s)
  | .defer c=>match rd with
   |none=>roA (put d n tm (c::df) undef) s
   |some _=>.no
  | .recover=>match rd with
   |none=>roA (put d n tm df .nilIface) s
   |some _=>.no
def oper(P:Program)(rec:Rec)(rd:Option Nat)(ops:List Oper)(o:Oper)(a:Ac)(s:St):Ro:=
 match o,a with
 |⟨d,op,_,_,_,g⟩,.mk n tm df=>match wants ops tm g with
  |some true=>after rec rd d n tm df (exec P op tm s)
  |some false=>roA (put d n tm df undef) s
  |none=>.no
def thenO(r:Ro)(k:Ac→St→Ro):Ro:=match r with
 | .ok a s=>k a s
 | .no=>.no
def opers(P:Program)(rec:Rec)(rd:Option Nat)(all:List Oper):List Oper→Ac→St→Ro
 |[],a,s=>.ok a s
 |o::os,a,s=>thenO (oper P rec rd all o a s) (opers P rec rd all os)
def sameV(x y:Value):Bool:=match x,y with
 | .bool a,.bool b=>a==b
 | .int j a,.int k b=>j==k&&a==b
 | .string a,.string b=>a==b
 | .pointer a,.pointer b=>a==b
 | .slice a l c,.slice b m d=>a==b&&Nat.beq l m&&Nat.beq c d
 | .map a,.map b=>a==b
 | .nilFunc,.nilFunc=>true
 | .nilIface,.nilIface=>true
 | .iface t (.pointer a),.iface u (.pointer b)=>Nat.beq t u&&a==b
 |_,_=>false
def sameL:List Value→List Value→Bool
 |[],[]=>true
 |x::xs,y::ys=>cond (sameV x y) (sameL xs ys) false
 |_,_=>false
def eqL(p:Value→Value→Bool):List Value→List Value→Bool
 |[],[]=>true
 |x::xs,y::ys=>cond (p x y) (eqL p xs ys) false
 |_,_=>false
def eqF(f g:Fn):Bool:=match f,g with
 | .func a,.func b=>Nat.beq a b
 | .yield a,.yield b=>Nat.beq a b
 | .method a,.method b=>a==b
 |_,_=>false
def eqV:Nat→Value→Value→Bool
 |0,_,_=>false
 |n+1,x,y=>match x,y with
  | .func f a b,.func g c d=>eqF f g&&eqL (eqV n) a.toList c.toList&&eqL (eqV n) b.toList d.toList
  | .iface t v,.iface u w=>Nat.beq t u&&eqV n v w
  | .agg a,.agg b=>eqL (eqV n) a.toList b.toList
  | .tuple a,.tuple b=>eqL (eqV n) a.toList b.toList
  | .chan a,.chan b=>a==b
  |x,y=>sameV x y
def agrees(u:Option Value)(r:Re):Bool:=match u,r with
 |some u,.ok (.val v) _=>eqV 5 u v
 |_,_=>false
abbrev Past:=List (Option Nat×St)
def stood(P:Program)(op:Op)(tm:Tr Value)(u:Option Value)(m:Nat):Past→Bool
 |[]=>true
 |(a,s)::ps=>cond (agrees u (exec P op tm s)) (match a with
  |none=>true
  |some a=>cond (Nat.testBit m a) true (stood P op tm u m ps)) false
def getD(tm:Tr Value)(d:Option Tmp):Option Value:=match d with
 |some d=>tm.get d
 |none=>none
def stoodO(P:Program)(ops:List Oper)(past:Past)(o:Oper)(m:Nat)(a a':Ac):Bool:=match o,a,a' with
 |⟨d,op,_,_,_,g⟩,.mk _ tm _,.mk _ tm' _=>match wants ops tm g with
  |some true=>stood P op tm (getD tm' d) m past
  |some false=>true
  |none=>false
def nxLe(s s':St):Bool:=match s,s' with
 | .mk _ n _,.mk _ n' _=>Nat.ble n n'
def walkK(P:Program)(all:List Oper)(k:Kd)(i:Nat)(o:Oper)(m:Nat)(past:Past)(a:Ac)(ih:Past→Ac→St→Ro)(a':Ac)(s':St):Ro:=match k with
 | .acts=>ih ((some i,s')::past) a' s'
 | .reads=>cond (stoodO P all past o m a a') (ih past a' s') .no
 |_=>ih past a' s'
def walk(P:Program)(rec:Rec)(rd:Option Nat)(all:List Oper):List Sp→Past→Ac→St→Ro
 |[],_,a,s=>.ok a s
 | .mk k i o m::l,past,a,s=>thenO (oper P rec rd all o a s) fun a' s'=>cond (nxLe s s') (walkK P all k i o m past a (walk P rec rd all l) a' s') .no
def planned(P:Program)(rec:Rec)(rd:Option Nat)(all:List Oper)(ph:Option (List Sp))(a:Ac)(s:St):Ro:=match ph with
 |some ph=>walk P rec rd all ph [(none,s)] a s
 |none=>.no
def asN(r:Ro):Rc:=match r with
 | .ok a s=>.ok .normal a s
 | .no=>.no
def region(P:Program)(rec:Rec)(rd:Option Nat)(ops:List Oper)(dr:Bool)(a:Ac)(s:St):Rc:=
 cond dr (asN (planned P rec rd ops (planOf P ops) a s)) (asN (opers P rec rd ops ops a s))
def thenC(r:Rc)(k:Ac→St→Rc):Rc:=match r with
 | .no=>.no
 | .ok e a s=>match e with
  | .normal=>k a s
  | .exit i=>.ok (.exit i) a s
  | .goto i=>.ok (.goto i) a s
  | .ret=>.ok .ret a s
def iter(f:Ac→St→Rc)(n:Nat):Ac→St→Rc:=Nat.rec (fun _ _=>.no) (fun _ ih a s=>thenC (f a s) ih) n
def condC(c:Operand)(x y:Ac→St→Rc)(a:Ac)(s:St):Rc:=match a with
 | .mk n tm df=>match opd tm c with
  | .bool true=>x (.mk n tm df) s
  | .bool false=>y (.mk n tm df) s
  |_=>.no
def blockC(id:Nat)(r:Rc):Rc:=match r with
 | .no=>.no
 | .ok e a s=>match e with
  | .exit i=>cond (Nat.beq i id) (.ok .normal a s) (.ok (.exit i) a s)
  |e=>.ok e a s
def noGoto(r:Rc):Rc:=match r with
 | .ok (.goto _) _ _=>.no
 |r=>r
def leftBy(pd:Option Code)(a:Ac)(s:St):Rc:=match pd with
 |none=>.ok .normal a s
 |some (.exit id)=>.ok (.exit id) a s
 |some .ret=>.ok .ret a s
 |_=>.no
def leftO(pd:Option Code)(a:Ac)(o:Option St):Rc:=match o with
 |none=>.no
 |some s=>leftBy pd a s
def endLoop(l:Nat)(a:Ac)(s:St):Rc:=match s with
 | .mk hp nx gr=>match hp.get l with
  |some (.loop ⟨st,pd,fn,tmps,ps,asx,bd,df⟩ n tm)=>match st with
   | .busy=>.no
   |_=>leftO pd a (setO hp nx gr l (.loop ⟨.exhausted,pd,fn,tmps,ps,asx,bd,df⟩ n tm))
  |_=>.no
def rangeK(rec:Rec)(l:Nat)(a:Ac)(r:Re):Rc:=match r with
 | .ok (.enter g args) s=>match rec (.call g args) s with
  | .no=>.no
  | .ok _ s=>endLoop l a s
 |_=>.no
def rangeF(P:Program)(rec:Rec)(l:Nat)(a:Ac)(v:Value)(s:St):Rc:=match v with
 | .func (.func g) x y=>rangeK rec l a (callV P g (appO x.toList (.func (.yield l) #[] #[]::y.toList)) s)
 |_=>.no
def rangeIn(P:Program)(rec:Rec)(fn:FuncId)(f:Operand)(ps:Array Tmp)(asx bd:Code)(d:Nat)(a:Ac)(s:St):Rc:=match a with
 | .mk n tm df=>match newO s (.loop ⟨.ready,none,fn, #[],ps,asx,bd,d⟩ n tm) (fun l s=>some (l,s))with
  |none=>.no
  |some (l,s)=>rangeF P rec l (.mk n tm df) (opd tm f) s
def rangeC(P:Program)(rec:Rec)(fn:FuncId)(rd:Option Nat)(f:Operand)(ps:Array Tmp)(asx bd:Code)(a:Ac)(s:St):Rc:=match rd,a,s with
 |some l,a,.mk hp nx gr=>match hp.get l with
  |some (.loop lp _ _)=>rangeIn P rec fn f ps asx bd lp.defers a (.mk hp nx gr)
  |_=>.no
 |none,.mk n tm df,s=>match newO s (.dfr (some [])) (fun r s=>some (r,s))with
  |some (r,s)=>rangeIn P rec fn f ps asx bd r (.mk n tm (⟨.collected r, #[]⟩::df)) s
  |none=>.no
def code(P:Program)(rec:Rec)(fn:FuncId)(rd:Option Nat):Code→Ac→St→Rc
 | .skip,a,s=>.ok .normal a s
 | .region _ ops dr,a,s=>region P rec rd ops.toList dr a s
 | .seq x y,a,s=>thenC (code P rec fn rd x a s) (code P rec fn rd y)
 | .cond c x y,a,s=>condC c (code P rec fn rd x) (code P rec fn rd y) a s
 | .block id x,a,s=>blockC id (code P rec fn rd x a s)
 | .loop x,a,s=>iter (code P rec fn rd x) 4611686018427387904 a s
 | .rangeFunc f ps asx bd,a,s=>rangeC P rec fn rd f ps asx bd a s
 | .exit id,a,s=>.ok (.exit id) a s
 | .scope x,a,s=>noGoto (code P rec fn rd x a s)
 | .label _,a,s=>.ok .normal a s
 | .ret,a,s=>.ok .ret a s
 |_,_,_=>.no
def argsTr:List Value→Nat→Tr Value→Tr Value
 |[],_,t=>t
 |v::vs,i,t=>argsTr vs (Nat.succ i) (t.set v i)
def cell1(P:Program)(v:Value)(t:TypeId)(s:St):Option Value:=match v with
 | .pointer (some ⟨b,off,none⟩)=>loadT P s t b off
 |_=>none
def consOV(v:Value)(o:Option (List Value)):Option (List Value):=fV v fun v=>consO v o
def resOf(P:Program)(tm:Tr Value)(s:St):List ResultVar→Option (List Value)
 |[]=>some []
 | .tmp t::rs=>consOV (orUndef (tm.get t)) (resOf P tm s rs)
 | .cell x t::rs=>match cell1 P (orUndef (tm.get x)) t s with
  |some v=>consOV v (resOf P tm s rs)
  |none=>none
def rvOf(o:Option (List Value))(s:St):Rv:=match o with
 |some [v]=>.ok v s
 |some vs=>.ok (.tuple ⟨vs⟩) s
 |none=>.no
def enterD(rec:Rec)(r:Re)(k:St→Option St):Option St:=match r with
 | .ok (.enter f args) s=>match rec (.late f args) s with
  | .ok _ s=>k s
  | .no=>none
 |_=>none
def deferred(P:Program)(rec:Rec):Nat→List Deferred→St→Option St
 |_,[],s=>some s
 |0,_,_=>none
 |n+1,d::ds,s=>match d.target with
  | .collected r=>match s with
   | .mk hp nx gr=>match hp.get r with
    |some (.dfr (some cs))=>match setO hp nx gr r (.dfr none)with
     |some s=>deferred P rec n (cs++ds) s
     |none=>none
    |_=>none
  | .fn (.func f) y=>enterD rec (callV P f (appO d.args.toList y.toList) s) (deferred P rec n ds)
  |_=>none
def setPs(n:Nat):List Tmp→List Value→Tr Value→Option (Tr Value)
 |p::ps,v::vs,t=>cond (Nat.blt p n) (setPs n ps vs (t.set v p)) none
 |[],[],t=>some t
 |_,_,_=>none
def beginR(s:St)(l:Nat):Option St:=match s with
 | .mk hp nx gr=>match hp.get l with
  |some (.loop ⟨st,pd,fn,tmps,ps,asx,bd,df⟩ n tm)=>match st with
   | .ready=>setO hp nx gr l (.loop ⟨.busy,pd,fn,tmps,ps,asx,bd,df⟩ n tm)
   |_=>none
  |_=>none
def okRv(b:Bool)(o:Option St):Rv:=match o with
 |some s=>.ok (.bool b) s
 |none=>.no
def endRound(s:St)(l:Nat)(j:Option Code):Rv:=match s with
 | .mk hp nx gr=>match hp.get l with
  |some (.loop ⟨_,_,fn,tmps,ps,asx,bd,df⟩ n tm)=>okRv j.isNone (setO hp nx gr l (.loop ⟨if j.isNone then .ready else .done,j,fn,tmps,ps,asx,bd,df⟩ n tm))
  |_=>.no
def leave(P:Program)(rec:Rec)(rs:List ResultVar)(a:Ac)(s:St):Rv:=match a with
 | .mk _ tm df=>match deferred P rec 100 df s with
  |none=>.no
  |some s=>rvOf (resOf P tm s rs) s
def finish(P:Program)(rec:Rec)(rs:List ResultVar)(r:Rc):Rv:=match r with
 | .no=>.no
 | .ok e a s=>match e with
  | .normal=>leave P rec rs a s
  | .ret=>leave P rec rs a s
  |_=>.no
def enter(P:Program)(rec:Rec)(f:FuncId)(args:List Value)(s:St):Rv:=match P.funcs[f]? with
 |none=>.no
 |some fn=>match fn.body with
  |none=>.no
  |some c=>cond (Nat.ble args.length fn.ntmps&&Nat.blt fn.ntmps 4611686018427387904) (finish P rec fn.results.toList (code P rec f none c (.mk fn.ntmps (argsTr args 0 .nil) []) s)) .no
def roundEnd(l:Nat)(r:Rc):Rv:=match r with
 | .no=>.no
 | .ok e _ s=>match e with
  | .normal=>endRound s l none
  | .exit id=>endRound s l (some (.exit id))
  | .ret=>endRound s l (some .ret)
  |_=>.no
def roundIn(P:Program)(rec:Rec)(l:Nat)(fn:FuncId)(bd:Code)(r:Rc):Rv:=match r with
 | .ok .normal a s=>match beginR s l with
  |none=>.no
  |some s=>roundEnd l (code P rec fn (some l) bd a s)
 |_=>.no
def round(P:Program)(rec:Rec)(l:Nat)(args:List Value)(s:St):Rv:=match s with
 | .mk hp nx gr=>match hp.get l with
  |some (.loop ⟨_,_,fn,_,ps,asx,bd,_⟩ n tm)=>match setPs n ps.toList args tm with
   |none=>.no
   |some tm=>cond (Nat.ble n 4611686018427387904) (roundIn P rec l fn bd (code P rec fn (some l) asx (.mk n tm []) (.mk hp nx gr))) .no
  |_=>.no
def orElse(r:Rv)(k:St→Rv)(s:St):Rv:=match r with
 | .ok v s=>.ok v s
 | .no=>k s
def run(P:Program)(hook:FuncId→Option (List Value→St→Rv))(n:Nat):Rec:=
 Nat.rec (fun _ _=>.no) (fun _ rec t s=>match t with
  | .call f args=>match hook f with
   |some h=>orElse (h args s) (enter P rec f args) s
   |none=>enter P rec f args s
  | .late f args=>enter P rec f args s
  | .round l args=>round P rec l args s) n
end Go.Ev
