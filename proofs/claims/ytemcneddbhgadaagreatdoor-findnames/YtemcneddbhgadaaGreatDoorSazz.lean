import Derived.Test.YtemcneddbhgadaaGreatDoorQSlzz
import Derived.Test.YtemcneddbhgadaaGreatDoorFupzz
import Derived.Laws.StructEq
import Derived.Lib.Bytes
namespace Go.Proofs.YtemcneddbhgadaaGreatDoor.Dg
open Go.RowKit
end Go.Proofs.YtemcneddbhgadaaGreatDoor.Dg
namespace Go.Proofs.YtemcneddbhgadaaGreatDoor
open Go.RowKit
def eN (n:Nd):List Nat:=if mayN KD n then encN n else []
def eE (n:Nd):Nat:=if mayN KD n then 0 else 70
def sB (s:List Nat):ByteArray:=str s.length (fun i=>((gd s i:Nat):Int))
theorem qyx {s t:List Nat} (hs:∀x∈s,x<256) (ht:∀x∈t,x<256) (h:sB s=sB t):s=t:=by
 have h1:(sB s).data.toList=(sB t).data.toList:=by rw [h]
 unfold sB str at h1
 rw [strOfNums_data,strOfNums_data] at h1
 have hl:s.length=t.length:=by
  have:=congrArg List.length h1
  simpa using this
 refine ext_gd hl (fun i hi=>?_)
 have h2:(((List.range s.length).map (fun i=>((gd s i:Nat):Int))).map fun n=>UInt8.ofNat n.toNat)[i]?=(((List.range t.length).map (fun i=>((gd t i:Nat):Int))).map fun n=>UInt8.ofNat n.toNat)[i]?:=by rw [h1]
 rw [List.getElem?_map,List.getElem?_map,List.getElem?_map,List.getElem?_map,List.getElem?_range hi,List.getElem?_range (by omega)] at h2
 have h3:UInt8.ofNat (gd s i)=UInt8.ofNat (gd t i):=by simpa using h2
 have h4:=congrArg UInt8.toNat h3
 have a1:=gd_lt hs i
 have a2:=gd_lt ht i
 rw [UInt8.toNat_ofNat',UInt8.toNat_ofNat',Nat.mod_eq_of_lt (by omega),Nat.mod_eq_of_lt (by omega)] at h4
 exact h4
theorem qq3 (s:List Nat):(sB s).toList=(sB s).data.toList:=by
 unfold sB str
 exact Lib.strOfNums_toList _
theorem qaad {s t:List Nat} (hs:∀x∈s,x<256) (ht:∀x∈t,x<256) (h:s≠t):sB s≠sB t∧((sB s).toList == (sB t).toList)=false∧(sB s == sB t)=false:=by
 have h1:sB s≠sB t:=fun e=>h (qyx hs ht e)
 have h2:((sB s).toList == (sB t).toList)=false:=by
  apply beq_eq_false_iff_ne.2
  intro e
  rw [qq3,qq3] at e
  exact h1 (ByteArray.ext (by rw [←Array.toList_inj];exact e))
 exact ⟨h1,h2,by rw [beq_toListBytes];exact h2⟩
theorem qjj {w:World} {v:Value} {s:List Nat} (h:Vb w v s):(convert 33 9 v).run Tryz.prog w=.ok (.string (sB s)) w:=by
 obtain ⟨a,b,off,c,rfl,hv,-⟩:=h
 exact qjr hv c
open Go.RowKit
end Go.Proofs.YtemcneddbhgadaaGreatDoor
