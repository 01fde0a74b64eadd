import Derived.Test.YtemcneddbhgadaaGreatDoorQGenzz
import Derived.Test.YtemcneddbhgadaaGreatDoorCards
import Derived.Test.YtemcneddbhgadaaGreatDoorTie
import Derived.ProofKit
import Derived.OpenShut
import Derived.Deep.DeepHandedRow
import Derived.Lib.LaidTab
import Derived.Lib.LaidU8
import Derived.Test.YtemcneddbhgadaaGreatDoorX9zz
import Derived.Test.YtemcneddbhgadaaGreatDoorXKzz
namespace Go.Proofs.YtemcneddbhgadaaGreatDoor.Dg
open Go.ChangeShapes Go.WideShapes Go.ChangeAt Go.RowKit
theorem own:ownKnob Tryz.prog.godebug=none:=by kernel_rfl
theorem qr8 {W : World} {name : String} {k : IntKind} {zs : List Int} {g : Nat} {t e : TypeId} {n : Nat}
    (hg:Tryz.prog.globalNamed name=some g) (hty:(Tryz.prog.globals[g]?).map (·.type)=some t) (ht:Tryz.prog.underlying t=some (.array n e)) (he:Tryz.prog.underlying e=some (.int k)) (hce:Tryz.prog.cellsOf e=1) (hct:Tryz.prog.cellsOf t=n)
    (h:Lib.VarReads Tryz.prog W name (Lib.tabData k zs)):Lib.TabIs Tryz.prog W name k zs:=by
  obtain ⟨g',t',cs,fuel,p,hg',ht',hvar,hd⟩:=h
  obtain rfl:=Option.some.inj (hg.symm.trans hg')
  obtain rfl:=Option.some.inj (hty.symm.trans ht')
  unfold Lib.TabIs
  rw [hvar,←Lib.cells_of_tab ht he hce hct hd]
theorem qu9:Tryz.prog.globalNamed "cairn/sha.first"=some 0:=by kernel_rfl
theorem qva:Tryz.prog.globalNamed "cairn/sha.roots"=some 2:=by kernel_rfl
theorem qzu:(Tryz.prog.globals[0]?).map (·.type)=some 147:=by kernel_rfl
theorem qzv:(Tryz.prog.globals[2]?).map (·.type)=some 177:=by kernel_rfl
theorem ql4:Tryz.prog.cellsOf 86=1:=by kernel_rfl
theorem qxi:Tryz.prog.cellsOf 147=8:=by kernel_rfl
theorem qr9:Tryz.prog.cellsOf 177=64:=by kernel_rfl
def HL:List Int:=[1779033703,3144134277,1013904242,2773480762,1359893119,2600822924,528734635,1541459225]
def KI:List Int:=[1116352408,1899447441,3049323471,3921009573,961987163,1508970993,2453635748,2870763221,3624381080,310598401,607225278,1426881987,1925078388,2162078206,2614888103,3248222580,3835390401,4022224774,264347078,604807628,770255983,1249150122,1555081692,1996064986,2554220882,2821834349,2952996808,3210313671,3336571891,3584528711,113926993,338241895,666307205,773529912,1294757372,1396182291,1695183700,1986661051,2177026350,2456956037,2730485921,2820302411,3259730800,3345764771,3516065817,3600352804,4094571909,275423344,430227734,506948616,659060556,883997877,958139571,1322822218,1537002063,1747873779,1955562222,2024104815,2227730452,2361852424,2428436474,2756734187,3204031479,3329325298]
theorem qzw:∀i,i<64→KI.getD i 0=((K i:Nat):Int):=by decide
theorem qaai:∀i,i<8→HL.getD i 0=((w8 H0 i:Nat):Int):=by decide
theorem ground {W:World} {l:List (String × DataW Unit)} (h:laidMet Tryz.prog l W) (m1:("cairn/sha.first",Rows.laid_cairn_sha_first)∈l) (m2:("cairn/sha.roots",Rows.laid_cairn_sha_roots)∈l):Ground W:=by
 have t1:Lib.TabIs Tryz.prog W "cairn/sha.first" .u32 HL:=qr8 qu9 qzu Tryz.underlying147 Tryz.underlying86 ql4 qxi (Lib.laidMet.reads h m1)
 have t2:Lib.TabIs Tryz.prog W "cairn/sha.roots" .u32 KI:=qr8 qva qzv Tryz.underlying177 Tryz.underlying86 ql4 qr9 (Lib.laidMet.reads h m2)
 have r2:qc3 W:=fun i hi=>by
  have c:=t2.cell qva i hi
  rw [c,qzw i hi]
 refine ⟨fun i hi=>?_,r2,World.block_lt_of_cell? _ _ (r2 0 (by decide))⟩
 have c:=t1.cell qu9 i hi
 rw [c,qaai i hi]
open Go.ChangeShapes Go.WideShapes Go.ChangeAt Go.RowKit
def setCells (c:Array Value):Obj→Obj
 | .cells _ t frozen=>.cells c t frozen
 | o=>o
def LaidIs (os:Os) (V:World):Prop:=V={ World.holding Tryz.prog os ⟨#[],#[],[]⟩ with heap:=((((World.holding Tryz.prog os ⟨#[],#[],[]⟩).heap.modify 0 (setCells #[.int .u32 1779033703,.int .u32 3144134277,.int .u32 1013904242,.int .u32 2773480762,.int .u32 1359893119,.int .u32 2600822924,.int .u32 528734635,.int .u32 1541459225])).modify 2 (setCells #[.int .u32 1116352408,.int .u32 1899447441,.int .u32 3049323471,.int .u32 3921009573,.int .u32 961987163,.int .u32 1508970993,.int .u32 2453635748,.int .u32 2870763221,.int .u32 3624381080,.int .u32 310598401,.int .u32 607225278,.int .u32 1426881987,.int .u32 1925078388,.int .u32 2162078206,.int .u32 2614888103,.int .u32 3248222580,.int .u32 3835390401,.int .u32 4022224774,.int .u32 264347078,.int .u32 604807628,.int .u32 770255983,.int .u32 1249150122,.int .u32 1555081692,.int .u32 1996064986,.int .u32 2554220882,.int .u32 2821834349,.int .u32 2952996808,.int .u32 3210313671,.int .u32 3336571891,.int .u32 3584528711,.int .u32 113926993,.int .u32 338241895,.int .u32 666307205,.int .u32 773529912,.int .u32 1294757372,.int .u32 1396182291,.int .u32 1695183700,.int .u32 1986661051,.int .u32 2177026350,.int .u32 2456956037,.int .u32 2730485921,.int .u32 2820302411,.int .u32 3259730800,.int .u32 3345764771,.int .u32 3516065817,.int .u32 3600352804,.int .u32 4094571909,.int .u32 275423344,.int .u32 430227734,.int .u32 506948616,.int .u32 659060556,.int .u32 883997877,.int .u32 958139571,.int .u32 1322822218,.int .u32 1537002063,.int .u32 1747873779,.int .u32 1955562222,.int .u32 2024104815,.int .u32 2227730452,.int .u32 2361852424,.int .u32 2428436474,.int .u32 2756734187,.int .u32 3204031479,.int .u32 3329325298])).modify 1 (setCells #[.int .u32 1116352408,.int .u32 1899447441,.int .u32 3049323471,.int .u32 3921009573,.int .u32 961987163,.int .u32 1508970993,.int .u32 2453635748,.int .u32 2870763221,.int .u32 3624381080,.int .u32 310598401,.int .u32 607225278,.int .u32 1426881987,.int .u32 1925078388,.int .u32 2162078206,.int .u32 2614888103,.int .u32 3248222580,.int .u32 3835390401,.int .u32 4022224774,.int .u32 264347078,.int .u32 604807628,.int .u32 770255983,.int .u32 1249150122,.int .u32 1555081692,.int .u32 1996064986,.int .u32 2554220882,.int .u32 2821834349,.int .u32 2952996808,.int .u32 3210313671,.int .u32 3336571891,.int .u32 3584528711,.int .u32 113926993,.int .u32 338241895,.int .u32 666307205,.int .u32 773529912,.int .u32 1294757372,.int .u32 1396182291,.int .u32 1695183700,.int .u32 1986661051,.int .u32 2177026350,.int .u32 2456956037,.int .u32 2730485921,.int .u32 2820302411,.int .u32 3259730800,.int .u32 3345764771,.int .u32 3516065817,.int .u32 3600352804,.int .u32 4094571909,.int .u32 275423344,.int .u32 430227734,.int .u32 506948616,.int .u32 659060556,.int .u32 883997877,.int .u32 958139571,.int .u32 1322822218,.int .u32 1537002063,.int .u32 1747873779,.int .u32 1955562222,.int .u32 2024104815,.int .u32 2227730452,.int .u32 2361852424,.int .u32 2428436474,.int .u32 2756734187,.int .u32 3204031479,.int .u32 3329325298])) }
theorem qsa:Tryz.prog.globalNamed "cairn/cairnref02.rounds"=some 1:=by kernel_rfl
theorem qxj:(Tryz.prog.globals[1]?).map (·.type)=some 177:=by kernel_rfl
theorem rounds {W:World} {l:List (String × DataW Unit)} (h:laidMet Tryz.prog l W) (m:("cairn/cairnref02.rounds",Rows.laid_cairn_cairnref02_rounds)∈l):qdv W:=by
 have t:Lib.TabIs Tryz.prog W "cairn/cairnref02.rounds" .u32 KI:=qr8 qsa qxj Tryz.underlying177 Tryz.underlying86 ql4 qr9 (Lib.laidMet.reads h m)
 intro i hi
 have c:=t.cell qsa i hi
 rw [c,qzw i hi]
end Go.Proofs.YtemcneddbhgadaaGreatDoor.Dg
namespace Go.Proofs.YtemcneddbhgadaaGreatDoor
open Go.ChangeShapes Go.WideShapes Go.ChangeAt Go.RowKit
namespace findNames
open Go.ChangeShapes Go.WideShapes Go.ChangeAt Go.RowKit
theorem que (H : Type) (enc : TypeId × Value → H) (W : World) (args : Array Value) (ds gs : List (DataW H)) (before : List MemPlace)
    (hW:DataW.Whole enc Tryz.prog Tryz.f3.params.toList Rows.findNamesSpec.vars false W args.toList ds gs before) (hL:laidMetH Tryz.prog Rows.findNamesRow.laid W) :
    Calls Tryz.prog 3 args W fun e W'=>∃v,e=.returned v∧Rows.findNamesSpec.post enc Tryz.prog Tryz.f3 false true false false W args v W':=by
  have hW':=hW
  obtain ⟨p,q,hA0,hV,rfl,hfz,hnd⟩:=hW
  have hA:DataW.TrodAll enc Tryz.prog W 0 (fun _=>true) true Tryz.f3.params.toList args.toList ds p:=hA0
  rw [Tryz.params3] at hA
  obtain ⟨hargs,rfl,rfl⟩:=trodAll_nil hA
  obtain rfl:args=#[]:=by cases args;simp_all
  obtain ⟨rfl,rfl⟩:=trodVars_none hV
  clear hA0
  simp only [List.append_nil] at hW'
  have Gn:=Dg.ground (l:=Rows.findNamesRow.laid) hL (.tail _ (.head _)) (.tail _ (.tail _ (.head _)))
  have Rn:=Dg.rounds (l:=Rows.findNamesRow.laid) hL (.head _)
  refine (qor W ⟨Gn,Rn,World.block_lt_of_cell? _ _ (Rn 0 (by decide))⟩).mono fun e W' ⟨he,hg⟩=>?_
  subst he
  exact ⟨_,rfl,_,_,_,[],[],[],hW',trodAll_cons_mk (shut_bool Tryz.underlying4 _) trodAll_mk0,trodAll_mk0,rfl,hg.frame _,fun h=>by cases h⟩
theorem quf (os:Os) {V:World} (h:Dg.LaidIs os V):laidMet Tryz.prog Rows.findNamesRow.laid (V.forCall (fun _ _=>0) ⟨#[],#[],[]⟩).memory:=by
 subst h
 exact laidMet_of_run' 8 (by kernel_rfl) (by kernel_rfl)
theorem reads (os:Os) {V:World} (h:Dg.LaidIs os V) {H:Type} (enc:TypeId × Value→H):∃places,DataW.whole enc Tryz.prog (V.forCall (fun _ _=>0) ⟨#[],#[],[]⟩).memory Tryz.f3.params.toList Rows.findNamesSpec.vars false (#[]:Array Value).toList 8=some ([],[],places):=by
 subst h
 exact ⟨[],by kernel_rfl⟩
set_option maxRecDepth 100000 in
theorem lifted (os:Os) (started:os.Started) (H:Type) (enc:TypeId × Value→H) (F:Stop.Interp) :
 ReturnsInHanded {} Tryz.checked os 3 .any ((OpenSpec.ofChange Rows.findNamesSpec).preRow enc Tryz.prog Tryz.f3 Rows.findNamesRow.domain false Rows.findNamesRow.laid) (((OpenSpec.ofChange Rows.findNamesSpec).at F).post enc Tryz.prog Tryz.f3 false true false false):=by
 obtain ⟨places,hx⟩:=reads os rfl enc
 refine returnsInHanded_of_row (C:=Tryz.checked) (s:=OpenSpec.ofChange Rows.findNamesSpec) Dg.own started (by kernel_rfl) Tryz.func3
  (witness_row_at (enc:=enc) (C:=Tryz.checked) false _ #[] rfl (by kernel_rfl) (by kernel_rfl) (by kernel_rfl)
   (OpenSpec.preRow_of_cond 8 hx (by kernel_rfl) (fun k hk=>by cases hk) (by kernel_rfl) (quf os rfl))) ?_
 intro W base args ds gs before hval hW _ _ _ hL _ _
 exact que H enc W args ds gs before hW hL
theorem said:Rows.FindNamesSaid :=
 OpenClaim.holds_of_cond 3 Tryz.f3 rfl rfl rfl rfl rfl rfl rfl ⟨rfl,rfl,rfl,rfl,rfl⟩ rfl rfl rfl rfl rfl (by kernel_rfl) Tryz.func3 (by kernel_rfl)
  (of_decide_eq_true (by kernel_rfl)) (by unfold Func.isWrapper;first | (rw [if_pos (by decide +kernel)];kernel_rfl) | (rw [if_neg (by decide +kernel)];exact ⟨rfl,rfl⟩))
  (fun os started H enc _ F=>by rw [OpenClaim.pre_eq_preRow];exact lifted os started H enc F)
theorem plain (f:FuncId) (fn:Func) (hf:Tryz.pinned.checked.prog.funcNamed "cairn/cairnlaw11.FindNames"=some f) (hfn:Tryz.pinned.checked.prog.funcs[f]?=some fn) :
 true=Tryz.pinned.checked.prog.looks []∧∀(j:Nat) t,fn.params[j]?=some t→Tryz.pinned.checked.prog.wantsStandIn t=false:=by
 obtain rfl:f=3:=Option.some.inj ((show Tryz.prog.funcNamed "cairn/cairnlaw11.FindNames"=some 3 by kernel_rfl).symm.trans hf) |>.symm
 obtain rfl:fn=Tryz.f3:=(Option.some.inj (Tryz.func3.symm.trans hfn)).symm
 refine ⟨by kernel_rfl,fun j t ht=>?_⟩
 rw [Tryz.params3] at ht
 simp at ht
theorem card:Rows.FindNamesCardSaid :=
 Claim7.holds_tied_plain_at .later [] _ _ _ _ said (fun _ h=>by cases h) (by kernel_rfl) (fun _ h=>by cases h) findNames_row_tie rfl ⟨rfl,rfl⟩ (by kernel_rfl) rfl plain (by kernel_rfl)
end findNames
theorem findNames_holds:Rows.FindNamesCardSaid:=findNames.card
end Go.Proofs.YtemcneddbhgadaaGreatDoor
