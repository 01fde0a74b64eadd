import Derived.Test.YtnbdpcpgckfeeaaGreatDoorE8zz
namespace Go.Ev
open Go
section
variable{P:Program}{E:En}
theorem bound_run{o o':Option Value}{d n:Nat}(h:OR E o o')(hb:bound o d=some n):(o'=none∧n=d)∨∃k,o'=some (.int k (.ofNat n)):=by
 cases h with
 |none=>cases hb;exact .inl ⟨rfl,rfl⟩
 |some v v' hv=>
  obtain⟨k,rfl⟩:=natOf_some (show natOf v=some n from hb)
  exact .inr ⟨k,by rw [hv.int_inv]⟩
theorem run_sliceBound{k:IntKind}{n y:Nat}{code:BoundsCode}(h:n≤y)(w:World):(Instr.sliceBound (.int k (.ofNat n)) y code).run P w= .ok n w:=by
 have h':(0:Int)≤Int.ofNat n∧Int.ofNat n≤(y:Int):=by simp only[Int.ofNat_eq_natCast];omega
 simp only[Instr.sliceBound,asIntOf,Sem.run_bind,Sem.run_pure,Result.andThen_ok,h',and_self,if_true]
 rfl
theorem run_bounds2{isS:Bool}{len cap l h:Nat}{lo lo' hi hi':Option Value}(hlo:OR E lo lo')(hhi:OR E hi hi')(h1:bound lo 0=some l)(h2:bound hi len=some h)(hl:l≤h)(hh:h≤cap)(w:World):
  (Instr.sliceBounds isS len cap lo' hi' none).run P w= .ok (l,h,cap) w:=by
 rcases bound_run hlo h1 with⟨rfl,rfl⟩|⟨k,rfl⟩<;>rcases bound_run hhi h2 with⟨rfl,rfl⟩|⟨k2,rfl⟩<;>simp only[Instr.sliceBounds,Sem.run_bind,Sem.run_pure,Result.andThen_ok,run_sliceBound hl,run_sliceBound hh,Option.isSome_none,Bool.false_eq_true,if_false]
theorem run_bounds3{isS:Bool}{len cap l h m:Nat}{lo lo' hi':Option Value}{hv mv mv':Value}(hlo:OR E lo lo')(hhi:OR E (some hv) hi')(hmx:VR E mv mv')(h1:bound lo 0=some l)(h2:natOf hv=some h)(h3:natOf mv=some m)(hl:l≤h)(hh:h≤m)(hm:m≤cap)(w:World):
  (Instr.sliceBounds isS len cap lo' hi' (some mv')).run P w= .ok (l,h,m) w:=by
 obtain⟨k3,rfl⟩:=natOf_some h3
 obtain rfl:=hmx.int_inv
 rcases bound_run hhi (show bound (some hv) 0=some h from h2)with⟨e,_⟩|⟨k2,rfl⟩
 ·subst e;cases hhi
 rcases bound_run hlo h1 with⟨rfl,rfl⟩|⟨k,rfl⟩<;>simp only[Instr.sliceBounds,Sem.run_bind,Sem.run_pure,Result.andThen_ok,run_sliceBound hl,run_sliceBound hh,run_sliceBound hm,Option.isSome_some,if_true]
theorem mkSl_eq(b o n c:Nat):mkSl b o n c=some (.slice (some ⟨b,o,none⟩) n c):=by
 unfold mkSl;rw [fN_eq,fN_eq,fN_eq]
theorem least_sure(c es:Nat):capSure (least c es)=false:=by
 unfold capSure least
 have:Nat.mod (Nat.mul 2 (Nat.add c (Nat.mul 18446744073709551616 es))) 2=0:=by show (2*(c+18446744073709551616*es))%2=0;omega
 rw [this];rfl
theorem least_half(c es:Nat):Nat.div (least c es) 2=c+18446744073709551616*es:=by
 show (2*(c+18446744073709551616*es))/2=_;omega
theorem capOf_least{c:Nat}(es:Nat)(h:c<2^64):capOf (least c es)=c:=by
 unfold capOf
 rw [least_sure,least_half]
 show (c+18446744073709551616*es)%18446744073709551616=c
 omega
theorem esOf_least{c:Nat}(es:Nat)(h:c<2^64):esOf (least c es)=es:=by
 unfold esOf
 rw [least_half]
 show (c+18446744073709551616*es)/18446744073709551616=es
 omega
theorem capOf_lt{c:Nat}(h:capSure c=false):capOf c<2^64:=by
 unfold capOf
 rw [h]
 exact Nat.mod_lt _ (by decide)
theorem and3{a b c:Bool}(h:(a&&b&&c)=true):a=true∧b=true∧c=true:=by simp only[Bool.and_eq_true]at h;exact⟨h.1.1,h.1.2,h.2⟩
theorem slice2_sound{size b off n c l h:Nat}{v v':Value}(hv:VR E (.slice (some ⟨b,off,none⟩) n c) v')(hs:slice2 size b off c l h=some v):
  ∃c',v'= .slice (some ⟨E.ι b,E.sh b+off,none⟩) n c'∧l≤h∧h≤c'∧VR E v (.slice (some (if c'=l then⟨E.ι b,E.sh b+off,none⟩else⟨E.ι b,E.sh b+off+l*size,none⟩)) (h-l) (c'-l)):=by
 obtain⟨hb,c',rfl,hc,hcase⟩:=hv.sl_inv
 unfold slice2 at hs
 cases e:(Nat.ble l h&&Nat.ble h (capOf c))with
 |false=>rw [e]at hs;cases hs
 |true=>
  rw [e]at hs
  simp only[Bool.and_eq_true]at e
  have hlh:=Nat.le_of_ble_eq_true e.1
  have hhc:=Nat.le_of_ble_eq_true e.2
  refine⟨c',rfl,hlh,Nat.le_trans hhc hc,?_⟩
  simp only[cond]at hs
  rcases hcase with⟨hsu,hcs,hcc⟩|⟨hsu,hsz⟩
  ·rw [hsu]at hs
   simp only[hcc]at hs
   cases e2:Nat.beq c' l with
   |true=>
    rw [e2]at hs
    simp only[mkSl_eq,Option.some.injEq]at hs
    subst hs
    rw [if_pos (Nat.eq_of_beq_eq_true e2)]
    exact .slS b off (h-l) (c'-l) hb
   |false=>
    rw [e2]at hs
    simp only[mkSl_eq,Option.some.injEq]at hs
    subst hs
    rw [if_neg (fun e3=>by subst e3;rw [Nat.beq_refl]at e2;cases e2),Nat.add_assoc]
    exact .slS b (off+l*size) (h-l) (c'-l) hb
  ·rw [hsu]at hs
   simp only at hs
   cases e2:Nat.beq l 0 with
   |true=>
    rw [e2]at hs
    simp only[mkSl_eq,Option.some.injEq]at hs
    subst hs
    have:l=0:=Nat.eq_of_beq_eq_true e2
    subst this
    simp only[Nat.zero_mul,Nat.add_zero,ite_self,Nat.sub_zero]
    exact .slM b off h c c' hb hsu hc hsz
   |false=>
    rw [e2]at hs
    simp only at hs
    cases e3:Nat.blt l (capOf c)with
    |true=>
     rw [e3]at hs
     simp only at hs
     cases e4:Nat.beq (esOf c) size with
     |false=>rw [e4]at hs;cases hs
     |true=>
      rw [e4]at hs
      simp only[mkSl_eq,Option.some.injEq]at hs
      subst hs
      have hes:=Nat.eq_of_beq_eq_true e4
      have hl:l<capOf c:=Nat.le_of_ble_eq_true e3
      have hlt:capOf c-l<2^64:=by have:=capOf_lt hsu;omega
      rw [if_neg (by omega),Nat.add_assoc]
      refine .slM b (off+l*size) (h-l) (least (capOf c-l) size) (c'-l) hb (least_sure _ _) ?_ ?_
      ·rw [capOf_least _ hlt];omega
      ·rw [esOf_least _ hlt]
       rw [hes]at hsz
       have:(c'-l)*size+l*size=c'*size:=by rw [←Nat.add_mul];congr 1;omega
       omega
    |false=>
     rw [e3]at hs
     cases hs
     have hl:¬l<capOf c:=fun hh=>by
      have:=Nat.ble_eq_true_of_le (show l+1≤capOf c from hh)
      rw [show Nat.ble (l+1) (capOf c)=Nat.blt l (capOf c)from rfl,e3]at this;cases this
     rw [show h-l=0 by omega]
     exact .slV b 0 _ _
theorem slice3_sound{size b off n c l h m:Nat}{v v':Value}(hv:VR E (.slice (some ⟨b,off,none⟩) n c) v')(hs:slice3 size b off c l h m=some v):
  ∃c',v'= .slice (some ⟨E.ι b,E.sh b+off,none⟩) n c'∧l≤h∧h≤m∧m≤c'∧VR E v (.slice (some (if m=l then⟨E.ι b,E.sh b+off,none⟩else⟨E.ι b,E.sh b+off+l*size,none⟩)) (h-l) (m-l)):=by
 obtain⟨hb,c',rfl,hc,hcase⟩:=hv.sl_inv
 unfold slice3 at hs
 cases e:(Nat.ble l h&&Nat.ble h m&&Nat.ble m (capOf c))with
 |false=>rw [e]at hs;cases hs
 |true=>
  rw [e]at hs
  simp only[Bool.and_eq_true]at e
  have h1:=Nat.le_of_ble_eq_true e.1.1
  have h2:=Nat.le_of_ble_eq_true e.1.2
  have h3:=Nat.le_of_ble_eq_true e.2
  refine⟨c',rfl,h1,h2,Nat.le_trans h3 hc,?_⟩
  simp only[cond]at hs
  cases e2:Nat.beq m l with
  |true=>
   rw [e2]at hs
   simp only[mkSl_eq,Option.some.injEq]at hs
   subst hs
   rw [if_pos (Nat.eq_of_beq_eq_true e2)]
   exact .slS b off (h-l) (m-l) hb
  |false=>
   rw [e2]at hs
   simp only[mkSl_eq,Option.some.injEq]at hs
   subst hs
   rw [if_neg (fun e3=>by subst e3;rw [Nat.beq_refl]at e2;cases e2),Nat.add_assoc]
   exact .slS b (off+l*size) (h-l) (m-l) hb
theorem sliceRow_sound{isS:Bool}{size b off n c:Nat}{lo lo' hi hi' mx mx':Option Value}{v v':Value}(hv:VR E (.slice (some ⟨b,off,none⟩) n c) v')(hlo:OR E lo lo')(hhi:OR E hi hi')(hmx:OR E mx mx')
  (hs:sliceRow size b off n c lo hi mx=some v):
  ∃c' l h m,v'= .slice (some ⟨E.ι b,E.sh b+off,none⟩) n c'∧(∀w,(Instr.sliceBounds isS n c' lo' hi' mx').run P w= .ok (l,h,m) w)∧
   VR E v (.slice (some (if m=l then⟨E.ι b,E.sh b+off,none⟩else⟨E.ι b,E.sh b+off+l*size,none⟩)) (h-l) (m-l)):=by
 unfold sliceRow at hs
 split at hs
 ·rename_i l h h1 h2
  cases hmx
  obtain⟨c',k1,k2,k3,k4⟩:=slice2_sound hv hs
  exact⟨c',l,h,c',k1,fun w=>run_bounds2 hlo hhi h1 h2 k2 k3 w,k4⟩
 ·rename_i l h m h1 h2
  cases hm:natOf m with
  |none=>rw [hm]at hs;cases hs
  |some m'=>
   rw [hm]at hs
   cases hi with
   |none=>cases hs
   |some hv'=>
    cases hmx with
    |some _ mv' hmv=>
     obtain⟨c',k1,k2,k3,k4,k5⟩:=slice3_sound hv hs
     exact⟨c',l,h,m',k1,fun w=>run_bounds3 hlo hhi hmv h1 h2 hm k2 k3 k4 w,k5⟩
 ·cases hs
theorem natO_eq{o o':Option Value}(h:OR E o o')(hn:natO o=true):o'=o:=by
 cases h with
 |none=>rfl
 |some v v' hv=>
  obtain⟨n,e⟩:=Option.isSome_iff_exists.1 (show (natOf v).isSome=true from hn)
  obtain⟨k,rfl⟩:=natOf_some e
  rw [hv.int_inv]
theorem xArr_sound(t:TypeId){a a':Value}(ha:VR E a a'):PuY P E (fun s=>xArr P t a s) (Instr.arrayAt t a'):=by
 unfold xArr
 split
 ·rename_i n e b off len c hu
  obtain⟨hb,c',rfl, -, -⟩:=ha.sl_inv
  cases h:Nat.ble n len with
  |false=>exact .no fun _=>rfl
  |true=>
   have hn:¬len<n:=by have:=Nat.le_of_ble_eq_true h;omega
   refine .yes (fun s=>okPt_eq b _ s) (.ptr b _ hb) fun w=>?_
   simp only[Instr.arrayAt,Sem.run_bind,run_underlying hu,Result.andThen_ok,hn,if_false,Sem.run_pure]
 ·exact .no fun _=>rfl
theorem xSlice_sound(t:TypeId){a a':Value}{lo lo' hi hi' mx mx':Option Value}(ha:VR E a a')(hlo:OR E lo lo')(hhi:OR E hi hi')(hmx:OR E mx mx'):
  PuY P E (fun s=>xSlice P t a lo hi mx s) (Instr.sliceAt t a' lo' hi' mx'):=by
 unfold xSlice
 split
 ·rename_i n e b off hu
  obtain⟨hb,rfl⟩:=ha.ptr_inv
  split
  ·rename_i size hs
   refine PuY.ofO fun v hv=>?_
   obtain⟨c',l,h,m,k1,k2,k3⟩:=sliceRow_sound (P:=P) (isS:=false) (VR.slS (E:=E) b off n n hb) hlo hhi hmx hv
   cases k1
   refine⟨_,k3,fun w=>?_⟩
   simp only[Instr.sliceAt,Sem.run_bind,run_underlying hu,Result.andThen_ok,Instr.sureAddr,Sem.run_pure,k2 w,run_sizeOf w hs,add_eq]
  ·exact .no fun _=>rfl
 ·rename_i e b off len c hu
  split
  ·rename_i size hs
   refine PuY.ofO fun v hv=>?_
   obtain⟨c',l,h,m,rfl,k2,k3⟩:=sliceRow_sound (P:=P) (isS:=true) ha hlo hhi hmx hv
   refine⟨_,k3,fun w=>?_⟩
   simp only[Instr.sliceAt,Sem.run_bind,run_underlying hu,Result.andThen_ok,Instr.slice,Sem.run_pure,k2 w,run_sizeOf w hs]
   congr 2
   split
   ·rfl
   ·simp[add_eq]
  ·exact .no fun _=>rfl
 ·rename_i e len c hu
  cases e:(natO lo&&natO hi&&natO mx)with
  |false=>exact .no fun _=>rfl
  |true=>
   obtain⟨e1,e2,e3⟩:=and3 e
   obtain rfl:=natO_eq hlo e1
   obtain rfl:=natO_eq hhi e2
   obtain rfl:=natO_eq hmx e3
   obtain rfl:=plain_eq 1 _ _ rfl ha
   refine PuY.ofPure fun v hv w=>?_
   have:=pureRun_run hv w
   simp only[Instr.sliceAt,Sem.run_bind,run_underlying hu,Result.andThen_ok]
   exact this
 ·rename_i u hu
  cases e:(natO lo&&natO hi&&natO mx)with
  |false=>exact .no fun _=>rfl
  |true=>
   obtain⟨e1,e2,e3⟩:=and3 e
   obtain rfl:=natO_eq hlo e1
   obtain rfl:=natO_eq hhi e2
   obtain rfl:=natO_eq hmx e3
   obtain rfl:=ha.str_inv
   refine PuY.ofPure fun v hv w=>?_
   have:=pureRun_run hv w
   simp only[Instr.sliceAt,Sem.run_bind,run_underlying hu,Result.andThen_ok]
   exact this
 ·exact .no fun _=>rfl
theorem cellsL_sound{v v':Value}{cs:List Value}(h:VR E v v')(hc:cellsL v=some cs):VRs E cs v'.cells.toList:=by
 unfold cellsL at hc
 split at hc
 ·cases hc
  obtain⟨l',rfl,hl⟩:=h.agg_inv
  exact hl
 ·cases hc
 ·cases hc
 ·rename_i h1 h2 h3
  rw [fV_eq]at hc
  cases hc
  have:v'.cells= #[v']:=by
   cases h<;>first|rfl|(exfalso;exact h1 _ rfl)|(exfalso;exact h2 _ rfl)|(exfalso;exact h3 _ rfl)
  rw [this]
  exact .cons _ _ _ _ h .nil
theorem fold_lay:∀(vs:List Value) (c:Array Value) (o i:Nat),(vs.zipIdx i).foldl (fun cs (p:Value×Nat)=>cs.setIfInBounds (o+p.2) p.1) c=lay c (o+i) vs
 |[],c,o,i=>rfl
 |v::vs,c,o,i=>by
  rw [List.zipIdx_cons,List.foldl_cons,lay,fold_lay vs _ o (i+1)]
  rfl
theorem fill_step{place:Nat→Option (Nat×Nat)}{cells:Array Value}{i:Nat}{v:Value}{rest:List (Nat×Value)}{off n:Nat}(hp:place i=some (off,n))(hn:v.cells.size=n)(hb:off+n≤cells.size):
  Instr.fill place cells ((i,v)::rest)=Instr.fill place (lay cells off v.cells.toList) rest:=by
 rw [Instr.fill,hp]
 simp only
 rw [if_neg (by simp[hn];omega)]
 congr 1
 have:=fold_lay v.cells.toList cells off 0
 rw [Nat.add_zero]at this
 rw [←this,←Array.foldl_toList]
 simp
theorem lay_toList(c:Array Value)(o:Nat)(vs:List Value)(h:o+vs.length≤c.size):(lay c o vs).toList=c.toList.take o++(vs++c.toList.drop (o+vs.length)):=by
 apply List.ext_getElem?
 intro i
 rw [Array.getElem?_toList,lay_get _ _ _ _ h,List.getElem?_append,List.getElem?_append]
 simp only[List.length_take,Array.length_toList,Nat.min_eq_left (show o≤c.size by omega),List.getElem?_take,List.getElem?_drop,Array.getElem?_toList]
 by_cases h1:i<o
 ·rw [if_neg (by omega),if_pos h1,if_pos h1]
 ·rw [if_neg h1]
  by_cases h2:i<o+vs.length
  ·rw [if_pos (by omega),if_pos (by omega)]
  ·rw [if_neg (by omega),if_neg (by omega)]
   congr 1
   omega
theorem fillP_sound{tm:Tr Value}{ρ:Operand→Value}{pl:Nat→Option (Nat×Nat)}:∀(ps:List (Nat×Operand)) (_:∀x∈ps.map (·.2),VR E (opd tm x) (ρ x)) (cs r cs':List Value),VRs E cs cs'→fillP pl tm ps cs=some r→
  ∃r',VRs E r r'∧r'.length=cs'.length∧Instr.fill pl ⟨cs'⟩ (ps.map fun(i,x)=>(i,ρ x))=some ⟨r'⟩
 |[],_,cs,r,cs',hc,h=>by cases h;exact⟨cs',hc,rfl,rfl⟩
 |(i,x)::ps,hρ,cs,r,cs',hc,h=>by
  unfold fillP at h
  split at h
  ·cases h
  ·rename_i off n hp
   split at h
   ·cases h
   ·rename_i vs hvs
    cases e:Nat.beq vs.length n with
    |false=>rw [e]at h;cases h
    |true=>
     rw [e]at h
     simp only[cond]at h
     split at h
     ·rename_i cs2 hsp
      obtain⟨h1,rfl,_⟩:=splice_some hsp
      have hn:=Nat.eq_of_beq_eq_true e
      have hv:=cellsL_sound (hρ x (by simp)) hvs
      have hlen:=hv.length
      have hcl:=hc.length
      have hsz:(ρ x).cells.size=n:=by rw [←Array.length_toList,←hlen,hn]
      have hb:off+n≤(⟨cs'⟩:Array Value).size:=by show off+n≤cs'.length;omega
      obtain⟨r',k1,k2,k3⟩:=fillP_sound ps (fun y hy=>hρ y (by simp only[List.map_cons,List.mem_cons];exact .inr hy)) _ r ((lay ⟨cs'⟩ off (ρ x).cells.toList).toList) (by
       rw [lay_toList _ _ _ (by rw [Array.length_toList,hsz];exact hb),←hlen]
       exact(hc.take off).append (hv.append (hc.drop _))) h
      refine⟨r',k1,by rw [k2,Array.length_toList,lay_size];rfl,?_⟩
      rw [List.map_cons,fill_step hp hsz hb]
      exact k3
     ·cases h
end
end Go.Ev
namespace Go.Ev
open Go
section
variable{P:Program}{E:En}
theorem zeroCs_sound{t:TypeId}{z:List Value}(h:zeroCs P t=some z):∃v,zeroOf P t=some v∧VR E v v∧VRs E z v.cells.toList∧v.cells.toList=z:=by
 unfold zeroCs at h
 split at h
 ·rename_i v hv
  unfold cellsP at h
  cases hp:plain 5 v with
  |false=>rw [hp]at h;cases h
  |true=>
   rw [hp]at h
   have hc:cellsL v=some z:=h
   have hvv:=plain_VR E 5 v hp
   refine⟨v,hv,hvv,cellsL_sound hvv hc,?_⟩
   unfold cellsL at hc
   split at hc
   ·cases hc;rfl
   ·cases hc
   ·cases hc
   ·rename_i h1 h2 h3
    rw [fV_eq]at hc
    cases hc
    cases v<;>first|rfl|(exact absurd rfl (h1 _))|(exact absurd rfl (h2 _))|(exact absurd rfl (h3 _))
 ·cases h
theorem run_places(w:World):∀(fs:List Field),sized P fs=true→∃l:List (Nat×Nat),(fs.mapM (m:=Sem) fun f=>do pure (f.offset,←sizeOf f.type)).run P w= .ok l w∧∀i,l[i]? =places P fs i
 |[],_=>⟨[],by simp,fun i=>by simp[places]⟩
 |f::fs,h=>by
  simp only[sized,List.all_cons,Bool.and_eq_true]at h
  obtain⟨n,hn⟩:=Option.isSome_iff_exists.1 h.1
  obtain⟨l,h1,h2⟩:=run_places w fs h.2
  refine⟨(f.offset,n)::l,?_,fun i=>?_⟩
  ·rw [List.mapM_cons]
   simp only[Sem.run_bind,run_sizeOf w hn,Result.andThen_ok,Sem.run_pure,h1]
  ·cases i with
   |zero=>simp[places,hn]
   |succ i=>simpa[places]using h2 i
theorem xBuild_sound{tm:Tr Value}{ρ:Operand→Value}(t:TypeId)(ps:Array (Nat×Operand))(hρ:∀x∈ps.toList.map (·.2),VR E (opd tm x) (ρ x)):
  PuY P E (fun s=>xBuild P t ps.toList tm s) (Instr.build t (ps.map fun(i,x)=>(i,ρ x))):=by
 have hps:(ps.map fun(i,x)=>(i,ρ x)).toList=ps.toList.map fun(i,x)=>(i,ρ x):=by simp
 have fin:∀{o:Option (List Value)} {m:Sem Value},(∀r,o=some r→∃r',VRs E r r'∧∀w,m.run P w= .ok (.agg ⟨r'⟩) w)→PuY P E (fun s=>okAgg o s) m:=by
  intro o m h
  cases o with
  |none=>exact .no fun _=>rfl
  |some r=>obtain⟨r',h1,h2⟩:=h r rfl;exact .yes (fun _=>rfl) (.agg _ _ h1) h2
 unfold xBuild
 split
 ·rename_i z fs hz hu
  obtain⟨v,hv,_,hzv,_⟩:=zeroCs_sound (E:=E) hz
  cases hsd:sized P fs.toList with
  |false=>exact .no fun _=>rfl
  |true=>
   refine fin fun r hr=>?_
   obtain⟨r',k1,_,k3⟩:=fillP_sound _ hρ _ _ _ hzv hr
   refine⟨r',k1,fun w=>?_⟩
   obtain⟨l,h1,h2⟩:=run_places w fs.toList hsd
   have hm:(fs.mapM (m:=Sem) fun f=>do pure (f.offset,←sizeOf f.type)).run P w= .ok l.toArray w:=by
    rw [Array.mapM_eq_mapM_toList]
    simp only[Sem.run_map,h1,Result.andThen_ok]
   have hpl:(fun i=>l.toArray[i]?)=places P fs.toList:=funext fun i=>by rw [List.getElem?_toArray];exact h2 i
   simp only[Instr.build,Sem.run_bind,run_zeroValue w hv,Result.andThen_ok,run_underlying hu,hm,hpl,hps]
   rw [show v.cells=⟨v.cells.toList⟩from rfl,k3]
   rfl
 ·rename_i z n e hz hu
  obtain⟨v,hv,_,hzv,_⟩:=zeroCs_sound (E:=E) hz
  split
  ·rename_i size hs
   refine fin fun r hr=>?_
   obtain⟨r',k1,_,k3⟩:=fillP_sound _ hρ _ _ _ hzv hr
   refine⟨r',k1,fun w=>?_⟩
   simp only[Instr.build,Sem.run_bind,run_zeroValue w hv,Result.andThen_ok,run_underlying hu,run_sizeOf w hs,hps]
   rw [show v.cells=⟨v.cells.toList⟩from rfl]
   rw [show (fun i=>some (i*size,size))=(fun i=>some (Nat.mul i size,size))from rfl,k3]
   rfl
  ·exact .no fun _=>rfl
 ·exact .no fun _=>rfl
theorem consV_eq(v:Value)(l:List Value):consV v l=v::l:=by unfold consV;rw [fV_eq,consS_eq]
theorem opds_eq(tm:Tr Value):∀xs,opds tm xs=xs.map (opd tm)
 |[]=>rfl
 |x::xs=>by show consV (opd tm x) (opds tm xs)=_;rw [consV_eq,opds_eq tm xs];rfl
theorem opds_sound{tm:Tr Value}{ρ:Operand→Value}:∀(xs:List Operand) (_:∀x∈xs,VR E (opd tm x) (ρ x)),VRs E (opds tm xs) (xs.map ρ)
 |[],_=>.nil
 |x::xs,hρ=>by rw [opds_eq,List.map_cons,←opds_eq];exact .cons _ _ _ _ (hρ x (by simp)) (opds_sound xs fun y hy=>hρ y (by simp[hy]))
theorem opdO_sound{tm:Tr Value}{ρ:Operand→Value}:∀(x:Option Operand) (_:∀y∈x.toList,VR E (opd tm y) (ρ y)),OR E (opdO tm x) (x.map ρ)
 |none,_=>.none
 |some x,hρ=>.some _ _ (hρ x (by simp))
theorem xIface_sound(t:TypeId){a a':Value}(ha:VR E a a'):PuY P E (fun s=>xIface (P.underlying t) t a s) (Instr.makeInterface t a'):=by
 unfold xIface
 split
 ·exact .no fun _=>rfl
 ·rename_i d hd hi
  refine .yes (fun _=>rfl) (.ifc t a a' ha) fun w=>?_
  simp only[Instr.makeInterface,Sem.run_bind,run_underlying hi,Result.andThen_ok]
  rfl
 ·exact .no fun _=>rfl
theorem headT_some{ts:Array TypeId}{d:TypeDesc}(h:headT P ts.toList=some d):∃t,ts[0]? =some t∧P.underlying t=some d:=by
 obtain⟨l⟩:=ts
 cases l with
 |nil=>cases h
 |cons t l=>exact⟨t,by simp,h⟩
theorem VRs.one_inv{v:Value}{l':List Value}(h:VRs E [v] l'):∃v',l'=[v']∧VR E v v':=by
 cases h with
 |cons _ v' _ l' hv hl=>cases hl;exact⟨v',rfl,hv⟩
theorem xLen_sound(ts:Array TypeId)(ty:TypeId){args args':List Value}(ha:VRs E args args')(hm:∀k e,headT P ts.toList≠some (.map k e)):PuY P E (fun s=>xLen P ts.toList args s) (Builtin.len_ ts ty ⟨args'⟩):=by
 unfold xLen
 split
 ·rename_i e a n c hd
  obtain⟨v',rfl,hv⟩:=ha.one_inv
  obtain⟨a',c',rfl,_⟩:=hv.slice_any
  obtain⟨t,h1,h2⟩:=headT_some hd
  exact .yes (fun _=>rfl) (.int _ _) fun w=>by simp[Builtin.len_,h1,run_underlying h2,goInt]
 ·rename_i u hd
  obtain⟨v',rfl,hv⟩:=ha.one_inv
  obtain rfl:=hv.str_inv
  obtain⟨t,h1,h2⟩:=headT_some hd
  exact .yes (fun s=>okN_eq _ _ s) (.int _ _) fun w=>by simp[Builtin.len_,h1,run_underlying h2,goInt]
 ·rename_i n e v hd
  obtain⟨v',rfl,hv⟩:=ha.one_inv
  obtain⟨t,h1,h2⟩:=headT_some hd
  exact .yes (fun s=>okN_eq _ _ s) (.int _ _) fun w=>by simp[Builtin.len_,h1,run_underlying h2,goInt]
 ·rename_i hd;exact absurd hd (hm _ _)
 ·rename_i hd;exact absurd hd (hm _ _)
 ·exact .no fun _=>rfl
theorem xCap_sound(ts:Array TypeId)(ty:TypeId){args args':List Value}(ha:VRs E args args'):PuY P E (fun s=>xCap P ts.toList args s) (Builtin.cap_ ts ty ⟨args'⟩):=by
 unfold xCap
 split
 ·rename_i e n c hd
  obtain⟨v',rfl,hv⟩:=ha.one_inv
  obtain rfl:=plain_eq 1 _ _ rfl hv
  obtain⟨t,h1,h2⟩:=headT_some hd
  exact .yes (fun s=>okN_eq _ _ s) (.int _ _) fun w=>by simp[Builtin.cap_,h1,run_underlying h2,goInt]
 ·rename_i e b o n c hd
  obtain⟨v',rfl,hv⟩:=ha.one_inv
  obtain⟨_,c',rfl,_,hcase⟩:=hv.sl_inv
  obtain⟨t,h1,h2⟩:=headT_some hd
  rcases hcase with⟨k1,k2,k3⟩|⟨k1,_⟩
  ·rw [k1,k3]
   exact .yes (fun s=>okN_eq _ _ s) (.int _ _) fun w=>by simp[Builtin.cap_,h1,run_underlying h2,goInt]
  ·rw [k1];exact .no fun _=>rfl
 ·exact .no fun _=>rfl
theorem allInt_eq:∀{args args':List Value},VRs E args args'→allInt args=true→args'=args
 |_,_,.nil,_=>rfl
 |_,_,.cons v v' l l' hv hl,h=>by
  simp only[allInt,List.all_cons,Bool.and_eq_true]at h
  rw [allInt_eq hl h.2]
  have:=h.1
  split at this
  ·rw [hv.int_inv]
  ·cases this
theorem kind_len(P:Program)(ts:Array TypeId)(args:Array Operand):kindOf P (.call ⟨.builtin .len,args,ts⟩)= .none→∀k e,headT P ts.toList≠some (.map k e):=by
 intro h k e hm
 obtain⟨t,h1,h2⟩:=headT_some hm
 simp only[kindOf,h1,Option.bind_some,h2]at h
 cases h
def Seen(E:En)(tm:Tr Value)(ρ:Operand→Value)(op:Op):Prop:= ∀x∈op.operands.toList,VR E (opd tm x) (ρ x)
theorem exec_pure{tm:Tr Value}{ρ:Operand→Value}(o:Oper)(hρ:Seen E tm ρ o.op)(hk:kindOf P o.op= .none):PuO P E (fun s=>exec P o.op tm s) (execOp ρ o):=by
 obtain⟨d0,op,type,pos,aft,guard⟩:=o
 simp only at hk hρ
 have hm:∀x,x∈op.operands.toList→VR E (opd tm x) (ρ x):=hρ
 cases op with
 |move x=>exact .yes (fun _=>rfl) (hm x (by simp[Op.operands])) fun w=>rfl
 |assign x=>exact .yes (fun _=>rfl) (hm x (by simp[Op.operands])) fun w=>rfl
 |pick c x y=>exact xPick_sound P (hm c (by simp[Op.operands])) (hm x (by simp[Op.operands])) (hm y (by simp[Op.operands]))
 |build t ps=>exact(xBuild_sound t ps fun x hx=>hm x (by simpa[Op.operands]using hx)).o
 |nilCheck x=>exact xNil_sound (hm x (by simp[Op.operands])) rfl
 |binOp op t x y u=>exact(xBin_sound P op t x y (hm x (by simp[Op.operands])) (hm y (by simp[Op.operands]))).o
 |unOp op t x=>exact(xUn_sound P op (hm x (by simp[Op.operands]))).o
 |makeInterface t x=>exact(xIface_sound t (hm x (by simp[Op.operands]))).o
 |makeFunc fn x y=>
  show PuO P E (fun s=>cond (fnOk fn) (.ok (.val (.func fn ⟨opds tm x.toList⟩ ⟨opds tm y.toList⟩)) s) .no) _
  have hx:(x.map ρ)=⟨x.toList.map ρ⟩:=by apply Array.ext';simp
  have hy:(y.map ρ)=⟨y.toList.map ρ⟩:=by apply Array.ext';simp
  cases fn with
  |func f=>exact .yes (fun _=>rfl) (.func f _ _ _ _ (opds_sound x.toList fun z hz=>hm z (by simp only[Op.operands,Array.toList_append,List.mem_append];exact .inl hz)) (opds_sound y.toList fun z hz=>hm z (by simp only[Op.operands,Array.toList_append,List.mem_append];exact .inr hz))) fun w=>by simp[execOp,Instr.makeFunc,hx,hy]
  |method f=>exact .yes (fun _=>rfl) (.meth f _ _ _ _ (opds_sound x.toList fun z hz=>hm z (by simp only[Op.operands,Array.toList_append,List.mem_append];exact .inl hz)) (opds_sound y.toList fun z hz=>hm z (by simp only[Op.operands,Array.toList_append,List.mem_append];exact .inr hz))) fun w=>by simp[execOp,Instr.makeFunc,hx,hy]
  |methodOf=>exact .no fun _=>rfl
  |via=>exact .no fun _=>rfl
  |yield=>exact .no fun _=>rfl
 |slice t x lo hi mx=>exact(xSlice_sound t (hm x (by simp[Op.operands])) (opdO_sound lo fun z hz=>hm z (by simp only[Op.operands,Array.toList_append,List.mem_append,Option.toList_toArray];exact .inl (.inl (.inr hz)))) (opdO_sound hi fun z hz=>hm z (by simp only[Op.operands,Array.toList_append,List.mem_append,Option.toList_toArray];exact .inl (.inr hz))) (opdO_sound mx fun z hz=>hm z (by simp only[Op.operands,Array.toList_append,List.mem_append,Option.toList_toArray];exact .inr hz))).o
 |sliceToArrayPointer t x=>exact(xArr_sound t (hm x (by simp[Op.operands]))).o
 |fieldAddr t x f=>exact(xFieldAddr_sound t f (hm x (by simp[Op.operands]))).o
 |field t x f=>exact(xField_sound t f (hm x (by simp[Op.operands]))).o
 |indexAddr t x i=>exact(xIndexAddr_sound t (hm x (by simp[Op.operands])) (hm i (by simp[Op.operands]))).o
 |index t x i=>exact(xIndex_sound t (hm x (by simp[Op.operands])) (hm i (by simp[Op.operands]))).o
 |extract t i=>exact(xExtract_sound i (hm t (by simp[Op.operands]))).o
 |convert src dst x=>
  show PuO P E (fun s=>xConv P src dst (opd tm x) s) _
  unfold xConv
  split
  ·rename_i k n hx
   have:=hm x (by simp[Op.operands])
   rw [hx]at this
   have e:=this.int_inv
   have h2:execOp ρ ⟨d0,.convert src dst x,type,pos,aft,guard⟩=(do pure (.value (←convert src dst (.int k n)))):=by show (do pure (Next.value (←convert src dst (ρ x))))=_;rw [e]
   rw [h2]
   exact(intTo_sound P src dst k n).o
  ·rename_i u hx
   have:=hm x (by simp[Op.operands])
   rw [hx]at this
   have e:=this.str_inv
   split
   ·rename_i h1 h2
    refine .yes (fun _=>rfl) (.str u) fun w=>?_
    show (do pure (Next.value (←convert src dst (ρ x)))).run P w=_
    rw [e]
    simp[convert,run_underlying h1,run_underlying h2]
   ·rename_i h1 h2
    simp only[kindOf,h1,h2]at hk
    cases hk
   ·exact .no fun _=>rfl
  ·split
   ·rename_i h1 h2
    simp only[kindOf,h1,h2]at hk
    cases hk
   ·rename_i h1 h2
    simp only[kindOf,h1,h2]at hk
    cases hk
   ·exact .no fun _=>rfl
  ·split
   ·rename_i h1 h2 _
    simp only[kindOf,h1,h2]at hk
    cases hk
   ·exact .no fun _=>rfl
  ·exact .no fun _=>rfl
 |call c=>
  obtain⟨callee,args,ts⟩:=c
  have hargs:(args.map ρ)=⟨args.toList.map ρ⟩:=by apply Array.ext';simp
  cases callee with
  |builtin b=>
   have hb:∀(m:Sem Value),builtin b ts type (args.map fun| .const _=>true|_=>false) (args.map ρ)=(do pure (.value (←m)))→(execOp ρ ⟨d0,.call ⟨.builtin b,args,ts⟩,type,pos,aft,guard⟩)=(do pure (.value (←m))):=by
    intro m hm
    rw [←hm]
    rfl
   cases b with
   |len=>
    rw [hb (Builtin.len_ ts type (args.map ρ)) rfl,hargs]
    exact(xLen_sound ts type (opds_sound args.toList fun z hz=>hm z (by simp only[Op.operands,Call.operands,Array.toList_append,List.mem_append];exact .inr hz)) (kind_len P ts args hk)).o
   |cap=>
    rw [hb (Builtin.cap_ ts type (args.map ρ)) rfl,hargs]
    exact(xCap_sound ts type (opds_sound args.toList fun z hz=>hm z (by simp only[Op.operands,Call.operands,Array.toList_append,List.mem_append];exact .inr hz))).o
   |min=>
    rw [hb (Builtin.min_ ts type (args.map ρ)) rfl,hargs]
    show PuO P E (fun s=>cond (allInt (opds tm args.toList)) (ofPure P (Builtin.min_ #[] 0 ⟨opds tm args.toList⟩) s) .no) _
    cases e:allInt (opds tm args.toList)with
    |false=>exact .no fun _=>rfl
    |true=>rw [allInt_eq (opds_sound args.toList fun z hz=>hm z (by simp only[Op.operands,Call.operands,Array.toList_append,List.mem_append];exact .inr hz)) e];exact PuY.self.o
   |max=>
    rw [hb (Builtin.max_ ts type (args.map ρ)) rfl,hargs]
    show PuO P E (fun s=>cond (allInt (opds tm args.toList)) (ofPure P (Builtin.max_ #[] 0 ⟨opds tm args.toList⟩) s) .no) _
    cases e:allInt (opds tm args.toList)with
    |false=>exact .no fun _=>rfl
    |true=>rw [allInt_eq (opds_sound args.toList fun z hz=>hm z (by simp only[Op.operands,Call.operands,Array.toList_append,List.mem_append];exact .inr hz)) e];exact PuY.self.o
   |_=>cases hk
  |value f=>cases hk
  |invoke r name=>cases hk
 |typeAssert=>exact .no fun _=>rfl
 |_=>cases hk
end
end Go.Ev
