import Derived.LaidEql
import Derived.Below
import Derived.WalkKit
import Derived.Laws.OwnMore
import Derived.Deep.Draws
import Derived.Orders
import Derived.IntWalk
import Derived.Laws.Append
import Derived.Scope
import Derived.Still
set_option linter.unusedVariables false
set_option linter.unusedSimpArgs false
namespace Go.Proofs.YtjlomlgdgpoepaaGreat
open _root_.Array renaming ext'→qu,getElem?_eq_none→GB,getElem?_setIfInBounds→uJ,length_toList→wu,mapM_eq_mapM_toList→DH,range→GC,toArray_toList→IU,toList_extract→IT,toList_map→mv
open _root_.Bool renaming and_eq_true→aM,false_eq_true→fP,false→an,true→ao,xor→xf
open _root_.Classical renaming byContradiction→iD
open _root_.Eq renaming symm→qY
open _root_.Go renaming undef→vv
open _root_.Go.Act renaming eval→Cb,put→Cc
open _root_.Go.BinOp renaming eql→SJ,neq→z4
open _root_.Go.Builtin renaming append_→tA,firstCells→kA,lenOf→Df,zeroCells→pq
open _root_.Go.Exit renaming inBlock→KO
open _root_.Go.Instr renaming buildSlice→N8,build→Xf,field→Xc,fill→aad,indexAt→Jp,loadAt→Ba,sliceAt→Jq,sliceBounds→tY,sliceBound→Fm,slice→Xg,storeAt→S_,sureAddr→oE
open _root_.Go.IntKind renaming i64→ar
open _root_.Go.Made renaming depth→Qg
open _root_.Go.Op renaming eqFields→Cs,equalIn→mu,equal→Wr,intArith→My
open _root_.Go.Oper renaming upon_enter→Qf,upon→acJ,wp→RO
open _root_.Go.Program renaming fieldsOf→N7
open _root_.Go.Region renaming wanted→kF
open _root_.Go.Result renaming andThen_ok→cA
open _root_.Go.RowKit.Below renaming heap_alloc→N6,heap_setCell→KN
open _root_.Go.Sem renaming program→Xh,run_bind→dA,run_ite→Mz,run_map→Xe,run_pure→dV
open _root_.Go.Value renaming cells→ns,iface→GD,oneCell'→qb
open _root_.Go.World renaming cell?_of_block→A',frozen?→S7,setRow→Fj
open _root_.Iff renaming rfl→r9
open _root_.Int renaming eq_ofNat_of_zero_le→s_,le_refl→nv,toNat_natCast→iJ
open _root_.List renaming append_assoc→rG,eq_nil_of_length_eq_zero→iS,ext_getElem?→nQ,getD_eq_getElem?_getD→au,getElem?_append_left→cZ,getElem?_append_right→dS,getElem?_cons_succ→bH,getElem?_cons_zero→cd,getElem?_drop→oH,getElem?_eq_getElem→bd,getElem?_eq_none→dc,getElem?_eq_some_iff→aT,getElem?_map→fh,getElem?_of_mem→Bb,getElem?_range→sJ,getElem?_set_ne→kv,getElem?_set_self→jW,getElem?_set→Dq,getElem?_take→oF,getElem?_toArray→jD,length_append→bF,length_cons→cy,length_nil→jM,length_set→fb,map_congr_left→nV,map_cons→gw,map_id→Xd,map_nil→uK,map_toArray→vu,mem_append→b7,mem_cons→bO,mem_filter→pc,mem_map→pb,mem_of_getElem?→lB,replicate→ls,size_toArray→Dr
open _root_.Nat renaming add_assoc→jg,add_comm→sE,add_mul_div_right→z5,add_mul_mod_self_right→v8,add_mul→ij,add_sub_cancel→mi,add_zero→gR,beq→fp,ble_eq→vt,ble→uI,blt_eq→fe,blt→gQ,div_eq_of_lt→Fk,eq_of_beq_eq_true→cO,le_of_ble_eq_true→jE,le_of_not_lt→nr,le_refl→a_,le_succ→ma,le_trans→jo,lt_of_lt_of_le→lA,lt_or_ge→cr,mod_eq_of_lt→Fl,mod_lt→Qd,mul_comm→Wt,mul_eq_zero→Gh,mul_le_mul_right→jq,one_mul→qv,sub_self→Ws,zero_add→bU,zero_mul→Bc
open _root_.Ne renaming symm→YE
open _root_.Option renaming map_none→Qe,map_some→j_,none→aj,some→aa
open _root_.Option.some renaming injEq→ct,inj→pa
open _root_.Or renaming inl→dK,inr→e7
namespace State
open Go.RowKit
structure Kept (F:Nat->Prop) (w w':World):Prop where
 os:w'.os=w.os
 tape:w'.tape=w.tape
 output:w'.output=w.output
 size:w.heap.size≤w'.heap.size
 block:∀ k,k<w.heap.size->¬ F k->w'.heap[k]?=w.heap[k]?
section
variable {F G:Nat->Prop} {a b c w w':World}
theorem Kept.refl (F:Nat->Prop) (w:World):Kept F w w:=⟨rfl,rfl,rfl,a_ _,fun _ _ _=>rfl⟩
theorem Kept.trans (h:Kept F a b) (k:Kept G b c) (hFG:∀ i,i<a.heap.size->G i->F i):Kept F a c :=
 ⟨k.os.trans h.os,k.tape.trans h.tape,k.output.trans h.output,jo h.size k.size,fun i hi hn=>(k.block i (lA hi h.size) (fun hg=>hn (hFG i hi hg))).trans (h.block i hi hn)⟩
theorem Kept.mono (h:Kept F a b) (hFG:∀ i,F i->G i):Kept G a b:=⟨h.os,h.tape,h.output,h.size,fun i hi hn=>h.block i hi (fun hf=>hn (hFG i hf))⟩
theorem Kept.drew (h:Kept F a b):Kept F a b.drew:=⟨h.os,h.tape,h.output,h.size,h.block⟩
theorem Kept.alloc (h:Kept F a b) (o:Obj):Kept F a (b.alloc o) :=
 ⟨h.os,h.tape,h.output,jo h.size (by simp),fun i hi hn=>(N6 b o i (lA hi h.size)).trans (h.block i hi hn)⟩
theorem Kept.setCell (h:Kept F a b) {p:Addr} (hp:F p.block∨a.heap.size≤p.block) (u:Value):Kept F a (b.setCell p u) :=
 ⟨h.os,h.tape,h.output,by simpa [World.setCell] using h.size,fun i hi hn=>(KN b p u i (fun e=>by
  rcases hp with hp|hp
  ·exact hn (by rw[e];exact hp)
  ·omega)).trans (h.block i hi hn)⟩
theorem Kept.below {B:Nat} (h:Kept F a b) (hB:∀ k,k<B->k<a.heap.size/\¬ F k):Below B a b:=⟨h.os,h.tape,h.output,h.size,fun k hk=>h.block k (hB k hk).1 (hB k hk).2⟩
theorem Kept.cell (h:Kept F a b) {p:Addr} (hp:p.block<a.heap.size) (hn:¬ F p.block):b.cell? p=a.cell? p:=A' (h.block p.block hp hn)
theorem Kept.frozen (h:Kept F a b) {p:Addr} (hp:p.block<a.heap.size) (hn:¬ F p.block):b.frozen? p=a.frozen? p:=World.frozen?_of_block (h.block p.block hp hn)
end
def Whole (w:World) (g:Nat) (t:TypeId) (cs:Array Value):Prop:=w.heap[g]?=aa (.cells cs t (0,0))
section
variable {F:Nat->Prop} {w w':World} {g:Nat} {t:TypeId} {cs:Array Value}
theorem Whole.lt (h:Whole w g t cs):g<w.heap.size:=by
 rcases cr g w.heap.size with ch|j6
 ·exact ch
 ·unfold Whole at h;rw[GB j6] at h;cases h
theorem Whole.cell (h:Whole w g t cs) (i:Nat):w.cell? ⟨g,i,aj⟩=cs[i]?:=cell_of_row w g i cs t (0,0) h
theorem Whole.frozen (h:Whole w g t cs) (i:Nat):w.frozen? ⟨g,i,aj⟩=an:=by
 unfold Whole at h;unfold S7;simp only[h];simp
theorem Whole.new (w:World) (t:TypeId) (cs:Array Value):Whole (w.alloc (.cells cs t)) w.heap.size t cs:=heap_alloc_new w _
theorem Whole.kept (h:Whole w g t cs) (hk:Kept F w w') (hn:¬ F g):Whole w' g t cs:=(hk.block g h.lt hn).trans h
theorem Whole.alloc (h:Whole w g t cs) (o:Obj):Whole (w.alloc o) g t cs:=(N6 w o g h.lt).trans h
theorem Whole.far (h:Whole w g t cs) {p:Addr} (hp:g≠p.block) (u:Value):Whole (w.setCell p u) g t cs:=(KN w p u g hp).trans h
end
def UJ (w:World) (base:Nat) (e:TypeId) (v:Value) (xs:List Value):Prop:=w.ownsRow base e 1 v xs.length xs
section
variable {F:Nat->Prop} {w w':World} {base:Nat} {e:TypeId} {v:Value} {xs:List Value}
theorem UJ.nil (w:World) (base:Nat) (e:TypeId):UJ w base e (.slice aj 0 0) []:=World.ownsRow_nil _ _ _ _
theorem UJ.kept (h:UJ w base e v xs) (hk:Kept F w w') (hn:∀ k,v.ownBlock=aa k->¬ F k):UJ w' base e v xs:=by
 refine⟨h.1,?_⟩;rcases h.2 with h'|⟨g,cap,cur,hv,hba,hh,hr⟩
 ·exact dK h'
 ·refine e7 ⟨g,cap,cur,hv,hba,?_,hr⟩;have ch:g<w.heap.size:=by
   rcases cr g w.heap.size with h|h
   ·exact h
   ·rw[GB h] at hh;cases hh
  rw[hk.block g ch (hn g (by rw[hv];rfl))]
  exact hh
end
end State
namespace Rx
structure Place where
 lI:Nat
 off:Nat
 cap:Nat
 nil:Bool
abbrev Env:=Nat->Place
def cellOf (e:Nat):Option Nat->Nat
 |none=>e
 |some q=>e*(q%1000000 / 1000)+q%1000
def iI (ρ:Env) (a:Addr):Addr:=⟨(ρ a.block).lI,(ρ a.block).off+cellOf a.off a.spot,aj⟩
def lK (ρ:Env) (a:Addr) (n c:Nat):Value :=
 match a.spot with
 |none=>.slice (aa (iI ρ a)) n c
 |some q =>
  if(ρ a.block).nil=ao then .slice aj n 0
  else if q / 1000000≠0/\(ρ a.block).cap≤a.off then .slice (aa ⟨(ρ (q / 1000000-1)).lI,(ρ (q / 1000000-1)).off,aj⟩) n 0
  else .slice (aa (iI ρ a)) n ((ρ a.block).cap-a.off)
mutual
def bS (ρ:Env):Value->Value
 |.pointer (aa a)=>.pointer (aa (iI ρ a))
 |.slice (aa a) n c=>lK ρ a n c
 |.map (aa r)=>.map (aa (ρ r).lI)
 |.chan (aa r)=>.chan (aa (ρ r).lI)
 |.agg ⟨l⟩=>.agg ⟨nq ρ l⟩
 |.tuple ⟨l⟩=>.tuple ⟨nq ρ l⟩
 |.func fn ⟨f⟩ ⟨c⟩=>.func fn ⟨nq ρ f⟩ ⟨nq ρ c⟩
 |.iface t v=>.iface t (bS ρ v)
 |v=>v
def nq (ρ:Env):List Value->List Value
 |[]=>[]
 |v::l=>bS ρ v::nq ρ l
end
section
variable {ρ gx:Env}
theorem lp (l:List Value):nq ρ l=l.map (bS ρ):=by
 induction l with
 |nil=>simp[nq]
 |cons v l ih=>simp[nq,ih]
theorem zA (cs:Array Value):bS ρ (.agg cs)=.agg (cs.map (bS ρ)):=by
 obtain⟨l⟩:=cs;simp[bS,lp]
theorem abQ (cs:Array Value):bS ρ (.tuple cs)=.tuple (cs.map (bS ρ)):=by
 obtain⟨l⟩:=cs;simp[bS,lp]
@[simp] theorem xu (k:IntKind) (n:Int):bS ρ (.int k n)=.int k n:=by simp[bS]
@[simp] theorem Uh (b:Bool):bS ρ (.bool b)=.bool b:=by simp[bS]
@[simp] theorem Du (s:ByteArray):bS ρ (.string s)=.string s:=by simp[bS]
end
mutual
def flat:Value->Bool
 |.pointer (aa _)|.slice (aa _) _ _|.map (aa _)|.chan (aa _)=>an
 |.agg ⟨l⟩=>pI l
 |.tuple ⟨l⟩=>pI l
 |.func _ ⟨f⟩ ⟨c⟩=>pI f&&pI c
 |.iface _ v=>flat v
 |_=>ao
def pI:List Value->Bool
 |[]=>ao
 |v::l=>flat v&&pI l
end
def EC:Option Nat->Nat
 |none=>0
 |some q=>q / 1000000
mutual
def fv (n:Nat):Value->Bool
 |.pointer (aa a)=>gQ a.block n
 |.slice (aa a) _ _=>gQ a.block n&&uI (EC a.spot) n
 |.map (aa r)|.chan (aa r)=>gQ r n
 |.agg ⟨l⟩=>iC n l
 |.tuple ⟨l⟩=>iC n l
 |.func _ ⟨f⟩ ⟨c⟩=>iC n f&&iC n c
 |.iface _ v=>fv n v
 |_=>ao
def iC (n:Nat):List Value->Bool
 |[]=>ao
 |v::l=>fv n v&&iC n l
end
section
variable {ρ gx:Env} {n m:Nat}
theorem Px {a:Addr} (h:∀ i,i<n->ρ i=gx i) (ha:a.block<n):iI ρ a=iI gx a:=by
 unfold iI;rw[h _ ha]
theorem YQ {a:Addr} {k c:Nat} (h:∀ i,i<n->ρ i=gx i) (ha:a.block<n) (ht:EC a.spot≤n):lK ρ a k c=lK gx a k c:=by
 unfold lK;rw[Px h ha,h _ ha];cases hs:a.spot with
 |none=>rfl
 |some q =>
  rw[hs] at ht;simp only[EC] at ht;simp only;split
  ·rfl
  ·split
   ·rename_i hq;rw[h (q / 1000000-1) (by omega)]
   ·rfl
mutual
theorem ng (h:∀ i,i<n->ρ i=gx i):∀ v,fv n v=ao->bS ρ v=bS gx v
 |.pointer (aa a),hv=>by
  simp only[fv,fe] at hv;simp only[bS,Px h hv]
 |.pointer aj,_=>by simp[bS]
 |.slice (aa a) k c,hv=>by
  simp only[fv,aM,fe,vt] at hv;simp only[bS];exact YQ h hv.1 hv.2
 |.slice aj _ _,_=>by simp[bS]
 |.map (aa r),hv=>by simp only[fv,fe] at hv;simp[bS,h _ hv]
 |.map aj,_=>by simp[bS]
 |.chan (aa r),hv=>by simp only[fv,fe] at hv;simp[bS,h _ hv]
 |.chan aj,_=>by simp[bS]
 |.agg ⟨l⟩,hv=>by simp only[fv] at hv;simp only[bS,qq h l hv]
 |.tuple ⟨l⟩,hv=>by simp only[fv] at hv;simp only[bS,qq h l hv]
 |.func fn ⟨f⟩ ⟨c⟩,hv=>by
  simp only[fv,aM] at hv;simp only[bS,qq h f hv.1,qq h c hv.2]
 |.iface t v,hv=>by simp only[fv] at hv;simp only[bS,ng h v hv]
 |.int _ _,_=>by simp
 |.bool _,_=>by simp
 |.string _,_=>by simp
 |.float _ _,_=>by simp[bS]
 |.complex _ _ _,_=>by simp[bS]
 |.nilFunc,_=>by simp[bS]
 |.nilIface,_=>by simp[bS]
theorem qq (h:∀ i,i<n->ρ i=gx i):∀ l,iC n l=ao->nq ρ l=nq gx l
 |[],_=>rfl
 |v::l,hv=>by
  simp only[iC,aM] at hv;simp only[nq,ng h v hv.1,qq h l hv.2]
end
mutual
theorem nO:∀ v,flat v=ao->bS ρ v=v
 |.pointer (aa a),hv=>by simp[flat] at hv
 |.pointer aj,_=>by simp[bS]
 |.slice (aa a) k c,hv=>by simp[flat] at hv
 |.slice aj _ _,_=>by simp[bS]
 |.map (aa r),hv=>by simp[flat] at hv
 |.map aj,_=>by simp[bS]
 |.chan (aa r),hv=>by simp[flat] at hv
 |.chan aj,_=>by simp[bS]
 |.agg ⟨l⟩,hv=>by simp only[flat] at hv;simp only[bS,CA l hv]
 |.tuple ⟨l⟩,hv=>by simp only[flat] at hv;simp only[bS,CA l hv]
 |.func fn ⟨f⟩ ⟨c⟩,hv=>by
  simp only[flat,aM] at hv;simp only[bS,CA f hv.1,CA c hv.2]
 |.iface t v,hv=>by simp only[flat] at hv;simp only[bS,nO v hv]
 |.int _ _,_=>by simp
 |.bool _,_=>by simp
 |.string _,_=>by simp
 |.float _ _,_=>by simp[bS]
 |.complex _ _ _,_=>by simp[bS]
 |.nilFunc,_=>by simp[bS]
 |.nilIface,_=>by simp[bS]
theorem CA:∀ l,pI l=ao->nq ρ l=l
 |[],_=>rfl
 |v::l,hv=>by
  simp only[pI,aM] at hv;simp only[nq,nO v hv.1,CA l hv.2]
end
mutual
theorem IN:∀ v,flat v=ao->fv n v=ao
 |.pointer (aa a),hv=>by simp[flat] at hv
 |.pointer aj,_=>by simp[fv]
 |.slice (aa a) k c,hv=>by simp[flat] at hv
 |.slice aj _ _,_=>by simp[fv]
 |.map (aa r),hv=>by simp[flat] at hv
 |.map aj,_=>by simp[fv]
 |.chan (aa r),hv=>by simp[flat] at hv
 |.chan aj,_=>by simp[fv]
 |.agg ⟨l⟩,hv=>by simp only[flat] at hv;simp only[fv];exact zW l hv
 |.tuple ⟨l⟩,hv=>by simp only[flat] at hv;simp only[fv];exact zW l hv
 |.func fn ⟨f⟩ ⟨c⟩,hv=>by
  simp only[flat,aM] at hv;simp only[fv,aM];exact⟨zW f hv.1,zW c hv.2⟩
 |.iface t v,hv=>by simp only[flat] at hv;simp only[fv];exact IN v hv
 |.int _ _,_=>by simp[fv]
 |.bool _,_=>by simp[fv]
 |.string _,_=>by simp[fv]
 |.float _ _,_=>by simp[fv]
 |.complex _ _ _,_=>by simp[fv]
 |.nilFunc,_=>by simp[fv]
 |.nilIface,_=>by simp[fv]
theorem zW:∀ l,pI l=ao->iC n l=ao
 |[],_=>rfl
 |v::l,hv=>by
  simp only[pI,aM] at hv;simp only[iC,aM];exact⟨IN v hv.1,zW l hv.2⟩
end
mutual
theorem BX (hm:n≤m):∀ v,fv n v=ao->fv m v=ao
 |.pointer (aa a),hv=>by simp only[fv,fe] at *;omega
 |.pointer aj,_=>by simp[fv]
 |.slice (aa a) k c,hv=>by simp only[fv,aM,fe,vt] at *;omega
 |.slice aj _ _,_=>by simp[fv]
 |.map (aa r),hv=>by simp only[fv,fe] at *;omega
 |.map aj,_=>by simp[fv]
 |.chan (aa r),hv=>by simp only[fv,fe] at *;omega
 |.chan aj,_=>by simp[fv]
 |.agg ⟨l⟩,hv=>by simp only[fv] at *;exact uY hm l hv
 |.tuple ⟨l⟩,hv=>by simp only[fv] at *;exact uY hm l hv
 |.func fn ⟨f⟩ ⟨c⟩,hv=>by
  simp only[fv,aM] at *
  exact⟨uY hm f hv.1,uY hm c hv.2⟩
 |.iface t v,hv=>by simp only[fv] at *;exact BX hm v hv
 |.int _ _,_=>by simp[fv]
 |.bool _,_=>by simp[fv]
 |.string _,_=>by simp[fv]
 |.float _ _,_=>by simp[fv]
 |.complex _ _ _,_=>by simp[fv]
 |.nilFunc,_=>by simp[fv]
 |.nilIface,_=>by simp[fv]
theorem uY (hm:n≤m):∀ l,iC n l=ao->iC m l=ao
 |[],_=>rfl
 |v::l,hv=>by
  simp only[iC,aM] at *
  exact⟨BX hm v hv.1,uY hm l hv.2⟩
end
theorem wR {l:List Value}:iC n l=ao↔∀ v∈l,fv n v=ao:=by
 induction l with
 |nil=>simp[iC]
 |cons v l ih=>simp[iC,ih]
theorem zl {l:List Value}:pI l=ao↔∀ v∈l,flat v=ao:=by
 induction l with
 |nil=>simp[pI]
 |cons v l ih=>simp[pI,ih]
theorem WI:∀ v:Value,(bS ρ v).oneCell'=v.oneCell'
 |.pointer (aa a)=>by simp[bS,qb]
 |.pointer aj=>by simp[bS]
 |.slice (aa a) k c=>by
  simp only[bS,lK];cases a.spot with
  |none=>rfl
  |some q=>simp only;split<;>first|rfl|(split<;>rfl)
 |.slice aj _ _=>by simp[bS]
 |.map (aa r)=>by simp[bS,qb]
 |.map aj=>by simp[bS]
 |.chan (aa r)=>by simp[bS,qb]
 |.chan aj=>by simp[bS]
 |.agg ⟨l⟩=>by simp[bS,qb]
 |.tuple ⟨l⟩=>by simp[bS,qb]
 |.func fn ⟨f⟩ ⟨c⟩=>by simp[bS,qb]
 |.iface t v=>by simp[bS,qb]
 |.int _ _=>by simp
 |.bool _=>by simp
 |.string _=>by simp
 |.float _ _=>by simp[bS]
 |.complex _ _ _=>by simp[bS]
 |.nilFunc=>by simp[bS]
 |.nilIface=>by simp[bS]
theorem R8 (a:Addr) (k c:Nat):∃ A c',lK ρ a k c=.slice A k c':=by
 unfold lK;cases a.spot with
 |none=>exact⟨_,_,rfl⟩
 |some q=>simp only;split<;>first|exact⟨_,_,rfl⟩|(split<;>exact⟨_,_,rfl⟩)
theorem Ct (v:Value):(bS ρ v).cells=v.cells.map (bS ρ):=by
 cases v with
 |agg cs=>rw[zA];rfl
 |slice a k c =>
  cases a with
  |none=>simp[bS,ns]
  |some a =>
   obtain⟨A,c',h⟩:=R8 (ρ:=ρ) a k c;simp[bS,h,ns]
 |pointer a=>cases a<;>simp[bS,ns]
 |map a=>cases a<;>simp[bS,ns]
 |chan a=>cases a<;>simp[bS,ns]
 |tuple cs=>obtain⟨l⟩:=cs;simp[bS,ns]
 |func fn f c=>obtain⟨f⟩:=f;obtain⟨c⟩:=c;simp[bS,ns]
 |iface t v=>simp[bS,ns]
 |_=>simp[bS,ns]
end
end Rx
namespace Rx
open Go.RowKit State
structure aW where
 i:List Int
 b:List Bool
 s:List ByteArray
def yP (l:List Int):aW:=⟨l,[],[]⟩
def AF (l:List Bool):aW:=⟨[],l,[]⟩
def Fb (l:List ByteArray):aW:=⟨[],[],l⟩
def Lj:aW:=⟨[],[],[]⟩
def gF:Value->aW->Nat->Value
 |.int k _,c,e=>.int k (c.i.getD e 0)
 |.bool _,c,e=>.bool (c.b.getD e an)
 |.string _,c,e=>.string (c.s.getD e ⟨#[]⟩)
 |v,_,_=>v
def jJ:Value->aW->Nat->Prop
 |.int _ _,c,n=>c.i.length=n
 |.bool _,c,n=>c.b.length=n
 |.string _,c,n=>c.s.length=n
 |v,_,_=>flat v=ao/\v.oneCell'=ao
structure Row where
 tm:List Value
 n:Nat
 ez:List aW
structure n8 (r:Row) (arr:Array Value) (o:Nat):Prop where
 len:r.ez.length=r.tm.length
 I_:∀ (f:Nat) (t:Value) (c:aW),r.tm[f]?=aa t->r.ez[f]?=aa c->jJ t c r.n
 cell:∀ (f:Nat) (t:Value) (c:aW) (e:Nat),r.tm[f]?=aa t->r.ez[f]?=aa c->e<r.n->arr[o+(e*r.tm.length+f)]?=aa (gF t c e)
abbrev SB (R:Type):=(TypeId×List Value) ⊕ (TypeId×Row) ⊕ Row ⊕ R
abbrev Hp (R:Type):=List (Option (SB R))
structure fJ (R:Type) where
 H:R->Place->(Nat->Prop)->World->Prop
 IJ:∀ x p F w w',H x p F w->(∀ k,F k->w'.heap[k]?=w.heap[k]?)->H x p F w'
 lt:∀ x p F w k,H x p F w->F k->k<w.heap.size
structure Ctx where
 w0:World
 U:Nat->Prop
 e0:Env
 n0:Nat
section
variable {R:Type} {D:fJ R} {C:Ctx} {ρ gx:Env} {i n:Nat} {F:Nat->Prop} {w w':World} {B:SB R}
def hold (D:fJ R) (C:Ctx) (ρ:Env) (i:Nat) (F:Nat->Prop) (w:World):SB R->Prop
 |.inl (t,cs)=>(ρ i).off=0/\(∀ k,F k↔k=(ρ i).lI)/\w.heap[(ρ i).lI]?=aa (.cells (cs.map (bS ρ)).toArray t (0,0))
 |.inr (.inl (t,r))=>(∀ k,F k↔((ρ i).nil=an/\k=(ρ i).lI))/\0<r.tm.length/\r.n≤(ρ i).cap/\(ρ i).cap≤maxLen/\((ρ i).nil=ao->(ρ i).cap=0) /\
   ∃ arr,((ρ i).nil=an->w.heap[(ρ i).lI]?=aa (.cells arr t (0,0))/\arr.size=(ρ i).off+(ρ i).cap*r.tm.length)/\n8 r arr (ρ i).off
 |.inr (.inr (.inl r))=>(∀ k,¬ F k)/\0<r.tm.length/\r.n≤(ρ i).cap/\(ρ i).cap≤maxLen/\((ρ i).nil=ao->(ρ i).cap=0) /\
   ∃ arr,((ρ i).nil=an->0<r.n->(ρ i).lI<C.w0.heap.size/\¬ C.U (ρ i).lI/\∃ t fz,C.w0.heap[(ρ i).lI]?=aa (.cells arr t fz))/\n8 r arr (ρ i).off
 |.inr (.inr (.inr x))=>D.H x (ρ i) F w
def inside (n:Nat):SB R->Prop
 |.inl (_,cs)=>iC n cs=ao
 |_=>True
theorem Cl {m:Nat} (hm:n≤m) (h:inside n B):inside m B:=by
 rcases B with⟨t,cs⟩|⟨t,r⟩|r|x<;>first|exact trivial|skip
 exact uY hm _ h
theorem Kv (h:hold D C ρ i F w B) (hk:∀ k,F k->w'.heap[k]?=w.heap[k]?):hold D C ρ i F w' B:=by
 rcases B with⟨t,cs⟩|⟨t,r⟩|r|x
 ·obtain⟨h1,h2,h3⟩:=h;exact⟨h1,h2,by rw[hk _ ((h2 _).2 rfl)];exact h3⟩
 ·obtain⟨h1,h2,h3,h4,Ke,arr,h5,h6⟩:=h;exact⟨h1,h2,h3,h4,Ke,arr,fun hn=>by rw[hk _ ((h1 _).2 ⟨hn,rfl⟩)];exact h5 hn,h6⟩
 ·exact h
 ·exact D.IJ _ _ _ _ _ h hk
theorem H2 (h:hold D C ρ i F w B) (qM:∀ j,j<n->gx j=ρ j) (hi:i<n) (hs:inside n B):hold D C gx i F w B:=by
 have e:=qM i hi;rcases B with⟨t,cs⟩|⟨t,r⟩|r|x
 ·simp only[hold,e] at *
  have:cs.map (bS gx)=cs.map (bS ρ):=nV fun v hv=>(ng (fun j hj=>(qM j hj)) v (wR.1 hs v hv))
  rw[this];exact h
 ·simp only[hold,e] at *;exact h
 ·simp only[hold,e] at *;exact h
 ·simp only[hold,e] at *;exact h
structure HM (D:fJ R) (C:Ctx) (ρ:Env) (ft:Nat->Nat->Prop) (h:Hp R) (w:World):Prop where
 at_:∀ i B,h[i]?=aa (aa B)->hold D C ρ i (ft i) w B/\inside h.length B
 lt:∀ i k,ft i k->k<w.heap.size
 fresh:∀ i k,ft i k->C.U k∨C.w0.heap.size≤k
 apart:∀ i j k,ft i k->ft j k->i=j
 some_:∀ i k,ft i k->∃ B,h[i]?=aa (aa B)
 kept:Kept C.U C.w0 w
variable {ft ky:Nat->Nat->Prop} {h h':Hp R}
theorem HM.same (hm:HM D C ρ ft h w) (hh:w'.heap=w.heap) (ho:w'.os=w.os) (ht:w'.tape=w.tape) (hu:w'.output=w.output):HM D C ρ ft h w' where
 at_ i B hi:=⟨Kv (hm.at_ i B hi).1 (fun k _=>by rw[hh]),(hm.at_ i B hi).2⟩
 lt i k hk:=by rw[hh];exact hm.lt i k hk
 fresh:=hm.fresh
 apart:=hm.apart
 some_:=hm.some_
 kept:=⟨ho.trans hm.kept.os,ht.trans hm.kept.tape,hu.trans hm.kept.output,by rw[hh];exact hm.kept.size,fun k hk hn=>by rw[hh];exact hm.kept.block k hk hn⟩
theorem HM.drew (hm:HM D C ρ ft h w):HM D C ρ ft h w.drew:=hm.same rfl rfl rfl rfl
theorem HM.step (hm:HM D C ρ ft h w) (S:Nat->Prop) (hk:Kept (fun k=>∃ i,S i/\ft i k) w w') (qM:∀ i,i<h.length->gx i=ρ i) (hlen:h.length≤h'.length)
  (um:∀ i B,(i<h.length->S i)->h'[i]?=aa (aa B)->hold D C gx i (ky i) w' B/\inside h'.length B)
  (FH:∀ i,i<h.length->¬ S i->h'[i]?=h[i]?/\∀ k,ky i k↔ft i k)
  (j8:∀ i k,(i<h.length->S i)->ky i k->((∃ j,S j/\ft j k)∨w.heap.size≤k)/\k<w'.heap.size/\∃ B,h'[i]?=aa (aa B))
  (hap:∀ i j k,(i<h.length->S i)->(j<h.length->S j)->ky i k->ky j k->i=j):HM D C gx ky h' w' where
 at_ i B hi:=by
  by_cases hs:i<h.length/\¬ S i
  ·obtain⟨hl,hn⟩:=hs;obtain⟨e,hf⟩:=FH i hl hn;rw[e] at hi;obtain⟨h1,h2⟩:=hm.at_ i B hi;refine⟨?_,Cl hlen h2⟩;have h3:=H2 h1 qM hl h2;have h4:hold D C gx i (ft i) w' B:=Kv h3 fun k nx=>hk.block k (hm.lt i k nx) (fun⟨j,hj,hjk⟩=>hn (by rw[hm.apart i j k nx hjk];exact hj))
   have:ky i=ft i:=funext fun k=>propext (hf k)
   rw[this];exact h4
  ·exact um i B (fun hl=>iD fun hn=>hs ⟨hl,hn⟩) hi
 lt i k hi:=by
  by_cases hs:i<h.length/\¬ S i
  ·exact lA (hm.lt i k (((FH i hs.1 hs.2).2 k).1 hi)) hk.size
  ·exact(j8 i k (fun hl=>iD fun hn=>hs ⟨hl,hn⟩) hi).2.1
 fresh i k hi:=by
  by_cases hs:i<h.length/\¬ S i
  ·exact hm.fresh i k (((FH i hs.1 hs.2).2 k).1 hi)
  ·rcases(j8 i k (fun hl=>iD fun hn=>hs ⟨hl,hn⟩) hi).1 with⟨j,_,hj⟩|j6
   ·exact hm.fresh j k hj
   ·exact e7 (jo hm.kept.size j6)
 apart i j k hi hj:=by
  by_cases hs:i<h.length/\¬ S i<;>by_cases Uj:j<h.length/\¬ S j
  ·exact hm.apart i j k (((FH i hs.1 hs.2).2 k).1 hi) (((FH j Uj.1 Uj.2).2 k).1 hj)
  ·have kx:=((FH i hs.1 hs.2).2 k).1 hi;rcases(j8 j k (fun hl=>iD fun hn=>Uj ⟨hl,hn⟩) hj).1 with⟨l,hl,uC⟩|j6
   ·exact absurd hl (by rw[← hm.apart i l k kx uC];exact hs.2)
   ·have:=hm.lt i k kx;omega
  ·have Ms:=((FH j Uj.1 Uj.2).2 k).1 hj;rcases(j8 i k (fun hl=>iD fun hn=>hs ⟨hl,hn⟩) hi).1 with⟨l,hl,uC⟩|j6
   ·exact absurd hl (by rw[← hm.apart j l k Ms uC];exact Uj.2)
   ·have:=hm.lt j k Ms;omega
  ·exact hap i j k (fun hl=>iD fun hn=>hs ⟨hl,hn⟩) (fun hl=>iD fun hn=>Uj ⟨hl,hn⟩) hi hj
 some_ i k hi:=by
  by_cases hs:i<h.length/\¬ S i
  ·obtain⟨e,hf⟩:=FH i hs.1 hs.2;rw[e];exact hm.some_ i k ((hf k).1 hi)
  ·exact(j8 i k (fun hl=>iD fun hn=>hs ⟨hl,hn⟩) hi).2.2
 kept:=hm.kept.trans hk fun k nx ⟨j,_,hj⟩=>by
  rcases hm.fresh j k hj with hu|j6
  ·exact hu
  ·omega
def qi {α:Type} (f:Nat->α) (n:Nat) (a:α):Nat->α:=fun i=>if i=n then a else f i
theorem jf {α:Type} (f:Nat->α) (n:Nat) (a:α):qi f n a n=a:=by simp[qi]
theorem oi {α:Type} (f:Nat->α) (n:Nat) (a:α) {i:Nat} (hi:i<n):qi f n a i=f i:=by simp[qi,Nat.ne_of_lt hi]
theorem vT {α:Type} (f:Nat->α) (n:Nat) (a:α) {i:Nat} (hi:i≠n):qi f n a i=f i:=by simp[qi,hi]
theorem HM.push (hm:HM D C ρ ft h w) (p:Place) (o:Obj) (hp:p.lI=w.heap.size) (B:SB R) (hB:hold D C (qi ρ h.length p) h.length (fun k=>k=w.heap.size) (w.alloc o) B) (hs:inside (h.length+1) B) :
  HM D C (qi ρ h.length p) (qi ft h.length (fun k=>k=w.heap.size)) (h++[aa B]) (w.alloc o):=by
 refine hm.step (fun _=>False) ((Kept.refl _ _).alloc _) (fun i hi=>oi _ _ _ hi) (by simp) ?_ ?_ ?_ ?_
 ·intro i B' hi jB;have j6:h.length≤i:=nr hi;rw[dS j6] at jB;have:i=h.length:=by
   rcases cr h.length i with ch|hle
   ·rw[dc (by simp;omega)] at jB;cases jB
   ·omega
  subst this;simp at jB;subst jB;rw[jf]
  simpa using⟨hB,hs⟩
 ·intro i hi _;exact⟨cZ hi,fun k=>by rw[oi _ _ _ hi]⟩
 ·intro i k hi hk;have j6:h.length≤i:=nr hi
  by_cases he:i=h.length
  ·subst he;rw[jf] at hk;subst hk;exact⟨e7 (a_ _),by simp,B,by simp⟩
  ·rw[vT _ _ _ he] at hk;obtain⟨B',jB⟩:=hm.some_ i k hk;rw[dc j6] at jB;cases jB
 ·intro i j k hi hj Hf Hg;have hgi:h.length≤i:=nr hi;have hgj:h.length≤j:=nr hj;have key:∀ l,h.length≤l->qi ft h.length (fun k=>k=w.heap.size) l k->l=h.length:=fun l hl uC=>by
   refine iD fun he=>?_
   rw[vT _ _ _ he] at uC;obtain⟨B',jB⟩:=hm.some_ l k uC;rw[dc hl] at jB;cases jB
  rw[key i hgi Hf,key j hgj Hg]
theorem HM.pushNone (hm:HM D C ρ ft h w) (p:Place):HM D C (qi ρ h.length p) ft (h++[aj]) w:=by
 refine hm.step (fun _=>False) (Kept.refl _ _) (fun i hi=>oi _ _ _ hi) (by simp) ?_ ?_ ?_ ?_
 ·intro i B' hi jB;have j6:h.length≤i:=nr hi;rw[dS j6] at jB;rcases cr h.length i with ch|hle
  ·rw[dc (by simp;omega)] at jB;cases jB
  ·rw[show i-h.length=0 by omega] at jB;simp at jB
 ·intro i hi _;exact⟨cZ hi,fun k=>r9⟩
 ·intro i k hi hk;obtain⟨B',jB⟩:=hm.some_ i k hk;have ch:=(aT.1 jB).1;exact absurd ch hi
 ·intro i j k hi hj Hf Hg;exact hm.apart i j k Hf Hg
theorem HM.put (hm:HM D C ρ ft h w) {i:Nat} {B0:SB R} (hi:h[i]?=aa (aa B0)) (hk:Kept (ft i) w w') (B:SB R) (F:Nat->Prop) (hB:hold D C ρ i F w' B) (hs:inside h.length B)
  (hF:∀ k,F k->(ft i k∨w.heap.size≤k)/\k<w'.heap.size):HM D C ρ (qi ft i F) (h.set i (aa B)) w':=by
 have hl:i<h.length:=(aT.1 hi).1;refine hm.step (fun j=>j=i) (hk.mono fun k hk=>⟨i,rfl,hk⟩) (fun _ _=>rfl) (by simp) ?_ ?_ ?_ ?_
 ·intro j B' hj jB
  by_cases he:j=i
  ·subst he;rw[jW hl] at jB;injection jB with jB;injection jB with jB
   subst jB;rw[jf];exact⟨hB,by rw[fb];exact hs⟩
  ·have ch:¬ j<h.length:=fun ch=>he (hj ch)
   rw[dc (by rw[fb];omega)] at jB
   cases jB
 ·intro j hj hn;refine⟨kv (fun e=>hn e.symm),fun k=>by rw[vT _ _ _ hn]⟩
 ·intro j k hj nx
  by_cases he:j=i
  ·subst he;rw[jf] at nx;obtain⟨h1,h2⟩:=hF k nx;exact⟨h1.imp (fun h=>⟨j,rfl,h⟩) id,h2,B,jW hl⟩
  ·rw[vT _ _ _ he] at nx;obtain⟨B',jB⟩:=hm.some_ j k nx;have ch:=(aT.1 jB).1;exact absurd (hj ch) he
 ·intro a b k ha hb hka hkb;have key:∀ l,(l<h.length->l=i)->qi ft i F l k->l=i:=fun l Bp uC=>by
   refine iD fun he=>?_
   rw[vT _ _ _ he] at uC;obtain⟨B',jB⟩:=hm.some_ l k uC;exact he (Bp (aT.1 jB).1)
  rw[key a ha hka,key b hb hkb]
theorem HM.drop (hm:HM D C ρ ft h w) (i:Nat):HM D C ρ (qi ft i (fun _=>False)) (h.set i aj) w:=by
 refine hm.step (fun j=>j=i) (Kept.refl _ _) (fun _ _=>rfl) (by simp) ?_ ?_ ?_ ?_
 ·intro j B' hj jB
  by_cases he:j=i
  ·subst he
   by_cases hl:j<h.length
   ·rw[jW hl] at jB;injection jB with jB
    cases jB
   ·rw[dc (by rw[fb];omega)] at jB
    cases jB
  ·have ch:¬ j<h.length:=fun ch=>he (hj ch)
   rw[dc (by rw[fb];omega)] at jB
   cases jB
 ·intro j hj hn;refine⟨kv (fun e=>hn e.symm),fun k=>by rw[vT _ _ _ hn]⟩
 ·intro j k hj nx
  by_cases he:j=i
  ·subst he;rw[jf] at nx;exact nx.elim
  ·rw[vT _ _ _ he] at nx;obtain⟨B',jB⟩:=hm.some_ j k nx;have ch:=(aT.1 jB).1;exact absurd (hj ch) he
 ·intro a b k ha hb hka hkb;have key:∀ l,qi ft i (fun _=>False) l k->ft l k:=fun l uC=>by
   by_cases he:l=i
   ·subst he;rw[jf] at uC;exact uC.elim
   ·rw[vT _ _ _ he] at uC;exact uC
  exact hm.apart a b k (key a hka) (key b hkb)
end
end Rx
namespace Rx
open Go.RowKit State
structure SS (R:Type) where
 tm:List (Option Value)
 li:List (Nat×Bool)
 hp:Hp R
structure Out (R:Type) where
 vc:Prop
 v:Value
 lit:Option Bool
 hp:Hp R
 rd:List (Nat×Nat)
 wr:List (Nat×Nat)
structure TM (ρ:Env) (n:Nat) (tm:List (Option Value)) (a:Act):Prop where
 size:a.tmps.size=tm.length
 val:∀ (t:Nat) (v:Value),tm[t]?=aa (aa v)->a.tmps[t]?=aa (bS ρ v)/\fv n v=ao
def LI (li:List (Nat×Bool)) (tm:List (Option Value)):Prop:=∀ (t:Nat) (b:Bool),(t,b)∈li->tm[t]?=aa (aa (.bool b))
def ev (tm:List (Option Value)):Operand->Option Value
 |.tmp t=>match tm[t]? with
  |some (aa v)=>aa v
  |_=>aj
 |.const v=>if flat v then aa v else aj
 |.func f=>aa (.func (.func f) #[] #[])
 |.global _=>aj
def look (li:List (Nat×Bool)) (t:Nat):Option Bool :=
 match li with
 |[]=>aj
 |(u,b)::l=>if fp u t then aa b else look l t
def Ge (li:List (Nat×Bool)):Operand->Option Bool
 |.tmp t=>look li t
 |.const (.bool b)=>aa b
 |_=>aj
section
variable {R:Type} {D:fJ R} {P:Program}
theorem NL {li:List (Nat×Bool)} {t:Nat} {b:Bool} (h:look li t=aa b):(t,b)∈li:=by
 induction li with
 |nil=>cases h
 |cons p l ih =>
  obtain⟨u,c⟩:=p;simp only[look] at h;split at h
  ·rename_i e;have e:=cO e;injection h with h
   subst h;subst e;exact List.mem_cons_self
  ·exact List.mem_cons_of_mem _ (ih h)
theorem eu {ρ:Env} {n:Nat} {tm:List (Option Value)} {a:Act} {x:Operand} {v:Value} (ht:TM ρ n tm a) (h:ev tm x=aa v):a.eval x=bS ρ v/\fv n v=ao:=by
 cases x with
 |tmp t =>
  simp only[ev] at h;split at h
  ·rename_i u hu;injection h with h
   subst h;obtain⟨h1,h2⟩:=ht.val t u hu;exact⟨by simp[Cb,h1],h2⟩
  ·cases h
 |const u =>
  simp only[ev] at h;split at h
  ·rename_i hf;injection h with h
   subst h;exact⟨by simp[Cb,nO u hf],IN u hf⟩
  ·cases h
 |func f =>
  simp only[ev] at h;injection h with h
  subst h;exact⟨by simp[Cb,bS,nq],by simp[fv,iC]⟩
 |global g=>cases h
theorem yl {li:List (Nat×Bool)} {tm:List (Option Value)} {x:Operand} {b:Bool} (hl:LI li tm) (h:Ge li x=aa b):ev tm x=aa (.bool b):=by
 cases x with
 |tmp t =>
  have:=hl t b (NL h);simp[ev,this]
 |const u =>
  cases u<;>simp only[Ge] at h<;>try cases h
  simp[ev,flat]
 |func f=>cases h
 |global g=>cases h
structure mb (D:fJ R) (P:Program) (o:Oper) (σ:SS R) (x:Out R):Prop where
 run:∀ C ρ ft a w K Q,TM ρ σ.hp.length σ.tm a->LI σ.li σ.tm->HM D C ρ ft σ.hp w->x.vc ->
  (∀ gx ky w',(∀ i,i<σ.hp.length->gx i=ρ i)->HM D C gx ky x.hp w'->K (a.put o.dst (bS gx x.v)) w')->o.wp P a w K Q
 len:σ.hp.length≤x.hp.length
 lit:LI σ.li σ.tm->∀ b,x.lit=aa b->x.v=.bool b
theorem rn {o:Oper} {a:Act} {w w':World} {v:Value} {K:Act->World->Prop} {Q:Exit->Act->World->Prop} (h:(execOp a.eval o).run P w=.ok (.value v) w') (hk:K (a.put o.dst v) w'):o.wp P a w K Q:=by
 simp only[RO,h,acJ];exact hk
theorem UY {o:Oper} {a:Act} {w w':World} {K:Act->World->Prop} {Q:Exit->Act->World->Prop} (h:(execOp a.eval o).run P w=.ok .skip w') (hk:K (a.put o.dst undef) w'):o.wp P a w K Q:=by
 simp only[RO,h,acJ];exact hk
def gu (σ:SS R) (vc:Prop) (v:Value) (lit:Option Bool) (rd:List (Nat×Nat)):Out R:=⟨vc,v,lit,σ.hp,rd,[]⟩
theorem g9 {o:Oper} {σ:SS R} {vc:Prop} {v:Value} {lit:Option Bool} {rd:List (Nat×Nat)}
  (h:∀ C ρ ft a w,TM ρ σ.hp.length σ.tm a->LI σ.li σ.tm->HM D C ρ ft σ.hp w->vc->(execOp a.eval o).run P w=.ok (.value (bS ρ v)) w)
  (hl:LI σ.li σ.tm->∀ b,lit=aa b->v=.bool b):mb D P o σ (gu σ vc v lit rd) where
 run C ρ ft a w K Q ht iy hm hv hk:=rn (h C ρ ft a w ht iy hm hv) (hk ρ ft w (fun _ _=>rfl) hm)
 len:=a_ _
 lit:=hl
def xF {α:Type} (P:Program):Sem α->Option α
 |.pure a=>aa a
 |.program k=>xF P (k P)
 |.mark _ k=>xF P k
 |_=>aj
theorem LZ {α:Type} {P:Program} (s:Sem α) {a:α} (h:xF P s=aa a) (w:World):s.run P w=.ok a w:=by
 induction s generalizing w with
 |pure b=>simp only[xF] at h;injection h with h;subst h;rfl
 |program k ih=>simp only[xF] at h;simp only[Sem.run];exact ih P h w
 |mark m k ih=>simp only[xF] at h;simp only[Sem.run];exact ih h w
 |_=>simp only[xF] at h;cases h
def evf (tm:List (Option Value)) (x:Operand):Value:=(ev tm x).getD undef
def aaS (tm:List (Option Value)) (x:Operand):Bool :=
 match ev tm x with
 |some v=>flat v
 |none=>an
def flatAll (tm:List (Option Value)):List Operand->Bool
 |[]=>ao
 |x::l=>aaS tm x&&flatAll tm l
theorem WQ {tm:List (Option Value)} {l:List Operand} (h:flatAll tm l=ao) {x:Operand} (hx:x∈l):∃ v,ev tm x=aa v/\flat v=ao:=by
 induction l with
 |nil=>cases hx
 |cons y l ih =>
  simp only[flatAll,aM] at h;rcases bO.1 hx with rfl|hx
  ·have h1:=h.1;unfold aaS at h1;split at h1
   ·exact⟨_,by assumption,h1⟩
   ·cases h1
  ·exact ih h.2 hx
def noSelect:Op->Bool
 |.select _ _=>an
 |_=>ao
def uA (P:Program) (σ:SS R) (o:Oper):Option (Out R) :=
 if noSelect o.op&&flatAll σ.tm o.op.operands.toList then
  match xF P (execOp (evf σ.tm) o) with
  |some (.value v)=>if flat v then aa (gu σ True v aj []) else aj
  |_=>aj
 else aj
theorem w6 {σ:SS R} {o:Oper} {x:Out R} (h:uA P σ o=aa x):mb D P o σ x:=by
 unfold uA at h;split at h
 ·rename_i hc;simp only[aM] at hc;split at h
  ·rename_i v hp;split at h
   ·rename_i hf;injection h with h
    subst h;refine g9 (fun C ρ ft a w ht iy hm _=>?_) (fun _ b hb=>by cases hb)
    have e:execOp a.eval o=execOp (evf σ.tm) o:=by
     refine execOp_congr o (fun cs b hs=>?_) (fun y hy=>?_)
     ·rw[hs] at hc;simp[noSelect] at hc
     ·obtain⟨u,hu,hfu⟩:=WQ hc.2 (Array.mem_toList_iff.2 hy);rw[(eu ht hu).1,nO u hfu];simp[evf,hu]
    rw[e,LZ _ hp w,nO v hf]
   ·cases h
  ·cases h
 ·cases h
def vY (σ:SS R) (x:Operand):Option (Out R) :=
 match ev σ.tm x with
 |some v=>aa (gu σ True v (Ge σ.li x) [])
 |none=>aj
theorem Se {σ:SS R} {o:Oper} {y:Operand} {x:Out R} (ho:o.op=.move y∨o.op=.assign y) (h:vY σ y=aa x):mb D P o σ x:=by
 unfold vY at h;split at h
 ·rename_i v hv;injection h with h
  subst h;refine g9 (fun C ρ ft a w ht iy hm _=>?_) (fun iy b hb=>?_)
  ·rw[← (eu ht hv).1];rcases ho with ho|ho<;>simp[execOp,ho]
  ·have:=yl iy hb;rw[hv] at this;exact pa this
 ·cases h
def Hy (σ:SS R) (c y z:Operand):Option (Out R) :=
 match Ge σ.li c with
 |some ao=>vY σ y
 |some an=>vY σ z
 |none =>
  match ev σ.tm c,ev σ.tm y,ev σ.tm z with
  |some (.bool c),aa (.bool y),aa (.bool z)=>aa (gu σ True (.bool (if c then y else z)) aj [])
  |_,_,_=>aj
theorem abo {σ:SS R} {o:Oper} {c y z:Operand} {x:Out R} (ho:o.op=.pick c y z) (h:Hy σ c y z=aa x):mb D P o σ x:=by
 unfold Hy at h;split at h
 ·rename_i hl;unfold vY at h;split at h
  ·rename_i v hv;injection h with h
   subst h;refine g9 (fun C ρ ft a w ht iy hm _=>?_) (fun iy b hb=>?_)
   ·have h1:=(eu ht (yl iy hl)).1;rw[← (eu ht hv).1];simp[execOp,ho,h1,asBool]
   ·have:=yl iy hb;rw[hv] at this;exact pa this
  ·cases h
 ·rename_i hl;unfold vY at h;split at h
  ·rename_i v hv;injection h with h
   subst h;refine g9 (fun C ρ ft a w ht iy hm _=>?_) (fun iy b hb=>?_)
   ·have h1:=(eu ht (yl iy hl)).1;rw[← (eu ht hv).1];simp[execOp,ho,h1,asBool]
   ·have:=yl iy hb;rw[hv] at this;exact pa this
  ·cases h
 ·split at h
  ·rename_i c' y' z' hc hy hz;injection h with h
   subst h;refine g9 (fun C ρ ft a w ht iy hm _=>?_) (fun iy b hb=>by cases hb)
   have h1:=(eu ht hc).1;have h2:=(eu ht hy).1;have h3:=(eu ht hz).1;simp[execOp,ho,h1,h2,h3,asBool]
  ·cases h
def Ld (σ:SS R) (y:Operand):Option (Out R) :=
 match ev σ.tm y with
 |some (.bool b)=>aa (gu σ True (.bool (!b)) ((Ge σ.li y).map (!·)) [])
 |_=>aj
theorem adR {σ:SS R} {o:Oper} {t:TypeId} {y:Operand} {x:Out R} (ho:o.op=.unOp .not t y) (h:Ld σ y=aa x):mb D P o σ x:=by
 unfold Ld at h;split at h
 ·rename_i b hb;injection h with h
  subst h;refine g9 (fun C ρ ft a w ht iy hm _=>?_) (fun iy c hc=>?_)
  ·have h1:=(eu ht hb).1;simp[execOp,ho,h1,Op.unary]
  ·cases hl:Ge σ.li y with
   |none=>rw[hl] at hc;cases hc
   |some d =>
    have:=yl iy hl;rw[hb] at this;injection this with this;injection this with this
    subst this;rw[hl] at hc;injection hc with hc
    subst hc
    rfl
 ·cases h
def Lw (σ:SS R) (y:Operand):Option (Out R) :=
 match ev σ.tm y with
 |some (.pointer (aa p))=>aa (gu σ True (.pointer (aa p)) aj [])
 |some (.func (.func f) xs ys)=>aa (gu σ True (.func (.func f) xs ys) aj [])
 |_=>aj
theorem adW {σ:SS R} {o:Oper} {y:Operand} {x:Out R} (ho:o.op=.nilCheck y) (h:Lw σ y=aa x):mb D P o σ x:=by
 unfold Lw at h;split at h
 ·rename_i p hp;injection h with h
  subst h;refine g9 (fun C ρ ft a w ht iy hm _=>?_) (fun iy c hc=>by cases hc)
  have h1:=(eu ht hp).1;simp only[bS] at h1;simp[execOp,ho,h1,bS]
 ·rename_i f xs ys hp;injection h with h
  subst h;refine g9 (fun C ρ ft a w ht iy hm _=>?_) (fun iy c hc=>by cases hc)
  have h1:=(eu ht hp).1;obtain⟨xs⟩:=xs;obtain⟨ys⟩:=ys;simp only[bS] at h1;simp[execOp,ho,h1,bS]
 ·cases h
def zy (σ:SS R) (y:Operand) (k:Nat):Option (Out R) :=
 match ev σ.tm y with
 |some (.tuple ⟨l⟩)=>match l[k]? with
  |some v=>aa (gu σ True v aj [])
  |none=>aj
 |_=>aj
theorem U1 {σ:SS R} {o:Oper} {y:Operand} {k:Nat} {x:Out R} (ho:o.op=.extract y k) (h:zy σ y k=aa x):mb D P o σ x:=by
 unfold zy at h;split at h
 ·rename_i l hl;split at h
  ·rename_i v hv;injection h with h
   subst h;refine g9 (fun C ρ ft a w ht iy hm _=>?_) (fun iy c hc=>by cases hc)
   have h1:=(eu ht hl).1;rw[abQ] at h1;simp[execOp,ho,h1,Instr.extract,hv]
  ·cases h
 ·cases h
def HE (P:Program) (t:TypeId):Value->Value->Option Bool
 |.pointer p,.pointer aj|.pointer aj,.pointer p =>
  match P.underlying t with
  |some (.pointer _)=>aa (match p with|none=>ao|some _=>an)
  |_=>aj
 |.slice aj _ _,.slice aj _ _ =>
  match P.underlying t with
  |some (.slice _)=>aa ao
  |_=>aj
 |.slice (aa ⟨_,_,aj⟩) _ _,.slice aj _ _ =>
  match P.underlying t with
  |some (.slice _)=>aa an
  |_=>aj
 |.func _ _ _,.nilFunc =>
  match P.underlying t with
  |some (.func _ _ _)=>aa an
  |_=>aj
 |.nilFunc,.nilFunc =>
  match P.underlying t with
  |some (.func _ _ _)=>aa ao
  |_=>aj
 |_,_=>aj
def zE (P:Program) (σ:SS R) (neg:Bool) (t:TypeId) (y z:Operand):Option (Out R) :=
 match ev σ.tm y,ev σ.tm z with
 |some u,aa v=>match HE P t u v with
  |some b=>aa (gu σ True (.bool (xf b neg)) (aa (xf b neg)) [])
  |none=>aj
 |_,_=>aj
theorem W2 {t:TypeId} {u v:Value} {b:Bool} (h:HE P t u v=aa b) (ρ:Env) (w:World):(Wr t (bS ρ u) (bS ρ v)).run P w=.ok b w:=by
 have key:∀ (d:Nat),(mu (d+1) t (bS ρ u) (bS ρ v)).run P w=.ok b w:=by
  intro d;unfold HE at h;split at h
  ·rename_i p;split at h
   ·rename_i hu;injection h with h
    subst h;cases p<;>simp[mu,run_underlying hu,bS]
   ·cases h
  ·rename_i p _;split at h
   ·rename_i hu;injection h with h
    subst h;cases p<;>simp[mu,run_underlying hu,bS]
   ·cases h
  ·split at h
   ·rename_i hu;injection h with h
    subst h;simp[mu,run_underlying hu,bS]
   ·cases h
  ·split at h
   ·rename_i hu;injection h with h
    subst h;simp[mu,run_underlying hu,bS,lK]
   ·cases h
  ·rename_i fn f c;split at h
   ·rename_i hu;injection h with h
    subst h;obtain⟨f⟩:=f;obtain⟨c⟩:=c;simp[mu,run_underlying hu,bS]
   ·cases h
  ·split at h
   ·rename_i hu;injection h with h
    subst h;simp[mu,run_underlying hu,bS]
   ·cases h
  ·cases h
 unfold Wr;exact key 9999
theorem Pe {σ:SS R} {o:Oper} {neg:Bool} {t t':TypeId} {y z:Operand} {x:Out R} (ho:o.op=.binOp (if neg then .neq else .eql) t y z t') (h:zE P σ neg t y z=aa x):mb D P o σ x:=by
 unfold zE at h;split at h
 ·rename_i u v hu hv;split at h
  ·rename_i b hb;injection h with h
   subst h;refine g9 (fun C ρ ft a w ht iy hm _=>?_) (fun iy c hc=>by injection hc with hc;rw[hc])
   have h1:=(eu ht hu).1;have h2:=(eu ht hv).1;have hr:=W2 hb ρ w;have hg:∀ op,(eqGuard op t y z (bS ρ u) (bS ρ v)).run P w=.ok () w:=by
    intro op;unfold HE at hb;split at hb
    all_goals first
     |cases hb
     |skip
    ·rename_i p;cases p<;>cases op<;>simp[eqGuard,bS]
    ·rename_i p _;cases p<;>cases op<;>simp[eqGuard,bS]
    ·cases op<;>simp[eqGuard,bS]
    ·cases op<;>simp[eqGuard,bS,lK]
    ·rename_i fn f c;obtain⟨f⟩:=f;obtain⟨c⟩:=c;cases op<;>simp[eqGuard,bS]
    ·cases op<;>simp[eqGuard,bS]
   have Mq:∀ op,(op=.eql∨op=.neq)->(binOp op t (bS ρ u) (bS ρ v)).run P w=.ok (.bool (xf b (op==.neq))) w:=by
    intro op hop;have q1:(SJ==z4)=an:=by decide
    have q2:(z4==z4)=ao:=by decide
    unfold HE at hb;rcases hop with rfl|rfl
    all_goals
     split at hb
     all_goals first
      |cases hb
      |skip
     ·rename_i p;cases p<;>simp[binOp,bS] at hr ⊢<;>simp[hr,q1,q2]
     ·rename_i p _;cases p<;>simp[binOp,bS] at hr ⊢<;>simp[hr,q1,q2]
     ·simp[binOp,bS] at hr ⊢;simp[hr,q1,q2]
     ·simp[binOp,bS,lK] at hr ⊢;simp[hr,q1,q2]
     ·rename_i fn f c;obtain⟨f⟩:=f;obtain⟨c⟩:=c;simp[binOp,bS] at hr ⊢;simp[hr,q1,q2]
     ·simp[binOp,bS] at hr ⊢;simp[hr,q1,q2]
   cases neg with
   |false =>
    have h3:=Mq .eql (dK rfl);have h4:=hg .eql;simp only[fP,if_false] at ho;have q1:(SJ==z4)=an:=by decide
    simp[execOp,ho,h1,h2,h3,h4,q1]
   |true =>
    have h3:=Mq .neq (e7 rfl);have h4:=hg .neq;simp only[if_true] at ho;simp[execOp,ho,h1,h2,h3,h4]
  ·cases h
 ·cases h
def zf (P:Program) (σ:SS R) (own:Option (Option (SB R))->Bool) (neg:Bool) (t:TypeId) (y z:Operand):Option (Out R) :=
 match ev σ.tm y,ev σ.tm z with
 |some (.pointer (aa ⟨i,0,aj⟩)),aa (.pointer (aa ⟨j,0,aj⟩)) =>
  match P.underlying t with
  |some (.pointer el)=>match P.info? el with
   |some inf =>
    if gQ 0 inf.size then
     match fp i j with
     |true=>aa (gu σ True (.bool (xf ao neg)) (aa (xf ao neg)) [])
     |false=>if own σ.hp[i]?&&own σ.hp[j]? then aa (gu σ True (.bool (xf an neg)) (aa (xf an neg)) []) else aj
    else aj
   |none=>aj
  |_=>aj
 |_,_=>aj
theorem OD {own:Option (Option (SB R))->Bool} (Wn:∀ {C:Ctx} {ρ:Env} {ft:Nat->Nat->Prop} {h:Hp R} {w:World} {i:Nat},HM D C ρ ft h w->own h[i]?=ao->ft i (ρ i).lI/\∃ ca ta,w.heap[(ρ i).lI]?=aa (.cells ca ta (0,0)))
  {σ:SS R} {o:Oper} {neg:Bool} {t t':TypeId} {y z:Operand} {x:Out R} (ho:o.op=.binOp (if neg then .neq else .eql) t y z t') (h:zf P σ own neg t y z=aa x):mb D P o σ x:=by
 unfold zf at h;split at h
 ·rename_i i j hu hv;split at h
  ·rename_i el ht;split at h
   ·rename_i inf xY;split at h
    ·rename_i ny
     have anv : ¬ inf.size = 0 := by have : 0 < inf.size := by simpa using ny
                                     omega
     have key:∀ (b:Bool),aa (gu σ True (.bool (xf b neg)) (aa (xf b neg)) [])=aa x ->
       (∀ {C:Ctx} {ρ:Env} {ft:Nat->Nat->Prop} {w:World},HM D C ρ ft σ.hp w->(sameAddr (iI ρ ⟨i,0,aj⟩) (iI ρ ⟨j,0,aj⟩)).run P w=.ok b w)->mb D P o σ x:=by
      intro b h hb;injection h with h
      subst h;refine g9 (fun C ρ ft a w ht' iy hm _=>?_) (fun iy c hc=>by injection hc with hc;rw[hc])
      have h1:=(eu ht' hu).1;have h2:=(eu ht' hv).1;have h5:=hb hm;simp only[bS] at h1 h2;have hr:(Wr t (.pointer (aa (iI ρ ⟨i,0,aj⟩))) (.pointer (aa (iI ρ ⟨j,0,aj⟩)))).run P w=.ok b w:=by
       have q:∀ d,(mu (d+1) t (.pointer (aa (iI ρ ⟨i,0,aj⟩))) (.pointer (aa (iI ρ ⟨j,0,aj⟩)))).run P w=.ok b w:=fun d=>by
        simp[mu,run_underlying ht,sizeOf,typeInfo,xY,anv,h5]
       exact q 9999
      cases neg with
      |false =>
       simp only[fP,if_false] at ho;have q1:(SJ==z4)=an:=by decide
       simp[execOp,ho,h1,h2,eqGuard,binOp,hr,q1,bS]
      |true =>
       simp only[if_true] at ho;have q2:(z4==z4)=ao:=by decide
       simp[execOp,ho,h1,h2,eqGuard,binOp,hr,q2,bS]
     split at h
     ·rename_i hb;have:=cO hb;subst this;exact key ao h (fun _=>run_sameAddr_same _ _)
     ·rename_i hb;split at h
      ·rename_i hc;simp only[aM] at hc;refine key an h (fun {C ρ ft w} hm=>?_)
       obtain⟨g1,c1,t1,e1⟩:=Wn hm hc.1;obtain⟨g2,c2,t2,e2⟩:=Wn hm hc.2;refine run_sameAddr_other (ca:=c1) (cb:=c2) (ta:=t1) (tb:=t2) _ (fun e=>?_) e1 e2
       simp only[iI,Addr.mk.injEq] at e;rw[e.1] at g1;have:=hm.apart _ _ _ g1 g2;subst this;simp at hb
      ·cases h
    ·cases h
   ·cases h
  ·cases h
 ·cases h
end
end Rx
namespace Rx
open Go.RowKit State
structure fits (n:Int):Prop where
 lo:-9223372036854775808≤n
 hi:n≤9223372036854775807
theorem oo {n:Int} (h:fits n):ar.wrap n=n:=by rw[IntKind.wrap_i64];have:=h.lo;have:=h.hi;omega
section
variable {R:Type} {D:fJ R} {P:Program} {C:Ctx} {ρ:Env} {ft:Nat->Nat->Prop} {w w':World}
def OV (σ:SS R) (op:BinOp) (y z:Operand):Option (Out R) :=
 match ev σ.tm y,ev σ.tm z with
 |some (.int .i64 a),aa (.int .i64 b) =>
  match op with
  |.add=>aa (gu σ (fits (a+b)) (.int .i64 (a+b)) aj [])
  |.sub=>aa (gu σ (fits (a-b)) (.int .i64 (a-b)) aj [])
  |.mul=>aa (gu σ (fits (a*b)) (.int .i64 (a*b)) aj [])
  |.quo=>aa (gu σ (b≠0/\fits (a.tdiv b)) (.int .i64 (a.tdiv b)) aj [])
  |.rem=>aa (gu σ (b≠0) (.int .i64 (a.tmod b)) aj [])
  |_=>aj
 |_,_=>aj
theorem adE {σ:SS R} {o:Oper} {op:BinOp} {t t':TypeId} {y z:Operand} {x:Out R} (ho:o.op=.binOp op t y z t') (h:OV σ op y z=aa x):mb D P o σ x:=by
 unfold OV at h;split at h
 ·rename_i a b ha hb;cases op<;>simp only at h<;>try cases h
  all_goals
   refine g9 (fun C ρ ft ac w ht iy hm hv=>?_) (fun iy c hc=>by cases hc)
   have h1:=(eu ht ha).1;have h2:=(eu ht hb).1;simp only[xu] at h1 h2;simp only[execOp,ho,h1,h2,xu]
  ·simp[eqGuard,binOp,My,oo hv]
  ·simp[eqGuard,binOp,My,oo hv]
  ·simp[eqGuard,binOp,My,oo hv]
  ·simp[eqGuard,binOp,Op.intDiv,oo hv.2,hv.1]
  ·simp[eqGuard,binOp,Op.intDiv,hv]
 ·cases h
def P6 (σ:SS R) (y z:Operand):Option (Out R) :=
 match ev σ.tm y,ev σ.tm z with
 |some (.string a),aa (.string b)=>aa (gu σ (a.size+b.size≤9223372036854775807) (.string (a++b)) aj [])
 |_,_=>aj
theorem adT {σ:SS R} {o:Oper} {t t':TypeId} {y z:Operand} {x:Out R} (ho:o.op=.binOp .add t y z t') (h:P6 σ y z=aa x):mb D P o σ x:=by
 unfold P6 at h;split at h
 ·rename_i a b ha hb;injection h with h
  subst h;refine g9 (fun C ρ ft ac w ht iy hm hv=>?_) (fun iy c hc=>by cases hc)
  have h1:=(eu ht ha).1;have h2:=(eu ht hb).1;simp only[Du] at h1 h2;have hm:¬ ((a.size+b.size:Nat):Int)>ar.max:=by
   have:ar.max=9223372036854775807:=by decide
   rw[this];omega
  simp only[execOp,ho,h1,h2,Du];simp only[eqGuard,binOp,Op.stringOp,if_neg hm];simp
 ·cases h
def Hl (P:Program) (sub:TypeId->List Value->List Value->Option Bool) (xs ys:List Value):List Field->Option Bool
 |[]=>aa ao
 |f::fs =>
  if f.name ≠ "_" then
   match P.underlying f.type with
   |some (.struct _) =>
    match P.info? f.type with
    |some i =>
     match sub f.type ((xs.drop f.offset).take i.size) ((ys.drop f.offset).take i.size) with
     |some b=>(Hl P sub xs ys fs).map fun r=>b&&r
     |none=>aj
    |none=>aj
   |u =>
    match u,xs[f.offset]?,ys[f.offset]? with
    |some (.int _),aa (.int k a),aa (.int k' b)=>if k=k' then(Hl P sub xs ys fs).map fun r=>(a==b)&&r else aj
    |some .bool,aa (.bool a),aa (.bool b)=>(Hl P sub xs ys fs).map fun r=>(a==b)&&r
    |some .string,aa (.string a),aa (.string b)=>(Hl P sub xs ys fs).map fun r=>(a==b)&&r
    |_,_,_=>aj
  else Hl P sub xs ys fs
def eqD (P:Program):Nat->TypeId->List Value->List Value->Option Bool
 |0,_,_,_=>aj
 |n+1,t,xs,ys =>
  match P.underlying t with
  |some (.struct ⟨fs⟩)=>if P.stoodInHeld t then aj else Hl P (eqD P n) xs ys fs
  |_=>aj
theorem UP {t:TypeId} {fs:Array Field} {i:TypeInfo} {xs:List Value} {off:Nat} (hu:P.underlying t=aa (.struct fs)) (hi:P.info? t=aa i) (w:World):(part t ⟨xs⟩ off).run P w=.ok (.agg ⟨(xs.drop off).take i.size⟩) w:=by
 have h1:(isAgg t).run P w=.ok ao w:=by simp[isAgg,run_underlying hu]
 have h2:(sizeOf t).run P w=.ok i.size w:=by simp[sizeOf,typeInfo,hi]
 have h3:((⟨xs⟩:Array Value).extract off (off+i.size))=⟨(xs.drop off).take i.size⟩:=by
  apply qu;simp
 simp only[part,dA,h1,cA,if_true,h2,dV,h3]
theorem K9 {sub:TypeId->List Value->List Value->Option Bool} {xs ys:List Value} (d:Nat) (w:World) (nk:∀ t a c b,sub t a c=aa b->(mu (d+1) t (.agg ⟨a⟩) (.agg ⟨c⟩)).run P w=.ok b w):∀ (fs:List Field) (r:Bool),Hl P sub xs ys fs=aa r->(Cs (d+1) ⟨xs⟩ ⟨ys⟩ fs).run P w=.ok r w
 |[],r,h=>by
  simp only[Hl] at h;injection h with h
  subst h;simp[Cs]
 |f::fs,r,h=>by
  simp only[Hl] at h;simp only[Cs]
  have aeR:∀ (b:Bool) (x y:Value),((part f.type ⟨xs⟩ f.offset).run P w=.ok x w)->((part f.type ⟨ys⟩ f.offset).run P w=.ok y w)->(mu (d+1) f.type x y).run P w=.ok b w->(Hl P sub xs ys fs).map (fun r=>b&&r)=aa r ->
    (do
     let a ← part f.type ⟨xs⟩ f.offset
     let b ← part f.type ⟨ys⟩ f.offset
     let r ← mu (d+1) f.type a b
     if(!r)=ao then pure an else Cs (d+1) ⟨xs⟩ ⟨ys⟩ fs:Sem Bool).run P w=.ok r w:=by
   intro b x y hx hy he hr;cases hq:Hl P sub xs ys fs with
   |none=>rw[hq] at hr;cases hr
   |some r' =>
    rw[hq] at hr;simp only[j_,ct] at hr;have ih:=K9 d w nk fs r' hq;simp only[dA,hx,hy,cA,he];cases b with
    |true =>
     simp only[Bool.true_and] at hr;subst hr;simp[ih]
    |false =>
     simp only[Bool.false_and] at hr;subst hr;simp
  have step:∀ (b:Bool) (x y:Value),((isAgg f.type).run P w=.ok an w)->xs[f.offset]?=aa x->ys[f.offset]?=aa y->(mu (d+1) f.type x y).run P w=.ok b w->(Hl P sub xs ys fs).map (fun r=>b&&r)=aa r ->
    (do
     let a ← part f.type ⟨xs⟩ f.offset
     let b ← part f.type ⟨ys⟩ f.offset
     let r ← mu (d+1) f.type a b
     if(!r)=ao then pure an else Cs (d+1) ⟨xs⟩ ⟨ys⟩ fs:Sem Bool).run P w=.ok r w:=by
   intro b x y ai6 hx hy he hr;refine aeR b x y ?_ ?_ he hr
   ·simp only[part,dA,ai6,cA,fP,if_false,jD,hx,dV]
   ·simp only[part,dA,ai6,cA,fP,if_false,jD,hy,dV]
  split at h
  ·rename_i hn;rw[if_pos hn];split at h
   ·rename_i gs hu;split at h
    ·rename_i i hi;split at h
     ·rename_i b hb;exact aeR b _ _ (UP hu hi w) (UP hu hi w) (nk _ _ _ _ hb) h
     ·cases h
    ·cases h
   ·split at h
    ·rename_i k0 k a k' b hu hx hy;split at h
     ·rename_i hk;subst hk;exact step _ _ _ (by simp[isAgg,run_underlying hu]) hx hy (run_equalIn_int w d f.type k k0 a b hu) h
     ·cases h
    ·rename_i a b hu hx hy;exact step _ _ _ (by simp[isAgg,run_underlying hu]) hx hy (run_equalIn_bool' w d f.type a b hu) h
    ·rename_i a b hu hx hy;refine step _ _ _ (by simp[isAgg,run_underlying hu]) hx hy ?_ h
     rw[beq_toListBytes];exact run_equalIn_string w d f.type a b hu
    ·cases h
  ·rename_i hn;rw[if_neg hn];exact K9 d w nk fs r h
theorem YB (w:World):∀ (n d:Nat),n≤d->∀ (t:TypeId) (a c:List Value) (b:Bool),eqD P n t a c=aa b->(mu (d+1) t (.agg ⟨a⟩) (.agg ⟨c⟩)).run P w=.ok b w
 |0,d,_,t,a,c,b,h=>by cases h
 |n+1,0,hd,t,a,c,b,h=>by omega
 |n+1,d+1,hd,t,a,c,b,h=>by
  simp only[eqD] at h;split at h
  ·rename_i fs hu;split at h
   ·cases h
   ·rename_i hs;have hs:P.stoodInHeld t=an:=by simpa using hs
    have hfo:P.fieldsOf t=⟨fs⟩:=by simp[N7,hu]
    have yq:=run_equalIn_struct (P:=P) w (d+1) t ⟨a⟩ ⟨c⟩ (by rw[hfo];exact hu) hs
    rw[hfo] at yq;exact yq.trans (K9 d w (fun t' a' c' b' h'=>YB w n d (by omega) t' a' c' b' h') fs b h)
  ·cases h
def zB (P:Program) (σ:SS R) (neg:Bool) (t:TypeId) (y z:Operand):Option (Out R) :=
 match ev σ.tm y,ev σ.tm z with
 |some (.agg ⟨xs⟩),aa (.agg ⟨ys⟩) =>
  match P.underlying t with
  |some (.struct ⟨fs⟩) =>
   if pI xs&&pI ys && !P.stoodInHeld t && !P.eqGuardType P.depth t then
    match Hl P (eqD P 4) xs ys fs with
    |some b=>aa (gu σ True (.bool (if neg then !b else b)) aj [])
    |none=>aj
   else aj
  |_=>aj
 |_,_=>aj
theorem Pg {σ:SS R} {o:Oper} {neg:Bool} {t t':TypeId} {y z:Operand} {x:Out R} (ho:o.op=.binOp (if neg then .neq else .eql) t y z t') (h:zB P σ neg t y z=aa x):mb D P o σ x:=by
 unfold zB at h;split at h
 ·rename_i xs ys ha hb;split at h
  ·rename_i fs hu;split at h
   ·rename_i hc;simp only[aM,Bool.not_eq_true'] at hc;obtain⟨⟨⟨f1,f2⟩,hs⟩,hg⟩:=hc;split at h
    ·rename_i b hq;injection h with h
     subst h;refine g9 (fun C ρ ft ac w ht iy hm hv=>?_) (fun iy c hc=>by cases hc)
     have h1:=(eu ht ha).1;have h2:=(eu ht hb).1;rw[nO _ (by simpa [flat] using f1)] at h1
     rw[nO _ (by simpa [flat] using f2)] at h2
     have hfo:P.fieldsOf t=⟨fs⟩:=by simp[N7,hu]
     have he:=K9 (P:=P) (xs:=xs) (ys:=ys) 9998 w (fun t' a' c' b' h'=>YB w 4 9998 (by omega) t' a' c' b' h') fs b hq
     have yq:=run_equalIn_struct (P:=P) w 9999 t ⟨xs⟩ ⟨ys⟩ (by rw[hfo];exact hu) hs
     rw[hfo] at yq;have YL:(mu 10000 t (.agg ⟨xs⟩) (.agg ⟨ys⟩)).run P w=.ok b w:=yq.trans he;simp only[execOp,ho,h1,h2,Uh];cases neg with
     |false =>
      simp only[fP,if_false,dA,run_eqGuard_agg w _ t y z _ _ hg,cA,run_eql_struct,YL,dV]
     |true =>
      simp only[if_true,dA,run_eqGuard_agg w _ t y z _ _ hg,cA,run_neq_struct,YL,dV]
    ·cases h
   ·cases h
  ·cases h
 ·cases h
def Cq (P:Program) (t:TypeId):Option (Option Nat) :=
 match P.underlying t with
 |some (.struct _)|some (.array _ _) =>
  match P.info? t with
  |some i=>aa (aa i.size)
  |none=>aj
 |some _=>aa aj
 |none=>aj
theorem OK {t:TypeId} {n:Nat} (h:Cq P t=aa (aa n)) (w:World):(isAgg t).run P w=.ok ao w/\(sizeOf t).run P w=.ok n w:=by
 unfold Cq at h;split at h
 ·rename_i fs hu;split at h
  ·rename_i i hi;injection h with h;injection h with h
   subst h;exact⟨by simp[isAgg,run_underlying hu],by simp[sizeOf,typeInfo,hi]⟩
  ·cases h
 ·rename_i n' e hu;split at h
  ·rename_i i hi;injection h with h;injection h with h
   subst h;exact⟨by simp[isAgg,run_underlying hu],by simp[sizeOf,typeInfo,hi]⟩
  ·cases h
 ·injection h with h;cases h
 ·cases h
theorem OF {t:TypeId} (h:Cq P t=aa aj) (w:World):(isAgg t).run P w=.ok an w:=by
 unfold Cq at h;split at h
 ·split at h
  ·injection h with h;cases h
  ·cases h
 ·split at h
  ·injection h with h;cases h
  ·cases h
 ·rename_i d h1 h2 hu;unfold isAgg;rw[dA,run_underlying hu w];simp only[cA]
  first
   |rfl
   |(split
      · rename_i fs; exact absurd hu (h1 fs)
      · rename_i n e; exact absurd hu (h2 n e)
      · rfl)
 ·cases h
def DY (P:Program) (σ:SS R) (t:TypeId) (y:Operand) (k:Nat):Option (Out R) :=
 match ev σ.tm y with
 |some (.agg ⟨l⟩) =>
  match P.underlying t with
  |some (.struct ⟨fs⟩) =>
   match fs[k]? with
   |some f =>
    match Cq P f.type with
    |some aj=>match l[f.offset]? with
     |some v=>aa (gu σ True v aj [])
     |none=>aj
    |some (aa n)=>aa (gu σ True (.agg ⟨(l.drop f.offset).take n⟩) aj [])
    |none=>aj
   |none=>aj
  |_=>aj
 |_=>aj
theorem Z0 {σ:SS R} {o:Oper} {t:TypeId} {y:Operand} {k:Nat} {x:Out R} (ho:o.op=.field t y k) (h:DY P σ t y k=aa x):mb D P o σ x:=by
 unfold DY at h;split at h
 ·rename_i l ha;split at h
  ·rename_i fs hu;split at h
   ·rename_i f hf;split at h
    ·rename_i hg;split at h
     ·rename_i v hv;injection h with h
      subst h;refine g9 (fun C ρ ft ac w ht iy hm _=>?_) (fun iy c hc=>by cases hc)
      have h1:=(eu ht ha).1;rw[zA] at h1;simp[execOp,ho,h1,Xc,run_underlying hu,hf,asAgg,part,OF hg w,hv]
     ·cases h
    ·rename_i n hg;injection h with h
     subst h;refine g9 (fun C ρ ft ac w ht iy hm _=>?_) (fun iy c hc=>by cases hc)
     have h1:=(eu ht ha).1;rw[zA] at h1;obtain⟨g1,g2⟩:=OK hg w;simp only[execOp,ho,h1,Xc,dA,run_underlying hu,cA,jD,hf,asAgg,dV,part,g1,if_true,g2,zA]
     congr 3
     apply qu;simp[IT,List.extract_eq_take_drop,List.map_drop,List.map_take]
    ·cases h
   ·cases h
  ·cases h
 ·cases h
def wc (P:Program) (σ:SS R) (t:TypeId) (y:Operand) (k:Nat):Option (Out R) :=
 match ev σ.tm y with
 |some (.pointer (aa ⟨i,e,sp⟩)) =>
  match P.underlying t with
  |some (.struct ⟨fs⟩) =>
   match fs[k]? with
   |some f =>
    match P.info? f.type with
    |some inf =>
     if fp inf.size 0 then aj else
     match sp with
     |none=>aa (gu σ True (.pointer (aa ⟨i,e+f.offset,aj⟩)) aj [])
     |some q=>if gQ q 1000000&&gQ (q%1000+f.offset) 1000 then aa (gu σ True (.pointer (aa ⟨i,e,aa (q+f.offset)⟩)) aj []) else aj
    |none=>aj
   |none=>aj
  |_=>aj
 |_=>aj
theorem pN (b o j:Nat):(⟨b,o,aj⟩:Addr).add j=⟨b,o+j,aj⟩:=by
 unfold Addr.add;split
 ·rename_i h;subst h;rfl
 ·rfl
theorem Rm {σ:SS R} {o:Oper} {t:TypeId} {y:Operand} {k:Nat} {x:Out R} (ho:o.op=.fieldAddr t y k) (h:wc P σ t y k=aa x):mb D P o σ x:=by
 unfold wc at h;split at h
 ·rename_i i e sp ha;split at h
  ·rename_i fs hu;split at h
   ·rename_i f hf;split at h
    ·rename_i inf hi;split at h
     ·cases h
     ·rename_i hz;have HB:inf.size≠0:=fun e=>hz (by rw[e];rfl)
      have key:∀ (C:Ctx) (ρ:Env) (ft:Nat->Nat->Prop) (ac:Act) (w:World),TM ρ σ.hp.length σ.tm ac ->
        (execOp ac.eval o).run P w=.ok (.value (.pointer (aa ((iI ρ ⟨i,e,sp⟩).add f.offset)))) w:=by
       intro C ρ ft ac w ht;have h1:=(eu ht ha).1;simp only[bS] at h1;simp[execOp,ho,h1,Instr.fieldAt,run_underlying hu,hf,oE,fieldPlace,sizeOf,typeInfo,hi,HB]
      split at h
      ·injection h with h
       subst h;refine g9 (fun C ρ ft ac w ht iy hm _=>?_) (fun iy c hc=>by cases hc)
       rw[key C ρ ft ac w ht];simp only[bS,iI,pN,cellOf,jg]
      ·rename_i q;split at h
       ·rename_i hq;simp only[aM,fe] at hq;injection h with h
        subst h;refine g9 (fun C ρ ft ac w ht iy hm _=>?_) (fun iy c hc=>by cases hc)
        rw[key C ρ ft ac w ht];simp only[bS,iI,pN,cellOf];have e1:q%1000000 / 1000=(q+f.offset)%1000000 / 1000:=by omega
        have e2:q%1000+f.offset=(q+f.offset)%1000:=by omega
        rw[e1,← e2,jg,jg]
       ·cases h
    ·cases h
   ·cases h
  ·cases h
 ·cases h
end
end Rx
namespace Rx
open Go.RowKit State
section
variable {R:Type} {D:fJ R} {P:Program} {C:Ctx} {ρ:Env} {ft:Nat->Nat->Prop} {w w':World}
def yi (P:Program) (σ:SS R) (t:TypeId) (y z:Operand):Option (Out R) :=
 match ev σ.tm y,ev σ.tm z with
 |some (.slice (aa ⟨i,e0,aa q⟩) n _),aa (.int _ j) =>
  match P.underlying t with
  |some (.slice el) =>
   match P.info? el,σ.hp[i]? with
   |some inf,aa (aa (.inr (.inl (_,r)))) =>
    if fp (q%1000000) (1000*inf.size)&&fp inf.size r.tm.length then
     aa (gu σ (0≤j/\j<n/\e0+n≤r.n) (.pointer (aa ⟨i,e0+j.toNat,aa (1000*inf.size)⟩)) aj [])
    else aj
   |some inf,aa (aa (.inr (.inr (.inl r)))) =>
    if fp (q%1000000) (1000*inf.size)&&fp inf.size r.tm.length then
     aa (gu σ (0≤j/\j<n/\e0+n≤r.n) (.pointer (aa ⟨i,e0+j.toNat,aa (1000*inf.size)⟩)) aj [])
    else aj
   |_,_=>aj
  |_=>aj
 |_,_=>aj
theorem ahu {i:Nat} {h:Hp R} {t:TypeId} {r:Row} (hm:HM D C ρ ft h w) (hi:h[i]?=aa (aa (.inr (.inl (t,r))))):r.n≤(ρ i).cap:=(hm.at_ i _ hi).1.2.2.1
theorem adb {i:Nat} {h:Hp R} {r:Row} (hm:HM D C ρ ft h w) (hi:h[i]?=aa (aa (.inr (.inr (.inl r))))):r.n≤(ρ i).cap:=(hm.at_ i _ hi).1.2.2.1
theorem Ji {σ:SS R} {o:Oper} {t el:TypeId} {y z:Operand} {i e0 q n c:Nat} {k:IntKind} {j:Int} {inf:TypeInfo} {N:Nat} (ho:o.op=.indexAddr t y z)
  (ha:ev σ.tm y=aa (.slice (aa ⟨i,e0,aa q⟩) n c)) (hb:ev σ.tm z=aa (.int k j)) (hu:P.underlying t=aa (.slice el)) (hi:P.info? el=aa inf)
  (hq:q%1000000=1000*inf.size) {ac:Act} (ht:TM ρ σ.hp.length σ.tm ac) (hv:0≤j/\j<n/\e0+n≤N) (MM:N≤(ρ i).cap) (H6:(ρ i).nil=ao->(ρ i).cap=0) :
  (execOp ac.eval o).run P w=.ok (.value (bS ρ (.pointer (aa ⟨i,e0+j.toNat,aa (1000*inf.size)⟩)))) w:=by
 have h1:=(eu ht ha).1;have h2:=(eu ht hb).1;obtain⟨v0,v1,v2⟩:=hv;have kz:¬ (q / 1000000≠0/\(ρ i).cap≤e0):=fun h=>by omega
 have hnn:¬ (ρ i).nil=ao:=fun h=>by have:=H6 h;omega
 simp only[bS,lK,if_neg kz,if_neg hnn] at h1;simp only[xu] at h2;have ny:1000*inf.size%1000000=1000*inf.size:=by rw[← hq];omega
 simp only[execOp,ho,h1,h2,Jp,asIntOf,dA,dV,cA,run_underlying hu,Mz];have hc:(0≤j/\j<(n:Int)):=⟨v0,v1⟩;have T5:q%1000000 / 1000=inf.size:=by omega
 have xd:q%1000=0:=by omega
 have hd3:1000*inf.size%1000000 / 1000=inf.size:=by omega
 have hd4:1000*inf.size%1000=0:=by omega
 simp only[hc,and_self,if_true,sizeOf,typeInfo,dA,run_program,cA,hi,dV,bS,iI,pN,cellOf,T5,xd,hd3,hd4,gR];simp[ij,jg]
theorem Rn {σ:SS R} {o:Oper} {t:TypeId} {y z:Operand} {x:Out R} (ho:o.op=.indexAddr t y z) (h:yi P σ t y z=aa x):mb D P o σ x:=by
 unfold yi at h;split at h
 ·rename_i i e0 q n c k j ha hb;split at h
  ·rename_i el hu;split at h
   ·rename_i inf t' r hi hr;split at h
    ·rename_i hc;simp only[aM] at hc;have hq:=cO hc.1;injection h with h
     subst h;exact g9 (fun C ρ ft ac w ht iy hm hv=>Ji ho ha hb hu hi hq ht hv (ahu hm hr) (hm.at_ i _ hr).1.2.2.2.2.1) (fun iy c hc=>by cases hc)
    ·cases h
   ·rename_i inf r hi hr;split at h
    ·rename_i hc;simp only[aM] at hc;have hq:=cO hc.1;injection h with h
     subst h;exact g9 (fun C ρ ft ac w ht iy hm hv=>Ji ho ha hb hu hi hq ht hv (adb hm hr) (hm.at_ i _ hr).1.2.2.2.2.1) (fun iy c hc=>by cases hc)
    ·cases h
   ·cases h
  ·cases h
 ·cases h
def wG (P:Program) (σ:SS R) (t:TypeId) (y z:Operand):Option (Out R) :=
 match ev σ.tm y,ev σ.tm z with
 |some (.slice (aa ⟨i,e,aj⟩) n _),aa (.int _ j) =>
  match P.underlying t with
  |some (.slice el) =>
   match P.info? el with
   |some inf=>aa (gu σ (0≤j/\j<n) (.pointer (aa ⟨i,e+j.toNat*inf.size,aj⟩)) aj [])
   |none=>aj
  |_=>aj
 |_,_=>aj
theorem Ol {σ:SS R} {o:Oper} {t:TypeId} {y z:Operand} {x:Out R} (ho:o.op=.indexAddr t y z) (h:wG P σ t y z=aa x):mb D P o σ x:=by
 unfold wG at h;split at h
 ·rename_i i e n c k j ha hb;split at h
  ·rename_i el hu;split at h
   ·rename_i inf hi;injection h with h
    subst h;refine g9 (fun C ρ ft ac w ht iy hm hv=>?_) (fun iy c hc=>by cases hc)
    have h1:=(eu ht ha).1;have h2:=(eu ht hb).1;simp only[bS,lK] at h1;simp only[xu] at h2;have hc:(0≤j/\j<(n:Int)):=hv;simp only[execOp,ho,h1,h2,Jp,asIntOf,dA,dV,cA,run_underlying hu,Mz];simp only[hc,and_self,if_true,sizeOf,typeInfo,dA,run_program,cA,hi,dV,bS,iI,pN,cellOf,jg]
   ·cases h
  ·cases h
 ·cases h
def An (P:Program) (σ:SS R) (t:TypeId) (y z:Operand):Option (Out R) :=
 match ev σ.tm y,ev σ.tm z with
 |some (.pointer (aa ⟨i,e,sp⟩)),aa (.int _ j) =>
  match P.underlying t with
  |some (.array n el) =>
   match P.info? el with
   |some inf =>
    match sp with
    |none=>aa (gu σ (0≤j/\j<n) (.pointer (aa ⟨i,e+j.toNat*inf.size,aj⟩)) aj [])
    |some q=>if gQ q 1000000&&gQ (q%1000+n*inf.size) 1000 then aa (gu σ (0≤j/\j<n) (.pointer (aa ⟨i,e,aa (q+j.toNat*inf.size)⟩)) aj []) else aj
   |none=>aj
  |_=>aj
 |_,_=>aj
theorem SX {σ:SS R} {o:Oper} {t:TypeId} {y z:Operand} {x:Out R} (ho:o.op=.indexAddr t y z) (h:An P σ t y z=aa x):mb D P o σ x:=by
 unfold An at h;split at h
 ·rename_i i e sp k j ha hb;split at h
  ·rename_i n el hu;split at h
   ·rename_i inf hi
    have key:∀ (ρ:Env) (ac:Act) (w:World),TM ρ σ.hp.length σ.tm ac->(0≤j/\j<(n:Int)) ->
      (execOp ac.eval o).run P w=.ok (.value (.pointer (aa ((iI ρ ⟨i,e,sp⟩).add (j.toNat*inf.size))))) w:=by
     intro ρ ac w ht hj;have h1:=(eu ht ha).1;have h2:=(eu ht hb).1;simp only[bS] at h1;simp only[xu] at h2;simp only[execOp,ho,h1,h2,Jp,oE,asIntOf,dA,dV,cA,run_underlying hu,Mz];simp only[hj,and_self,if_true,sizeOf,typeInfo,dA,run_program,cA,hi,dV]
    split at h
    ·injection h with h
     subst h;refine g9 (fun C ρ ft ac w ht iy hm hv=>?_) (fun iy c hc=>by cases hc)
     rw[key ρ ac w ht hv];simp only[bS,iI,pN,cellOf,jg]
    ·rename_i q;split at h
     ·rename_i hq;simp only[aM,fe] at hq;injection h with h
      subst h;refine g9 (fun C ρ ft ac w ht iy hm hv=>?_) (fun iy c hc=>by cases hc)
      rw[key ρ ac w ht hv];have hv':0≤j/\j<(n:Int):=hv;have hs:j.toNat*inf.size≤n*inf.size:=jq _ (by omega)
      simp only[bS,iI,pN,cellOf];have e1:q%1000000 / 1000=(q+j.toNat*inf.size)%1000000 / 1000:=by omega
      have e2:q%1000+j.toNat*inf.size=(q+j.toNat*inf.size)%1000:=by omega
      rw[e1,← e2,jg,jg]
     ·cases h
   ·cases h
  ·cases h
 ·cases h
def wF (tm:List Value) (ez:List aW) (e:Nat):Nat->Nat->Option (List Value)
 |_,0=>aa []
 |f,m+1 =>
  match tm[f]?,ez[f]? with
  |some t,aa c=>(wF tm ez e (f+1) m).map (gF t c e::·)
  |_,_=>aj
theorem EN {tm:List Value} {ez:List aW} {e:Nat}:∀ {m f:Nat} {l:List Value},wF tm ez e f m=aa l->l.length=m/\∀ (j:Nat) (v:Value),l[j]?=aa v->∃ t c,tm[f+j]?=aa t/\ez[f+j]?=aa c/\v=gF t c e
 |0,f,l,h=>by
  simp only[wF] at h;injection h with h
  subst h;exact⟨rfl,fun j v hv=>by simp at hv⟩
 |m+1,f,l,h=>by
  simp only[wF] at h;split at h
  ·rename_i t c ht hc;cases hr:wF tm ez e (f+1) m with
   |none=>rw[hr] at h;cases h
   |some l' =>
    rw[hr] at h;simp only[j_,ct] at h;subst h;obtain⟨h1,h2⟩:=EN hr;refine⟨by simp[h1],fun j v hv=>?_⟩
    cases j with
    |zero =>
     simp only[cd,ct] at hv;exact⟨t,c,ht,hc,hv.symm⟩
    |succ j =>
     simp only[bH] at hv;obtain⟨t',c',g1,g2,g3⟩:=h2 j v hv;exact⟨t',c',by rw[show f+(j+1)=f+1+j by omega];exact g1,by rw[show f+(j+1)=f+1+j by omega];exact g2,g3⟩
  ·cases h
theorem JS {t:Value} {c:aW} {n:Nat} (h:jJ t c n) (e:Nat):flat (gF t c e)=ao:=by
 cases t<;>simp only[gF,flat]<;>exact h.1
theorem W5 {t:Value} {c:aW} {n:Nat} (h:jJ t c n) (e:Nat):(gF t c e).oneCell'=ao:=by
 cases t<;>simp only[gF,qb]<;>exact h.2
def rowOf (x:Option (Option (SB R))):Option Row :=
 match x with
 |some (aa (.inr (.inl (_,r))))=>aa r
 |some (aa (.inr (.inr (.inl r))))=>aa r
 |_=>aj
theorem CV {h:Hp R} {i:Nat} {r:Row} (hm:HM D C ρ ft h w) (hr:rowOf h[i]?=aa r) :
  r.n≤(ρ i).cap/\(ρ i).cap≤maxLen/\0<r.tm.length/\r.ez.length=r.tm.length/\(∀ (f:Nat) (t:Value) (c:aW),r.tm[f]?=aa t->r.ez[f]?=aa c->jJ t c r.n) /\
   ∀ (f:Nat) (t:Value) (c:aW) (e:Nat),r.tm[f]?=aa t->r.ez[f]?=aa c->e<r.n->w.cell? ⟨(ρ i).lI,(ρ i).off+(e*r.tm.length+f),aj⟩=aa (gF t c e):=by
 unfold rowOf at hr;split at hr
 ·rename_i t0 r0 hi;injection hr with hr
  subst hr;obtain⟨h1,h2,h3,h4,Ke,arr,h5,h7⟩:=(hm.at_ i _ hi).1;refine⟨h3,h4,h2,h7.len,h7.I_,fun f t c e g1 g2 g3=>?_⟩
  have hn:(ρ i).nil=an:=by
   cases hq:(ρ i).nil with
   |false=>rfl
   |true=>have:=Ke hq;omega
  rw[cell_of_row w _ _ arr _ _ (h5 hn).1];exact h7.cell f t c e g1 g2 g3
 ·rename_i r0 hi;injection hr with hr
  subst hr;obtain⟨h1,h2,h3,h4,Ke,arr,h5,h8⟩:=(hm.at_ i _ hi).1;refine⟨h3,h4,h2,h8.len,h8.I_,fun f t c e g1 g2 g3=>?_⟩
  have hn:(ρ i).nil=an:=by
   cases hq:(ρ i).nil with
   |false=>rfl
   |true=>have:=Ke hq;omega
  obtain⟨h5,h6,t0,fz,h7⟩:=h5 hn (by omega)
  rw[cell_of_row w _ _ arr t0 fz (by rw[hm.kept.block _ h5 h6];exact h7)]
  exact h8.cell f t c e g1 g2 g3
 ·cases hr
theorem Cn {h:Hp R} {i:Nat} {t:TypeId} {cs:List Value} (hm:HM D C ρ ft h w) (hi:h[i]?=aa (aa (.inl (t,cs)))) (j:Nat) :
  w.cell? ⟨(ρ i).lI,(ρ i).off+j,aj⟩=cs[j]?.map (bS ρ):=by
 obtain⟨h1,h2,h3⟩:=(hm.at_ i _ hi).1;rw[cell_of_row w _ _ _ _ _ h3,h1,bU];simp
def Nj (i f:Nat):Nat->List (Nat×Nat)
 |0=>[]
 |m+1=>(i,f+1)::Nj i (f+1) m
def AQ (P:Program) (σ:SS R) (t:TypeId) (y:Operand):Option (Out R) :=
 match ev σ.tm y with
 |some (.pointer (aa ⟨i,e,aj⟩)) =>
  match σ.hp[i]? with
  |some (aa (.inl (_,cs))) =>
   match Cq P t with
   |some aj=>match cs[e]? with
    |some v=>aa (gu σ True v aj [(i,e+1)])
    |none=>aj
   |some (aa n)=>if uI (e+n) cs.length then aa (gu σ True (.agg ⟨(cs.drop e).take n⟩) aj (Nj i e n)) else aj
   |none=>aj
  |_=>aj
 |some (.pointer (aa ⟨i,e,aa q⟩)) =>
  match rowOf σ.hp[i]? with
  |some r =>
   if fp (q / 1000) r.tm.length&&gQ q 1000000 then
    match Cq P t with
    |some aj=>match wF r.tm r.ez e (q%1000) 1 with
     |some [v]=>aa (gu σ (e<r.n) v aj [(i,q%1000+1)])
     |_=>aj
    |some (aa n)=>match wF r.tm r.ez e (q%1000) n with
     |some l=>aa (gu σ (e<r.n) (.agg ⟨l⟩) aj (Nj i (q%1000) n))
     |none=>aj
    |none=>aj
   else aj
  |none=>aj
 |_=>aj
theorem Gm {t:TypeId} {a:Addr} {cs:List Value} (ha:Cq P t=aa (aa cs.length)) (h:∀ (j:Nat) (v:Value),cs[j]?=aa v->w.cell? (a.add j)=aa v):(loadVar t a).run P w=.ok (.agg ⟨cs⟩) w:=by
 obtain⟨g1,g2⟩:=OK ha w;have hl:=run_loadCells_list (P:=P) w a cs h;simp only[loadVar,dA,g1,cA,if_true,g2,hl,dV]
theorem Cj {t:TypeId} {a:Addr} {v:Value} (ha:Cq P t=aa aj) (h:w.cell? a=aa v):(loadVar t a).run P w=.ok v w:=by
 have g1:=OF ha w;simp only[loadVar,dA,g1,cA,fP,if_false,run_load,h]
theorem Sj {σ:SS R} {o:Oper} {t:TypeId} {y:Operand} {x:Out R} (ho:o.op=.load t y) (h:AQ P σ t y=aa x):mb D P o σ x:=by
 unfold AQ at h;split at h
 ·rename_i i e ha;split at h
  ·rename_i t' cs hi;split at h
   ·rename_i hg;split at h
    ·rename_i v hv;injection h with h
     subst h;refine g9 (fun C ρ ft ac w ht iy hm _=>?_) (fun iy c hc=>by cases hc)
     have h1:=(eu ht ha).1;simp only[bS,iI,cellOf] at h1;have hc:=Cn hm hi e;rw[hv] at hc;simp[execOp,ho,h1,Ba,oE,Cj hg hc]
    ·cases h
   ·rename_i n hg;split at h
    ·rename_i hle;have hle:=jE hle;injection h with h
     subst h;refine g9 (fun C ρ ft ac w ht iy hm _=>?_) (fun iy c hc=>by cases hc)
     have h1:=(eu ht ha).1;simp only[bS,iI,cellOf] at h1;have hl:(((cs.drop e).take n).map (bS ρ)).length=n:=by simp;omega
     have SF:(loadVar t ⟨(ρ i).lI,(ρ i).off+e,aj⟩).run P w=.ok (.agg ⟨((cs.drop e).take n).map (bS ρ)⟩) w:=by
      refine Gm (by rw[hl];exact hg) (fun j v hv=>?_)
      rw[pN,jg,Cn hm hi];have hj:j<n:=by have:=(aT.1 hv).1;omega
      simp only[fh,oF,hj,if_true,oH] at hv;exact hv
     simp only[execOp,ho,h1,Ba,oE,dA,dV,cA,SF,zA]
     congr 3
     simp
    ·cases h
   ·cases h
  ·cases h
 ·rename_i i e q ha;split at h
  ·rename_i r hr;split at h
   ·rename_i hc;simp only[aM,fe] at hc;have hq:=cO hc.1;have FP:=hc.2
    have key:∀ (C:Ctx) (ρ:Env) (ft:Nat->Nat->Prop) (ac:Act) (w:World),TM ρ σ.hp.length σ.tm ac->HM D C ρ ft σ.hp w->e<r.n ->
      ac.eval y=.pointer (aa ⟨(ρ i).lI,(ρ i).off+(e*r.tm.length+q%1000),aj⟩) /\
      ∀ (m:Nat) (l:List Value),wF r.tm r.ez e (q%1000) m=aa l->(∀ (j:Nat) (v:Value),l[j]?=aa v->w.cell? ((⟨(ρ i).lI,(ρ i).off+(e*r.tm.length+q%1000),aj⟩:Addr).add j)=aa v)/\∀ v∈l,flat v=ao:=by
     intro C ρ ft ac w ht hm he;have h1:=(eu ht ha).1;have e1:q%1000000 / 1000=r.tm.length:=by omega
     simp only[bS,iI,cellOf,e1] at h1;obtain⟨_,_,_,_,g4,g5⟩:=CV hm hr;refine⟨h1,fun m l hl=>?_⟩
     obtain⟨k1,k2⟩:=EN hl;refine⟨fun j v hv=>?_,fun v hv=>?_⟩
     ·obtain⟨t,c,q1,q2,rfl⟩:=k2 j v hv;rw[pN,jg,jg];exact g5 _ _ _ _ q1 q2 he
     ·obtain⟨j,hj⟩:=Bb hv;obtain⟨t,c,q1,q2,rfl⟩:=k2 j v hj;exact JS (g4 _ _ _ q1 q2) e
    split at h
    ·rename_i hg;split at h
     ·rename_i v hv;injection h with h
      subst h;refine g9 (fun C ρ ft ac w ht iy hm he=>?_) (fun iy c hc=>by cases hc)
      obtain⟨h1,h2⟩:=key C ρ ft ac w ht hm he;obtain⟨h3,h4⟩:=h2 _ _ hv;have h5:=h3 0 v (by simp)
      rw[pN,gR] at h5;rw[nO v (h4 v (by simp))]
      simp[execOp,ho,h1,Ba,oE,Cj hg h5]
     ·cases h
    ·rename_i n hg;split at h
     ·rename_i l hl;injection h with h
      subst h;refine g9 (fun C ρ ft ac w ht iy hm he=>?_) (fun iy c hc=>by cases hc)
      obtain⟨h1,h2⟩:=key C ρ ft ac w ht hm he;obtain⟨h3,h4⟩:=h2 _ _ hl;have hn:=(EN hl).1;have SF:=Gm (P:=P) (t:=t) (by rw[hn];exact hg) h3
      rw[nO (.agg ⟨l⟩) (by simpa [flat] using zl.2 h4)]
      simp only[execOp,ho,h1,Ba,oE,dA,dV,cA,SF]
     ·cases h
    ·cases h
   ·cases h
  ·cases h
 ·cases h
def nA (cur:Array Value):Nat->List Value->Array Value
 |_,[]=>cur
 |k,v::l=>nA (cur.setIfInBounds k v) (k+1) l
def IL (cs:List Value):Nat->List Value->List Value
 |_,[]=>cs
 |k,v::l=>IL (cs.set k v) (k+1) l
theorem Gl (cs:List Value):∀ (k:Nat) (l:List Value),nA (cs.map (bS ρ)).toArray k (l.map (bS ρ))=((IL cs k l).map (bS ρ)).toArray
 |_,[]=>rfl
 |k,v::l=>by
  simp only[gw,nA,IL];have:(cs.map (bS ρ)).toArray.setIfInBounds k (bS ρ v)=((cs.set k v).map (bS ρ)).toArray:=by simp
  rw[this];exact Gl (cs.set k v) (k+1) l
theorem EY (cur:Array Value):∀ (k:Nat) (l:List Value),(nA cur k l).size=cur.size
 |_,[]=>rfl
 |k,v::l=>by rw[nA,EY];simp
theorem L0 (cs:List Value):∀ (k:Nat) (l:List Value),(IL cs k l).length=cs.length
 |_,[]=>rfl
 |k,v::l=>by rw[IL,L0];simp
theorem TU {n:Nat} {cs:List Value}:∀ (k:Nat) (l:List Value),iC n cs=ao->iC n l=ao->iC n (IL cs k l)=ao
 |_,[],h,_=>h
 |k,v::l,h,hl=>by
  simp only[iC,aM] at hl;refine TU (k+1) l ?_ hl.2;rw[wR] at h ⊢;intro u hu;rcases List.mem_or_eq_of_mem_set hu with hu|rfl
  ·exact h u hu
  ·exact hl.1
theorem yC (g o:Nat) (t:TypeId):∀ (vs:List Value) (i:Nat) (cur:Array Value) (w:World),w.heap[g]?=aa (.cells cur t (0,0))->o+i+vs.length≤cur.size->(∀ v∈vs,v.oneCell'=ao) ->
  (storeCells ⟨g,o,aj⟩ vs i).run P w=.ok () (w.setRow g (nA cur (o+i) vs))
 |[],i,cur,w,hg,_,_=>by
  simp only[storeCells,nA];rw[setRow_self w g cur t (0,0) hg]
  rfl
 |v::rest,i,cur,w,hg,hl,h1=>by
  have hi:o+i<cur.size:=by simp at hl;omega
  have alw:w.cell? ⟨g,o+i,aj⟩=aa cur[o+i]:=by simp[World.cell?,hg,hi]
  have amQ:w.frozen? ⟨g,o+i,aj⟩=an:=by simp[S7,hg]
  have yq:(store ((⟨g,o,aj⟩:Addr).add i) v).run P w=.ok () (w.setRow g (cur.setIfInBounds (o+i) v)):=by
   rw[pN,run_store P w _ v _ (h1 v (by simp)),alw]
   simp[amQ,setCell_eq_setRow w g (o+i) cur t (0,0) v hg]
  have ih:=yC g o t rest (i+1) (cur.setIfInBounds (o+i) v) (w.setRow g (cur.setIfInBounds (o+i) v)) (setRow_heap w g cur _ t _ hg) (by simp at hl ⊢;omega) (fun x hx=>h1 x (by simp[hx]))
  simp only[storeCells,dA,yq,cA,ih,setRow_setRow,nA,jg]
theorem Gy (w:World) (g:Nat) (cs:Array Value) {F:Nat->Prop} (hF:F g):Kept F w (w.setRow g cs) :=
 ⟨rfl,rfl,rfl,by simp[Fj],fun k _ hn=>setRow_other w g k cs (fun e=>hn (e▸hF))⟩
def YR:List Value->Bool
 |[]=>ao
 |v::l=>v.oneCell'&&YR l
theorem adI {l:List Value} (h:YR l=ao):∀ v∈l,v.oneCell'=ao:=by
 induction l with
 |nil=>intro v hv;cases hv
 |cons u l ih =>
  simp only[YR,aM] at h;intro v hv;rcases bO.1 hv with rfl|hv
  ·exact h.1
  ·exact ih h.2 v hv
def O1 (t:Value) (c:aW) (e:Nat) (v:Value):Option aW :=
 match t,v with
 |.int k _,.int k' x=>if k=k' then aa { c with i:=c.i.set e x } else aj
 |.bool _,.bool x=>aa { c with b:=c.b.set e x }
 |.string _,.string x=>aa { c with s:=c.s.set e x }
 |_,_=>aj
def G5 (tm:List Value) (ez:List aW) (e:Nat):Nat->List Value->Option (List aW)
 |_,[]=>aa ez
 |f,v::l =>
  match tm[f]?,ez[f]? with
  |some t,aa c=>match O1 t c e v with
   |some c'=>G5 tm (ez.set f c') e (f+1) l
   |none=>aj
  |_,_=>aj
theorem Sk {t:Value} {c c':aW} {e n:Nat} {v:Value} (h:O1 t c e v=aa c') (hc:jJ t c n) (he:e<n) :
  jJ t c' n/\flat v=ao/\v.oneCell'=ao/\∀ e',e'<n->gF t c' e'=if e'=e then v else gF t c e':=by
 unfold O1 at h;split at h
 ·split at h
  ·rename_i k _ k' x hk;subst hk;injection h with h
   subst h;refine⟨by simpa [jJ] using hc,rfl,rfl,fun e' vK=>?_⟩
   simp only[jJ] at hc;simp only[gF,au,Dq]
   by_cases heq:e=e'
   ·subst heq;simp[hc,he]
   ·simp[heq,YE heq,fun h=>heq (qY h)]
  ·cases h
 ·injection h with h
  subst h;refine⟨by simpa [jJ] using hc,rfl,rfl,fun e' vK=>?_⟩
  simp only[jJ] at hc;simp only[gF,au,Dq]
  by_cases heq:e=e'
  ·subst heq;simp[hc,he]
  ·simp[heq,YE heq,fun h=>heq (qY h)]
 ·injection h with h
  subst h;refine⟨by simpa [jJ] using hc,rfl,rfl,fun e' vK=>?_⟩
  simp only[jJ] at hc;simp only[gF,au,Dq]
  by_cases heq:e=e'
  ·subst heq;simp[hc,he]
  ·simp[heq,YE heq,fun h=>heq (qY h)]
 ·cases h
theorem T6 {s e e' f f':Nat} (hf:f<s) (hf':f'<s) (h:e*s+f=e'*s+f'):e=e'/\f=f':=by
 have h1:(e*s+f) / s=e:=by rw[sE,z5 _ _ (by omega),Fk hf,bU]
 have h2:(e'*s+f') / s=e':=by rw[sE,z5 _ _ (by omega),Fk hf',bU]
 have:e=e':=by rw[← h1,← h2,h]
 subst this;exact⟨rfl,by omega⟩
theorem Zk {r:Row} {arr:Array Value} {o e f:Nat} {t:Value} {c c':aW} {v:Value} (hr:n8 r arr o) (ht:r.tm[f]?=aa t) (hc:r.ez[f]?=aa c) (he:e<r.n)
  (hs:O1 t c e v=aa c'):n8 { r with ez:=r.ez.set f c' } (arr.setIfInBounds (o+(e*r.tm.length+f)) v) o:=by
 obtain⟨k1,k2,k3,k4⟩:=Sk hs (hr.I_ f t c ht hc) he;have wz:f<r.tm.length:=(aT.1 ht).1;have RW:f<r.ez.length:=(aT.1 hc).1;refine⟨by simpa using hr.len,fun f' t' c1 h1 h2=>?_,fun f' t' c1 e' h1 h2 h3=>?_⟩
 ·simp only at h1 h2
  by_cases L6:f=f'
  ·subst L6;rw[ht] at h1;injection h1 with h1;subst h1
   rw[jW RW] at h2;injection h2 with h2;subst h2
   exact k1
  ·rw[kv L6] at h2;exact hr.I_ f' t' c1 h1 h2
 ·simp only at h1 h2 h3 ⊢;have BW:f'<r.tm.length:=(aT.1 h1).1;rw[uJ];have hold:=hr.cell f' t'
  by_cases L6:f=f'
  ·subst L6;rw[ht] at h1;injection h1 with h1;subst h1
   rw[jW RW] at h2;injection h2 with h2;subst h2
   rw[k4 e' h3];have h5:=hr.cell f t c e' ht hc h3;have ch:o+(e'*r.tm.length+f)<arr.size:=(Array.getElem?_eq_some_iff.1 h5).1
   by_cases hee:e'=e
   ·subst hee;simp[ch]
   ·rw[if_neg hee,if_neg (fun hh=>hee (T6 wz wz (by omega:e'*r.tm.length+f=e*r.tm.length+f)).1)]
    exact h5
  ·rw[kv L6] at h2;rw[if_neg (fun hh=>L6 (T6 wz BW (by omega:e*r.tm.length+f=e'*r.tm.length+f')).2)]
   exact hr.cell f' t' c1 e' h1 h2 h3
theorem Mc {tm:List Value} {n o e:Nat} (he:e<n):∀ {vs:List Value} {f:Nat} {ez Tp:List aW} {arr:Array Value},n8 ⟨tm,n,ez⟩ arr o->G5 tm ez e f vs=aa Tp ->
  n8 ⟨tm,n,Tp⟩ (nA arr (o+(e*tm.length+f)) vs) o/\(∀ v∈vs,flat v=ao/\v.oneCell'=ao)/\(vs=[]∨f+vs.length≤tm.length)
 |[],f,ez,Tp,arr,hr,h=>by
  simp only[G5] at h;injection h with h
  subst h;exact⟨hr,(fun v hv=>by cases hv),dK rfl⟩
 |v::l,f,ez,Tp,arr,hr,h=>by
  simp only[G5] at h;split at h
  ·rename_i t c ht hc;split at h
   ·rename_i c' hs;obtain⟨h1,h2,h3⟩:=Mc (tm:=tm) (n:=n) (o:=o) (e:=e) he (f:=f+1) (Zk hr ht hc he hs) h;obtain⟨_,k2,k3,_⟩:=Sk hs (hr.I_ f t c ht hc) he;have wz:f<tm.length:=(aT.1 ht).1;refine⟨h1,fun u hu=>?_,e7 ?_⟩
    ·rcases bO.1 hu with rfl|hu
     ·exact⟨k2,k3⟩
     ·exact h2 u hu
    ·rcases h3 with rfl|h3
     ·simp only[cy,jM];omega
     ·simp only[cy];omega
   ·cases h
  ·cases h
def DU (P:Program) (σ:SS R) (t:TypeId) (y z:Operand):Option (Out R) :=
 match ev σ.tm y,ev σ.tm z with
 |some (.pointer (aa ⟨i,e,aj⟩)),aa v =>
  match σ.hp[i]?,P.info? t with
  |some (aa (.inl (ty,cs))),aa inf =>
   if fp v.cells.toList.length inf.size&&uI (e+inf.size) cs.length&&YR v.cells.toList then
    aa ⟨True,undef,aj,σ.hp.set i (aa (.inl (ty,IL cs e v.cells.toList))),[],Nj i e inf.size⟩
   else aj
  |_,_=>aj
 |some (.pointer (aa ⟨i,e,aa q⟩)),aa v =>
  match σ.hp[i]?,P.info? t with
  |some (aa (.inr (.inl (ty,r)))),aa inf =>
   if fp v.cells.toList.length inf.size&&fp (q / 1000) r.tm.length&&gQ q 1000000&&gQ 0 inf.size then
    match G5 r.tm r.ez e (q%1000) v.cells.toList with
    |some ez=>aa ⟨e<r.n,undef,aj,σ.hp.set i (aa (.inr (.inl (ty,{ r with ez:=ez })))),[],Nj i (q%1000) inf.size⟩
    |none=>aj
   else aj
  |_,_=>aj
 |_,_=>aj
theorem Su {n:Nat} {v:Value} (h:fv n v=ao):iC n v.cells.toList=ao:=by
 cases v with
 |agg cs=>obtain⟨l⟩:=cs;simpa [fv,ns] using h
 |_=>simp only[ns,iC,h];rfl
theorem Y7 {σ:SS R} {o:Oper} {t:TypeId} {y z:Operand} {x:Out R} (ho:o.op=.store t y z) (hd:o.dst=aj) (h:DU P σ t y z=aa x):mb D P o σ x:=by
 unfold DU at h;split at h
 ·rename_i i e v ha hb;split at h
  ·rename_i ty cs inf hi xY;split at h
   ·rename_i hc;simp only[aM] at hc;have ny:=cO hc.1.1;have hle:=jE hc.1.2;have acX:=adI hc.2;injection h with h
    subst h;refine⟨fun C ρ ft ac w K Q ht iy hm _ hK=>?_,by simp,fun _ b hb=>by cases hb⟩
    have h1:=(eu ht ha).1;obtain⟨h2,h2'⟩:=eu ht hb;simp only[bS,iI,cellOf] at h1;obtain⟨g1,g2,g3⟩:=(hm.at_ i _ hi).1;have hvl:((bS ρ v).cells.toList)=v.cells.toList.map (bS ρ):=by rw[Ct];simp
    have yq:=yC (P:=P) (ρ i).lI e ty (v.cells.toList.map (bS ρ)) 0 _ w g3 (by have:=ny;simp only[wu] at this;simp;omega) (fun u hu=>by
     obtain⟨u',hu',rfl⟩:=pb.1 hu;rw[WI];exact acX u' hu')
    simp only[gR] at yq;rw[Gl] at yq;have nN:(execOp ac.eval o).run P w=.ok .skip (w.setRow (ρ i).lI ((IL cs e v.cells.toList).map (bS ρ)).toArray):=by
     have VS:(bS ρ v).cells.size=inf.size:=by rw[← wu,hvl];simpa using ny
     simp only[execOp,ho,h1,h2,S_,oE,storeVar,dA,dV,cA,sizeOf,typeInfo,run_program,xY,VS,ne_eq,not_true_eq_false,if_false,g1,bU,hvl,yq]
    refine UY nN (hK ρ (qi ft i (ft i)) _ (fun _ _=>rfl) ?_)
    refine hm.put hi (Gy _ _ _ ((g2 _).2 rfl)) _ _ ⟨g1,g2,setRow_heap w _ _ _ _ _ g3⟩ (TU _ _ (hm.at_ i _ hi).2 (Su h2')) (fun k hk=>⟨dK hk,by simpa [Fj] using hm.lt i k hk⟩)
   ·cases h
  ·cases h
 ·rename_i i e q v ha hb;split at h
  ·rename_i ty r inf hi xY;split at h
   ·rename_i hc;simp only[aM,fe] at hc;have ny:=cO hc.1.1.1;have hq:=cO hc.1.1.2;have FP:=hc.1.2;have X9:=hc.2;split at h
    ·rename_i ez Dz;injection h with h
     subst h;refine⟨fun C ρ ft ac w K Q ht iy hm he hK=>?_,by simp,fun _ b hb=>by cases hb⟩
     have h1:=(eu ht ha).1;obtain⟨h2,h2'⟩:=eu ht hb;have e1:q%1000000 / 1000=r.tm.length:=by omega
     simp only[bS,iI,cellOf,e1] at h1;obtain⟨g1,g2,g3,g4,g4',arr,g56,g7⟩:=(hm.at_ i _ hi).1;have hnn:(ρ i).nil=an:=by
      cases hqq:(ρ i).nil with
      |false=>rfl
      |true=>have:=g4' hqq;have:e<r.n:=he;omega
     obtain⟨g5,g6⟩:=g56 hnn;obtain⟨k1,k2,k3⟩:=Mc (tm:=r.tm) (n:=r.n) he (arr:=arr) g7 Dz;have hvl:((bS ρ v).cells.toList)=v.cells.toList:=by
      rw[Ct];rw[mv]
      conv=>rhs;rw[← Xd v.cells.toList]
      exact nV fun u hu=>nO u (k2 u hu).1
     have EX:(ρ i).off+(e*r.tm.length+q%1000)+0+v.cells.toList.length≤arr.size:=by
      have hmul:(e+1)*r.tm.length≤(ρ i).cap*r.tm.length:=jq _ (by have:e<r.n:=he;omega)
      rw[ij,qv] at hmul;rw[g6];rcases k3 with k3|k3
      ·rw[k3] at ny;simp at ny;omega
      ·omega
     have yq:=yC (P:=P) (ρ i).lI ((ρ i).off+(e*r.tm.length+q%1000)) ty v.cells.toList 0 arr w g5 EX (fun u hu=>(k2 u hu).2)
     simp only[gR] at yq;have nN:(execOp ac.eval o).run P w=.ok .skip (w.setRow (ρ i).lI (nA arr ((ρ i).off+(e*r.tm.length+q%1000)) v.cells.toList)):=by
      have VS:(bS ρ v).cells.size=inf.size:=by rw[← wu,hvl];exact ny
      simp only[execOp,ho,h1,h2,S_,oE,storeVar,dA,dV,cA,sizeOf,typeInfo,run_program,xY,VS,ne_eq,not_true_eq_false,if_false,hvl,yq]
     refine UY nN (hK ρ (qi ft i (ft i)) _ (fun _ _=>rfl) ?_)
     exact hm.put hi (Gy _ _ _ ((g1 _).2 ⟨hnn,rfl⟩)) _ _ ⟨g1,g2,g3,g4,g4',_,fun _=>⟨setRow_heap w _ _ _ _ _ g5,by rw[EY];exact g6⟩,k1⟩ trivial (fun k hk=>⟨dK hk,by simpa [Fj] using hm.lt i k hk⟩)
    ·cases h
   ·cases h
  ·cases h
 ·cases h
end
end Rx
namespace Rx
open Go.RowKit State
section
variable {R:Type} {D:fJ R} {P:Program} {C:Ctx} {ρ:Env} {ft:Nat->Nat->Prop} {w w':World}
def xa (σ:SS R) (t:TypeId) (cs:List Value):Option (Out R) :=
 aa ⟨True,.pointer (aa ⟨σ.hp.length,0,aj⟩),aj,σ.hp++[aa (.inl (t,cs))],[],[(σ.hp.length,0)]⟩
theorem L7 {σ:SS R} {o:Oper} {t:TypeId} {cs:List Value} {x:Out R}
  (nN:∀ (ρ:Env) (a:Act) (w:World),TM ρ σ.hp.length σ.tm a->(execOp a.eval o).run P w=.ok (.value (.pointer (aa ⟨w.heap.size,0,aj⟩))) (w.alloc (.cells (cs.map (bS ρ)).toArray t))/\iC σ.hp.length cs=ao)
  (h:xa σ t cs=aa x):mb D P o σ x:=by
 unfold xa at h;injection h with h
 subst h;refine⟨fun C ρ ft a w K Q ht iy hm _ hK=>?_,by simp,fun _ b hb=>by cases hb⟩
 obtain⟨h1,h2⟩:=nN ρ a w ht;have UT:cs.map (bS (qi ρ σ.hp.length ⟨w.heap.size,0,0,an⟩))=cs.map (bS ρ) :=
  nV fun v hv=>ng (n:=σ.hp.length) (fun i hi=>oi _ _ _ hi) v (wR.1 h2 v hv)
 have hp:=hm.push (D:=D) ⟨w.heap.size,0,0,an⟩ (.cells (cs.map (bS ρ)).toArray t) rfl (.inl (t,cs)) (by
  refine⟨by rw[jf],fun k=>by rw[jf],?_⟩
  rw[jf,UT];exact heap_alloc_new w _) (uY (ma _) _ h2)
 refine rn h1 ?_;have:=hK _ _ _ (fun i hi=>oi ρ σ.hp.length ⟨w.heap.size,0,0,an⟩ hi) hp
 simpa [bS,iI,jf,cellOf] using this
def D4 (P:Program) (σ:SS R) (t:TypeId):Option (Out R) :=
 match P.info? t with
 |some i=>match i.zero with
  |some z=>if pI z.cells.toList then xa σ t z.cells.toList else aj
  |none=>aj
 |none=>aj
theorem EU {l:List Value} (h:pI l=ao):l.map (bS ρ)=l:=by
 conv=>rhs;rw[← Xd l]
 exact nV fun v hv=>nO v (zl.1 h v hv)
theorem Zb {σ:SS R} {o:Oper} {t:TypeId} {x:Out R} (ho:o.op=.alloc t) (h:D4 P σ t=aa x):mb D P o σ x:=by
 unfold D4 at h;split at h
 ·rename_i i hi;split at h
  ·rename_i z hz;split at h
   ·rename_i hf;refine L7 (fun ρ a w ht=>⟨?_,zW _ hf⟩) h
    rw[EU hf];simp[execOp,ho,Instr.alloc,zeroValue,typeInfo,hi,hz,newVar,newRow]
   ·cases h
  ·cases h
 ·cases h
def Lg (σ:SS R) (t:TypeId) (y:Operand):Option (Out R) :=
 match ev σ.tm y with
 |some v=>xa σ t v.cells.toList
 |none=>aj
theorem aea {σ:SS R} {o:Oper} {t:TypeId} {y:Operand} {x:Out R} (ho:o.op=.box t y) (h:Lg σ t y=aa x):mb D P o σ x:=by
 unfold Lg at h;split at h
 ·rename_i v hv;refine L7 (fun ρ a w ht=>?_) h
  obtain⟨h1,h2⟩:=eu ht hv;refine⟨?_,Su h2⟩;have:(bS ρ v).cells=(v.cells.toList.map (bS ρ)).toArray:=by rw[Ct];apply qu;simp
  simp[execOp,ho,Instr.box,newVar,newRow,h1,this]
 ·cases h
def B5 (tm:List (Option Value)):List (Nat×Operand)->Option (List (Nat×Value))
 |[]=>aa []
 |(i,y)::l =>
  match ev tm y,B5 tm l with
  |some v,aa r=>aa ((i,v)::r)
  |_,_=>aj
theorem ye {tm:List (Option Value)} {n:Nat} {a:Act} (ht:TM ρ n tm a):∀ {l:List (Nat×Operand)} {r:List (Nat×Value)},B5 tm l=aa r ->
  l.map (fun(i,y)=>(i,a.eval y))=r.map (fun(i,v)=>(i,bS ρ v))/\∀ p∈r,fv n p.2=ao
 |[],r,h=>by
  simp only[B5] at h;injection h with h
  subst h;exact⟨rfl,fun p hp=>by cases hp⟩
 |(i,y)::l,r,h=>by
  simp only[B5] at h;split at h
  ·rename_i v r' hv hr;injection h with h
   subst h;obtain⟨h1,h2⟩:=eu ht hv;obtain⟨h3,h4⟩:=ye ht hr;refine⟨by simp only[gw,h1,h3],fun p hp=>?_⟩
   rcases bO.1 hp with rfl|hp
   ·exact h2
   ·exact h4 p hp
  ·cases h
def F5 (place:Nat->Option (Nat×Nat)) (cs:List Value):List (Nat×Value)->Option (List Value)
 |[]=>aa cs
 |(i,v)::rest =>
  match place i with
  |none=>aj
  |some (off,size) =>
   if fp v.cells.toList.length size&&uI (off+size) cs.length then F5 place (IL cs off v.cells.toList) rest else aj
theorem SU (vs:List Value):∀ (k:Nat) (cur:Array Value) (off:Nat),(vs.zipIdx k).foldl (fun cs (x:Value×Nat)=>cs.setIfInBounds (off+x.2) x.1) cur=nA cur (off+k) vs:=by
 induction vs with
 |nil=>intro k cur off;rfl
 |cons v l ih=>intro k cur off;simp only[List.zipIdx_cons,List.foldl_cons,nA];rw[ih];simp[jg]
theorem AS {place:Nat->Option (Nat×Nat)}:∀ {rest:List (Nat×Value)} {cs r:List Value},F5 place cs rest=aa r ->
  aad place (cs.map (bS ρ)).toArray (rest.map fun(i,v)=>(i,bS ρ v))=aa (r.map (bS ρ)).toArray/\r.length=cs.length
 |[],cs,r,h=>by
  simp only[F5] at h;injection h with h
  subst h;exact⟨rfl,rfl⟩
 |(i,v)::rest,cs,r,h=>by
  simp only[F5] at h;split at h
  ·cases h
  ·rename_i off size hp;split at h
   ·rename_i hc;simp only[aM] at hc;have h1:=cO hc.1;have h2:=jE hc.2;obtain⟨h3,h4⟩:=AS h;refine⟨?_,by rw[h4,L0]⟩
    simp only[gw,aad,hp];have ny:(bS ρ v).cells.size=size:=by rw[Ct];simpa using h1
    rw[if_neg (by simp[ny];omega)]
    rw[← h3]
    congr 1
    have:(bS ρ v).cells=(v.cells.toList.map (bS ρ)).toArray:=by rw[Ct];apply qu;simp
    rw[this];have e:=SU (v.cells.toList.map (bS ρ)) 0 (cs.map (bS ρ)).toArray off;rw[gR,Gl] at e;rw[← e];simp[← Array.foldl_toList]
   ·cases h
def G6 (P:Program):List Field->Option (List (Nat×Nat))
 |[]=>aa []
 |f::fs =>
  match P.info? f.type,G6 P fs with
  |some i,aa r=>aa ((f.offset,i.size)::r)
  |_,_=>aj
theorem Kk (w:World):∀ {fs:List Field} {r:List (Nat×Nat)},G6 P fs=aa r->(fs.mapM (m:=Sem) fun f=>do pure (f.offset,← sizeOf f.type)).run P w=.ok r w
 |[],r,h=>by
  simp only[G6] at h;injection h with h
  subst h;simp
 |f::fs,r,h=>by
  simp only[G6] at h;split at h
  ·rename_i i r' hi hr;injection h with h
   subst h;have ih:=Kk w hr;simp[sizeOf,typeInfo,hi] at ih ⊢;simp[ih]
  ·cases h
def DO (P:Program) (σ:SS R) (t:TypeId) (parts:List (Nat×Operand)):Option (Out R) :=
 match P.info? t,P.underlying t,B5 σ.tm parts with
 |some i,aa (.struct ⟨fs⟩),aa ps =>
  match i.zero,G6 P fs with
  |some z,aa sz =>
   if pI z.cells.toList then
    match F5 (fun k=>sz[k]?) z.cells.toList ps with
    |some cs=>aa (gu σ True (.agg ⟨cs⟩) aj [])
    |none=>aj
   else aj
  |_,_=>aj
 |some i,aa (.array _ elem),aa ps =>
  match i.zero,P.info? elem with
  |some z,aa ie =>
   if pI z.cells.toList then
    match F5 (fun k=>aa (k*ie.size,ie.size)) z.cells.toList ps with
    |some cs=>aa (gu σ True (.agg ⟨cs⟩) aj [])
    |none=>aj
   else aj
  |_,_=>aj
 |_,_,_=>aj
theorem Zj {σ:SS R} {o:Oper} {t:TypeId} {parts:Array (Nat×Operand)} {x:Out R} (ho:o.op=.build t parts) (h:DO P σ t parts.toList=aa x):mb D P o σ x:=by
 unfold DO at h;split at h
 ·rename_i i fs ps hi hu Vn;split at h
  ·rename_i z sz hz ny;split at h
   ·rename_i hf;split at h
    ·rename_i cs GR;injection h with h
     subst h;refine g9 (fun C ρ ft a w ht iy hm _=>?_) (fun iy c hc=>by cases hc)
     obtain⟨h1,h2⟩:=ye ht Vn;obtain⟨h3,h4⟩:=AS (ρ:=ρ) GR;rw[EU hf] at h3;have Jg:(parts.map fun(i,y)=>(i,a.eval y)).toList=ps.map fun(i,v)=>(i,bS ρ v):=by
      rw[mv];exact h1
     have Ku:=Kk w ny;have hm3:((⟨fs⟩:Array Field).mapM (m:=Sem) fun f=>do pure (f.offset,← sizeOf f.type)).run P w=.ok ⟨sz⟩ w:=by
      rw[DH,Xe,Ku];simp
     have ait:(fun(k:Nat)=>(⟨sz⟩:Array (Nat×Nat))[k]?)=fun(k:Nat)=>sz[k]?:=by funext k;simp
     simp only[execOp,ho,Xf,zeroValue,typeInfo,dA,run_program,cA,hi,dV,hz,run_underlying hu,hm3,Jg,ait];simp only[IU] at h3;rw[h3,zA];simp
    ·cases h
   ·cases h
  ·cases h
 ·rename_i i q elem ps hi hu Vn;split at h
  ·rename_i z ie hz hie;split at h
   ·rename_i hf;split at h
    ·rename_i cs GR;injection h with h
     subst h;refine g9 (fun C ρ ft a w ht iy hm _=>?_) (fun iy c hc=>by cases hc)
     obtain⟨h1,h2⟩:=ye ht Vn;obtain⟨h3,h4⟩:=AS (ρ:=ρ) GR;rw[EU hf] at h3;have Jg:(parts.map fun(i,y)=>(i,a.eval y)).toList=ps.map fun(i,v)=>(i,bS ρ v):=by
      rw[mv];exact h1
     simp only[execOp,ho,Xf,zeroValue,typeInfo,sizeOf,dA,run_program,cA,hi,hie,dV,hz,run_underlying hu,Jg];simp only[IU] at h3;rw[h3,zA];simp
    ·cases h
   ·cases h
  ·cases h
 ·cases h
end
end Rx
namespace Rx
open Go.RowKit State
section
variable {R:Type} {D:fJ R} {P:Program} {C:Ctx} {ρ:Env} {ft:Nat->Nat->Prop} {w w':World}
def GV (t:Value):List Value->Option aW
 |[]=>match t with
  |.int _ _|.bool _|.string _=>aa Lj
  |_=>aj
 |v::l =>
  match t,v,GV t l with
  |.int k _,.int k' x,aa c=>if k=k' then aa { c with i:=x::c.i } else aj
  |.bool _,.bool x,aa c=>aa { c with b:=x::c.b }
  |.string _,.string x,aa c=>aa { c with s:=x::c.s }
  |_,_,_=>aj
theorem DA {t:Value}:∀ {l:List Value} {c:aW},GV t l=aa c->jJ t c l.length/\∀ (e:Nat),e<l.length->l[e]?=aa (gF t c e)
 |[],c,h=>by
  simp only[GV] at h;split at h
  ·injection h with h;subst h;exact⟨rfl,fun e he=>by simp at he⟩
  ·injection h with h;subst h;exact⟨rfl,fun e he=>by simp at he⟩
  ·injection h with h;subst h;exact⟨rfl,fun e he=>by simp at he⟩
  ·cases h
 |v::l,c,h=>by
  simp only[GV] at h;split at h
  ·rename_i k _ k' x c' hc;split at h
   ·rename_i hk;subst hk;injection h with h
    subst h;obtain⟨h1,h2⟩:=DA hc;refine⟨by simpa [jJ] using h1,fun e he=>?_⟩
    cases e with
    |zero=>simp[gF]
    |succ e =>
     have:=h2 e (by simpa using he)
     simpa [gF] using this
   ·cases h
  ·rename_i x c' hc;injection h with h
   subst h;obtain⟨h1,h2⟩:=DA hc;refine⟨by simpa [jJ] using h1,fun e he=>?_⟩
   cases e with
   |zero=>simp[gF]
   |succ e =>
    have:=h2 e (by simpa using he)
    simpa [gF] using this
  ·rename_i x c' hc;injection h with h
   subst h;obtain⟨h1,h2⟩:=DA hc;refine⟨by simpa [jJ] using h1,fun e he=>?_⟩
   cases e with
   |zero=>simp[gF]
   |succ e =>
    have:=h2 e (by simpa using he)
    simpa [gF] using this
  ·cases h
def GW (cells:List Value) (s f:Nat):Nat->List Value
 |0=>[]
 |n+1=>GW cells s f n++[(cells[n*s+f]?).getD undef]
theorem Pm (cells:List Value) (s f:Nat):∀ (n:Nat),(GW cells s f n).length=n/\∀ e,e<n->(GW cells s f n)[e]?=aa ((cells[e*s+f]?).getD undef)
 |0=>⟨rfl,fun e he=>by omega⟩
 |n+1=>by
  obtain⟨h1,h2⟩:=Pm cells s f n;refine⟨by simp[GW,h1],fun e he=>?_⟩
  simp only[GW];rcases cr e n with ch|j6
  ·rw[cZ (by omega)]
   exact h2 e ch
  ·have:e=n:=by omega
   subst this;rw[dS (by omega),h1]
   simp
def EJ (cells:List Value) (s n:Nat):Nat->List Value->Option (List aW)
 |_,[]=>aa []
 |f,t::tm =>
  match GV t (GW cells s f n),EJ cells s n (f+1) tm with
  |some c,aa r=>aa (c::r)
  |_,_=>aj
theorem LS {cells:List Value} {s n:Nat}:∀ {tm:List Value} {f0:Nat} {ez:List aW},EJ cells s n f0 tm=aa ez ->
  ez.length=tm.length/\∀ (f:Nat) (t:Value) (c:aW),tm[f]?=aa t->ez[f]?=aa c->jJ t c n/\∀ e,e<n->(cells[e*s+(f0+f)]?).getD undef=gF t c e
 |[],f0,ez,h=>by
  simp only[EJ] at h;injection h with h
  subst h;exact⟨rfl,fun f t c h1 h2=>by simp at h1⟩
 |t0::tm,f0,ez,h=>by
  simp only[EJ] at h;split at h
  ·rename_i c r hc hr;injection h with h
   subst h;obtain⟨h1,h2⟩:=LS hr;refine⟨by simp[h1],fun f t c' g1 g2=>?_⟩
   cases f with
   |zero =>
    simp only[cd,ct] at g1 g2;subst g1;subst g2;obtain⟨k1,k2⟩:=DA hc;obtain⟨s1,s2⟩:=Pm cells s f0 n;rw[s1] at k1 k2;refine⟨k1,fun e he=>?_⟩
    have:=k2 e he;rw[s2 e he] at this;exact pa this
   |succ f =>
    simp only[bH] at g1 g2;have:=h2 f t c' g1 g2;rw[show f0+(f+1)=f0+1+f by omega]
    exact this
  ·cases h
theorem HM.RN {h:Hp R} (hm:HM D C ρ ft h w) (t:TypeId) (r:Row) (arr:Array Value) (cap:Nat) (h0:0<r.tm.length) (hn:r.n≤cap) (hc:cap≤maxLen) (hs:arr.size=cap*r.tm.length) (hr:n8 r arr 0) :
  HM D C (qi ρ h.length ⟨w.heap.size,0,cap,an⟩) (qi ft h.length (fun k=>k=w.heap.size)) (h++[aa (.inr (.inl (t,r)))]) (w.alloc (.cells arr t)):=by
 refine hm.push ⟨w.heap.size,0,cap,an⟩ (.cells arr t) rfl (.inr (.inl (t,r))) ?_ trivial;simp only[hold,jf];exact⟨fun k=>by simp,h0,hn,hc,(fun h=>by cases h),arr,fun _=>⟨heap_alloc_new w _,by omega⟩,hr⟩
theorem HM.Ra {h:Hp R} (hm:HM D C ρ ft h w) (t:TypeId) (r:Row) (h0:0<r.tm.length) (hn:r.n=0) (hl:r.ez.length=r.tm.length) (hc:∀ (f:Nat) (t:Value) (c:aW),r.tm[f]?=aa t->r.ez[f]?=aa c->jJ t c r.n) (b o:Nat) :
  HM D C (qi ρ h.length ⟨b,o,0,ao⟩) ft (h++[aa (.inr (.inl (t,r)))]) w:=by
 have CI:∀ k,¬ ft h.length k:=fun k hk=>by
  obtain⟨B,hB⟩:=hm.some_ _ _ hk;have:=(aT.1 hB).1;omega
 refine hm.step (fun _=>False) (Kept.refl _ _) (fun i hi=>oi _ _ _ hi) (by simp) ?_ ?_ ?_ ?_
 ·intro i B' hi jB;have j6:h.length≤i:=nr hi;rw[dS j6] at jB;have:i=h.length:=by
   rcases cr h.length i with ch|hle
   ·rw[dc (by simp;omega)] at jB;cases jB
   ·omega
  subst this;simp at jB;subst jB;refine⟨?_,trivial⟩;simp only[hold,jf];exact⟨fun k=>by simp[CI k],h0,by omega,by unfold maxLen;omega,fun _=>trivial,#[],(fun h=>by cases h),hl,hc,fun f t c e _ _ he=>by omega⟩
 ·intro i hi _;exact⟨cZ hi,fun k=>r9⟩
 ·intro i k hi hk;obtain⟨B',jB⟩:=hm.some_ i k hk;exact absurd (aT.1 jB).1 hi
 ·intro i j k hi hj Hf Hg;exact hm.apart i j k Hf Hg
def va (tm:List Value):Nat->List Value
 |0=>[]
 |n+1=>va tm n++tm
theorem qm (tm:List Value):∀ n,(va tm n).length=n*tm.length
 |0=>by simp[va]
 |n+1=>by simp[va,qm tm n,ij]
theorem Ff (tm:List Value) (h0:0<tm.length):∀ (n j:Nat),j<n*tm.length->(va tm n)[j]?=tm[j%tm.length]?
 |0,j,hj=>by omega
 |n+1,j,hj=>by
  simp only[va];rcases cr j (n*tm.length) with ch|j6
  ·rw[cZ (by rw[qm];exact ch)]
   exact Ff tm h0 n j ch
  ·rw[dS (by rw[qm];exact j6),qm]
   have:j%tm.length=j-n*tm.length:=by
    rw[ij,qv] at hj;obtain⟨d,rfl⟩:∃ d,j=n*tm.length+d:=⟨j-n*tm.length,by omega⟩
    rw[sE,v8,Fl (by omega)]
    omega
   rw[this]
theorem Vx (z:Array Value) (h0:0<z.size) (n:Nat):((GC (n*z.size)).map (z[·%z.size]!))=(va z.toList n).toArray:=by
 apply qu;apply nQ;intro j;simp only[mv,Array.toList_range,fh]
 by_cases hj:j<n*z.size
 ·rw[Ff z.toList (by simpa using h0) n j (by simpa using hj)]
  have hm:j%z.size<z.size:=Qd _ h0;simp[hj,hm]
 ·rw[dc (by simpa using hj),dc (by rw[qm];simpa using hj)]
  simp
def FL:List (Nat×Value)->Bool
 |[]=>ao
 |(_,v)::l=>flat v&&FL l
theorem Ja {l:List (Nat×Value)} (h:FL l=ao):l.map (fun(i,v)=>(i,bS ρ v))=l:=by
 induction l with
 |nil=>rfl
 |cons p l ih =>
  obtain⟨i,v⟩:=p;simp only[FL,aM] at h;simp[ih h.2,nO v h.1]
def elemOf (P:Program) (t:TypeId):Option (TypeId×List Value×Nat) :=
 match P.underlying t with
 |some (.slice el) =>
  match P.info? el with
  |some inf=>match inf.zero with
   |some z=>if pI z.cells.toList&&fp inf.size z.cells.toList.length&&gQ 0 inf.size&&gQ inf.size 1000 then aa (el,z.cells.toList,inf.bytes) else aj
   |none=>aj
  |none=>aj
 |_=>aj
theorem zF {t el:TypeId} {tm:List Value} {Dp:Nat} (h:elemOf P t=aa (el,tm,Dp)) :
  ∃ inf z,P.underlying t=aa (.slice el)/\P.info? el=aa inf/\inf.zero=aa z/\z.cells.toList=tm/\inf.size=tm.length/\inf.bytes=Dp/\pI tm=ao/\0<tm.length/\tm.length<1000:=by
 unfold elemOf at h;split at h
 ·rename_i el' hu;split at h
  ·rename_i inf hi;split at h
   ·rename_i z hz;split at h
    ·rename_i hc;simp only[aM,fe] at hc;have h1:=cO hc.1.1.2;injection h with h
     injection h with h2 h3
     injection h3 with h3 h4
     subst h2;subst h3;subst h4;exact⟨inf,z,hu,hi,hz,rfl,h1,rfl,hc.1.1.1,by omega,by omega⟩
    ·cases h
   ·cases h
  ·cases h
 ·cases h
def uj (P:Program) (σ:SS R) (t:TypeId) (len:Nat) (parts:List (Nat×Operand)):Option (Out R) :=
 match elemOf P t,B5 σ.tm parts with
 |some (el,tm,_),aa ps =>
  if FL ps&&uI (len*tm.length) 1000000 then
   match F5 (fun i=>aa (i*tm.length,tm.length)) (va tm len) ps with
   |some cells=>match EJ cells tm.length len 0 tm with
    |some ez=>aa ⟨True,.slice (aa ⟨σ.hp.length,0,aa (1000*tm.length)⟩) len len,aj,σ.hp++[aa (.inr (.inl (el,⟨tm,len,ez⟩)))],[],[(σ.hp.length,0)]⟩
    |none=>aj
   |none=>aj
  else aj
 |_,_=>aj
theorem Pc {σ:SS R} {o:Oper} {t:TypeId} {len:Nat} {parts:Array (Nat×Operand)} {x:Out R} (ho:o.op=.buildSlice t len parts) (h:uj P σ t len parts.toList=aa x):mb D P o σ x:=by
 unfold uj at h;split at h
 ·rename_i el tm Dp ps he Vn;obtain⟨inf,z,hu,hi,hz,Bq,ny,_,wz,h0,Sq⟩:=zF he;split at h
  ·rename_i hc;simp only[aM] at hc;have hle:=jE hc.2;split at h
   ·rename_i cells Vf;split at h
    ·rename_i ez Dz;injection h with h
     subst h;refine⟨fun C ρ ft a w K Q ht iy hm _ hK=>?_,by simp,fun _ b hb=>by cases hb⟩
     obtain⟨h1,h2⟩:=ye ht Vn;rw[Ja hc.1] at h1;obtain⟨h3,h4⟩:=AS (ρ:=ρ) Vf;rw[Ja hc.1] at h3;have ZE:pI (va tm len)=ao:=by
      rw[zl];intro v hv;obtain⟨j,hj⟩:=Bb hv;have UN:=(aT.1 hj).1;rw[qm] at UN;rw[Ff tm h0 len j UN] at hj;exact zl.1 wz v (lB hj)
     rw[EU ZE] at h3;have Jg:(parts.map fun(i,y)=>(i,a.eval y)).toList=ps:=by
      rw[mv];exact h1
     have JA:z.cells.size=tm.length:=by rw[← Bq];simp
     have Gs:(if len*inf.size=0 then #[] else z.cells:Array Value)=if len*tm.length=0 then #[] else z.cells:=by rw[ny]
     have hzero:(GC (len*tm.length)).map ((if len*tm.length=0 then(#[]:Array Value) else z.cells)[·%(if len*tm.length=0 then(#[]:Array Value) else z.cells).size]!)=(va tm len).toArray:=by
      by_cases yh:len*tm.length=0
      ·have:len=0:=by
        rcases Gh.1 yh with h|h
        ·exact h
        ·omega
       subst this;simp[va]
      ·rw[if_neg yh];have:=Vx z.cells (by omega) len
       rw[JA,Bq] at this;rw[JA];exact this
     have afv:cells.length=len*tm.length:=by rw[h4,qm]
     obtain⟨c1,c2⟩:=LS Dz;have hcm:cells.map (bS ρ)=cells.map (bS ρ):=rfl;have wk:n8 ⟨tm,len,ez⟩ (cells.map (bS ρ)).toArray 0:=by
      refine⟨c1,fun f t c g1 g2=>(c2 f t c g1 g2).1,fun f t c e g1 g2 g3=>?_⟩
      have BW:f<tm.length:=(aT.1 g1).1;have ch:e*tm.length+f<cells.length:=by
       rw[afv];have:=jq tm.length (show e+1≤len from g3)
       rw[ij,qv] at this;omega
      obtain⟨k1,k2⟩:=c2 f t c g1 g2;have:=k2 e g3;rw[bU,bd ch,Option.getD_some] at this;rw[bU,jD,fh,bd ch,this];simp[nO _ (JS k1 e)]
     have nN:(execOp a.eval o).run P w=.ok (.value (.slice (aa ⟨w.heap.size,0,aj⟩) len len)) (w.alloc (.cells (cells.map (bS ρ)).toArray el)):=by
      have aef:¬ len*tm.length>2 ^ 24:=by omega
      simp only[execOp,ho,N8,dA,run_underlying hu,cA,sizeOf,typeInfo,run_program,hi,dV,ny,if_neg aef,Jg]
      by_cases yh:len*tm.length=0
      ·rw[if_pos yh] at hzero;rw[yh] at hzero;simp only[yh,if_true,dA,dV,cA];rw[hzero,h3];simp[newRow]
      ·rw[if_neg yh] at hzero;simp only[yh,if_false,dA,zeroValue,typeInfo,run_program,cA,hi,hz,dV];rw[hzero,h3];simp[newRow]
     refine rn nN ?_;have hp:=hm.RN el ⟨tm,len,ez⟩ (cells.map (bS ρ)).toArray len h0 (a_ _) (by
      have:len≤len*tm.length:=Nat.le_mul_of_pos_right _ h0;unfold maxLen;omega) (by simp[afv]) wk
     have:=hK _ _ _ (fun i hi=>oi ρ σ.hp.length ⟨w.heap.size,0,len,an⟩ hi) hp
     have e1:1000*tm.length / 1000000=0:=by omega
     have e2:1000*tm.length%1000=0:=by omega
     simpa [bS,lK,iI,jf,cellOf,e1,e2] using this
    ·cases h
   ·cases h
  ·cases h
 ·cases h
def ug (P:Program) (σ:SS R) (t:TypeId) (len:Nat) (parts:List (Nat×Operand)):Option (Out R) :=
 match elemOf P t,B5 σ.tm parts with
 |some (el,tm,_),aa ps =>
  if uI (len*tm.length) 1000000&&gQ 0 len then
   match F5 (fun i=>aa (i*tm.length,tm.length)) (va tm len) ps with
   |some cells=>if iC σ.hp.length cells then aa ⟨True,.slice (aa ⟨σ.hp.length,0,aj⟩) len len,aj,σ.hp++[aa (.inl (el,cells))],[],[(σ.hp.length,0)]⟩ else aj
   |none=>aj
  else aj
 |_,_=>aj
theorem OE {σ:SS R} {o:Oper} {t:TypeId} {len:Nat} {parts:Array (Nat×Operand)} {x:Out R} (ho:o.op=.buildSlice t len parts) (h:ug P σ t len parts.toList=aa x):mb D P o σ x:=by
 unfold ug at h;split at h
 ·rename_i el tm Dp ps he Vn;obtain⟨inf,z,hu,hi,hz,Bq,ny,_,wz,h0,Sq⟩:=zF he;split at h
  ·rename_i hc;simp only[aM,fe] at hc;have hle:=jE hc.1;have adw:=hc.2;split at h
   ·rename_i cells Vf;split at h
    ·rename_i j8;injection h with h
     subst h;refine⟨fun C ρ ft a w K Q ht iy hm _ hK=>?_,by simp,fun _ b hb=>by cases hb⟩
     obtain⟨h1,h2⟩:=ye ht Vn;obtain⟨h3,h4⟩:=AS (ρ:=ρ) Vf;have ZE:pI (va tm len)=ao:=by
      rw[zl];intro v hv;obtain⟨j,hj⟩:=Bb hv;have UN:=(aT.1 hj).1;rw[qm] at UN;rw[Ff tm h0 len j UN] at hj;exact zl.1 wz v (lB hj)
     rw[EU ZE] at h3;have Jg:(parts.map fun(i,y)=>(i,a.eval y)).toList=ps.map fun(i,v)=>(i,bS ρ v):=by
      rw[mv];exact h1
     have JA:z.cells.size=tm.length:=by rw[← Bq];simp
     have kz:¬ len*tm.length=0:=by
      intro yh;rcases Gh.1 yh with h|h<;>omega
     have hzero:(GC (len*tm.length)).map (z.cells[·%z.cells.size]!)=(va tm len).toArray:=by
      have:=Vx z.cells (by omega) len
      rw[JA,Bq] at this;rw[JA];exact this
     have nN:(execOp a.eval o).run P w=.ok (.value (.slice (aa ⟨w.heap.size,0,aj⟩) len len)) (w.alloc (.cells (cells.map (bS ρ)).toArray el)):=by
      have aef:¬ len*tm.length>2 ^ 24:=by omega
      simp only[execOp,ho,N8,dA,run_underlying hu,cA,sizeOf,typeInfo,run_program,hi,dV,ny,if_neg aef,Jg];simp only[kz,if_false,dA,zeroValue,typeInfo,run_program,cA,hi,hz,dV];rw[hzero,h3];simp[newRow]
     have UT:cells.map (bS (qi ρ σ.hp.length ⟨w.heap.size,0,0,an⟩))=cells.map (bS ρ) :=
      nV fun v hv=>ng (n:=σ.hp.length) (fun i hi=>oi _ _ _ hi) v (wR.1 j8 v hv)
     have hp:=hm.push (D:=D) ⟨w.heap.size,0,0,an⟩ (.cells (cells.map (bS ρ)).toArray el) rfl (.inl (el,cells)) (by
      refine⟨by rw[jf],fun k=>by rw[jf],?_⟩
      rw[jf,UT];exact heap_alloc_new w _) (uY (ma _) _ j8)
     refine rn nN ?_;have:=hK _ _ _ (fun i hi=>oi ρ σ.hp.length ⟨w.heap.size,0,0,an⟩ hi) hp
     simpa [bS,lK,iI,jf,cellOf] using this
    ·cases h
   ·cases h
  ·cases h
 ·cases h
def Lf (t:Value) (n:Nat):Option aW :=
 match t with
 |.int _ x=>aa { Lj with i:=ls n x }
 |.bool x=>aa { Lj with b:=ls n x }
 |.string x=>aa { Lj with s:=ls n x }
 |_=>aj
def tL:List Value->Nat->Option (List aW)
 |[],_=>aa []
 |t::tm,n =>
  match Lf t n,tL tm n with
  |some c,aa r=>aa (c::r)
  |_,_=>aj
theorem Y_ {t:Value} {n:Nat} {c:aW} (h:Lf t n=aa c):jJ t c n/\∀ e,e<n->gF t c e=t:=by
 unfold Lf at h;split at h
 ·injection h with h;subst h
  exact⟨by simp[jJ],fun e he=>by simp[gF,au,he]⟩
 ·injection h with h;subst h
  exact⟨by simp[jJ],fun e he=>by simp[gF,au,he]⟩
 ·injection h with h;subst h
  exact⟨by simp[jJ],fun e he=>by simp[gF,au,he]⟩
 ·cases h
theorem yt:∀ {tm:List Value} {n:Nat} {ez:List aW},tL tm n=aa ez->ez.length=tm.length/\∀ (f:Nat) (t:Value) (c:aW),tm[f]?=aa t->ez[f]?=aa c->jJ t c n/\∀ e,e<n->gF t c e=t
 |[],n,ez,h=>by
  simp only[tL] at h;injection h with h
  subst h;exact⟨rfl,fun f t c h1 _=>by simp at h1⟩
 |t0::tm,n,ez,h=>by
  simp only[tL] at h;split at h
  ·rename_i c r hc hr;injection h with h
   subst h;obtain⟨h1,h2⟩:=yt hr;refine⟨by simp[h1],fun f t c' g1 g2=>?_⟩
   cases f with
   |zero =>
    simp only[cd,ct] at g1 g2;subst g1;subst g2;exact Y_ hc
   |succ f =>
    simp only[bH] at g1 g2;exact h2 f t c' g1 g2
  ·cases h
def vf (P:Program) (σ:SS R) (t:TypeId):Option (Out R) :=
 match elemOf P t with
 |some (el,tm,_)=>match tL tm 0 with
  |some ez=>aa ⟨True,.slice (aa ⟨σ.hp.length,0,aa (1000*tm.length)⟩) 0 0,aj,σ.hp++[aa (.inr (.inl (el,⟨tm,0,ez⟩)))],[],[(σ.hp.length,0)]⟩
  |none=>aj
 |none=>aj
theorem SR {σ:SS R} {o:Oper} {t:TypeId} {n c:Nat} {y:Operand} {x:Out R} (ho:o.op=.move y∨o.op=.assign y) (hy:ev σ.tm y=aa (.slice aj 0 0)) (h:vf P σ t=aa x):mb D P o σ x:=by
 unfold vf at h;split at h
 ·rename_i el tm Dp he;obtain⟨inf,z,hu,hi,hz,Bq,ny,_,wz,h0,Sq⟩:=zF he;split at h
  ·rename_i ez Dz;injection h with h
   subst h;refine⟨fun C ρ ft a w K Q ht iy hm _ hK=>?_,by simp,fun _ b hb=>by cases hb⟩
   obtain⟨c1,c2⟩:=yt Dz;have hv:=(eu ht hy).1;have nN:(execOp a.eval o).run P w=.ok (.value (.slice aj 0 0)) w:=by
    simp only[bS] at hv;rcases ho with ho|ho<;>simp[execOp,ho,hv]
   refine rn nN ?_;have hp:=hm.Ra el ⟨tm,0,ez⟩ h0 rfl c1 (fun f t c g1 g2=>(c2 f t c g1 g2).1) 0 0
   have:=hK _ _ _ (fun i hi=>oi ρ σ.hp.length ⟨0,0,0,ao⟩ hi) hp
   simpa [bS,lK,jf] using this
  ·cases h
 ·cases h
def yb (P:Program) (σ:SS R) (t:TypeId) (y z:Operand):Option (Out R) :=
 match elemOf P t,ev σ.tm y,ev σ.tm z with
 |some (el,tm,Dp),aa (.int _ l),aa (.int _ c) =>
  match tL tm l.toNat with
  |some ez=>aa ⟨0≤l/\l≤c/\c*Dp≤140737488355328/\c≤140737488355328,.slice (aa ⟨σ.hp.length,0,aa (1000*tm.length)⟩) l.toNat c.toNat,aj,σ.hp++[aa (.inr (.inl (el,⟨tm,l.toNat,ez⟩)))],[],[(σ.hp.length,0)]⟩
  |none=>aj
 |_,_,_=>aj
theorem Q' {σ:SS R} {o:Oper} {t:TypeId} {y z:Operand} {x:Out R} (ho:o.op=.makeSlice t y z) (h:yb P σ t y z=aa x):mb D P o σ x:=by
 unfold yb at h;split at h
 ·rename_i el tm Dp k l k' c he hl Vi;obtain⟨inf,zv,hu,hi,hz,Bq,ny,hby,wz,h0,Sq⟩:=zF he;split at h
  ·rename_i ez Dz;injection h with h
   subst h;refine⟨fun C ρ ft a w K Q ht iy hm hv hK=>?_,by simp,fun _ b hb=>by cases hb⟩
   obtain⟨v0,v1,v2,v3⟩:=hv;obtain⟨c1,c2⟩:=yt Dz;have h1:=(eu ht hl).1;have h2:=(eu ht Vi).1;simp only[xu] at h1 h2;obtain⟨ln,rfl⟩:=s_ v0;obtain⟨cn,rfl⟩:=s_ (Int.le_trans v0 v1);simp only[iJ] at *
   have JA:zv.cells.size=tm.length:=by rw[← Bq];simp
   have hw1:ar.wrap (ln:Int)=ln:=oo ⟨by omega,by omega⟩
   have Vd:ar.wrap (cn:Int)=cn:=oo ⟨by omega,by omega⟩
   have Gs:(GC (cn*tm.length)).map ((if cn*tm.length=0 then(#[]:Array Value) else zv.cells)[·%(if cn*tm.length=0 then(#[]:Array Value) else zv.cells).size]!)=(va tm cn).toArray:=by
    by_cases yh:cn*tm.length=0
    ·have:cn=0:=by
      rcases Gh.1 yh with h|h
      ·exact h
      ·omega
     subst this;simp[va]
    ·rw[if_neg yh];have:=Vx zv.cells (by omega) cn
     rw[JA,Bq] at this;rw[JA];exact this
   have Mq:(Dp:Int)*(cn:Int)≤281474976710656:=by rw[Int.mul_comm];omega
   have nN:(execOp a.eval o).run P w=.ok (.value (.slice (aa ⟨w.heap.size,0,aj⟩) ln cn)) (w.alloc (.cells (va tm cn).toArray el)):=by
    simp only[execOp,ho,h1,h2,Instr.makeSlice,dA,run_underlying hu,cA,asInt,asIntOf,dV,typeInfo,run_program,hi,hw1,Vd,hby];have alj:(decide ((cn:Int)<0)||decide ((Dp:Int)*(cn:Int)>2 ^ 48)||decide ((ln:Int)<0)||decide ((ln:Int)>(cn:Int)))=an:=by
     have e1:decide ((cn:Int)<0)=an:=decide_eq_false (by omega)
     have e2:decide ((Dp:Int)*(cn:Int)>2 ^ 48)=an:=decide_eq_false (by omega)
     have e3:decide ((ln:Int)<0)=an:=decide_eq_false (by omega)
     have e4:decide ((ln:Int)>(cn:Int))=an:=decide_eq_false (by omega)
     rw[e1,e2,e3,e4];rfl
    simp only[alj,fP,if_false,dV,cA,run_askRoom,sizeOf,typeInfo,dA,run_program,hi,ny,iJ]
    by_cases yh:cn*tm.length=0
    ·rw[if_pos yh] at Gs;rw[yh] at Gs;simp only[yh,if_true,dA,dV,cA];rw[Gs];simp[newRow]
    ·rw[if_neg yh] at Gs;simp only[yh,if_false,dA,zeroValue,typeInfo,run_program,cA,hi,hz,dV];rw[Gs];simp[newRow]
   refine rn nN ?_;have wk:n8 ⟨tm,ln,ez⟩ (va tm cn).toArray 0:=by
    refine⟨c1,fun f t c g1 g2=>(c2 f t c g1 g2).1,fun f t c e g1 g2 g3=>?_⟩
    have BW:f<tm.length:=(aT.1 g1).1;have ch:e*tm.length+f<cn*tm.length:=by
     have:=jq tm.length (show e+1≤cn by have:e<ln:=g3;omega)
     rw[ij,qv] at this;omega
    rw[bU,jD,Ff tm h0 cn _ ch,(c2 f t c g1 g2).2 e g3];have:(e*tm.length+f)%tm.length=f:=by rw[sE,v8,Fl BW]
    rw[this,g1]
   have hp:=hm.RN el ⟨tm,ln,ez⟩ (va tm cn).toArray cn h0 (by simp only;omega) (by unfold maxLen;omega) (by simp[qm]) wk
   have:=hK _ _ _ (fun i hi=>oi ρ σ.hp.length ⟨w.heap.size,0,cn,an⟩ hi) hp
   have e1:1000*tm.length / 1000000=0:=by omega
   have e2:1000*tm.length%1000=0:=by omega
   simpa [bS,lK,iI,jf,cellOf,e1,e2] using this
  ·cases h
 ·cases h
end
end Rx
namespace Rx
open Go.RowKit State
section
variable {R:Type} {D:fJ R} {P:Program} {C:Ctx} {ρ:Env} {ft:Nat->Nat->Prop} {w w':World}
def Lx (P:Program) (σ:SS R) (t:TypeId) (y:Operand):Option (Out R) :=
 match ev σ.tm y,P.underlying t with
 |some (.slice (aa _) n _),aa (.slice _)=>aa (gu σ True (.int .i64 n) aj [])
 |_,_=>aj
theorem adn {σ:SS R} {o:Oper} {t:TypeId} {y:Operand} {x:Out R} (ho:o.op=.call { callee:=.builtin .len,args:=#[y],argTypes:=#[t] }) (h:Lx P σ t y=aa x):mb D P o σ x:=by
 unfold Lx at h;split at h
 ·rename_i ad n c el ha hu;injection h with h
  subst h;refine g9 (fun C ρ ft a w ht iy hm _=>?_) (fun iy c hc=>by cases hc)
  have h1:=(eu ht ha).1;simp only[bS] at h1;obtain⟨A,c',e⟩:=R8 (ρ:=ρ) ad n c;rw[e] at h1;simp[execOp,ho,resolve,invoke,builtin,h1,Builtin.len_,run_underlying hu,goInt]
 ·cases h
def UD (s:ByteArray) (i:Nat):Int:=((s.data.toList[i]?).getD 0).toNat
def A8 (P:Program) (σ:SS R) (t:TypeId) (y z:Operand):Option (Out R) :=
 match ev σ.tm y,ev σ.tm z,P.underlying t with
 |some (.string s),aa (.int _ j),aa .string=>aa (gu σ (0≤j/\j<s.size) (.int .u8 (UD s j.toNat)) aj [])
 |_,_,_=>aj
theorem SW {σ:SS R} {o:Oper} {t:TypeId} {y z:Operand} {x:Out R} (ho:o.op=.index t y z) (h:A8 P σ t y z=aa x):mb D P o σ x:=by
 unfold A8 at h;split at h
 ·rename_i s k j ha hb hu;injection h with h
  subst h;refine g9 (fun C ρ ft a w ht iy hm hv=>?_) (fun iy c hc=>by cases hc)
  obtain⟨v0,v1⟩:=hv;have h1:=(eu ht ha).1;have h2:=(eu ht hb).1;simp only[Du] at h1;simp only[xu] at h2;have ch:j.toNat<s.size:=by omega
  have aac:j.toNat<s.data.toList.length:=by simpa using ch
  have J9:s[j.toNat]?=aa (s[j.toNat]):=by simp[ch]
  have hb:(s[j.toNat].toNat:Int)=UD s j.toNat:=by
   unfold UD;rw[bd aac];simp
   rfl
  simp only[execOp,ho,h1,h2,Instr.index,asIntOf,dA,dV,cA,run_underlying hu,v0,if_true,J9,xu,← hb]
 ·cases h
def evB (tm:List (Option Value)):Option Operand->Option (Option Int)
 |none=>aa aj
 |some y=>match ev tm y with
  |some (.int _ j)=>aa (aa j)
  |_=>aj
theorem wU {n:Nat} {tm:List (Option Value)} {a:Act} {y:Option Operand} {b:Option Int} (ht:TM ρ n tm a) (h:evB tm y=aa b) :
  (∃ (k:IntKind),∃ j,b=aa j/\y.map a.eval=aa (.int k j))∨(b=aj/\y.map a.eval=aj):=by
 cases y with
 |none=>simp only[evB] at h;injection h with h;subst h;exact e7 ⟨rfl,rfl⟩
 |some y =>
  simp only[evB] at h;split at h
  ·rename_i k j hj;injection h with h
   subst h;have:=(eu ht hj).1;simp only[xu] at this;exact dK ⟨k,j,rfl,by simp[this]⟩
  ·cases h
theorem Gd {isS:Bool} {len cap:Nat} {lo hi:Option Value} {l h:Int} (w:World)
  (hl:(∃ k,lo=aa (.int k l))∨(lo=aj/\l=0)) (hh:(∃ k,hi=aa (.int k h))∨(hi=aj/\h=len)) (h0:0≤l) (h1:l≤h) (h2:h≤cap) :
  (tY isS len cap lo hi aj).run P w=.ok (l.toNat,h.toNat,cap) w:=by
 have hh0:0≤h:=by omega
 obtain⟨lN,rfl⟩:=s_ h0;obtain⟨hN,rfl⟩:=s_ hh0;have hA:hN≤cap:=by omega
 have hB:lN≤hN:=by omega
 rcases hl with⟨k,rfl⟩|⟨rfl,nZ⟩<;>rcases hh with⟨k',rfl⟩|⟨rfl,hhl⟩
 ·simp[tY,Fm,asIntOf,hA,hB]
 ·obtain rfl:hN=len:=by omega
  simp[tY,Fm,asIntOf,hA,hB]
 ·obtain rfl:lN=0:=by omega
  simp[tY,Fm,asIntOf,hA,hB]
 ·obtain rfl:hN=len:=by omega
  obtain rfl:lN=0:=by omega
  simp[tY]
def Hw (P:Program) (σ:SS R) (t:TypeId) (y:Operand) (lo hi mx:Option Operand):Option (Out R) :=
 match mx with
 |some _=>aj
 |none =>
  match ev σ.tm y,evB σ.tm lo,evB σ.tm hi with
  |some (.string s),aa l,aa h =>
   match P.underlying t with
   |some .string=>aa (gu σ (0≤l.getD 0/\l.getD 0≤h.getD s.size/\h.getD s.size≤s.size) (.string (s.extract (l.getD 0).toNat (h.getD s.size).toNat)) aj [])
   |_=>aj
  |some (.slice (aa ⟨i,e0,aa q⟩) n c),aa l,aa h =>
   match elemOf P t,rowOf σ.hp[i]? with
   |some (el,tm,_),aa r =>
    if fp (q%1000000) (1000*tm.length)&&fp tm.length r.tm.length then
     match l with
     |none=>aa (gu σ (0≤h.getD n/\h.getD n≤n/\e0+n≤r.n) (.slice (aa ⟨i,e0,aa q⟩) (h.getD n).toNat c) aj [])
     |some l=>match gQ q 1000000 with
      |true=>aa (gu σ (e0=0/\0≤l/\l≤h.getD n/\h.getD n≤n/\e0+n≤r.n) (.slice (aa ⟨i,e0+l.toNat,aa (1000*tm.length+1000000*(i+1))⟩) (h.getD n-l).toNat c) aj [])
      |false=>aa ⟨0≤l/\l≤h.getD n/\h.getD n≤n/\e0+n≤r.n,.slice (aa ⟨i,e0+l.toNat,aa (1000*tm.length+1000000*(σ.hp.length+1))⟩) (h.getD n-l).toNat c,aj,σ.hp++[aj],[],[(σ.hp.length,0)]⟩
    else aj
   |_,_=>aj
  |_,_,_=>aj
theorem OX {hi:Option Operand} {h:Option Int} {a:Act} {n:Nat} (hx:(∃ (k:IntKind),∃ j,h=aa j/\hi.map a.eval=aa (.int k j))∨(h=aj/\hi.map a.eval=aj)) :
  (∃ k,hi.map a.eval=aa (.int k (h.getD n)))∨(hi.map a.eval=aj/\h.getD n=n):=by
 rcases hx with⟨k,j,rfl,e⟩|⟨rfl,e⟩
 ·exact dK ⟨k,by simpa using e⟩
 ·exact e7 ⟨e,rfl⟩
theorem ajo {lo:Option Operand} {l:Option Int} {a:Act} (hx:(∃ (k:IntKind),∃ j,l=aa j/\lo.map a.eval=aa (.int k j))∨(l=aj/\lo.map a.eval=aj)) :
  (∃ k,lo.map a.eval=aa (.int k (l.getD 0)))∨(lo.map a.eval=aj/\l.getD 0=0):=by
 rcases hx with⟨k,j,rfl,e⟩|⟨rfl,e⟩
 ·exact dK ⟨k,by simpa using e⟩
 ·exact e7 ⟨e,rfl⟩
theorem uZ {t el:TypeId} {A:Option Addr} {n cap:Nat} {lo hi:Option Value} {l h:Int} {inf:TypeInfo} (w:World) (hu:P.underlying t=aa (.slice el)) (xY:P.info? el=aa inf)
  (hl:(∃ k,lo=aa (.int k l))∨(lo=aj/\l=0)) (hh:(∃ k,hi=aa (.int k h))∨(hi=aj/\h=n)) (h0:0≤l) (h1:l≤h) (h2:h≤cap) :
  (Jq t (.slice A n cap) lo hi aj).run P w=.ok (.slice (if cap=l.toNat then A else A.map (·.add (l.toNat*inf.size))) (h.toNat-l.toNat) (cap-l.toNat)) w:=by
 have hb:=Gd (P:=P) (isS:=ao) (len:=n) (cap:=cap) w hl hh h0 h1 h2;simp[Jq,run_underlying hu,Xg,hb,sizeOf,typeInfo,xY]
theorem Zh {σ:SS R} {o:Oper} {t:TypeId} {y:Operand} {lo hi mx:Option Operand} {x:Out R} (ho:o.op=.slice t y lo hi mx) (h:Hw P σ t y lo hi mx=aa x):mb D P o σ x:=by
 unfold Hw at h;split at h
 ·cases h
 ·split at h
  ·rename_i s l hh ha hl JZ;split at h
   ·rename_i hu;injection h with h
    subst h;refine g9 (fun C ρ ft a w ht iy hm hv=>?_) (fun iy c hc=>by cases hc)
    obtain⟨v0,v1,v2⟩:=hv;have h1:=(eu ht ha).1;simp only[Du] at h1;have hb:=Gd (P:=P) (isS:=an) (len:=s.size) (cap:=s.size) w (ajo (wU ht hl)) (OX (n:=s.size) (wU ht JZ)) v0 v1 v2;simp[execOp,ho,h1,Jq,run_underlying hu,Xg,hb]
   ·cases h
  ·rename_i i e0 q n c l hh ha hl JZ;split at h
   ·rename_i el tm Dp r he hr;obtain⟨inf,z,hu,xY,hz,Bq,ny,_,wz,h0,Sq⟩:=zF he;split at h
    ·rename_i hc;simp only[aM] at hc;have hq:=cO hc.1;have sh:q%1000000 / 1000=tm.length:=by omega
     have FP:q%1000=0:=by omega
     split at h
     ·injection h with h
      subst h;refine g9 (fun C ρ ft a w ht iy hm hv=>?_) (fun iy c hc=>by cases hc)
      obtain⟨v0,v1,v2⟩:=hv;have h1:=(eu ht ha).1;obtain⟨g1,g2,_⟩:=CV hm hr;have AD:(∃ k,lo.map a.eval=aa (.int k 0))∨(lo.map a.eval=aj/\(0:Int)=0):=by
       rcases wU ht hl with⟨k,j,e,_⟩|⟨_,e⟩
       ·cases e
       ·exact e7 ⟨e,rfl⟩
      have A9:=OX (n:=n) (wU ht JZ);have amP:∀ A:Option Addr,(A.map fun x=>x.add 0)=A:=fun A=>by cases A<;>simp[Addr.add]
      have H6:=(fun(hz:(ρ i).nil=ao)=>(show(ρ i).cap=0 from by
       unfold rowOf at hr;split at hr
       ·rename_i t0 r0 hi;exact(hm.at_ i _ hi).1.2.2.2.2.1 hz
       ·rename_i r0 hi;exact(hm.at_ i _ hi).1.2.2.2.2.1 hz
       ·cases hr))
      simp only[bS,lK] at h1 ⊢
      by_cases hn:(ρ i).nil=ao
      ·rw[if_pos hn] at h1 ⊢;have MM:=H6 hn;have uo:n=0:=by omega
       subst uo;have mU:=uZ (P:=P) (A:=aj) (n:=0) (cap:=0) w hu xY AD A9 (nv 0) v0 (by simpa using v1)
       simp[execOp,ho,h1,mU]
      ·rw[if_neg hn] at h1 ⊢
       by_cases hex:q / 1000000≠0/\(ρ i).cap≤e0
       ·rw[if_pos hex] at h1 ⊢;have uo:n=0:=by omega
        subst uo;have mU:=uZ (P:=P) (A:=aa ⟨(ρ (q / 1000000-1)).lI,(ρ (q / 1000000-1)).off,aj⟩) (n:=0) (cap:=0) w hu xY AD A9 (nv 0) v0 (by simpa using v1)
        simp[execOp,ho,h1,mU]
       ·rw[if_neg hex] at h1 ⊢;have mU:=uZ (P:=P) (A:=aa (iI ρ ⟨i,e0,aa q⟩)) (n:=n) (cap:=(ρ i).cap-e0) w hu xY AD A9 (nv 0) v0 (by omega)
        simp[execOp,ho,h1,mU,amP]
     ·rename_i l;split at h
      ·rename_i L4;have jT:q<1000000:=by simpa [fe] using L4
       injection h with h
       subst h;refine g9 (fun C ρ ft a w ht iy hm hv=>?_) (fun iy c hc=>by cases hc)
       obtain⟨yh,v0,v1,v2,v3⟩:=hv;subst yh;have h1:=(eu ht ha).1;obtain⟨g1,g2,_⟩:=CV hm hr;have AD:(∃ k,lo.map a.eval=aa (.int k l))∨(lo.map a.eval=aj/\l=0):=by
        rcases wU ht hl with⟨k,j,e,e2⟩|⟨e,_⟩
        ·injection e with e;subst e;exact dK ⟨k,e2⟩
        ·cases e
       have A9:=OX (n:=n) (wU ht JZ);have H6:=(fun(hz:(ρ i).nil=ao)=>(show(ρ i).cap=0 from by
        unfold rowOf at hr;split at hr
        ·rename_i t0 r0 hi;exact(hm.at_ i _ hi).1.2.2.2.2.1 hz
        ·rename_i r0 hi;exact(hm.at_ i _ hi).1.2.2.2.2.1 hz
        ·cases hr))
       have e1:(1000*tm.length+1000000*(i+1)) / 1000000=i+1:=by omega
       have e2:(1000*tm.length+1000000*(i+1))%1000000 / 1000=tm.length:=by omega
       have e3:(1000*tm.length+1000000*(i+1))%1000=0:=by omega
       have hex:¬ (q / 1000000≠0/\(ρ i).cap≤0):=fun h=>h.1 (by omega)
       simp only[bS,lK] at h1 ⊢
       by_cases hn:(ρ i).nil=ao
       ·rw[if_pos hn] at h1 ⊢;have MM:=H6 hn;have uo:n=0:=by omega
        subst uo;have nZ:l=0:=by omega
        subst nZ;have mU:=uZ (P:=P) (A:=aj) (n:=0) (cap:=0) w hu xY AD A9 v0 v1 (by simpa using v2)
        simp[execOp,ho,h1,mU]
       ·rw[if_neg hn,if_neg hex,Nat.sub_zero] at h1;rw[if_neg hn];have mU:=uZ (P:=P) (A:=aa (iI ρ ⟨i,0,aa q⟩)) (n:=n) (cap:=(ρ i).cap) w hu xY AD A9 v0 v1 (by omega)
        have hx:(execOp a.eval o).run P w=.ok (.value (.slice (if(ρ i).cap=l.toNat then aa (iI ρ ⟨i,0,aa q⟩) else(aa (iI ρ ⟨i,0,aa q⟩)).map (·.add (l.toNat*inf.size))) ((hh.getD ↑n).toNat-l.toNat) ((ρ i).cap-l.toNat))) w:=by
         simp only[execOp,ho,h1,Qe,mU,dA,cA,dV]
        rw[hx];have nk:(hh.getD ↑n-l).toNat=(hh.getD ↑n).toNat-l.toNat:=by omega
        have VS:inf.size=tm.length:=by rw[ny]
        rw[nk]
        by_cases pT:(ρ i).cap=l.toNat
        ·rw[if_pos pT,if_pos ⟨by omega,by omega⟩,e1,mi]
         simp only[iI,cellOf,FP,Bc,bU,gR,pT,Ws]
        ·rw[if_neg pT,if_neg (fun h=>pT (by omega))]
         simp only[iI,cellOf,FP,e2,e3,Bc,bU,gR,j_,pN,VS]
      ·injection h with h
       subst h;refine⟨fun C ρ ft a w K Q ht iy hm hv hK=>?_,by simp,fun _ b hb=>by cases hb⟩
       obtain⟨v0,v1,v2,v3⟩:=hv;have h1:=(eu ht ha).1;obtain⟨On,Mq⟩:=eu ht ha;simp only[fv,aM,fe] at Mq;have CR:i<σ.hp.length:=Mq.1;obtain⟨g1,g2,_⟩:=CV hm hr;have AD:(∃ k,lo.map a.eval=aa (.int k l))∨(lo.map a.eval=aj/\l=0):=by
        rcases wU ht hl with⟨k,j,e,e2⟩|⟨e,_⟩
        ·injection e with e;subst e;exact dK ⟨k,e2⟩
        ·cases e
       have A9:=OX (n:=n) (wU ht JZ);have H6:=(fun(hz:(ρ i).nil=ao)=>(show(ρ i).cap=0 from by
        unfold rowOf at hr;split at hr
        ·rename_i t0 r0 hi;exact(hm.at_ i _ hi).1.2.2.2.2.1 hz
        ·rename_i r0 hi;exact(hm.at_ i _ hi).1.2.2.2.2.1 hz
        ·cases hr))
       generalize hN:σ.hp.length=N at *
       have e1:(1000*tm.length+1000000*(N+1)) / 1000000=N+1:=by omega
       have e2:(1000*tm.length+1000000*(N+1))%1000000 / 1000=tm.length:=by omega
       have e3:(1000*tm.length+1000000*(N+1))%1000=0:=by omega
       have ac1:∀ (A:Addr) (v:Value),(execOp a.eval o).run P w=.ok (.value v) w ->
         bS (qi ρ N ⟨A.block,A.off,0,an⟩) (.slice (aa ⟨i,e0+l.toNat,aa (1000*tm.length+1000000*(N+1))⟩) (hh.getD ↑n-l).toNat c)=v->o.wp P a w K Q:=by
        intro A v nN hv;have hp:=hm.pushNone ⟨A.block,A.off,0,an⟩;rw[hN] at hp;have:=hK _ _ _ (fun i hi=>oi ρ N ⟨A.block,A.off,0,an⟩ hi) hp
        rw[hv] at this;exact rn nN this
       have ZY:∀ p:Place,qi ρ N p i=ρ i:=fun p=>oi _ _ _ CR
       simp only[bS,lK] at h1
       by_cases hn:(ρ i).nil=ao
       ·rw[if_pos hn] at h1;have MM:=H6 hn;have uo:n=0:=by omega
        subst uo;have nZ:l=0:=by omega
        subst nZ;have mU:=uZ (P:=P) (A:=aj) (n:=0) (cap:=0) w hu xY AD A9 v0 v1 (by simpa using v2)
        refine ac1 ⟨0,0,aj⟩ (.slice aj (hh.getD 0).toNat 0) (by simp[execOp,ho,h1,mU]) ?_
        simp only[bS,lK,ZY,hn,if_true];simp
       ·rw[if_neg hn] at h1
        by_cases hex:q / 1000000≠0/\(ρ i).cap≤e0
        ·rw[if_pos hex] at h1;have uo:n=0:=by omega
         subst uo;have nZ:l=0:=by omega
         subst nZ;have mU:=uZ (P:=P) (A:=aa ⟨(ρ (q / 1000000-1)).lI,(ρ (q / 1000000-1)).off,aj⟩) (n:=0) (cap:=0) w hu xY AD A9 v0 v1 (by simpa using v2)
         refine ac1 ⟨(ρ (q / 1000000-1)).lI,(ρ (q / 1000000-1)).off,aj⟩ (.slice (aa ⟨(ρ (q / 1000000-1)).lI,(ρ (q / 1000000-1)).off,aj⟩) (hh.getD 0).toNat 0) (by simp[execOp,ho,h1,mU]) ?_
         simp only[bS,lK,ZY,hn,if_false,e1,mi,jf];have pT:N+1≠0/\(ρ i).cap≤e0+(0:Int).toNat:=⟨by omega,by simpa using hex.2⟩
         simp[hn,pT.2];exact fun h=>absurd h (by simpa using hex.2)
        ·rw[if_neg hex] at h1;have mU:=uZ (P:=P) (A:=aa (iI ρ ⟨i,e0,aa q⟩)) (n:=n) (cap:=(ρ i).cap-e0) w hu xY AD A9 v0 v1 (by omega)
         refine ac1 (iI ρ ⟨i,e0,aa q⟩) _ (by simp only[execOp,ho,h1,Qe,mU,dA,dV,cA];rfl) ?_
         simp only[bS,lK];rw[ZY,if_neg hn,e1];have XN:(hh.getD (n:Int)-l).toNat=(hh.getD (n:Int)).toNat-l.toNat:=by omega
         by_cases pT:(ρ i).cap-e0=l.toNat
         ·rw[if_pos pT,if_pos ⟨by omega,by omega⟩,XN,pT,Ws]
          simp[jf,iI]
         ·rw[if_neg pT,if_neg (by omega),XN]
          simp only[iI,ZY,cellOf,e2,e3,sh,FP,j_,pN,ny];simp[ij,jg,Nat.sub_add_eq]
    ·cases h
   ·cases h
  ·cases h
end
end Rx
namespace Rx
open Go.RowKit State
def cut {α:Type} (l:List α) (e n:Nat):List α:=(l.drop e).take n
theorem Aw {α:Type} {l:List α} {e n:Nat} (h:e+n≤l.length):(cut l e n).length=n:=by simp[cut];omega
theorem XG {α:Type} {l:List α} {e n i:Nat} (h:i<n):(cut l e n)[i]?=l[e+i]?:=by simp[cut,oF,h]
@[simp] theorem ahf {α:Type} (l:List α):cut l 0 l.length=l:=by simp[cut]
def EG (t:Value) (c0:aW) (e0 n:Nat) (c1:aW) (e1 m:Nat):aW :=
 match t with
 |.int _ _=>⟨cut c0.i e0 n++cut c1.i e1 m,[],[]⟩
 |.bool _=>⟨[],cut c0.b e0 n++cut c1.b e1 m,[]⟩
 |_=>⟨[],[],cut c0.s e0 n++cut c1.s e1 m⟩
def xw:Value->Value->Bool
 |.int k _,.int k' _=>decide (k=k')
 |.bool _,.bool _=>ao
 |.string _,.string _=>ao
 |_,_=>an
def xL:List Value->List Value->Bool
 |[],[]=>ao
 |a::l,b::r=>xw a b&&xL l r
 |_,_=>an
theorem Az:∀ {l r:List Value},xL l r=ao->l.length=r.length
 |[],[],_=>rfl
 |[],_::_,h=>by simp[xL] at h
 |_::_,[],h=>by simp[xL] at h
 |a::l,b::r,h=>by
  simp only[xL,aM] at h;simp[Az h.2]
theorem FI:∀ {l r:List Value} {f:Nat} {a b:Value},xL l r=ao->l[f]?=aa a->r[f]?=aa b->xw a b=ao
 |[],r,f,a,b,_,h1,_=>by simp at h1
 |_::_,[],f,a,b,h,_,h2=>by simp at h2
 |a0::l,b0::r,f,a,b,h,h1,h2=>by
  simp only[xL,aM] at h;cases f with
  |zero=>simp only[cd,ct] at h1 h2;subst h1;subst h2;exact h.1
  |succ f=>simp only[bH] at h1 h2;exact FI h.2 h1 h2
theorem Sg {a b:Value} (h:xw a b=ao) (c:aW) (e:Nat):gF a c e=gF b c e:=by
 cases a<;>cases b<;>simp[xw,gF] at h ⊢
 exact h
theorem Qy {a b:Value} (h:xw a b=ao) (c:aW) (n:Nat):jJ a c n↔jJ b c n:=by
 cases a<;>cases b<;>simp[xw,jJ] at h ⊢
theorem aa5 {a:Value} {c0 c1:aW} {e0 n e1 m N0 N1:Nat} (hk:xw a a=ao) (h0:jJ a c0 N0) (h1:jJ a c1 N1) (hn:e0+n≤N0) (hm:e1+m≤N1) :
  jJ a (EG a c0 e0 n c1 e1 m) (n+m)/\∀ e,e<n+m->gF a (EG a c0 e0 n c1 e1 m) e=if e<n then gF a c0 (e0+e) else gF a c1 (e1+(e-n)):=by
 cases a<;>simp only[xw] at hk<;>try (cases hk)
 all_goals
  simp only[jJ] at h0 h1;refine⟨by simp only[jJ,EG,bF];rw[Aw (by omega),Aw (by omega)],fun e he=>?_⟩
  simp only[gF,EG,au]
  by_cases ch:e<n
  ·rw[if_pos ch,cZ (by rw[Aw (by omega)];exact ch),XG ch]
  ·rw[if_neg ch,dS (by rw[Aw (by omega)];omega),Aw (by omega),XG (by omega)]
def mL (e0 n e1 m:Nat):List Value->List aW->List aW->List aW
 |t::tm,c0::l0,c1::l1=>EG t c0 e0 n c1 e1 m::mL e0 n e1 m tm l0 l1
 |_,_,_=>[]
theorem Mj {e0 n e1 m:Nat}:∀ {tm:List Value} {l0 l1:List aW},tm.length=l0.length->l0.length=l1.length->(mL e0 n e1 m tm l0 l1).length=l0.length /\
  ∀ (f:Nat) (c:aW),(mL e0 n e1 m tm l0 l1)[f]?=aa c->∃ t c0 c1,tm[f]?=aa t/\l0[f]?=aa c0/\l1[f]?=aa c1/\c=EG t c0 e0 n c1 e1 m
 |[],[],[],_,_=>⟨rfl,fun f c h=>by simp[mL] at h⟩
 |[],_::_,_,h,_=>by simp at h
 |_::_,[],_,h,_=>by simp at h
 |_,[],_::_,_,h=>by simp at h
 |_,_::_,[],_,h=>by simp at h
 |t::tm,c0::l0,c1::l1,h0,h=>by
  obtain⟨h1,h2⟩:=Mj (e0:=e0) (n:=n) (e1:=e1) (m:=m) (tm:=tm) (l0:=l0) (l1:=l1) (by simpa using h0) (by simpa using h)
  refine⟨by simp[mL,h1],fun f c hc=>?_⟩
  cases f with
  |zero =>
   simp only[mL,cd,ct] at hc;exact⟨t,c0,c1,rfl,rfl,rfl,hc.symm⟩
  |succ f =>
   simp only[mL,bH] at hc ⊢;exact h2 f c hc
theorem Gw:∀ (l:List Value) (cur:Array Value) (k j:Nat),k+l.length≤cur.size->(nA cur k l)[j]?=if k≤j/\j<k+l.length then l[j-k]? else cur[j]?
 |[],cur,k,j,h=>by
  simp only[nA,jM];rw[if_neg (by omega)]
 |v::l,cur,k,j,h=>by
  simp only[nA];rw[Gw l _ (k+1) j (by simp at h ⊢;omega),uJ]
  simp only[cy] at h ⊢
  by_cases h1:k+1≤j/\j<k+1+l.length
  ·rw[if_pos h1,if_pos (by omega)]
   rw[show j-k=(j-(k+1))+1 by omega,bH]
  ·rw[if_neg h1]
   by_cases h2:k=j
   ·subst h2;rw[if_pos rfl,if_pos (by omega),if_pos (by omega)]
    simp
   ·rw[if_neg h2,if_neg (by omega)]
section
variable {R:Type} {D:fJ R} {P:Program} {C:Ctx} {ρ:Env} {ft:Nat->Nat->Prop} {w w':World}
def Uu (σ:SS R) (tm:List Value) (y:Operand):Option (Row×Nat×Nat) :=
 match ev σ.tm y with
 |some (.slice aj 0 0)=>match tL tm 0 with
  |some ez=>aa (⟨tm,0,ez⟩,0,0)
  |none=>aj
 |some (.slice (aa ⟨j,e1,aa q⟩) m _) =>
  match rowOf σ.hp[j]? with
  |some r=>if fp (q%1000000) (1000*tm.length)&&xL r.tm tm then aa (r,e1,m) else aj
  |none=>aj
 |_=>aj
theorem acC {h:Hp R} {i:Nat} {r:Row} (hm:HM D C ρ ft h w) (hr:rowOf h[i]?=aa r):(ρ i).nil=ao->(ρ i).cap=0:=by
 intro hz;unfold rowOf at hr;split at hr
 ·rename_i t0 r0 hi;exact(hm.at_ i _ hi).1.2.2.2.2.1 hz
 ·rename_i r0 hi;exact(hm.at_ i _ hi).1.2.2.2.2.1 hz
 ·cases hr
theorem Sb {σ:SS R} {tm:List Value} {y:Operand} {r:Row} {e1 m:Nat} {a:Act} (h:Uu σ tm y=aa (r,e1,m)) (ht:TM ρ σ.hp.length σ.tm a) (hm:HM D C ρ ft σ.hp w) (hv:e1+m≤r.n) (h0:0<tm.length) (Sq:tm.length<1000) :
  r.ez.length=tm.length/\(∀ (f:Nat) (t:Value) (c:aW),tm[f]?=aa t->r.ez[f]?=aa c->jJ t c r.n) /\
  ∃ A c',a.eval y=.slice A m c'/\∃ news:List Value,news.length=m*tm.length/\(∀ w2:World,w2.heap=w.heap->(kA tm.length m (a.eval y)).run P w2=.ok news.toArray w2)/\(∀ v∈news,v.oneCell'=ao) /\
   ∀ (f:Nat) (t:Value) (c:aW) (e:Nat),tm[f]?=aa t->r.ez[f]?=aa c->e<m->news[e*tm.length+f]?=aa (gF t c (e1+e)):=by
 unfold Uu at h;split at h
 ·rename_i ha;split at h
  ·rename_i ez Dz;injection h with h
   injection h with h2 h3
   injection h3 with h3 h4
   subst h2;subst h3;subst h4;obtain⟨c1,c2⟩:=yt Dz;have u_:=(eu ht ha).1;simp only[bS] at u_;refine⟨c1,fun f t c g1 g2=>(c2 f t c g1 g2).1,aj,0,u_,[],by simp,(fun w2 _=>by rw[u_];simp[kA]),(fun v hv=>by cases hv),fun f t c e _ _ he=>by omega⟩
  ·cases h
 ·rename_i j Jb q m' c ha;split at h
  ·rename_i r' hr;split at h
   ·rename_i hc;simp only[aM] at hc;have hq:=cO hc.1;injection h with h
    injection h with h2 h3
    injection h3 with h3 h4
    subst h2;subst h3;subst h4;have hlen:=Az hc.2;obtain⟨g1,g2,g3,g4,g5,g6⟩:=CV hm hr;have H6:=acC hm hr;have u_:=(eu ht ha).1;simp only[bS] at u_;have ux:∀ (f:Nat) (t:Value) (c:aW),tm[f]?=aa t->r'.ez[f]?=aa c->jJ t c r'.n:=fun f t c k1 k2=>by
     have wz:f<r'.tm.length:=by rw[hlen];exact(aT.1 k1).1
     have k3:=bd wz;exact(Qy (FI hc.2 k3 k1) c _).1 (g5 f _ c k3 k2)
    refine⟨by rw[g4,hlen],ux,?_⟩
    have YN:∀ (A:Option Addr) (c':Nat),a.eval y=.slice A m' c'->(m'=0∨A=aa ⟨(ρ j).lI,(ρ j).off+Jb*tm.length,aj⟩)->∃ A c',a.eval y=.slice A m' c'/\∃ news:List Value,news.length=m'*tm.length/\(∀ w2:World,w2.heap=w.heap->(kA tm.length m' (a.eval y)).run P w2=.ok news.toArray w2)/\(∀ v∈news,v.oneCell'=ao) /\
      ∀ (f:Nat) (t:Value) (c:aW) (e:Nat),tm[f]?=aa t->r'.ez[f]?=aa c->e<m'->news[e*tm.length+f]?=aa (gF t c (Jb+e)):=by
     intro A c' hA alD;refine⟨A,c',hA,?_⟩;rcases alD with Xm|hA2
     ·subst Xm;refine⟨[],by simp,fun w2 _=>?_,(fun v hv=>by cases hv),fun f t c e _ _ he=>by omega⟩
      rw[hA];cases A<;>simp[kA,loadCells,loadCellsFrom]
     ·subst hA2;refine⟨(List.range (m'*tm.length)).map fun k=>match r'.tm[k%tm.length]?,r'.ez[k%tm.length]? with|some t,aa c=>gF t c (Jb+k / tm.length)|_,_=>undef,by simp,?_,?_,?_⟩
      ·intro w2 Vd;rw[hA];refine run_firstCells_some w2 tm.length m' _ m' c' _ (by simp) (fun k v hk=>?_)
       have Vy:k<m'*tm.length:=by have:=(aT.1 hk).1;simpa using this
       simp only[fh,sJ Vy,j_,ct] at hk;have Ro:k%tm.length<r'.tm.length:=by rw[hlen];exact Qd _ h0
       have Tf:k%tm.length<r'.ez.length:=by rw[g4];exact Ro
       have q1:=bd Ro;have q2:=bd Tf;rw[q1,q2] at hk;have hdiv:k / tm.length<m':=Nat.div_lt_of_lt_mul (by rw[Wt];exact Vy)
       have:=g6 _ _ _ (Jb+k / tm.length) q1 q2 (by omega)
       rw[A' (w:=w) (by rw[Vd]),pN,← hk,← this]
       have hdm:k / tm.length*tm.length+k%tm.length=k:=by rw[Wt];exact Nat.div_add_mod k tm.length
       congr 2
       rw[hlen,ij,jg,jg,hdm]
      ·intro v hv;obtain⟨k,hk,rfl⟩:=pb.1 hv;have Ro:k%tm.length<r'.tm.length:=by rw[hlen];exact Qd _ h0
       have Tf:k%tm.length<r'.ez.length:=by rw[g4];exact Ro
       rw[bd Ro,bd Tf];exact W5 (g5 _ _ _ (bd Ro) (bd Tf)) _
      ·intro f t c e k1 k2 he;have wz:f<tm.length:=(aT.1 k1).1;have ch:e*tm.length+f<m'*tm.length:=by
        have:=jq tm.length (show e+1≤m' from he)
        rw[ij,qv] at this;omega
       have d1:(e*tm.length+f)%tm.length=f:=by rw[sE,v8,Fl wz]
       have d2:(e*tm.length+f) / tm.length=e:=by rw[sE,z5 _ _ h0,Fk wz,bU]
       have k3:=bd (show f<r'.tm.length by rw[hlen];exact wz)
       simp only[fh,sJ ch,j_,d1,d2,k3,k2];rw[Sg (FI hc.2 k3 k1)]
    have e1:q%1000000 / 1000=tm.length:=by omega
    have e2:q%1000=0:=by omega
    unfold lK at u_;simp only at u_
    by_cases hn:(ρ j).nil=ao
    ·rw[if_pos hn] at u_;exact YN _ _ u_ (dK (by have:=H6 hn;omega))
    ·rw[if_neg hn] at u_
     by_cases hex:q / 1000000≠0/\(ρ j).cap≤Jb
     ·rw[if_pos hex] at u_;exact YN _ _ u_ (dK (by omega))
     ·rw[if_neg hex] at u_;refine YN _ _ u_ (e7 ?_);simp only[iI,cellOf,e1,e2,gR]
   ·cases h
  ·cases h
 ·cases h
section
variable (w:World)
theorem W3 {t t2 ty e:TypeId} {i:TypeInfo} {el2:TypeId} (ht:P.underlying t=aa (.slice e)) (ht2:P.underlying t2=aa (.slice el2)) (hi:P.info? e=aa i) {g o sLen sCap m c:Nat} {A:Option Addr} {cur:Array Value} {news:List Value}
  (hg:w.heap[g]?=aa (.cells cur e (0,0))) (hf:(kA i.size m (.slice A m c)).run P w=.ok news.toArray w) (h1:∀ u∈news,u.oneCell'=ao) (TF:sLen+m≤sCap) (EX:o+sLen*i.size+news.length≤cur.size) :
  (tA #[t,t2] ty #[.slice (aa ⟨g,o,aj⟩) sLen sCap,.slice A m c]).run P w=.ok (.slice (aa ⟨g,o,aj⟩) (sLen+m) sCap) (w.setRow g (nA cur (o+sLen*i.size) news)):=by
 have yq:=yC (P:=P) g (o+sLen*i.size) e news 0 cur w hg (by simpa using EX) h1
 simp only[gR] at yq;simp[tA,run_underlying ht,run_underlying ht2,sizeOf,typeInfo,hi,Df,TF,hf,pN,yq]
theorem Mt {t t2 ty e:TypeId} {i:TypeInfo} {z:Value} {el2:TypeId} (ht:P.underlying t=aa (.slice e)) (ht2:P.underlying t2=aa (.slice el2)) (hi:P.info? e=aa i) (hz:i.zero=aa z) {sLen sCap m c:Nat} {A B:Option Addr} {olds news:List Value}
  (hf0:(kA i.size sLen (.slice B sLen sCap)).run P w.drew=.ok olds.toArray w.drew) (hf:(kA i.size m (.slice A m c)).run P w.drew=.ok news.toArray w.drew)
  (hg:sCap<sLen+m) (h63:sLen+m≤140737488355328) (EX:(sLen+m)*i.bytes≤140737488355328) :
  (tA #[t,t2] ty #[.slice B sLen sCap,.slice A m c]).run P w =
   .ok (.slice (aa ⟨w.heap.size,0,aj⟩) (sLen+m) (grownCap w (sLen+m) sCap e)) (w.drew.alloc (.cells (olds++news++(pq z.cells (grownCap w (sLen+m) sCap e-(sLen+m))).toList).toArray e)):=by
 have hn:¬ (sLen+m≤sCap):=by omega
 have anz:¬ (9223372036854775807<((sLen:Int)+(m:Int))):=by omega
 have h48:=growslice_fits (need:=sLen+m) (old:=sCap) (bytes:=i.bytes) hg EX;have anh:¬ (281474976710656<Builtin.nextslicecap (sLen+m) sCap*i.bytes):=by omega
 simp[tA,run_underlying ht,run_underlying ht2,sizeOf,typeInfo,zeroValue,hi,hz,Df,hn,anz,anh,Question.forced,hf,hf0,newRow,grownCap]
 congr 2
 apply qu;simp[rG]
end
theorem HM.Yu {h:Hp R} (hm:HM D C ρ ft h w) (i:Nat) (t:TypeId) (r:Row) (p:Place) (hk:Kept (ft i) w w') (hp:p.nil=an) (ai7:(ft i p.lI∨w.heap.size≤p.lI)/\p.lI<w'.heap.size) (h0:0<r.tm.length) (hn:r.n≤p.cap) (hc:p.cap≤maxLen)
  (arr:Array Value) (Gs:w'.heap[p.lI]?=aa (.cells arr t (0,0))) (hs:arr.size=p.off+p.cap*r.tm.length) (hr:n8 r arr p.off) :
  HM D C (qi ρ h.length p) (qi (qi ft i (fun _=>False)) h.length (fun k=>k=p.lI)) (h.set i aj++[aa (.inr (.inl (t,r)))]) w':=by
 have key:∀ l k,h.length≤l->qi (qi ft i (fun _=>False)) h.length (fun k=>k=p.lI) l k->l=h.length/\k=p.lI:=fun l k hl uC=>by
  by_cases he:l=h.length
  ·subst he;rw[jf] at uC;exact⟨rfl,uC⟩
  ·rw[vT _ _ _ he] at uC
   by_cases iy:l=i
   ·subst iy;rw[jf] at uC;exact uC.elim
   ·rw[vT _ _ _ iy] at uC;obtain⟨B',jB⟩:=hm.some_ l k uC;have:=(aT.1 jB).1;omega
 have aih:∀ k,i<h.length->¬ qi (qi ft i (fun _=>False)) h.length (fun k=>k=p.lI) i k:=fun k hi hk=>by
  rw[vT _ _ _ (by omega),jf] at hk;exact hk
 refine hm.step (fun j=>j=i) (hk.mono fun k hk=>⟨i,rfl,hk⟩) (fun j hj=>oi _ _ _ hj) (by simp) ?_ ?_ ?_ ?_
 ·intro j B' hj jB;rcases cr j h.length with hl|j6
  ·have:=hj hl;subst this;rw[cZ (by simpa using hl),jW hl] at jB
   injection jB with jB;cases jB
  ·have:j=h.length:=by
    rcases cr h.length j with ch|hle
    ·rw[dc (by simp;omega)] at jB;cases jB
    ·omega
   subst this;rw[dS (by simp)] at jB
   simp at jB;subst jB;refine⟨?_,trivial⟩;simp only[hold,jf];exact⟨fun k=>by simp[hp],h0,hn,hc,(fun hz=>by rw[hp] at hz;cases hz),arr,fun _=>⟨Gs,hs⟩,hr⟩
 ·intro j hj kz;refine⟨by rw[cZ (by simpa using hj),kv (fun e=>kz e.symm)],fun k=>by rw[oi _ _ _ hj,vT _ _ _ kz]⟩
 ·intro j k hj nx;rcases cr j h.length with hl|j6
  ·have:=hj hl;subst this;exact absurd nx (aih k hl)
  ·obtain⟨rfl,rfl⟩:=key j k j6 nx;refine⟨ai7.1.imp (fun hh=>⟨i,rfl,hh⟩) id,ai7.2,_,dS (by simp) |>.trans (by simp;rfl)⟩
 ·intro a b k ha hb hka hkb;have red:∀ l,(l<h.length->l=i)->qi (qi ft i (fun _=>False)) h.length (fun k=>k=p.lI) l k->l=h.length:=fun l hl uC=>by
   rcases cr l h.length with ch|j6
   ·have:=hl ch;subst this;exact absurd uC (aih k ch)
   ·exact(key l k j6 uC).1
  rw[red a ha hka,red b hb hkb]
theorem RZ {a b:Value} (h:xw a b=ao):xw a a=ao:=by
 cases a<;>cases b<;>simp[xw] at h ⊢
theorem Hi {Ov tm:List Value} {Ix HP:List aW} {e0 n e1 m N0 N1 o:Nat} {arr:Array Value} (hl:xL Ov tm=ao) (Dj:Ix.length=Ov.length) (OQ:HP.length=tm.length)
  (h0:∀ (f:Nat) (t:Value) (c:aW),Ov[f]?=aa t->Ix[f]?=aa c->jJ t c N0) (h1:∀ (f:Nat) (t:Value) (c:aW),tm[f]?=aa t->HP[f]?=aa c->jJ t c N1) (hn:e0+n≤N0) (hm:e1+m≤N1)
  (g0:∀ (f:Nat) (t:Value) (c:aW) (e:Nat),Ov[f]?=aa t->Ix[f]?=aa c->e<n->arr[o+(e*tm.length+f)]?=aa (gF t c (e0+e)))
  (g1:∀ (f:Nat) (t:Value) (c:aW) (e:Nat),tm[f]?=aa t->HP[f]?=aa c->e<m->arr[o+((n+e)*tm.length+f)]?=aa (gF t c (e1+e))) :
  n8 ⟨Ov,n+m,mL e0 n e1 m Ov Ix HP⟩ arr o:=by
 have hlen:=Az hl;obtain⟨k1,k2⟩:=Mj (e0:=e0) (n:=n) (e1:=e1) (m:=m) (tm:=Ov) (l0:=Ix) (l1:=HP) Dj.symm (by rw[Dj,OQ,hlen])
 have main:∀ (f:Nat) (t:Value) (c:aW),Ov[f]?=aa t->(mL e0 n e1 m Ov Ix HP)[f]?=aa c->∃ t' c0 c1,tm[f]?=aa t'/\Ix[f]?=aa c0/\HP[f]?=aa c1/\c=EG t c0 e0 n c1 e1 m/\xw t t'=ao:=fun f t c ht hc=>by
  obtain⟨t2,c0,c1,qt,q0,q1,rfl⟩:=k2 f c hc;rw[ht] at qt;injection qt with qt
  subst qt;have wz:f<tm.length:=by rw[← hlen];exact(aT.1 ht).1
  exact⟨_,c0,c1,bd wz,q0,q1,rfl,FI hl ht (bd wz)⟩
 refine⟨by rw[k1,Dj],fun f t c ht hc=>?_,fun f t c e ht hc he=>?_⟩
 ·obtain⟨t',c0,c1,q,q0,q1,rfl,hk⟩:=main f t c ht hc;exact(aa5 (RZ hk) (h0 f t c0 ht q0) ((Qy hk c1 _).2 (h1 f t' c1 q q1)) hn hm).1
 ·obtain⟨t',c0,c1,q,q0,q1,rfl,hk⟩:=main f t c ht hc;simp only at he ⊢;rw[(aa5 (RZ hk) (h0 f t c0 ht q0) ((Qy hk c1 _).2 (h1 f t' c1 q q1)) hn hm).2 e he,hlen]
  by_cases ch:e<n
  ·rw[if_pos ch];exact g0 f t c0 e ht q0 ch
  ·rw[if_neg ch];have:=g1 f t' c1 (e-n) q q1 (by omega)
   rw[show n+(e-n)=e by omega] at this
   rw[this,Sg hk]
theorem Iw {n m s:Nat} {olds news zs:List Value} (h0:olds.length=n*s) (h1:news.length=m*s):∀ (f e:Nat),f<s ->
  (e<n->(olds++news++zs).toArray[0+(e*s+f)]?=olds[e*s+f]?)/\(e<m->(olds++news++zs).toArray[0+((n+e)*s+f)]?=news[e*s+f]?):=by
 intro f e hf;refine⟨fun he=>?_,fun he=>?_⟩
 ·have:=jq s (show e+1≤n from he)
  rw[ij,qv] at this;rw[bU,jD,rG,cZ (by omega)]
 ·have:=jq s (show e+1≤m from he)
  rw[ij,qv] at this;rw[bU,jD,rG,dS (by rw[h0,ij];omega),cZ (by rw[h0,ij];omega)]
  congr 1
  rw[h0,ij];omega
def need (tagged:Bool) (m:Nat) (p:Prop):Prop :=
 match tagged with
 |true=>p
 |false=>0<m/\p
theorem aey {b:Bool} {m:Nat} {p:Prop} (h:need b m p):(b=an->0<m)/\p:=by
 cases b with
 |true=>exact⟨(fun h=>by cases h),h⟩
 |false=>exact⟨fun _=>h.1,h.2⟩
def yI (P:Program) (σ:SS R) (t t2:TypeId) (y z:Operand):Option (Out R) :=
 match elemOf P t,P.underlying t2 with
 |some (el,tm,Dp),aa (.slice _) =>
  match Uu σ tm z,ev σ.tm y with
  |some (r1,e1,m),aa (.slice aj 0 0) =>
   match tL tm 0 with
   |some zc=>aa ⟨e1+m≤r1.n/\m*Dp≤140737488355328/\m≤140737488355328,.slice (aa ⟨σ.hp.length,0,aa (1000*tm.length)⟩) (0+m) 0,aj,σ.hp++[aa (.inr (.inl (el,⟨tm,0+m,mL 0 0 e1 m tm zc r1.ez⟩)))],[],[(σ.hp.length,0)]⟩
   |none=>aj
  |some (r1,e1,m),aa (.slice (aa ⟨i,e0,aa q⟩) n _) =>
   match σ.hp[i]? with
   |some (aa (.inr (.inl (t',r)))) =>
    if fp (q%1000000) (1000*tm.length)&&xL r.tm tm&&fp t' el then
     aa ⟨need (gQ q 1000000) m (e0+n≤r.n/\e1+m≤r1.n/\(n+m)*Dp≤140737488355328/\n+m≤140737488355328),.slice (aa ⟨σ.hp.length,0,aa (1000*tm.length)⟩) (n+m) 0,aj,
      σ.hp.set i aj++[aa (.inr (.inl (el,⟨r.tm,n+m,mL e0 n e1 m r.tm r.ez r1.ez⟩)))],[],[(i,0),(σ.hp.length,0)]⟩
    else aj
   |_=>aj
  |_,_=>aj
 |_,_=>aj
theorem Jm:∀ {tm:List Value} {n:Nat} {ez:List aW},tL tm n=aa ez->xL tm tm=ao
 |[],_,_,_=>rfl
 |t::tm,n,ez,h=>by
  simp only[tL] at h;split at h
  ·rename_i c r hc hr;simp only[xL,aM];refine⟨?_,Jm hr⟩;cases t<;>simp[Lf,xw] at hc ⊢
  ·cases h
theorem ED (z:Array Value) (n:Nat):(pq z n).toList.length=n*z.size:=by rw[wu,size_zeroCells]
theorem W9 {σ:SS R} {o:Oper} {t t2:TypeId} {y z:Operand} {x:Out R} (ho:o.op=.call { callee:=.builtin .append,args:=#[y,z],argTypes:=#[t,t2] }) (h:yI P σ t t2 y z=aa x):mb D P o σ x:=by
 unfold yI at h;split at h
 ·rename_i el tm Dp el2 he hu2;obtain⟨inf,zv,hu,hi,hz,Bq,ny,hby,wz,h0,Sq⟩:=zF he;have JA:zv.cells.size=tm.length:=by rw[← Bq];simp
  have Jb:1000*tm.length / 1000000=0:=by omega
  have e2':1000*tm.length%1000=0:=by omega
  split at h
  ·rename_i r1 e1 m Vm hy;split at h
   ·rename_i zc hzc;injection h with h
    subst h;refine⟨fun C ρ ft a w K Q ht iy hm hv hK=>?_,by simp,fun _ b hb=>by cases hb⟩
    obtain⟨v0,v1,v2⟩:=hv;obtain⟨s1,s2,A,c',s3,news,s4,s5,s6,s7⟩:=Sb Vm ht hm v0 h0 Sq;obtain⟨c1,c2⟩:=yt hzc;have Ao:=(eu ht hy).1;simp only[bS] at Ao;have afq:xL tm tm=ao:=Jm hzc
    by_cases Xm:m=0
    ·subst Xm;have nN:(execOp a.eval o).run P w=.ok (.value (.slice aj 0 0)) w:=by
      have hf:=s5 w rfl;rw[s3] at hf;simp only[execOp,ho,resolve,invoke,builtin,dA,dV,cA,vu,gw,uK,Ao,s3];have uo:news=[]:=iS (by omega)
      subst uo;simp[tA,run_underlying hu,run_underlying hu2,sizeOf,typeInfo,hi,Df,ny];rw[hf];rfl
     have wk:n8 ⟨tm,0+0,mL 0 0 e1 0 tm zc r1.ez⟩ #[] 0 :=
      Hi afq c1 s1 (fun f t c g1 g2=>(c2 f t c g1 g2).1) s2 (a_ 0) v0 (fun f t c e _ _ he=>by omega) (fun f t c e _ _ he=>by omega)
     have hp:=hm.Ra el ⟨tm,0+0,mL 0 0 e1 0 tm zc r1.ez⟩ h0 rfl wk.len wk.I_ 0 0;have:=hK _ _ _ (fun i hi=>oi ρ σ.hp.length ⟨0,0,0,ao⟩ hi) hp
     refine rn nN ?_
     simpa [bS,lK,jf] using this
    ·have hf:=s5 w.drew rfl;rw[s3] at hf;have nN:(execOp a.eval o).run P w=.ok (.value (.slice (aa ⟨w.heap.size,0,aj⟩) (0+m) (grownCap w (0+m) 0 el))) (w.drew.alloc (.cells ([]++news++(pq zv.cells (grownCap w (0+m) 0 el-(0+m))).toList).toArray el)):=by
      have hr:=Mt (P:=P) (t:=t) (t2:=t2) (ty:=o.type) w hu hu2 hi hz (sLen:=0) (sCap:=0) (m:=m) (c:=c') (A:=A) (B:=aj) (olds:=[]) (news:=news) (by simp[kA]) (by rw[ny];exact hf) (by omega) (by omega) (by rw[hby,bU];exact v1)
      simp only[execOp,ho,resolve,invoke,builtin,dA,dV,cA,vu,gw,uK,Ao,s3,hr]
     have MM:=grownCap_ge w (0+m) 0 el;have YW:=grownCap_le_maxLen w (0+m) 0 el (by unfold maxLen;omega)
     have wk:n8 ⟨tm,0+m,mL 0 0 e1 m tm zc r1.ez⟩ ([]++news++(pq zv.cells (grownCap w (0+m) 0 el-(0+m))).toList).toArray 0:=by
      refine Hi afq c1 s1 (fun f t c g1 g2=>(c2 f t c g1 g2).1) s2 (a_ 0) v0 (fun f t c e _ _ he=>by omega) (fun f t c e g1 g2 he=>?_)
      have BW:f<tm.length:=(aT.1 g1).1;rw[(Iw (n:=0) (m:=m) (s:=tm.length) (by simp) s4 f e BW).2 he]
      exact s7 f t c e g1 g2 he
     have hp:=hm.drew.RN el ⟨tm,0+m,mL 0 0 e1 m tm zc r1.ez⟩ _ (grownCap w (0+m) 0 el) h0 MM YW (by
      simp only[List.nil_append,Dr,bF,s4,ED,JA,← ij]
      congr 1;omega) wk
     have:=hK _ _ _ (fun i hi=>oi ρ σ.hp.length ⟨w.heap.size,0,grownCap w (0+m) 0 el,an⟩ hi) hp
     refine rn nN ?_
     simpa [bS,lK,iI,jf,cellOf,Jb,e2'] using this
   ·cases h
  ·rename_i r1 e1 m i e0 q n c Vm hy;split at h
   ·rename_i t' r hir;split at h
    ·rename_i hc;simp only[aM] at hc;have hq:=cO hc.1.1;have TO:=hc.1.2;have hte:=cO hc.2;subst hte;have hlen:=Az TO;have sh:q%1000000 / 1000=tm.length:=by omega
     have FP:q%1000=0:=by omega
     injection h with h
     subst h;refine⟨fun C ρ ft a w K Q ht iy hm hv hK=>?_,by simp,fun _ b hb=>by cases hb⟩
     obtain⟨v0,v1,v2,v3,v4⟩:=aey hv;obtain⟨s1,s2,A,c',s3,news,s4,s5,s6,s7⟩:=Sb Vm ht hm v2 h0 Sq;obtain⟨Ao,hy2⟩:=eu ht hy;simp only[bS] at Ao;simp only[fv,aM,fe] at hy2;have CR:i<σ.hp.length:=hy2.1;obtain⟨g1,g2,g3,g4,g4',arr,g5,g6⟩:=(hm.at_ i _ hir).1;have jT:¬ gQ q 1000000=ao->1≤q / 1000000:=fun hh=>by
      have:¬ q<1000000:=fun ch=>hh (by rw[fe];exact ch)
      omega
     have hqt:q / 1000000≠0->0<m:=fun hh=>v0 (by
      cases hb:gQ q 1000000 with
      |false=>rfl
      |true=>rw[fe] at hb;omega)
     have h0':0<r.tm.length:=g2
     have grow:∀ (B:Option Addr) (B_:Nat) (olds:List Value),a.eval y=.slice B n B_->olds.length=n*tm.length->(∀ w2:World,w2.heap=w.heap->(kA tm.length n (.slice B n B_)).run P w2=.ok olds.toArray w2) ->
       (∀ (f:Nat) (t:Value) (c:aW) (e:Nat),r.tm[f]?=aa t->r.ez[f]?=aa c->e<n->olds[e*tm.length+f]?=aa (gF t c (e0+e)))->B_<n+m->o.wp P a w K Q:=by
      intro B B_ olds hB hol hof hog ch;have hf:=s5 w.drew rfl;rw[s3] at hf;have hr:=Mt (P:=P) (t:=t) (t2:=t2) (ty:=o.type) w hu hu2 hi hz (sLen:=n) (sCap:=B_) (m:=m) (c:=c') (A:=A) (B:=B) (olds:=olds) (news:=news) (by rw[ny];exact hof w.drew rfl) (by rw[ny];exact hf) ch (by omega) (by rw[hby];exact v3)
      have nN:(execOp a.eval o).run P w=.ok (.value (.slice (aa ⟨w.heap.size,0,aj⟩) (n+m) (grownCap w (n+m) B_ t'))) (w.drew.alloc (.cells (olds++news++(pq zv.cells (grownCap w (n+m) B_ t'-(n+m))).toList).toArray t')):=by
       simp only[execOp,ho,resolve,invoke,builtin,dA,dV,cA,vu,gw,uK,hB,s3,hr]
      have MM:=grownCap_ge w (n+m) B_ t';have YW:=grownCap_le_maxLen w (n+m) B_ t' (by unfold maxLen;omega)
      have wk:n8 ⟨r.tm,n+m,mL e0 n e1 m r.tm r.ez r1.ez⟩ (olds++news++(pq zv.cells (grownCap w (n+m) B_ t'-(n+m))).toList).toArray 0:=by
       refine Hi TO g6.len s1 g6.I_ s2 v1 v2 (fun f t c e k1 k2 he=>?_) (fun f t c e k1 k2 he=>?_)
       ·have BW:f<tm.length:=by rw[← hlen];exact(aT.1 k1).1
        rw[(Iw hol s4 f e BW).1 he];exact hog f t c e k1 k2 he
       ·have BW:f<tm.length:=(aT.1 k1).1;rw[(Iw hol s4 f e BW).2 he];exact s7 f t c e k1 k2 he
      have hp:=hm.Yu (w':=w.drew.alloc (.cells (olds++news++(pq zv.cells (grownCap w (n+m) B_ t'-(n+m))).toList).toArray t')) i t' ⟨r.tm,n+m,mL e0 n e1 m r.tm r.ez r1.ez⟩ ⟨w.heap.size,0,grownCap w (n+m) B_ t',an⟩ ((Kept.refl _ _).drew.alloc _) rfl ⟨e7 (a_ _),by simp⟩ h0' MM YW _ (heap_alloc_new w.drew _) (by
       simp only[Dr,bF,hol,s4,ED,JA,hlen,← ij,bU]
       congr 1;omega) wk
      have:=hK _ _ _ (fun j hj=>oi ρ σ.hp.length ⟨w.heap.size,0,grownCap w (n+m) B_ t',an⟩ hj) hp
      refine rn nN ?_
      simpa [bS,lK,iI,jf,cellOf,Jb,e2'] using this
     unfold lK at Ao;simp only at Ao
     by_cases hn:(ρ i).nil=ao
     ·rw[if_pos hn] at Ao;have ao6:=g4' hn;have uo:n=0:=by omega
      subst uo
      by_cases Xm:m=0
      ·subst Xm;have nN:(execOp a.eval o).run P w=.ok (.value (.slice aj 0 0)) w:=by
        have hf:=s5 w rfl;rw[s3] at hf;simp only[execOp,ho,resolve,invoke,builtin,dA,dV,cA,vu,gw,uK,Ao,s3];have uo:news=[]:=iS (by omega)
        subst uo;simp[tA,run_underlying hu,run_underlying hu2,sizeOf,typeInfo,hi,Df,ny];rw[hf];rfl
       have wk:n8 ⟨r.tm,0+0,mL e0 0 e1 0 r.tm r.ez r1.ez⟩ #[] 0 :=
        Hi TO g6.len s1 g6.I_ s2 v1 v2 (fun f t c e _ _ he=>by omega) (fun f t c e _ _ he=>by omega)
       have hp:=(hm.drop i).Ra t' ⟨r.tm,0+0,mL e0 0 e1 0 r.tm r.ez r1.ez⟩ h0' rfl wk.len wk.I_ 0 0;rw[fb] at hp;have:=hK _ _ _ (fun i hi=>oi ρ σ.hp.length ⟨0,0,0,ao⟩ hi) hp
       refine rn nN ?_
       simpa [bS,lK,jf] using this
      ·exact grow aj 0 [] Ao (by simp) (fun w2 _=>by simp[kA]) (fun f t c e _ _ he=>by omega) (by omega)
     ·have Ye:(ρ i).nil=an:=by simpa using hn
      obtain⟨g7,g8⟩:=g5 Ye;rw[if_neg hn] at Ao
      by_cases hex:q / 1000000≠0/\(ρ i).cap≤e0
      ·rw[if_pos hex] at Ao;have Xm:=hqt hex.1;have uo:n=0:=by omega
       subst uo;exact grow _ 0 [] Ao (by simp) (fun w2 _=>by simp[kA,loadCells,loadCellsFrom]) (fun f t c e _ _ he=>by omega) (by omega)
      ·rw[if_neg hex] at Ao;have hA:iI ρ ⟨i,e0,aa q⟩=⟨(ρ i).lI,(ρ i).off+e0*tm.length,aj⟩:=by simp only[iI,cellOf,sh,FP,gR]
       rw[hA] at Ao;rw[hlen] at g8
       by_cases TF:n+m≤(ρ i).cap-e0
       ·have hf:=s5 w rfl;rw[s3] at hf;have hmul:(e0+n+m)*tm.length≤(ρ i).cap*tm.length:=jq _ (by omega)
        rw[ij,ij] at hmul;have EX:(ρ i).off+e0*tm.length+n*tm.length+news.length≤arr.size:=by rw[s4,g8];omega
        have hr:=W3 (P:=P) (t:=t) (t2:=t2) (ty:=o.type) w hu hu2 hi (g:=(ρ i).lI) (o:=(ρ i).off+e0*tm.length) (sLen:=n) (sCap:=(ρ i).cap-e0) (m:=m) (c:=c') (A:=A) (cur:=arr) (news:=news) g7 (by rw[ny];exact hf) s6 TF (by rw[ny];exact EX)
        rw[ny] at hr;have nN:(execOp a.eval o).run P w=.ok (.value (.slice (aa ⟨(ρ i).lI,(ρ i).off+e0*tm.length,aj⟩) (n+m) ((ρ i).cap-e0))) (w.setRow (ρ i).lI (nA arr ((ρ i).off+e0*tm.length+n*tm.length) news)):=by
         simp only[execOp,ho,resolve,invoke,builtin,dA,dV,cA,vu,gw,uK,Ao,s3,hr]
        have wk:n8 ⟨r.tm,n+m,mL e0 n e1 m r.tm r.ez r1.ez⟩ (nA arr ((ρ i).off+e0*tm.length+n*tm.length) news) ((ρ i).off+e0*tm.length):=by
         refine Hi TO g6.len s1 g6.I_ s2 v1 v2 (fun f t c e k1 k2 he=>?_) (fun f t c e k1 k2 he=>?_)
         ·have BW:f<tm.length:=by rw[← hlen];exact(aT.1 k1).1
          have hle:=jq tm.length (show e+1≤n from he)
          rw[ij,qv] at hle;rw[Gw _ _ _ _ EX,if_neg (by omega)]
          have:=g6.cell f t c (e0+e) k1 k2 (by omega)
          rw[hlen,ij] at this;rw[← this]
          congr 1
          omega
         ·have BW:f<tm.length:=(aT.1 k1).1;have hle:=jq tm.length (show e+1≤m from he)
          rw[ij,qv] at hle;rw[Gw _ _ _ _ EX,ij,if_pos (by rw[s4];omega)]
          rw[← s7 f t c e k1 k2 he]
          congr 1
          omega
        have hp:=hm.Yu (w':=w.setRow (ρ i).lI (nA arr ((ρ i).off+e0*tm.length+n*tm.length) news)) i t' ⟨r.tm,n+m,mL e0 n e1 m r.tm r.ez r1.ez⟩ ⟨(ρ i).lI,(ρ i).off+e0*tm.length,(ρ i).cap-e0,an⟩
         (Gy _ _ _ ((g1 _).2 ⟨Ye,rfl⟩)) rfl ⟨dK ((g1 _).2 ⟨Ye,rfl⟩),by
          have:=hm.lt i _ ((g1 _).2 ⟨Ye,rfl⟩)
          simpa [Fj] using this⟩ h0' TF (by simp only;omega) _ (setRow_heap w _ _ _ _ _ g7) (by
           have hcm:e0*tm.length+((ρ i).cap-e0)*tm.length=(ρ i).cap*tm.length:=by rw[← ij];congr 1;omega
           rw[EY,g8,hlen];simp only;omega) wk
        have:=hK _ _ _ (fun j hj=>oi ρ σ.hp.length ⟨(ρ i).lI,(ρ i).off+e0*tm.length,(ρ i).cap-e0,an⟩ hj) hp
        refine rn nN ?_
        simpa [bS,lK,iI,jf,cellOf,Jb,e2'] using this
       ·have hmul:(e0+n)*tm.length≤(ρ i).cap*tm.length:=jq _ (by omega)
        rw[ij] at hmul;refine grow _ _ ((arr.toList.drop ((ρ i).off+e0*tm.length)).take (n*tm.length)) Ao (by simp;omega) (fun w2 Vd=>?_) (fun f t c e k1 k2 he=>?_) (by omega)
        ·refine run_firstCells_some w2 tm.length n _ n _ _ (by simp;omega) (fun j v hj=>?_)
         rw[A' (w:=w) (by rw[Vd]),pN,cell_of_row w _ _ arr _ _ g7]
         have UN:j<n*tm.length:=by have:=(aT.1 hj).1;simp at this;omega
         simpa [oF,UN,oH] using hj
        ·have BW:f<tm.length:=by rw[← hlen];exact(aT.1 k1).1
         have hle:=jq tm.length (show e+1≤n from he)
         rw[ij,qv] at hle;have:=g6.cell f t c (e0+e) k1 k2 (by omega)
         rw[hlen,ij] at this;rw[oF,if_pos (by omega),oH,← this]
         simp only[Array.getElem?_toList]
         congr 1
         omega
    ·cases h
   ·cases h
  ·cases h
 ·cases h
end
end Rx
namespace Rx
open Go.RowKit State
abbrev Prim (R:Type):=List Value->Hp R->Option (Out R)
structure je (R:Type) where
 when:List Value->Hp R->Option Bool
 yes:Prim R
 no:Prim R
def je.go {R:Type} (c:je R) (b:Bool):Prim R :=
 match b with
 |true=>c.yes
 |false=>c.no
def a9 {R:Type} (p:Prim R):je R:=⟨fun _ _=>aj,p,fun _ _=>aj⟩
abbrev eJ (R:Type):=List (FuncId×je R)
def Gf {R:Type}:eJ R->FuncId->Option (je R)
 |[],_=>aj
 |(g,p)::l,f=>if fp g f then aa p else Gf l f
def findF {R:Type} (T:eJ R) (f:FuncId):Option (je R):=if fp f 1000000000 then aj else Gf T f
def RC {R:Type} (D:fJ R) (c:je R):Prop:=((c.no [] []).isSome=ao->∀ X p F w,D.H X p F w->F p.lI/\∃ ca ta,w.heap[p.lI]?=aa (.cells ca ta (0,0)))/\∀ e X x p F w,c.yes [.pointer (aa ⟨0,e,aj⟩)] [aa (.inr (.inr (.inr X)))]=aa x->D.H X p F w->flat x.v=ao/\w.cell? ⟨p.lI,p.off+e,aj⟩=aa x.v
structure rz {R:Type} (D:fJ R) (P:Program) (f:FuncId) (on:List Value->Hp R->Prop) (p:Prim R):Prop where
 known : ∃ fn, P.funcs[f]? = aa fn ∧ (fn.name == "runtime.NumGoroutine") = an ∧ fn.body.isNone = an
 run:∀ args h x,on args h->p args h=aa x->∀ C ρ ft w,HM D C ρ ft h w->x.vc->iC h.length args=ao ->
  Calls P f (args.map (bS ρ)).toArray w fun e w'=>∃ gx ky,(∀ i,i<h.length->gx i=ρ i)/\e=.returned (bS gx x.v)/\HM D C gx ky x.hp w'
 len:∀ args h x,p args h=aa x->h.length≤x.hp.length
 lit:∀ args h x,p args h=aa x->∀ b,x.lit=aa b->x.v=.bool b
 still:∀ args h x,p args h=aa x->x.wr=[]->x.hp=h
def rU {R:Type} (c:je R) (b:Bool) (args:List Value) (h:Hp R):Prop:=(c.when args h=aj/\b=ao)∨c.when args h=aa b
def b9 {R:Type} (D:fJ R) (P:Program) (f:FuncId) (c:je R):Prop:=∀ b,rz D P f (rU c b) (c.go b)
theorem pZ {R:Type} {D:fJ R} {P:Program} {f:FuncId} {p:Prim R} (h:rz D P f (fun _ _=>True) p):b9 D P f (a9 p):=by
 intro b;cases b with
 |true=>exact⟨h.known,fun args hh x _=>h.run args hh x trivial,h.len,h.lit,h.still⟩
 |false=>exact⟨h.known,(fun _ _ _ _ hx=>by cases hx),(fun _ _ _ hx=>by cases hx),(fun _ _ _ hx=>by cases hx),(fun _ _ _ hx=>by cases hx)⟩
def H_:List (Nat×Nat)->Nat->Bool
 |[],_=>an
 |p::l,b=>fp p.1 b||H_ l b
def Pz (wr:List (Nat×Nat)) (b:Nat):Bool :=
 match wr with
 |(0,1)::l=>!H_ l b
 |_=>an
structure GS {R:Type} (D:fJ R) (P:Program) (f:FuncId) (c:je R):Prop where
 ok:b9 D P f c
 IJ:∀ b args h x,c.go b args h=aa x->∀ i,i<h.length->Pz x.wr i=ao->x.hp[i]?=h[i]?
def cN {R:Type} (D:fJ R) (P:Program):eJ R->Prop
 |[]=>True
 |(f,c)::l=>(match fp f 1000000000 with
  |true=>RC D c
  |false=>GS D P f c)/\cN D P l
section
variable {R:Type} {D:fJ R} {P:Program} {T:eJ R} {C:Ctx} {ρ:Env} {ft:Nat->Nat->Prop} {w w':World}
theorem Uw (hT:cN D P T) {f:FuncId} {p:je R} (h:Gf T f=aa p):match fp f 1000000000 with
  |true=>RC D p
  |false=>GS D P f p:=by
 induction T with
 |nil=>cases h
 |cons a l ih =>
  obtain⟨g,q⟩:=a;simp only[Gf] at h;split at h
  ·rename_i hb;have:=cO hb;subst this;injection h with h
   subst h;exact hT.1
  ·exact ih hT.2 h
theorem B2 (hT:cN D P T) {f:FuncId} {p:je R} (h:findF T f=aa p):GS D P f p:=by
 unfold findF at h;split at h
 ·cases h
 ·rename_i hb;have:=Uw hT h;rw[show fp f 1000000000=an by cases qh:fp f 1000000000<;>simp_all] at this
  exact this
theorem T4 (hT:cN D P T) {p:je R} (h:Gf T 1000000000=aa p):RC D p:=Uw hT h
def Mn (tm:List (Option Value)):List Operand->Option (List Value)
 |[]=>aa []
 |y::l =>
  match ev tm y,Mn tm l with
  |some v,aa r=>aa (v::r)
  |_,_=>aj
theorem Ev {n:Nat} {tm:List (Option Value)} {a:Act} (ht:TM ρ n tm a):∀ {l:List Operand} {r:List Value},Mn tm l=aa r->l.map a.eval=r.map (bS ρ)/\iC n r=ao
 |[],r,h=>by simp only[Mn] at h;injection h with h;subst h;exact⟨rfl,rfl⟩
 |y::l,r,h=>by
  simp only[Mn] at h;split at h
  ·rename_i v r' hv hr;injection h with h
   subst h;obtain⟨h1,h2⟩:=eu ht hv;obtain⟨h3,h4⟩:=Ev ht hr;exact⟨by simp[h1,h3],by simp[iC,h2,h4]⟩
  ·cases h
theorem Ml {n:Nat} {l r:List Value} (h1:iC n l=ao) (h2:iC n r=ao):iC n (l++r)=ao:=by
 rw[wR] at *
 intro v hv;rcases b7.1 hv with hv|hv
 ·exact h1 v hv
 ·exact h2 v hv
def EZ (T:eJ R) (σ:SS R) (f:Operand) (args:List Operand) (b:Bool):Option (Out R) :=
 match ev σ.tm f,Mn σ.tm args with
 |some (.func (.func g) ⟨fi⟩ ⟨ca⟩),aa vs=>match findF T g with
  |some p=>p.go b ((fi++vs)++ca) σ.hp
  |none=>aj
 |_,_=>aj
def NM (T:eJ R) (σ:SS R) (f:Operand) (args:List Operand):Option Bool :=
 match ev σ.tm f,Mn σ.tm args with
 |some (.func (.func g) ⟨fi⟩ ⟨ca⟩),aa vs=>match findF T g with
  |some p=>p.when ((fi++vs)++ca) σ.hp
  |none=>aj
 |_,_=>aj
def goes (c:Option Bool) (b:Bool):Prop:=(c=aj/\b=ao)∨c=aa b
theorem acf (hT:cN D P T) {σ:SS R} {o:Oper} {f:Operand} {args:Array Operand} {ts:Array TypeId} {x:Out R} {b:Bool} (ho:o.op=.call { callee:=.value f,args:=args,argTypes:=ts }) (hb:goes (NM T σ f args.toList) b) (h:EZ T σ f args.toList b=aa x):mb D P o σ x:=by
 unfold EZ at h;unfold NM at hb;split at h
 ·rename_i g fi ca vs hf Ez;rw[hf,Ez] at hb;simp only at hb;split at h
  ·rename_i p hp;rw[hp] at hb;simp only at hb;have ux:=(B2 hT hp).ok b;refine⟨fun C ρ ft a w K Q ht iy hm hv hK=>?_,ux.len _ _ _ h,fun _=>ux.lit _ _ _ h⟩
   obtain⟨h1,h2⟩:=eu ht hf;obtain⟨h3,h4⟩:=Ev ht Ez;simp only[bS,lp] at h1;simp only[fv,aM] at h2;obtain⟨fn,g1,g2,g3⟩:=ux.known;have hargs:args.map a.eval=(vs.map (bS ρ)).toArray:=by
    apply qu;rw[mv,h3]
   have nN:(execOp a.eval o).run P w=.ok (.enter g (((fi++vs)++ca).map (bS ρ)).toArray) w:=by
    simp only[execOp,ho,resolve,h1,Deferred.ofValue,dA,dV,cA,invoke,hargs];simp only[callFunc,dA,run_program,cA,g1,g2,g3,fP,if_false,dV]
    congr 2
    simp
   have ZF:=ux.run _ _ _ hb h C ρ ft w hm hv (Ml (Ml h2.1 h4) h2.2);unfold RO;rw[nN,Qf];refine ZF.mono fun e w' ⟨gx,ky,q1,q2,q3⟩=>?_
   subst q2;exact hK gx ky w' q1 q3
  ·cases h
 ·cases h
def abC (P:Program) (t:TypeId) (v:Value) (name:String):Option (FuncId×Value) :=
 xF P (Xh fun Q=>method (Q.types.size+Qg) t v name)
def yU (P:Program) (T:eJ R) (σ:SS R) (r:Operand) (name:String) (args:List Operand) (b:Bool):Option (Out R) :=
 match ev σ.tm r,Mn σ.tm args with
 |some (.iface t v),aa vs=>match flat v,abC P t v name with
  |true,aa (g,u)=>match flat u,findF T g with
   |true,aa p=>p.go b (u::vs) σ.hp
   |_,_=>aj
  |_,_=>aj
 |_,_=>aj
def IC (P:Program) (T:eJ R) (σ:SS R) (r:Operand) (name:String) (args:List Operand):Option Bool :=
 match ev σ.tm r,Mn σ.tm args with
 |some (.iface t v),aa vs=>match flat v,abC P t v name with
  |true,aa (g,u)=>match flat u,findF T g with
   |true,aa p=>p.when (u::vs) σ.hp
   |_,_=>aj
  |_,_=>aj
 |_,_=>aj
theorem WX (hT:cN D P T) {σ:SS R} {o:Oper} {r:Operand} {name:String} {args:Array Operand} {ts:Array TypeId} {x:Out R} {b:Bool} (ho:o.op=.call { callee:=.invoke r name,args:=args,argTypes:=ts }) (hb:goes (IC P T σ r name args.toList) b) (h:yU P T σ r name args.toList b=aa x):mb D P o σ x:=by
 unfold yU at h;unfold IC at hb;split at h
 ·rename_i t v vs hf Ez;rw[hf,Ez] at hb;simp only at hb;split at h
  ·rename_i g u wz hme;rw[wz,hme] at hb;simp only at hb;split at h
   ·rename_i p hu hp;rw[hu,hp] at hb;simp only at hb;have ux:=(B2 hT hp).ok b;refine⟨fun C ρ ft a w K Q ht iy hm hv hK=>?_,ux.len _ _ _ h,fun _=>ux.lit _ _ _ h⟩
    obtain⟨h1,h2⟩:=eu ht hf;obtain⟨h3,h4⟩:=Ev ht Ez;simp only[bS,nO v wz] at h1;obtain⟨fn,g1,g2,g3⟩:=ux.known;have hargs:args.map a.eval=(vs.map (bS ρ)).toArray:=by
     apply qu;rw[mv,h3]
    have hr:(Xh fun Q=>method (Q.types.size+Qg) t v name).run P w=.ok (g,u) w:=LZ _ hme w
    have tP:(method (P.types.size+Qg) t v name).run P w=.ok (g,u) w:=hr;have nN:(execOp a.eval o).run P w=.ok (.enter g ((u::vs).map (bS ρ)).toArray) w:=by
     simp only[execOp,ho,resolve,h1,dA,dV,cA,invoke,hargs];have e0:(#[GD t v]++(vs.map (bS ρ)).toArray)[0]?=aa (GD t v):=by simp
     have e1:(#[GD t v]++(vs.map (bS ρ)).toArray).extract 1 (#[GD t v]++(vs.map (bS ρ)).toArray).size=(vs.map (bS ρ)).toArray:=by
      apply qu;simp only[IT,Array.toList_append,Array.size_append,Dr,List.length_map];simp[List.take_of_length_le]
     simp only[e0,e1,callMethod,dA,run_program,cA,tP,callFunc,g1,g2,g3,fP,if_false,dV]
     congr 2
     simp[nO u hu]
    have ZF:=ux.run _ _ _ hb h C ρ ft w hm hv (by simp only[iC,aM];exact⟨IN u hu,h4⟩)
    unfold RO;rw[nN,Qf];refine ZF.mono fun e w' ⟨gx,ky,q1,q2,q3⟩=>?_
    subst q2;exact hK gx ky w' q1 q3
   ·cases h
  ·cases h
 ·cases h
def AR (σ:SS R) (fn:Fn) (fi ca:List Operand):Option (Out R) :=
 match Mn σ.tm fi,Mn σ.tm ca with
 |some u,aa v=>aa (gu σ True (.func fn ⟨u⟩ ⟨v⟩) aj [])
 |_,_=>aj
theorem SM {σ:SS R} {o:Oper} {fn:Fn} {fi ca:Array Operand} {x:Out R} (ho:o.op=.makeFunc fn fi ca) (h:AR σ fn fi.toList ca.toList=aa x):mb D P o σ x:=by
 unfold AR at h;split at h
 ·rename_i u v hu hv;injection h with h
  subst h;refine g9 (fun C ρ ft a w ht iy hm _=>?_) (fun _ b hb=>by cases hb)
  obtain⟨h1,_⟩:=Ev ht hu;obtain⟨h2,_⟩:=Ev ht hv;have e1:fi.map a.eval=(u.map (bS ρ)).toArray:=by apply qu;rw[mv,h1]
  have e2:ca.map a.eval=(v.map (bS ρ)).toArray:=by apply qu;rw[mv,h2]
  simp only[execOp,ho,Instr.makeFunc,dA,dV,cA,e1,e2,bS,lp]
 ·cases h
def Xy (op:BinOp) (u v:Option Value):Nat :=
 match u,v with
 |some (.int .i64 _),aa (.int .i64 _)=>match op with
  |.add|.sub|.mul|.quo|.rem=>1
  |_=>0
 |some (.string _),aa (.string _)=>match op with
  |.add=>2
  |_=>0
 |some (.pointer (aa _)),aa (.pointer (aa _))=>5
 |some (.pointer _),aa (.pointer _)|some (.slice _ _ _),aa (.slice _ _ _)|some (.func _ _ _),aa .nilFunc=>3
 |some (.agg _),aa (.agg _)=>4
 |_,_=>0
def alG (T:eJ R):Bool:=match Gf T 1000000000 with
 |some c=>(c.when [] []).isSome
 |none=>an
def ajU:BinOp->Bool
 |.add=>ao
 |.sub=>ao
 |.mul=>ao
 |_=>an
def PW (T:eJ R):Option (Option (SB R))->Bool
 |some (aa (.inl _))=>ao
 |some (aa (.inr (.inr (.inr _))))=>match Gf T 1000000000 with
  |some c=>(c.no [] []).isSome
  |none=>an
 |_=>an
def lP:je R:=⟨fun _ _=>aa ao,fun _ _=>aj,fun _ _=>aj⟩
theorem ix:RC D (lP:je R):=⟨(fun h=>by cases h),fun e X x p F w hx=>by cases hx⟩
theorem V6 (hT:cN D P T) {C:Ctx} {ρ:Env} {ft:Nat->Nat->Prop} {h:Hp R} {w:World} {i:Nat} (hm:HM D C ρ ft h w) (ho:PW T h[i]?=ao):ft i (ρ i).lI/\∃ ca ta,w.heap[(ρ i).lI]?=aa (.cells ca ta (0,0)):=by
 unfold PW at ho;split at ho
 ·rename_i x hx;obtain⟨t,cs⟩:=x;obtain⟨_,g2,g3⟩:=(hm.at_ i _ hx).1;exact⟨(g2 _).2 rfl,_,_,g3⟩
 ·rename_i X hx;split at ho
  ·rename_i c hc;exact(T4 hT hc).1 ho _ _ _ _ (hm.at_ i _ hx).1
  ·cases ho
 ·cases ho
def K6 (P:Program) (T:eJ R) (σ:SS R) (o:Oper) (op:BinOp) (t:TypeId) (y z:Operand):Option (Out R) :=
 match Xy op (ev σ.tm y) (ev σ.tm z) with
 |1=>if alG T&&ajU op then uA P σ o else OV σ op y z
 |2=>match op with
  |.add=>P6 σ y z
  |_=>aj
 |3=>match op with
  |.eql=>zE P σ an t y z
  |.neq=>zE P σ ao t y z
  |_=>aj
 |4=>match op with
  |.eql=>zB P σ an t y z
  |.neq=>zB P σ ao t y z
  |_=>aj
 |5=>match op with
  |.eql=>zf P σ (PW T) an t y z
  |.neq=>zf P σ (PW T) ao t y z
  |_=>aj
 |_=>uA P σ o
theorem adi (hT:cN D P T) {σ:SS R} {o:Oper} {op:BinOp} {t t':TypeId} {y z:Operand} {x:Out R} (ho:o.op=.binOp op t y z t') (h:K6 P T σ o op t y z=aa x):mb D P o σ x:=by
 unfold K6 at h;split at h
 ·split at h
  ·exact w6 h
  ·exact adE ho h
 ·split at h
  ·exact adT ho h
  ·cases h
 ·split at h
  ·exact Pe (neg:=an) ho h
  ·exact Pe (neg:=ao) ho h
  ·cases h
 ·split at h
  ·exact Pg (neg:=an) ho h
  ·exact Pg (neg:=ao) ho h
  ·cases h
 ·split at h
  ·exact OD (fun hm ho=>V6 hT hm ho) (neg:=an) ho h
  ·exact OD (fun hm ho=>V6 hT hm ho) (neg:=ao) ho h
  ·cases h
 ·exact w6 h
def isNil:Option Value->Bool
 |some (.slice aj 0 0)=>ao
 |_=>an
def wM (P:Program) (σ:SS R) (t:TypeId) (y:Operand):Option (Out R) :=
 if isNil (ev σ.tm y) then
  match vf P σ t with
  |some x=>aa x
  |none=>vY σ y
 else vY σ y
theorem Mg {σ:SS R} {o:Oper} {t:TypeId} {y:Operand} {x:Out R} (ho:o.op=.move y∨o.op=.assign y) (h:wM P σ t y=aa x):mb D P o σ x:=by
 unfold wM at h;split at h
 ·rename_i hn;have hv:ev σ.tm y=aa (.slice aj 0 0):=by
   unfold isNil at hn;split at hn
   ·assumption
   ·cases hn
  split at h
  ·rename_i x' hx;injection h with h
   subst h;exact SR (n:=0) (c:=0) ho hv hx
  ·exact Se ho h
 ·exact Se ho h
def isStr:Option Value->Bool
 |some (.string _)=>ao
 |_=>an
def alA:Option Value->Bool
 |some (.pointer (aa _))=>ao
 |_=>an
def ahd:Option Value->Bool
 |some (.slice (aa ⟨_,_,aj⟩) _ _)=>ao
 |_=>an
def am0:Option Value->Bool
 |some (.slice (aa _) _ _)=>ao
 |_=>an
def DV (P:Program) (T:eJ R) (σ:SS R) (t:TypeId) (y:Operand):Option (Out R) :=
 match AQ P σ t y with
 |some x=>aa x
 |none =>
  match ev σ.tm y with
  |some (.pointer (aa ⟨i,e,aj⟩)) =>
   match σ.hp[i]? with
   |some (aa (.inr (.inr (.inr X)))) =>
    match Cq P t,Gf T 1000000000 with
    |some aj,aa c=>match c.yes [.pointer (aa ⟨0,e,aj⟩)] [aa (.inr (.inr (.inr X)))] with
     |some x=>aa (gu σ True x.v aj [(i,e+1)])
     |none=>aj
    |_,_=>aj
   |_=>aj
  |_=>aj
theorem YM (hT:cN D P T) {σ:SS R} {o:Oper} {t:TypeId} {y:Operand} {x:Out R} (ho:o.op=.load t y) (h:DV P T σ t y=aa x):mb D P o σ x:=by
 unfold DV at h;split at h
 ·rename_i x' hx;injection h with h
  subst h;exact Sj ho hx
 ·split at h
  ·rename_i i e ha;split at h
   ·rename_i X hX;split at h
    ·rename_i c hg hc;split at h
     ·rename_i x' hx;injection h with h
      subst h;refine g9 (fun C ρ ft ac w ht iy hm _=>?_) (fun iy c hc=>by cases hc)
      have h1:=(eu ht ha).1;simp only[bS,iI,cellOf] at h1;obtain⟨q1,q2⟩:=(T4 hT hc).2 e X x' _ _ w hx (hm.at_ i _ hX).1;simp[execOp,ho,h1,Ba,oE,Cj hg q2,nO _ q1]
     ·cases h
    ·cases h
   ·cases h
  ·cases h
def LX (P:Program) (T:eJ R) (σ:SS R) (o:Oper) (rU:Bool):Option (Out R) :=
 match o with
 |⟨dst,op,ty,pos,after,guard⟩ =>
 match op with
 |.move y=>wM P σ ty y
 |.assign y=>wM P σ ty y
 |.pick c y z=>Hy σ c y z
 |.alloc t=>D4 P σ t
 |.box t y=>Lg σ t y
 |.build t ⟨ps⟩=>DO P σ t ps
 |.buildSlice t n ⟨ps⟩=>match uj P σ t n ps with
  |some x=>aa x
  |none=>ug P σ t n ps
 |.load t y=>DV P T σ t y
 |.store t y z=>match dst with
  |none=>DU P σ t y z
  |some _=>aj
 |.nilCheck y=>Lw σ y
 |.binOp b t y z u=>K6 P T σ ⟨dst,.binOp b t y z u,ty,pos,after,guard⟩ b t y z
 |.unOp u t y=>match u with
  |.not=>Ld σ y
  |_=>uA P σ ⟨dst,.unOp u t y,ty,pos,after,guard⟩
 |.slice t y lo hi mx=>Hw P σ t y lo hi mx
 |.fieldAddr t y k=>wc P σ t y k
 |.field t y k=>DY P σ t y k
 |.indexAddr t y z=>if alA (ev σ.tm y) then An P σ t y z else if ahd (ev σ.tm y) then wG P σ t y z else yi P σ t y z
 |.index t y z=>if isStr (ev σ.tm y) then A8 P σ t y z else uA P σ ⟨dst,.index t y z,ty,pos,after,guard⟩
 |.extract y k=>zy σ y k
 |.makeSlice t y z=>yb P σ t y z
 |.call ⟨callee,⟨args⟩,⟨ts⟩⟩ =>
  match callee with
  |.value f=>EZ T σ f args rU
  |.builtin b =>
   match b,args,ts with
   |.append,[y,z],[t,t2]=>yI P σ t t2 y z
   |.len,[y],[t]=>if am0 (ev σ.tm y) then Lx P σ t y else uA P σ ⟨dst,.call ⟨.builtin .len,⟨[y]⟩,⟨[t]⟩⟩,ty,pos,after,guard⟩
   |b,args,ts=>uA P σ ⟨dst,.call ⟨.builtin b,⟨args⟩,⟨ts⟩⟩,ty,pos,after,guard⟩
  |.invoke r name=>yU P T σ r name args rU
 |.makeFunc fn ⟨fi⟩ ⟨ca⟩=>AR σ fn fi ca
 |op=>uA P σ ⟨dst,op,ty,pos,after,guard⟩
def GO (P:Program) (T:eJ R) (σ:SS R) (o:Oper):Option Bool :=
 match o with
 |⟨_,.call ⟨.value f,⟨args⟩,_⟩,_,_,_,_⟩=>NM T σ f args
 |⟨_,.call ⟨.invoke r name,⟨args⟩,_⟩,_,_,_,_⟩=>IC P T σ r name args
 |_=>aj
theorem Vo (hT:cN D P T) {σ:SS R} {o:Oper} {x:Out R} {b:Bool} (hb:goes (GO P T σ o) b) (h:LX P T σ o b=aa x):mb D P o σ x:=by
 obtain⟨dst,op,ty,pos,after,guard⟩:=o;unfold LX at h;simp only at h;split at h
 ·exact Mg (dK rfl) h
 ·exact Mg (e7 rfl) h
 ·exact abo rfl h
 ·exact Zb rfl h
 ·exact aea rfl h
 ·rename_i t ps;exact Zj (parts:=⟨ps⟩) rfl h
 ·rename_i t n ps;(split at h;{ rename_i x' hx;injection h with h;subst h;exact Pc (parts:=⟨ps⟩) rfl hx };{ exact OE (parts:=⟨ps⟩) rfl h })
 ·exact YM hT rfl h
 ·split at h
  ·exact Y7 rfl rfl h
  ·cases h
 ·exact adW rfl h
 ·exact adi hT rfl h
 ·split at h
  ·exact adR rfl h
  ·exact w6 h
 ·exact Zh rfl h
 ·exact Rm rfl h
 ·exact Z0 rfl h
 ·split at h
  ·exact SX rfl h
  ·split at h
   ·exact Ol rfl h
   ·exact Rn rfl h
 ·split at h
  ·exact SW rfl h
  ·exact w6 h
 ·exact U1 rfl h
 ·exact Q' rfl h
 ·rename_i callee args ts;split at h
  ·exact acf hT (args:=⟨args⟩) rfl hb h
  ·split at h
   ·exact W9 rfl h
   ·split at h
    ·exact adn rfl h
    ·exact w6 h
   ·exact w6 h
  ·exact WX hT (args:=⟨args⟩) rfl hb h
 ·exact SM (fi:=⟨_⟩) (ca:=⟨_⟩) rfl h
 ·exact w6 h
def ya (σ:SS R) (d:Option Tmp) (v:Value) (lit:Option Bool) (hp:Hp R):SS R :=
 match d with
 |none=>⟨σ.tm,σ.li,hp⟩
 |some t=>⟨σ.tm.set t (aa v),(match lit with
  |some b=>[(t,b)]
  |none=>[])++σ.li.filter (fun p=>!fp p.1 t),hp⟩
structure M (D:fJ R) (C:Ctx) (σ:SS R) (a:Act) (w:World):Prop where
 defers:a.defers=[]
 li:LI σ.li σ.tm
 ex:∃ ρ ft,(∀ i,i<C.n0->ρ i=C.e0 i)/\TM ρ σ.hp.length σ.tm a/\HM D C ρ ft σ.hp w
theorem GX (σ:SS R) (d:Option Tmp) (v:Value) (lit:Option Bool) (hp:Hp R):(ya σ d v lit hp).hp=hp:=by cases d<;>rfl
theorem X4 {σ:SS R} {d:Option Tmp} {v:Value} {lit:Option Bool} {hp:Hp R} (hl:LI σ.li σ.tm) (hv:∀ b,lit=aa b->v=.bool b) (hd:∀ t,d=aa t->lit≠aj->t<σ.tm.length):LI (ya σ d v lit hp).li (ya σ d v lit hp).tm:=by
 cases d with
 |none=>exact hl
 |some t =>
  intro u b hu;simp only[ya] at hu ⊢;rcases b7.1 hu with hu|hu
  ·cases lit with
   |none=>simp at hu
   |some c =>
    simp only[List.mem_singleton,Prod.mk.injEq] at hu;obtain⟨rfl,rfl⟩:=hu;rw[hv _ rfl,jW (hd _ rfl (by simp))]
  ·obtain⟨h1,h2⟩:=pc.1 hu;have kz:u≠t:=fun e=>by subst e;simp at h2
   rw[kv (fun e=>kz e.symm)]
   exact hl u b h1
theorem Yt {σ:SS R} {d:Option Tmp} {v:Value} {lit:Option Bool} {hp:Hp R} {a:Act} {gx:Env} (ht:TM ρ σ.hp.length σ.tm a) (qM:∀ i,i<σ.hp.length->gx i=ρ i) (hlen:σ.hp.length≤hp.length) (hi:fv hp.length v=ao) :
  TM gx (ya σ d v lit hp).hp.length (ya σ d v lit hp).tm (a.put d (bS gx v)):=by
 have old:∀ (t:Nat) (u:Value),σ.tm[t]?=aa (aa u)->a.tmps[t]?=aa (bS gx u)/\fv hp.length u=ao:=fun t u hu=>by
  obtain⟨h1,h2⟩:=ht.val t u hu;exact⟨by rw[h1,ng (n:=σ.hp.length) (fun i hi=>(qM i hi)) u h2],BX hlen u h2⟩
 rw[GX];cases d with
 |none=>exact⟨ht.size,old⟩
 |some t =>
  refine⟨by simp[ya,Cc,ht.size],fun u x hx=>?_⟩
  simp only[ya,Cc] at hx ⊢
  by_cases he:t=u
  ·subst he;have hl:t<σ.tm.length:=by have:=(aT.1 hx).1;simpa using this
   rw[jW hl] at hx;injection hx with hx;injection hx with hx
   subst hx;rw[uJ];simp[ht.size,hl,hi]
  ·rw[kv he] at hx;rw[Array.getElem?_setIfInBounds_ne he];exact old u x hx
def tidy (σ:SS R) (d:Option Tmp) (x:Out R):Bool :=
 fv x.hp.length x.v&&(match d with
  |some t=>(match x.lit with
   |some _=>gQ t σ.tm.length
   |none=>ao)
  |none=>ao)
theorem M.step {σ:SS R} {o:Oper} {x:Out R} {a:Act} {K:Act->World->Prop} {Q:Exit->Act->World->Prop} (hm:M D C σ a w) (ho:mb D P o σ x) (ht:tidy σ o.dst x=ao) (hv:x.vc)
  (hK:∀ a' w',M D C (ya σ o.dst x.v x.lit x.hp) a' w'->K a' w') (hn:C.n0≤σ.hp.length):o.wp P a w K Q:=by
 obtain⟨ρ,ft,h0,h1,h2⟩:=hm.ex;simp only[tidy,aM] at ht;refine ho.run C ρ ft a w K Q h1 hm.li h2 hv fun gx ky w' qM mH=>hK _ _ ⟨?_,X4 hm.li (ho.lit hm.li) ?_,gx,ky,fun i hi=>(qM i (by omega)).trans (h0 i hi),Yt h1 qM ho.len ht.1,by rw[GX];exact mH⟩
 ·cases o.dst<;>exact hm.defers
 ·intro t hd hl;have h3:=ht.2;rw[hd] at h3;simp only at h3;cases hx:x.lit with
  |none=>exact absurd hx hl
  |some b=>rw[hx] at h3;simpa [fe] using h3
theorem M.undef {σ:SS R} {d:Option Tmp} {a:Act} (hm:M D C σ a w):M D C (ya σ d undef aj σ.hp) (a.put d undef) w:=by
 obtain⟨ρ,ft,h0,h1,h2⟩:=hm.ex;have hu:bS ρ vv=vv:=by simp[vv,bS,nq]
 refine⟨?_,X4 hm.li (fun b hb=>by cases hb) (fun t _ h=>absurd rfl h),ρ,ft,h0,?_,by rw[GX];exact h2⟩
 ·cases d<;>exact hm.defers
 ·have:=Yt (d:=d) (v:=vv) (lit:=aj) (hp:=σ.hp) h1 (fun _ _=>rfl) (a_ _) (by simp[vv,fv,iC])
  rw[hu] at this;exact this
def assume (σ:SS R) (t:Nat) (b:Bool):SS R:=⟨σ.tm.set t (aa (.bool b)),(t,b)::σ.li.filter (fun p=>!fp p.1 t),σ.hp⟩
theorem M.assume {σ:SS R} {a:Act} {t:Nat} {b:Bool} (hm:M D C σ a w) (ht:σ.tm[t]?=aa (aa (.bool b))):M D C (Rx.assume σ t b) a w:=by
 have hl:t<σ.tm.length:=(aT.1 ht).1;have hs:σ.tm.set t (aa (.bool b))=σ.tm:=by
  apply nQ;intro u
  by_cases he:t=u
  ·subst he;rw[jW hl,ht]
  ·rw[kv he]
 obtain⟨ρ,ft,h0,h1,h2⟩:=hm.ex;refine⟨hm.defers,?_,ρ,ft,h0,?_,h2⟩
 ·intro u c hu;simp only[Rx.assume] at hu ⊢;rw[hs];rcases bO.1 hu with hu|hu
  ·injection hu with e1 e2
   subst e1;subst e2;exact ht
  ·exact hm.li u c (pc.1 hu).1
 ·simp only[Rx.assume];rw[hs];exact h1
end
end Rx
namespace Rx
inductive Tr
 |leaf (i:Nat)
 |node (c:Nat) (l r:Tr)
def fT {β:Sort _}:Tr->Nat->(Nat->β)->β
 |.leaf i,n,k=>match fp n i with
  |true=>k i
  |false=>k n
 |.node c l r,n,k=>match gQ n c with
  |true=>fT l n k
  |false=>fT r n k
theorem ak4 {β:Sort _} (t:Tr) (n:Nat) (k:Nat->β):fT t n k=k n:=by
 induction t with
 |leaf i =>
  simp only[fT];split
  ·rename_i h;rw[cO h]
  ·rfl
 |node c l r hl hr =>
  simp only[fT];split
  ·exact hl
  ·exact hr
def trs:Tr:=(.node 64 (.node 32 (.node 16 (.node 8 (.node 4 (.node 2 (.node 1 (.leaf 0) (.leaf 1)) (.node 3 (.leaf 2) (.leaf 3))) (.node 6 (.node 5 (.leaf 4) (.leaf 5)) (.node 7 (.leaf 6) (.leaf 7)))) (.node 12 (.node 10 (.node 9 (.leaf 8) (.leaf 9)) (.node 11 (.leaf 10) (.leaf 11))) (.node 14 (.node 13 (.leaf 12) (.leaf 13)) (.node 15 (.leaf 14) (.leaf 15))))) (.node 24 (.node 20 (.node 18 (.node 17 (.leaf 16) (.leaf 17)) (.node 19 (.leaf 18) (.leaf 19))) (.node 22 (.node 21 (.leaf 20) (.leaf 21)) (.node 23 (.leaf 22) (.leaf 23)))) (.node 28 (.node 26 (.node 25 (.leaf 24) (.leaf 25)) (.node 27 (.leaf 26) (.leaf 27))) (.node 30 (.node 29 (.leaf 28) (.leaf 29)) (.node 31 (.leaf 30) (.leaf 31)))))) (.node 48 (.node 40 (.node 36 (.node 34 (.node 33 (.leaf 32) (.leaf 33)) (.node 35 (.leaf 34) (.leaf 35))) (.node 38 (.node 37 (.leaf 36) (.leaf 37)) (.node 39 (.leaf 38) (.leaf 39)))) (.node 44 (.node 42 (.node 41 (.leaf 40) (.leaf 41)) (.node 43 (.leaf 42) (.leaf 43))) (.node 46 (.node 45 (.leaf 44) (.leaf 45)) (.node 47 (.leaf 46) (.leaf 47))))) (.node 56 (.node 52 (.node 50 (.node 49 (.leaf 48) (.leaf 49)) (.node 51 (.leaf 50) (.leaf 51))) (.node 54 (.node 53 (.leaf 52) (.leaf 53)) (.node 55 (.leaf 54) (.leaf 55)))) (.node 60 (.node 58 (.node 57 (.leaf 56) (.leaf 57)) (.node 59 (.leaf 58) (.leaf 59))) (.node 62 (.node 61 (.leaf 60) (.leaf 61)) (.node 63 (.leaf 62) (.leaf 63))))))) (.node 96 (.node 80 (.node 72 (.node 68 (.node 66 (.node 65 (.leaf 64) (.leaf 65)) (.node 67 (.leaf 66) (.leaf 67))) (.node 70 (.node 69 (.leaf 68) (.leaf 69)) (.node 71 (.leaf 70) (.leaf 71)))) (.node 76 (.node 74 (.node 73 (.leaf 72) (.leaf 73)) (.node 75 (.leaf 74) (.leaf 75))) (.node 78 (.node 77 (.leaf 76) (.leaf 77)) (.node 79 (.leaf 78) (.leaf 79))))) (.node 88 (.node 84 (.node 82 (.node 81 (.leaf 80) (.leaf 81)) (.node 83 (.leaf 82) (.leaf 83))) (.node 86 (.node 85 (.leaf 84) (.leaf 85)) (.node 87 (.leaf 86) (.leaf 87)))) (.node 92 (.node 90 (.node 89 (.leaf 88) (.leaf 89)) (.node 91 (.leaf 90) (.leaf 91))) (.node 94 (.node 93 (.leaf 92) (.leaf 93)) (.node 95 (.leaf 94) (.leaf 95)))))) (.node 112 (.node 104 (.node 100 (.node 98 (.node 97 (.leaf 96) (.leaf 97)) (.node 99 (.leaf 98) (.leaf 99))) (.node 102 (.node 101 (.leaf 100) (.leaf 101)) (.node 103 (.leaf 102) (.leaf 103)))) (.node 108 (.node 106 (.node 105 (.leaf 104) (.leaf 105)) (.node 107 (.leaf 106) (.leaf 107))) (.node 110 (.node 109 (.leaf 108) (.leaf 109)) (.node 111 (.leaf 110) (.leaf 111))))) (.node 120 (.node 116 (.node 114 (.node 113 (.leaf 112) (.leaf 113)) (.node 115 (.leaf 114) (.leaf 115))) (.node 118 (.node 117 (.leaf 116) (.leaf 117)) (.node 119 (.leaf 118) (.leaf 119)))) (.node 124 (.node 122 (.node 121 (.leaf 120) (.leaf 121)) (.node 123 (.leaf 122) (.leaf 123))) (.node 126 (.node 125 (.leaf 124) (.leaf 125)) (.node 127 (.leaf 126) (.leaf 127))))))))
def fN {β:Sort _} (n:Nat) (k:Nat->β):β:=fT trs n k
theorem H8 {β:Sort _} (n:Nat) (k:Nat->β):fN n k=k n:=ak4 _ _ _
def fB {β:Sort _} (b:Bool) (k:Bool->β):β :=
 match b with
 |true=>k ao
 |false=>k an
theorem aeX {β:Sort _} (b:Bool) (k:Bool->β):fB b k=k b:=by cases b<;>rfl
def fQ {β:Sort _} (q:Nat) (k:Nat->β):β :=
 fN (q%1000) fun f=>fN (q%1000000 / 1000) fun s=>fN (q / 1000000) fun t=>k (f+(1000*s+1000000*t))
theorem alp {β:Sort _} (q:Nat) (k:Nat->β):fQ q k=k q:=by
 unfold fQ;rw[H8,H8,H8]
 congr 1
 omega
def fA {β:Sort _} (a:Addr) (k:Addr->β):β :=
 match a with
 |⟨b,o,aj⟩=>fN b fun b=>k ⟨b,o,aj⟩
 |⟨b,o,aa q⟩=>fN b fun b=>fQ q fun q=>k ⟨b,o,aa q⟩
theorem ali {β:Sort _} (a:Addr) (k:Addr->β):fA a k=k a:=by
 obtain⟨b,o,s⟩:=a;cases s with
 |none=>simp only[fA,H8]
 |some q=>simp only[fA,H8,alp]
def fV0 {β:Sort _} (v:Value) (k:Value->β):β :=
 match v with
 |.pointer (aa a)=>fA a fun a=>k (.pointer (aa a))
 |.slice (aa a) n c=>fA a fun a=>k (.slice (aa a) n c)
 |.slice aj n c=>k (.slice aj n c)
 |.pointer aj=>k (.pointer aj)
 |.int t n=>k (.int t n)
 |.bool b=>k (.bool b)
 |.string s=>k (.string s)
 |v=>k v
theorem acG {β:Sort _} (v:Value) (k:Value->β):fV0 v k=k v:=by
 unfold fV0;split<;>simp only[ali]
def Xu {β:Sort _}:List Value->(List Value->β)->β
 |[],k=>k []
 |v::l,k=>fV0 v fun v=>Xu l fun l=>k (v::l)
theorem Wc {β:Sort _} (l:List Value) (k:List Value->β):Xu l k=k l:=by
 induction l generalizing k with
 |nil=>rfl
 |cons v l ih=>simp only[Xu,acG,ih]
def fV {β:Sort _} (v:Value) (k:Value->β):β :=
 match v with
 |.agg ⟨l⟩=>Xu l fun l=>k (.agg ⟨l⟩)
 |.tuple ⟨l⟩=>Xu l fun l=>k (.tuple ⟨l⟩)
 |v=>fV0 v k
theorem YO {β:Sort _} (v:Value) (k:Value->β):fV v k=k v:=by
 unfold fV;split
 ·rw[Wc]
 ·rw[Wc]
 ·rw[acG]
def fVl {β:Sort _}:List Value->(List Value->β)->β
 |[],k=>k []
 |v::l,k=>fV v fun v=>fVl l fun l=>k (v::l)
theorem ah9 {β:Sort _} (l:List Value) (k:List Value->β):fVl l k=k l:=by
 induction l generalizing k with
 |nil=>rfl
 |cons v l ih=>simp only[fVl,YO,ih]
def Yd {β:Sort _}:List (Option Value)->(List (Option Value)->β)->β
 |[],k=>k []
 |none::l,k=>Yd l fun l=>k (aj::l)
 |some v::l,k=>fV v fun v=>Yd l fun l=>k (aa v::l)
theorem abr {β:Sort _} (l:List (Option Value)) (k:List (Option Value)->β):Yd l k=k l:=by
 induction l generalizing k with
 |nil=>rfl
 |cons v l ih=>cases v<;>simp only[Yd,YO,ih]
def fLi {β:Sort _}:List (Nat×Bool)->(List (Nat×Bool)->β)->β
 |[],k=>k []
 |(t,b)::l,k=>fB b fun b=>fLi l fun l=>k ((t,b)::l)
theorem abV {β:Sort _} (l:List (Nat×Bool)) (k:List (Nat×Bool)->β):fLi l k=k l:=by
 induction l generalizing k with
 |nil=>rfl
 |cons v l ih=>obtain⟨t,b⟩:=v;simp only[fLi,aeX,ih]
def Wk {β:Sort _}:List Nat->(List Nat->β)->β
 |[],k=>k []
 |n::l,k=>fN n fun n=>Wk l fun l=>k (n::l)
theorem UO {β:Sort _} (l:List Nat) (k:List Nat->β):Wk l k=k l:=by
 induction l generalizing k with
 |nil=>rfl
 |cons v l ih=>simp only[Wk,H8,ih]
def fCs {β:Sort _}:List aW->(List aW->β)->β
 |[],k=>k []
 |⟨i,b,s⟩::l,k=>fCs l fun l=>k (⟨i,b,s⟩::l)
theorem ahU {β:Sort _} (l:List aW) (k:List aW->β):fCs l k=k l:=by
 induction l generalizing k with
 |nil=>rfl
 |cons v l ih=>obtain⟨i,b,s⟩:=v;simp only[fCs,ih]
def YJ {β:Sort _} (r:Row) (k:Row->β):β :=
 match r with
 |⟨tm,n,cs⟩=>Xu tm fun tm=>fCs cs fun cs=>k ⟨tm,n,cs⟩
theorem agZ {β:Sort _} (r:Row) (k:Row->β):YJ r k=k r:=by
 obtain⟨tm,n,cs⟩:=r;simp only[YJ,Wc,ahU]
section
variable {R:Type}
def fSB {β:Sort _} (b:SB R) (k:SB R->β):β :=
 match b with
 |.inl (t,cs)=>fN t fun t=>fVl cs fun cs=>k (.inl (t,cs))
 |.inr (.inl (t,r))=>fN t fun t=>YJ r fun r=>k (.inr (.inl (t,r)))
 |.inr (.inr (.inl r))=>YJ r fun r=>k (.inr (.inr (.inl r)))
 |.inr (.inr (.inr x))=>k (.inr (.inr (.inr x)))
theorem ajT {β:Sort _} (b:SB R) (k:SB R->β):fSB b k=k b:=by
 rcases b with⟨t,cs⟩|⟨t,r⟩|r|x<;>simp only[fSB,ah9,agZ,H8]
def Mw {β:Sort _}:Hp R->(Hp R->β)->β
 |[],k=>k []
 |none::l,k=>Mw l fun l=>k (aj::l)
 |some b::l,k=>fSB b fun b=>Mw l fun l=>k (aa b::l)
theorem JH {β:Sort _} (l:Hp R) (k:Hp R->β):Mw l k=k l:=by
 induction l generalizing k with
 |nil=>rfl
 |cons v l ih=>cases v<;>simp only[Mw,ajT,ih]
def I8 {β:Sort _} (σ:SS R) (k:SS R->β):β :=
 match σ with
 |⟨tm,li,hp⟩=>Yd tm fun tm=>fLi li fun li=>Mw hp fun hp=>k ⟨tm,li,hp⟩
theorem Ka {β:Sort _} (σ:SS R) (k:SS R->β):I8 σ k=k σ:=by
 obtain⟨tm,li,hp⟩:=σ;simp only[I8,abr,abV,JH]
end
end Rx
namespace Rx
open Go.RowKit State
section
variable {R:Type} {D:fJ R} {P:Program} {T:eJ R} {C:Ctx} {w w':World}
def Zc (σ:SS R) (o:Oper):Bool :=
 match o with
 |⟨dst,op,ty,pos,after,guard⟩ =>
 match op with
 |.move _|.assign _|.pick _ _ _|.alloc _|.box _ _|.build _ _|.buildSlice _ _ _|.nilCheck _|.unOp _ _ _|.fieldAddr _ _ _|.field _ _ _|.extract _ _=>ao
 |.load _ y|.store _ y _=>match ev σ.tm y with
  |some (.pointer (aa ⟨_,_,aj⟩))=>ao
  |_=>an
 |.binOp op _ y z _=>match Xy op (ev σ.tm y) (ev σ.tm z) with
  |1=>an
  |2=>an
  |_=>ao
 |.call ⟨.builtin b,_,_⟩=>match b with
  |.append=>an
  |_=>ao
 |_=>an
theorem FW {σ:SS R} {o:Oper} {x:Out R} (h:uA P σ o=aa x):x.vc:=by
 unfold uA at h;split at h
 ·split at h
  ·split at h
   ·injection h with h;subst h;trivial
   ·cases h
  ·cases h
 ·cases h
theorem zJ {σ:SS R} {y:Operand} {x:Out R} (h:vY σ y=aa x):x.vc:=by
 unfold vY at h;split at h
 ·injection h with h;subst h;trivial
 ·cases h
theorem L3 {σ:SS R} {t:TypeId} {cs:List Value} {x:Out R} (h:xa σ t cs=aa x):x.vc:=by
 unfold xa at h;injection h with h;subst h;trivial
theorem Jh {σ:SS R} {t:TypeId} {x:Out R} (h:vf P σ t=aa x):x.vc:=by
 unfold vf at h;split at h
 ·split at h
  ·injection h with h;subst h;trivial
  ·cases h
 ·cases h
theorem Yo {σ:SS R} {o:Oper} {x:Out R} {rU:Bool} (h:LX P T σ o rU=aa x) (he:Zc σ o=ao):x.vc:=by
 obtain⟨dst,op,ty,pos,after,guard⟩:=o;unfold LX at h;unfold Zc at he;cases op<;>simp only at h he<;>try (cases he)
 case move y =>
  unfold wM at h;split at h
  ·split at h
   ·rename_i hx;injection h with h;subst h;exact Jh hx
   ·exact zJ h
  ·exact zJ h
 case assign y =>
  unfold wM at h;split at h
  ·split at h
   ·rename_i hx;injection h with h;subst h;exact Jh hx
   ·exact zJ h
  ·exact zJ h
 case pick c y z =>
  unfold Hy at h;split at h
  ·exact zJ h
  ·exact zJ h
  ·split at h
   ·injection h with h;subst h;trivial
   ·cases h
 case alloc t =>
  unfold D4 at h;split at h
  ·split at h
   ·split at h
    ·exact L3 h
    ·cases h
   ·cases h
  ·cases h
 case box t y =>
  unfold Lg at h;split at h
  ·exact L3 h
  ·cases h
 case build t ps =>
  obtain⟨ps⟩:=ps;simp only at h;unfold DO at h;split at h
  ·split at h
   ·split at h
    ·split at h
     ·injection h with h;subst h;trivial
     ·cases h
    ·cases h
   ·cases h
  ·split at h
   ·split at h
    ·split at h
     ·injection h with h;subst h;trivial
     ·cases h
    ·cases h
   ·cases h
  ·cases h
 case buildSlice t n ps =>
  obtain⟨ps⟩:=ps;simp only at h;split at h
  ·rename_i hx;injection h with h
   subst h;unfold uj at hx;split at hx
   ·split at hx
    ·split at hx
     ·split at hx
      ·injection hx with hx;subst hx;trivial
      ·cases hx
     ·cases hx
    ·cases hx
   ·cases hx
  ·unfold ug at h
   repeat' split at h
   all_goals first
    |(injection h with h;subst h;trivial)
    |cases h
 case load t y =>
  split at he
  ·rename_i i e hy;unfold DV at h;rw[hy] at h;simp only at h;split at h
   ·rename_i x' h';injection h with h
    subst h;unfold AQ at h';rw[hy] at h';simp only at h';split at h'
    ·split at h'
     ·split at h'
      ·injection h' with h';subst h';trivial
      ·cases h'
     ·split at h'
      ·injection h' with h';subst h';trivial
      ·cases h'
     ·cases h'
    ·cases h'
   ·repeat' split at h
    all_goals first
     |(injection h with h;subst h;trivial)
     |cases h
  ·cases he
 case store t y z =>
  split at he
  ·rename_i i e hy;split at h
   ·unfold DU at h;rw[hy] at h;cases hz:ev σ.tm z with
    |none=>rw[hz] at h;cases h
    |some v =>
     rw[hz] at h;simp only at h;split at h
     ·split at h
      ·injection h with h;subst h;trivial
      ·cases h
     ·cases h
   ·cases h
  ·cases he
 case nilCheck y =>
  unfold Lw at h;split at h
  ·injection h with h;subst h;trivial
  ·injection h with h;subst h;trivial
  ·cases h
 case binOp b t y z u =>
  unfold K6 at h;split at he
  ·cases he
  ·cases he
  ·rename_i n1 n2;split at h
   ·rename_i hk;exact absurd hk n1
   ·rename_i hk;exact absurd hk n2
   ·have key:∀ neg,zE P σ neg t y z=aa x->x.vc:=fun neg h=>by
     unfold zE at h;split at h
     ·split at h
      ·injection h with h;subst h;trivial
      ·cases h
     ·cases h
    split at h
    ·exact key _ h
    ·exact key _ h
    ·cases h
   ·have key:∀ neg,zB P σ neg t y z=aa x->x.vc:=fun neg h=>by
     unfold zB at h;split at h
     ·split at h
      ·split at h
       ·split at h
        ·injection h with h;subst h;trivial
        ·cases h
       ·cases h
      ·cases h
     ·cases h
    split at h
    ·exact key _ h
    ·exact key _ h
    ·cases h
   ·have key:∀ neg,zf P σ (PW T) neg t y z=aa x->x.vc:=fun neg h=>by
     unfold zf at h
     repeat' split at h
     all_goals first
      |(injection h with h;subst h;trivial)
      |cases h
    split at h
    ·exact key _ h
    ·exact key _ h
    ·cases h
   ·exact FW h
 case unOp u t y =>
  split at h
  ·unfold Ld at h;split at h
   ·injection h with h;subst h;trivial
   ·cases h
  ·exact FW h
 case fieldAddr t y k =>
  unfold wc at h;split at h
  ·split at h
   ·split at h
    ·split at h
     ·split at h
      ·cases h
      ·split at h
       ·injection h with h;subst h;trivial
       ·split at h
        ·injection h with h;subst h;trivial
        ·cases h
     ·cases h
    ·cases h
   ·cases h
  ·cases h
 case field t y k =>
  unfold DY at h;split at h
  ·split at h
   ·split at h
    ·split at h
     ·split at h
      ·injection h with h;subst h;trivial
      ·cases h
     ·injection h with h;subst h;trivial
     ·cases h
    ·cases h
   ·cases h
  ·cases h
 case extract y k =>
  unfold zy at h;split at h
  ·split at h
   ·injection h with h;subst h;trivial
   ·cases h
  ·cases h
 case call c =>
  obtain⟨callee,args,ts⟩:=c;obtain⟨args⟩:=args;obtain⟨ts⟩:=ts;cases callee<;>simp only at h he<;>try (cases he)
  rename_i b;split at h
  ·simp at he
  ·split at h
   ·unfold Lx at h;split at h
    ·injection h with h;subst h;trivial
    ·cases h
   ·exact FW h
  ·exact FW h
structure Vc (p:Prop):Prop where
 out:p
structure aX (p:Prop):Prop where
 out:p
def ZO (e:Bool) (p q:Prop):Prop :=
 match e with
 |true=>q
 |false=>Vc p/\q
structure n6 (why:Nat):Prop where
 out:False
theorem n6.elim {n:Nat} {p:Prop} (h:n6 n):p:=h.out.elim
def Lq (v:Value):Bool :=
 match v with
 |.tuple ⟨[]⟩=>ao
 |_=>an
theorem PN {v:Value} (h:Lq v=ao):v=vv:=by
 unfold Lq at h;split at h
 ·rfl
 ·cases h
def PX (P:Program) (T:eJ R) (σ:SS R) (o:Oper) (k:SS R->Prop) (rU:Bool):Prop :=
 match LX P T σ o rU with
 |some x=>if tidy σ o.dst x then ZO (Zc σ o) x.vc (I8 (ya σ o.dst x.v x.lit x.hp) k) else n6 1
 |none=>n6 2
def Rk (P:Program) (T:eJ R) (σ:SS R) (o:Oper) (k:SS R->Prop):Prop :=
 match GO P T σ o with
 |none=>PX P T σ o k ao
 |some b=>(b=ao->PX P T σ o k ao)/\(b=an->PX P T σ o k an)
def K_ (ops:List Oper) (j:Nat):Option Tmp :=
 match ops[j]? with
 |some o=>o.dst
 |none=>aj
def vM (P:Program) (T:eJ R) (ops:List Oper):List Oper->SS R->(SS R->Prop)->Prop
 |[],σ,k=>k σ
 |o::r,σ,k =>
  match o.guard with
  |none=>Rk P T σ o fun ou=>vM P T ops r ou k
  |some (j,want) =>
   match K_ ops j with
   |none=>n6 3
   |some t =>
    match look σ.li t with
    |some b=>if(b==want)=ao then Rk P T σ o fun ou=>vM P T ops r ou k else I8 (ya σ o.dst undef aj σ.hp) fun σ=>vM P T ops r σ k
    |none =>
     match σ.tm[t]? with
     |some (aa (.bool b)) =>
      (b=want->I8 (assume σ t want) fun σ=>Rk P T σ o fun ou=>vM P T ops r ou k) /\
      (b = !want->I8 (ya (assume σ t (!want)) o.dst undef aj σ.hp) fun σ=>vM P T ops r σ k)
     |some (aa v) =>
      match Lq v with
      |true=>I8 (ya σ o.dst undef aj σ.hp) fun σ=>vM P T ops r σ k
      |false=>n6 4
     |_=>n6 4
theorem YH {σ:SS R} {a:Act} {t:Nat} {b:Bool} (hm:M D C σ a w) (h:σ.tm[t]?=aa (aa (.bool b))):a.tmps[t]?=aa (.bool b):=by
 obtain⟨ρ,ft,_,h1,_⟩:=hm.ex;have:=(h1.val t _ h).1
 simpa using this
theorem H5 {ops:List Oper} {j t:Nat} {a:Act} {b:Bool} (h:K_ ops j=aa t) (ha:a.tmps[t]?=aa (.bool b)):yielded ops.toArray a.tmps j=aa b:=by
 unfold K_ at h;unfold yielded;split at h
 ·rename_i o ho;simp[ho,h,ha]
 ·cases h
theorem ZC {ops:List Oper} {σ:SS R} {j t:Nat} {a:Act} (hm:M D C σ a w) (h:K_ ops j=aa t) (ht:σ.tm[t]?=aa (aa undef)):yielded ops.toArray a.tmps j=aj:=by
 have ha:a.tmps[t]?=aa undef:=by
  obtain⟨ρ,ft,_,h1,_⟩:=hm.ex;have:=(h1.val t _ ht).1
  simpa [undef,bS,nq] using this
 unfold K_ at h;unfold yielded;split at h
 ·rename_i o ho;simp[ho,h,ha,undef]
 ·cases h
theorem ahr (hT:cN D P T) {σ:SS R} {o:Oper} {k:SS R->Prop} {a:Act} {K:Act->World->Prop} {Q:Exit->Act->World->Prop} (h:Rk P T σ o k) (hm:M D C σ a w) (hn:C.n0≤σ.hp.length)
  (hK:∀ ou a' w',k ou->σ.hp.length≤ou.hp.length->M D C ou a' w'->K a' w'):o.wp P a w K Q:=by
 have one:∀ b,goes (GO P T σ o) b->PX P T σ o k b->o.wp P a w K Q:=by
  intro b hb h;unfold PX at h;split at h
  ·rename_i x hx;split at h
   ·rename_i ht;have ux:=Vo hT hb hx;have:x.vc/\k (ya σ o.dst x.v x.lit x.hp):=by
     rw[Ka] at h;unfold ZO at h;split at h
     ·rename_i he;exact⟨Yo hx he,h⟩
     ·exact⟨h.1.out,h.2⟩
    exact hm.step ux ht this.1 (fun a' w' mH=>hK _ a' w' this.2 (by rw[GX];exact ux.len) mH) hn
   ·exact h.elim
  ·exact h.elim
 unfold Rk at h;split at h
 ·rename_i hf;exact one ao (dK ⟨hf,rfl⟩) h
 ·rename_i b hf;cases b with
  |true=>exact one ao (e7 hf) (h.1 rfl)
  |false=>exact one an (e7 hf) (h.2 rfl)
theorem FM (hT:cN D P T) {ops:List Oper} {Q:Exit->Act->World->Prop}:∀ (rest:List Oper) {σ:SS R} {k:SS R->Prop} {a:Act} {w:World},vM P T ops rest σ k->M D C σ a w->C.n0≤σ.hp.length ->
  (∀ ou a' w',k ou->C.n0≤ou.hp.length->M D C ou a' w'->Q .normal a' w')->wpList P ops.toArray Q rest a w
 |[],σ,k,a,w,h,hm,hn,hK=>hK σ a w h hn hm
 |o::r,σ,k,a,w,h,hm,hn,hK=>by
  simp only[vM,Ka] at h;have run:∀ {σ:SS R},kF o (yielded ops.toArray a.tmps)=ao->M D C σ a w->C.n0≤σ.hp.length->(Rk P T σ o fun ou=>vM P T ops r ou k)->wpList P ops.toArray Q (o::r) a w:=by
   intro σ hw hm hn h;unfold wpList;rw[if_pos hw];exact dK (ahr hT h hm hn fun ou a' w' h' Bp mH=>FM hT r h' mH (jo hn Bp) hK)
  have skip:∀ {σ:SS R},kF o (yielded ops.toArray a.tmps)=an->M D C σ a w->C.n0≤σ.hp.length->vM P T ops r (ya σ o.dst undef aj σ.hp) k->wpList P ops.toArray Q (o::r) a w:=by
   intro σ hw hm hn h;unfold wpList;rw[if_neg (by simp[hw])]
   exact FM hT r h hm.undef (by rw[GX];exact hn) hK
  split at h
  ·rename_i hg;exact run (by simp[kF,hg]) hm hn h
  ·rename_i j want hg;split at h
   ·exact h.elim
   ·rename_i t hd;split at h
    ·rename_i b hl;have hy:=H5 hd (YH hm (hm.li t b (NL hl)));split at h
     ·rename_i hb;exact run (by simp[kF,hg,hy];simpa using hb) hm hn h
     ·rename_i hb;exact skip (by simp[kF,hg,hy];simpa using hb) hm hn h
    ·split at h
     ·rename_i b hb;have hy:=H5 hd (YH hm hb)
      by_cases he:b=want
      ·subst he;exact run (by simp[kF,hg,hy]) (hm.assume hb) (by simpa [assume] using hn) (h.1 rfl)
      ·have he2:b = !want:=by cases b<;>cases want<;>simp_all
       have h2:=h.2 he2;rw[he2] at hb;exact skip (by simp[kF,hg,hy];exact he) (hm.assume hb) (by simpa [assume] using hn) h2
     ·rename_i v xW hb;split at h
      ·rename_i hu;rw[PN hu] at hb;have hy:=ZC hm hd hb;have e:kF o (yielded ops.toArray a.tmps)=((aj:Option Bool)==aa want):=by simp only[kF,hg,hy]
       exact skip (by rw[e];cases want<;>rfl) hm hn h
      ·exact h.elim
     ·exact h.elim
def iX:Code->List Nat->Option Code
 |c,[]=>aa c
 |.seq a _,0::p=>iX a p
 |.seq _ b,1::p=>iX b p
 |.cond _ a _,0::p=>iX a p
 |.cond _ _ b,1::p=>iX b p
 |.block _ c,0::p=>iX c p
 |.loop c,0::p=>iX c p
 |_,_=>aj
theorem n5:∀ (p:List Nat) (c d:Code) (q:List Nat),iX c p=aa d->iX c (p++q)=iX d q
 |[],c,d,q,h=>by
  cases c<;>simp only[iX] at h<;>(injection h with h;subst h;rfl)
 |i::p,c,d,q,h=>by
  cases c<;>simp only[List.cons_append]<;>(try (cases i<;>simp only[iX] at h<;>cases h))
  ·rename_i a b;rcases i with _|_|i
   ·exact n5 p a d q h
   ·exact n5 p b d q h
   ·simp[iX] at h
  ·rename_i x a b;rcases i with _|_|i
   ·exact n5 p a d q h
   ·exact n5 p b d q h
   ·simp[iX] at h
  ·rename_i id a;rcases i with _|i
   ·exact n5 p a d q h
   ·simp[iX] at h
  ·rename_i a;rcases i with _|i
   ·exact n5 p a d q h
   ·simp[iX] at h
abbrev It (R:Type):=(List Nat) ⊕ Nat ⊕ (SS R->Prop)
def pD (D:fJ R) (P:Program) (C:Ctx) (root:Code) (k:Exit->SS R->Prop):List (It R)->Exit->Act->World->Prop
 |[],e,a,w=>∃ σ,k e σ/\M D C σ a w
 |.inl p::r,e,a,w=>match e with
  |.normal=>match iX root p with
   |some c=>c.wp P (pD D P C root k r) a w
   |none=>False
  |e=>pD D P C root k r e a w
 |.inr (.inl id)::r,e,a,w=>KO id (pD D P C root k r) e a w
 |.inr (.inr J)::r,e,a,w=>match e with
  |.normal=>∃ σ,J σ/\C.n0≤σ.hp.length/\M D C σ a w
  |e=>pD D P C root k r e a w
structure At (D:fJ R) (P:Program) (root:Code) (n0:Nat) (k:Exit->SS R->Prop) (todo:List (It R)) (σ:SS R):Prop where
 run:∀ C a w,C.n0=n0->n0≤σ.hp.length->M D C σ a w->pD D P C root k todo .normal a w
def DD (id:Nat):List (It R)->Option (List (It R))
 |[]=>aj
 |.inr (.inl i)::r=>if fp i id then aa r else DD id r
 |.inl _::r=>DD id r
 |.inr (.inr _)::r=>DD id r
theorem ET {root:Code} {k:Exit->SS R->Prop} {id:Nat} {a:Act}:∀ {todo:List (It R)},
  (match DD id todo with|some r=>pD D P C root k r .normal a w|none=>∃ σ,k (.exit id) σ/\M D C σ a w)->pD D P C root k todo (.exit id) a w
 |[],h=>h
 |.inl _::r,h=>by simp only[DD] at h;simp only[pD];exact ET h
 |.inr (.inr _)::r,h=>by simp only[DD] at h;simp only[pD];exact ET h
 |.inr (.inl i)::r,h=>by
  simp only[DD] at h;simp only[pD,KO]
  by_cases he:i=id
  ·subst he;rw[if_pos rfl];rw[if_pos (by simp)] at h
   exact h
  ·rw[if_neg (fun e=>he e.symm)]
   rw[if_neg (by simp[he])] at h
   exact ET h
theorem Ha {root:Code} {k:Exit->SS R->Prop} {a:Act}:∀ {todo:List (It R)},(∃ σ,k .ret σ/\M D C σ a w)->pD D P C root k todo .ret a w
 |[],h=>h
 |.inl _::r,h=>by simp only[pD];exact Ha h
 |.inr (.inr _)::r,h=>by simp only[pD];exact Ha h
 |.inr (.inl i)::r,h=>by simp only[pD,KO];exact Ha h
end
end Rx
namespace Rx
open Go.RowKit State
def KG (tm:List (Option Value)):List Nat->List (Option Value)
 |[]=>[]
 |t::ts=>(match tm[t]? with
  |some (aa v)=>aa v
  |_=>aj)::KG tm ts
def vd:List Value->List (Option Value)
 |[]=>[]
 |v::l=>aa v::vd l
def slot (ts:List Nat) (vs:List Value) (i:Nat):Option Value :=
 match ts,vs with
 |t::ts,v::vs=>if fp t i then aa v else slot ts vs i
 |_,_=>aj
def frame (ts:List Nat) (vs:List Value):Nat->Nat->List (Option Value)
 |_,0=>[]
 |i,n+1=>slot ts vs i::frame ts vs (i+1) n
section
variable {R:Type} {D:fJ R} {P:Program} {T:eJ R} {C:Ctx} {ρ:Env} {ft:Nat->Nat->Prop} {w w':World}
def sX (n:Nat):Hp R->Bool
 |[]=>ao
 |some (.inl (_,cs))::h=>iC n cs&&sX n h
 |_::h=>sX n h
theorem BO:∀ {r:Hp R} {n i:Nat} {B:SB R},sX n r=ao->r[i]?=aa (aa B)->inside n B
 |[],n,i,B,_,hB=>by simp at hB
 |x::r,n,i,B,h,hB=>by
  have hr:sX n r=ao/\(i=0->inside n B):=by
   rcases x with _|⟨t,cs⟩|⟨t,ro⟩|ro|x
   ·exact⟨h,fun e=>by subst e;simp at hB⟩
   ·simp only[sX,aM] at h;exact⟨h.2,fun e=>by subst e;simp only[cd,ct] at hB;subst hB;exact h.1⟩
   ·exact⟨h,fun e=>by subst e;simp only[cd,ct] at hB;subst hB;trivial⟩
   ·exact⟨h,fun e=>by subst e;simp only[cd,ct] at hB;subst hB;trivial⟩
   ·exact⟨h,fun e=>by subst e;simp only[cd,ct] at hB;subst hB;trivial⟩
  cases i with
  |zero=>exact hr.2 rfl
  |succ i=>simp only[bH] at hB;exact BO hr.1 hB
theorem F4 (ts:List Nat) (vs:List Value):∀ (n i j:Nat),(frame ts vs i n).length=n/\(j<n->(frame ts vs i n)[j]?=aa (slot ts vs (i+j)))
 |0,i,j=>⟨rfl,fun h=>by omega⟩
 |n+1,i,j=>by
  obtain⟨h1,h2⟩:=F4 ts vs n (i+1) (j-1);refine⟨by simp[frame,h1],fun h=>?_⟩
  cases j with
  |zero=>simp[frame]
  |succ j =>
   simp only[frame,bH];have:=h2 (by omega)
   simp only[mi] at this;rw[this]
   congr 2
   omega
def Pv (P:Program) (σ:SS R):ResultVar->Option Value
 |.tmp t=>ev σ.tm (.tmp t)
 |.cell p t =>
  match ev σ.tm (.tmp p) with
  |some (.pointer (aa ⟨i,e,aj⟩))=>match AQ P σ t (.tmp p) with
   |some x=>aa x.v
   |none=>aj
  |_=>aj
def E' (P:Program) (σ:SS R):List ResultVar->Option (List Value)
 |[]=>aa []
 |r::l =>
  match Pv P σ r,E' P σ l with
  |some v,aa vs=>aa (v::vs)
  |_,_=>aj
def pack:List Value->Value
 |[v]=>v
 |vs=>.tuple ⟨vs⟩
def ia (P:Program) (rs:List ResultVar) (G:Value->Hp R->Prop) (e:Exit) (σ:SS R):Prop :=
 match e with
 |.ret|.normal=>match E' P σ rs with
  |some vs=>aX (G (pack vs) σ.hp)
  |none=>n6 8
 |_=>n6 9
def TC (a:Act):ResultVar->Sem Value
 |.tmp t=>pure (a.tmps.getD t undef)
 |.cell p t=>do loadVar t (← asAddr (a.tmps.getD p undef))
theorem aam {σ:SS R} {r:ResultVar} {v:Value} {a:Act} (ht:TM ρ σ.hp.length σ.tm a) (hm:HM D C ρ ft σ.hp w) (hl:LI σ.li σ.tm) (h:Pv P σ r=aa v) :
  (TC a r).run P w=.ok (bS ρ v) w:=by
 unfold TC;cases r with
 |tmp t =>
  simp only[Pv] at h;have:=(eu ht h).1;simp only[Cb] at this;simp[← this]
 |cell p t =>
  simp only[Pv] at h;split at h
  ·rename_i i e hp;split at h
   ·rename_i x hx;injection h with h
    subst h;have hev:=(eu ht hp).1;simp only[Cb,bS] at hev;have ux := Sj (D := D) (o := ⟨aj, .load t (.tmp p), 0, "", #[], aj⟩) rfl hx
    have O7:x.vc:=by
     unfold AQ at hx;rw[hp] at hx;simp only at hx;split at hx
     ·split at hx
      ·split at hx
       ·injection hx with hx;subst hx;trivial
       ·cases hx
      ·split at hx
       ·injection hx with hx;subst hx;trivial
       ·cases hx
      ·cases hx
     ·cases hx
    have nN:∃ v',(loadVar t (iI ρ ⟨i,e,aj⟩)).run P w=.ok v' w/\v'=bS ρ x.v:=by
     unfold AQ at hx;rw[hp] at hx;simp only at hx;split at hx
     ·rename_i t' cs hi;split at hx
      ·rename_i hg;split at hx
       ·rename_i v hv;cases hx;have hc:=Cn hm hi e;rw[hv] at hc;exact⟨_,Cj hg (by simpa [iI,cellOf,gu] using hc),rfl⟩
       ·cases hx
      ·rename_i n hg;split at hx
       ·rename_i hle;have hle:=jE hle;cases hx;have hl:(((cs.drop e).take n).map (bS ρ)).length=n:=by simp;omega
        refine⟨_,Gm (cs:=((cs.drop e).take n).map (bS ρ)) (by rw[hl];exact hg) (fun j v hv=>?_),?_⟩
        ·simp only[iI,cellOf];rw[pN,jg,Cn hm hi];have hj:j<n:=by have:=(aT.1 hv).1;omega
         simp only[fh,oF,hj,if_true,oH] at hv;exact hv
        ·show _=bS ρ (.agg _)
         rw[zA];simp
       ·cases hx
      ·cases hx
     ·cases hx
    obtain⟨v',h1,rfl⟩:=nN;simp only[dA,hev,asAddr,dV,cA,h1]
   ·cases h
  ·cases h
theorem R3 {σ:SS R} {a:Act} (ht:TM ρ σ.hp.length σ.tm a) (hm:HM D C ρ ft σ.hp w) (hl:LI σ.li σ.tm):∀ {rs:List ResultVar} {vs:List Value},E' P σ rs=aa vs ->
  (rs.mapM (m:=Sem) (TC a)).run P w=.ok (vs.map (bS ρ)) w
 |[],vs,h=>by
  simp only[E'] at h;injection h with h
  subst h;simp
 |r::rs,vs,h=>by
  simp only[E'] at h;split at h
  ·rename_i v vs' hv Ez;injection h with h
   subst h;have h1:=aam ht hm hl hv;have h2:=R3 ht hm hl Ez;rw[List.mapM_cons,dA,h1,cA,dA,h2];simp
  ·cases h
theorem Zd {σ:SS R} {a:Act} {fn:Func} {vs:List Value} (ht:TM ρ σ.hp.length σ.tm a) (hm:HM D C ρ ft σ.hp w) (hl:LI σ.li σ.tm) (h:E' P σ fn.results.toList=aa vs) :
  (results fn a.tmps).run P w=.ok (bS ρ (pack vs)) w:=by
 have h1:=R3 ht hm hl h;have e:results fn a.tmps=(do let vs ← fn.results.mapM (TC a);pure (if h:vs.size=1 then vs[0] else .tuple vs)):=by
  unfold results
  congr 1
 rw[e,dA,DH,Xe,h1];simp only[cA,dV]
 congr 1
 cases vs with
 |nil=>simp[pack,bS,nq]
 |cons v l =>
  cases l with
  |nil=>simp[pack]
  |cons u l=>simp[pack,bS,nq,lp]
theorem HM.ctx {C':Ctx} {h:Hp R} (hm:HM D C ρ ft h w) (h1:C'.w0=C.w0) (h2:C'.U=C.U):HM D C' ρ ft h w where
 at_ i B hi:=by
  obtain⟨g1,g2⟩:=hm.at_ i B hi;refine⟨?_,g2⟩;rcases B with⟨t,cs⟩|⟨t,r⟩|r|x
  ·exact g1
  ·exact g1
  ·simp only[hold,h1,h2] at g1 ⊢;exact g1
  ·exact g1
 lt:=hm.lt
 fresh i k hk:=by rw[h1,h2];exact hm.fresh i k hk
 apart:=hm.apart
 some_:=hm.some_
 kept:=by rw[h1,h2];exact hm.kept
theorem Ni {f:FuncId} {fn:Func} {root:Code} {args:List Value} {hp:Hp R} {G:Value->Hp R->Prop} (hf:P.funcs[f]?=aa fn) (hb:fn.body=aa root)
  (h:At D P root hp.length (ia P fn.results.toList G) [.inl []] ⟨vd args++ls (fn.ntmps-args.length) aj,[],hp⟩) (hm:HM D C ρ ft hp w) (hi:iC hp.length args=ao) :
  Calls P f (args.map (bS ρ)).toArray w fun e w'=>∃ gx ky v xb,(∀ i,i<hp.length->gx i=ρ i)/\e=.returned (bS gx v)/\G v xb/\HM D C gx ky xb w':=by
 have FE:∀ (l:List Value),vd l=l.map aa:=fun l=>by induction l with
  |nil=>rfl
  |cons v l ih=>simp[vd,ih]
 refine calls_of_wp hf hb ?_;have hM:M D ⟨C.w0,C.U,ρ,hp.length⟩ ⟨vd args++ls (fn.ntmps-args.length) aj,[],hp⟩ { tmps:=(args.map (bS ρ)).toArray++Array.replicate (fn.ntmps-(args.map (bS ρ)).toArray.size) undef,defers:=[] } w:=by
  refine⟨rfl,fun t b hb=>(by cases hb),ρ,ft,fun i _=>rfl,⟨by simp[FE],fun t v ht=>?_⟩,hm.ctx rfl rfl⟩
  rw[FE] at ht;have ch:t<args.length:=by
   rcases cr t args.length with ch|j6
   ·exact ch
   ·rw[dS (by simpa using j6),List.getElem?_replicate] at ht
    split at ht
    ·injection ht with ht;cases ht
    ·cases ht
  rw[cZ (by simpa using ch),fh] at ht
  cases hv:args[t]? with
  |none=>rw[hv] at ht;cases ht
  |some u =>
   rw[hv] at ht;simp only[j_,ct] at ht;subst ht;refine⟨?_,wR.1 hi u (lB hv)⟩;rw[Array.getElem?_append_left (by simpa using ch)]
   simp[hv]
 have hs:=h.run ⟨C.w0,C.U,ρ,hp.length⟩ _ w rfl (a_ _) hM;simp only[pD,iX] at hs;refine wp_mono hs fun e a' w' ⟨σ,hk,Xp⟩=>?_
 obtain⟨gx,ky,g0,g1,g2⟩:=Xp.ex;have key:∀ (e:Exit),ia P fn.results.toList G e σ->(e=.ret∨e=.normal)->∃ v,(results fn a'.tmps).run P w'=.ok v w'/\∃ gx ky v2 xb,(∀ i,i<hp.length->gx i=ρ i)/\Ending.returned v=.returned (bS gx v2)/\G v2 xb/\HM D C gx ky xb w':=by
  intro e hk he;have:∃ vs,E' P σ fn.results.toList=aa vs/\G (pack vs) σ.hp:=by
   rcases he with rfl|rfl
   ·simp only[ia] at hk;split at hk
    ·exact⟨_,by assumption,hk.out⟩
    ·exact hk.elim
   ·simp only[ia] at hk;split at hk
    ·exact⟨_,by assumption,hk.out⟩
    ·exact hk.elim
  obtain⟨vs,h1,h2⟩:=this;exact⟨_,Zd g1 g2 Xp.li h1,gx,ky,pack vs,σ.hp,g0,rfl,h2,g2.ctx rfl rfl⟩
 cases e with
 |ret=>exact⟨Xp.defers,key _ hk (dK rfl)⟩
 |normal=>exact⟨Xp.defers,key _ hk (e7 rfl)⟩
 |_=>exact n6.elim hk
end
end Rx
namespace Rx
open Go.RowKit State
section
variable {R:Type} {D:fJ R} {C:Ctx} {ρ gx:Env} {ft ky:Nat->Nat->Prop} {w w':World} {h hr hx h':Hp R}
def hO:SB R->Bool
 |.inr (.inr (.inl _))=>ao
 |_=>an
theorem yM {C':Ctx} {i:Nat} {F:Nat->Prop} {B:SB R} (hB:hO B=an) (hh:hold D C ρ i F w B):hold D C' ρ i F w B:=by
 rcases B with⟨t,cs⟩|⟨t,r⟩|r|x
 ·exact hh
 ·exact hh
 ·cases hB
 ·exact hh
def Seen (hr:Hp R) (b:Nat):Prop:=∃ X,hr[b]?=aa (aa X)
def PS (w:World) (hr:Hp R) (ft:Nat->Nat->Prop) (ρ:Env) (n:Nat):Ctx:=⟨w,fun k=>∃ b,Seen hr b/\ft b k,ρ,n⟩
theorem HM.sub (hm:HM D C ρ ft h w) (nk:∀ (b:Nat) (X:SB R),hr[b]?=aa (aa X)->h[b]?=aa (aa X)) (j8:sX hr.length hr=ao) (n:Nat) :
  HM D (PS w hr ft ρ n) ρ (fun b k=>Seen hr b/\ft b k) hr w where
 at_ i B hB:=by
  obtain⟨h1,h2⟩:=hm.at_ i B (nk i B hB);refine⟨?_,BO j8 hB⟩;have Mp:(fun k=>Seen hr i/\ft i k)=ft i:=funext fun k=>propext ⟨fun h=>h.2,fun h=>⟨⟨B,hB⟩,h⟩⟩
  rw[Mp];rcases B with⟨t,cs⟩|⟨t,r⟩|r|x
  ·exact h1
  ·exact h1
  ·obtain⟨g1,g2,g3,g4,g5,arr,g6,g7⟩:=h1;refine⟨g1,g2,g3,g4,g5,arr,fun hn h0=>?_,g7⟩
   obtain⟨q1,q2,t,fz,q3⟩:=g6 hn h0;refine⟨lA q1 hm.kept.size,fun⟨b,_,hb⟩=>?_,t,fz,by rw[← q3];exact hm.kept.block _ q1 q2⟩
   rcases hm.fresh b _ hb with hu|j6
   ·exact q2 hu
   ·omega
  ·exact h1
 lt i k hk:=hm.lt i k hk.2
 fresh i k hk:=dK ⟨i,hk.1,hk.2⟩
 apart i j k hi hj:=hm.apart i j k hi.2 hj.2
 some_ i k hk:=hk.1
 kept:=Kept.refl _ _
theorem HM.back (hm:HM D C ρ ft h w) (nk:∀ (b:Nat) (X:SB R),hr[b]?=aa (aa X)->h[b]?=aa (aa X)) (hle:hr.length≤h.length) {n:Nat}
  (mH:HM D (PS w hr ft ρ n) gx ky hx w') (qM:∀ b,b<hr.length->gx b=ρ b) (hlx:hr.length≤hx.length) (hal:hr.length<hx.length->hr.length=h.length)
  (hv:∀ (b:Nat) (X:SB R),hx[b]?=aa (aa X)->(b<hr.length->∃ Y,hr[b]?=aa (aa Y))/\(hO X=an∨∃ Y,hr[b]?=aa (aa Y)/\hO Y=ao))
  (hlen:h'.length=if hr.length<hx.length then hx.length else h.length)
  (um:∀ (b:Nat),(∃ Y,hr[b]?=aa (aa Y)/\hO Y=an)∨h.length≤b->h'[b]?=if b<hx.length then hx[b]? else aj)
  (OC:∀ (b:Nat),b<h.length->¬ (∃ Y,hr[b]?=aa (aa Y)/\hO Y=an)->h'[b]?=h[b]?) :
  HM D C (fun b=>if b<h.length then ρ b else gx b) (fun b k=>(((∃ Y,hr[b]?=aa (aa Y)/\hO Y=an)∨h.length≤b)/\ky b k)∨(¬ ((∃ Y,hr[b]?=aa (aa Y)/\hO Y=an)∨h.length≤b)/\ft b k)) h' w':=by
 have A9:h'.length≤hx.length∨h'.length=h.length:=by
  rw[hlen];split
  ·exact dK (a_ _)
  ·exact e7 rfl
 have j6:h.length≤h'.length:=by
  rw[hlen];split
  ·rename_i ch;have:=hal ch;omega
  ·exact a_ _
 let T:Nat->Prop:=fun b=>∃ Y,hr[b]?=aa (aa Y)/\hO Y=an
 have apt:∀ b,T b->b<hr.length:=fun b ⟨Y,hY,_⟩=>(aT.1 hY).1
 have RG:∀ j,j<hx.length->(if j<h.length then ρ j else gx j)=gx j:=fun j hj=>by
  split
  ·rename_i ch;rcases cr j hr.length with h1|h1
   ·exact(qM j h1).symm
   ·have:=hal (by omega);omega
  ·rfl
 refine hm.step T ?_ (fun i hi=>by simp[hi]) j6 ?_ ?_ ?_ ?_
 ·-- what may have apf written
  refine⟨mH.kept.os,mH.kept.tape,mH.kept.output,mH.kept.size,fun k hk hn=>mH.kept.block k hk fun⟨b,⟨X,hX⟩,hb⟩=>hn ⟨b,⟨X,hX,?_⟩,hb⟩⟩
  cases hX2:hO X with
  |false=>rfl
  |true =>
   have:=(hm.at_ b X (nk b X hX)).1;rcases X with⟨t,cs⟩|⟨t,r⟩|r|x<;>simp[hO] at hX2
   exact absurd hb (this.1 k)
 ·intro i B hi hB;have Ee:T i∨h.length≤i:=by
   rcases cr i h.length with ch|rM
   ·exact dK (hi ch)
   ·exact e7 rM
  rw[um i Ee] at hB;split at hB
  ·rename_i ch;obtain⟨g1,g2⟩:=mH.at_ i B hB;have RV:hO B=an:=by
    rcases(hv i B hB).2 with h1|⟨Y,hY,X2⟩
    ·exact h1
    ·rcases Ee with⟨Y',Sf,JD⟩|rM
     ·rw[hY] at Sf;injection Sf with e;injection e with e;subst e;rw[X2] at JD;cases JD
     ·have:=(aT.1 hY).1;omega
   refine⟨?_,Cl ?_ g2⟩
   ·have e:(fun k=>((T i∨h.length≤i)/\ky i k)∨(¬ (T i∨h.length≤i)/\ft i k))=ky i:=funext fun k=>propext ⟨fun h=>h.elim (fun h=>h.2) (fun h=>absurd Ee h.1),fun h=>dK ⟨Ee,h⟩⟩
    show hold D C _ i (fun k=>((T i∨h.length≤i)/\ky i k)∨(¬ (T i∨h.length≤i)/\ft i k)) w' B
    rw[e];exact yM RV (H2 g1 RG ch g2)
   ·rw[hlen];split
    ·exact a_ _
    ·have:hx.length=hr.length:=by omega
     omega
  ·cases hB
 ·intro i hi hn;refine⟨OC i hi hn,fun k=>?_⟩
  have:¬ (T i∨h.length≤i):=fun hh=>hh.elim hn (fun h=>by omega)
  exact⟨fun h=>h.elim (fun h=>absurd h.1 this) (fun h=>h.2),fun h=>e7 ⟨this,h⟩⟩
 ·intro i k hi hk;have Ee:T i∨h.length≤i:=by
   rcases cr i h.length with ch|rM
   ·exact dK (hi ch)
   ·exact e7 rM
  have nx:ky i k:=hk.elim (fun h=>h.2) (fun h=>absurd Ee h.1)
  refine⟨?_,mH.lt i k nx,?_⟩
  ·rcases mH.fresh i k nx with⟨b,⟨X,hX⟩,hb⟩|rM
   ·refine dK ⟨b,⟨X,hX,?_⟩,hb⟩;cases hX2:hO X with
    |false=>rfl
    |true =>
     have:=(hm.at_ b X (nk b X hX)).1;rcases X with⟨t,cs⟩|⟨t,r⟩|r|x<;>simp[hO] at hX2
     exact absurd hb (this.1 k)
   ·exact e7 rM
  ·obtain⟨B,hB⟩:=mH.some_ i k nx;refine⟨B,?_⟩;rw[um i Ee,if_pos (aT.1 hB).1];exact hB
 ·intro i j k hi hj Hf Hg;have Mi:T i∨h.length≤i:=by
   rcases cr i h.length with ch|rM
   ·exact dK (hi ch)
   ·exact e7 rM
  have hTj:T j∨h.length≤j:=by
   rcases cr j h.length with ch|rM
   ·exact dK (hj ch)
   ·exact e7 rM
  exact mH.apart i j k (Hf.elim (fun h=>h.2) (fun h=>absurd Mi h.1)) (Hg.elim (fun h=>h.2) (fun h=>absurd hTj h.1))
end
end Rx
namespace Rx
open Go.RowKit State
section
variable {R:Type} {D:fJ R} {P:Program} {T:eJ R} {σ:SS R} {x:Out R}
def jz (σ:SS R) (x:Out R):Prop:=x.wr=[]->x.hp=σ.hp
theorem iN (vc:Prop) (v:Value) (lit:Option Bool) (rd:List (Nat×Nat)):jz σ (gu σ vc v lit rd):=fun _=>rfl
theorem sr {o:Oper} (h:uA P σ o=aa x):jz σ x:=by
 unfold uA at h
 repeat' split at h
 all_goals first
  |(injection h with h;subst h;exact iN _ _ _ _)
  |cases h
theorem AV {y:Operand} (h:vY σ y=aa x):jz σ x:=by
 unfold vY at h
 repeat' split at h
 all_goals first
  |(injection h with h;subst h;exact iN _ _ _ _)
  |cases h
theorem Ny {t:TypeId} (h:vf P σ t=aa x):jz σ x:=by
 unfold vf at h
 repeat' split at h
 all_goals first
  |(injection h with h;subst h;intro hw;cases hw)
  |cases h
theorem Hx {t:TypeId} {y:Operand} (h:wM P σ t y=aa x):jz σ x:=by
 unfold wM at h;split at h
 ·split at h
  ·rename_i hx;injection h with h;subst h;exact Ny hx
  ·exact AV h
 ·exact AV h
theorem UZ {c y z:Operand} (h:Hy σ c y z=aa x):jz σ x:=by
 unfold Hy at h;split at h
 ·exact AV h
 ·exact AV h
 ·split at h
  ·injection h with h;subst h;exact iN _ _ _ _
  ·cases h
theorem Hv {t:TypeId} {cs:List Value} (h:xa σ t cs=aa x):jz σ x:=by
 unfold xa at h;injection h with h;subst h;intro hw;cases hw
theorem SL {t:TypeId} (h:D4 P σ t=aa x):jz σ x:=by
 unfold D4 at h
 repeat' split at h
 all_goals first
  |exact Hv h
  |cases h
theorem WN {t:TypeId} {y:Operand} (h:Lg σ t y=aa x):jz σ x:=by
 unfold Lg at h
 repeat' split at h
 all_goals first
  |exact Hv h
  |cases h
theorem SN {t:TypeId} {ps:List (Nat×Operand)} (h:DO P σ t ps=aa x):jz σ x:=by
 unfold DO at h
 repeat' split at h
 all_goals first
  |(injection h with h;subst h;exact iN _ _ _ _)
  |cases h
theorem Ko {t:TypeId} {n:Nat} {ps:List (Nat×Operand)} (h:uj P σ t n ps=aa x):jz σ x:=by
 unfold uj at h
 repeat' split at h
 all_goals first
  |(injection h with h;subst h;intro hw;cases hw)
  |cases h
theorem Uo {t:TypeId} {y:Operand} (h:AQ P σ t y=aa x):jz σ x:=by
 unfold AQ at h
 repeat' split at h
 all_goals first
  |(injection h with h;subst h;exact iN _ _ _ _)
  |cases h
theorem XD {i e n:Nat} (h:Nj i e n=[]):n=0:=by
 cases n with
 |zero=>rfl
 |succ n=>simp[Nj] at h
theorem ac8 {α:Type} {l:List α} {i:Nat} {a:α} (h:l[i]?=aa a):l.set i a=l:=by
 have hl:i<l.length:=(aT.1 h).1;apply nQ;intro u
 by_cases he:i=u
 ·subst he;rw[jW hl,h]
 ·rw[kv he]
theorem S4 {t:TypeId} {y z:Operand} (h:DU P σ t y z=aa x):jz σ x:=by
 unfold DU at h;split at h
 ·rename_i i e v _ _;split at h
  ·rename_i ty cs inf hi _;split at h
   ·rename_i hc;simp only[aM] at hc;injection h with h
    subst h;intro hw;have h0:=XD hw;have h1:=cO hc.1.1;rw[h0] at h1;have h2:v.cells.toList=[]:=iS h1;simp only[h2];exact ac8 (by rw[hi];rfl)
   ·cases h
  ·cases h
 ·rename_i i e q v _ _;split at h
  ·rename_i ty r inf hi _;split at h
   ·rename_i hc;simp only[aM,fe] at hc;split at h
    ·injection h with h
     subst h;intro hw;have h0:=XD hw;omega
    ·cases h
   ·cases h
  ·cases h
 ·cases h
theorem WW {y:Operand} (h:Lw σ y=aa x):jz σ x:=by
 unfold Lw at h
 repeat' split at h
 all_goals first
  |(injection h with h;subst h;exact iN _ _ _ _)
  |cases h
theorem Jj {neg:Bool} {t:TypeId} {y z:Operand} (h:zE P σ neg t y z=aa x):jz σ x:=by
 unfold zE at h
 repeat' split at h
 all_goals first
  |(injection h with h;subst h;exact iN _ _ _ _)
  |cases h
theorem Jo {neg:Bool} {t:TypeId} {y z:Operand} (h:zB P σ neg t y z=aa x):jz σ x:=by
 unfold zB at h;split at h
 ·split at h
  ·split at h
   ·split at h
    ·injection h with h;subst h;exact iN _ _ _ _
    ·cases h
   ·cases h
  ·cases h
 ·cases h
theorem WR {op:BinOp} {y z:Operand} (h:OV σ op y z=aa x):jz σ x:=by
 unfold OV at h
 repeat' split at h
 all_goals first
  |(injection h with h;subst h;exact iN _ _ _ _)
  |cases h
theorem WU {y z:Operand} (h:P6 σ y z=aa x):jz σ x:=by
 unfold P6 at h
 repeat' split at h
 all_goals first
  |(injection h with h;subst h;exact iN _ _ _ _)
  |cases h
theorem I' {own:Option (Option (SB R))->Bool} {neg:Bool} {t:TypeId} {y z:Operand} (h:zf P σ own neg t y z=aa x):jz σ x:=by
 unfold zf at h
 repeat' split at h
 all_goals first
  |(injection h with h;subst h;exact iN _ _ _ _)
  |cases h
theorem J2 {t:TypeId} {n:Nat} {ps:List (Nat×Operand)} (h:ug P σ t n ps=aa x):jz σ x:=by
 unfold ug at h
 repeat' split at h
 all_goals first
  |(injection h with h;subst h;intro hw;cases hw)
  |cases h
theorem J_ {t:TypeId} {y z:Operand} (h:wG P σ t y z=aa x):jz σ x:=by
 unfold wG at h
 repeat' split at h
 all_goals first
  |(injection h with h;subst h;exact iN _ _ _ _)
  |cases h
theorem Xb {o:Oper} {op:BinOp} {t:TypeId} {y z:Operand} (h:K6 P T σ o op t y z=aa x):jz σ x:=by
 unfold K6 at h;split at h
 ·split at h
  ·exact sr h
  ·exact WR h
 ·split at h
  ·exact WU h
  ·cases h
 ·split at h
  ·exact Jj h
  ·exact Jj h
  ·cases h
 ·split at h
  ·exact Jo h
  ·exact Jo h
  ·cases h
 ·split at h
  ·exact I' h
  ·exact I' h
  ·cases h
 ·exact sr h
theorem W4 {y:Operand} (h:Ld σ y=aa x):jz σ x:=by
 unfold Ld at h
 repeat' split at h
 all_goals first
  |(injection h with h;subst h;exact iN _ _ _ _)
  |cases h
theorem SP {t:TypeId} {y:Operand} {lo hi mx:Option Operand} (h:Hw P σ t y lo hi mx=aa x):jz σ x:=by
 unfold Hw at h
 repeat' split at h
 all_goals first
  |(injection h with h;subst h;exact iN _ _ _ _)
  |(injection h with h;subst h;intro hw;cases hw)
  |cases h
theorem LL {t:TypeId} {y:Operand} {k:Nat} (h:wc P σ t y k=aa x):jz σ x:=by
 unfold wc at h
 repeat' split at h
 all_goals first
  |(injection h with h;subst h;exact iN _ _ _ _)
  |cases h
theorem S6 {t:TypeId} {y:Operand} {k:Nat} (h:DY P σ t y k=aa x):jz σ x:=by
 unfold DY at h
 repeat' split at h
 all_goals first
  |(injection h with h;subst h;exact iN _ _ _ _)
  |cases h
theorem LG {t:TypeId} {y z:Operand} (h:yi P σ t y z=aa x):jz σ x:=by
 unfold yi at h
 repeat' split at h
 all_goals first
  |(injection h with h;subst h;exact iN _ _ _ _)
  |cases h
theorem Nf {t:TypeId} {y z:Operand} (h:An P σ t y z=aa x):jz σ x:=by
 unfold An at h
 repeat' split at h
 all_goals first
  |(injection h with h;subst h;exact iN _ _ _ _)
  |cases h
theorem NA {t:TypeId} {y z:Operand} (h:A8 P σ t y z=aa x):jz σ x:=by
 unfold A8 at h
 repeat' split at h
 all_goals first
  |(injection h with h;subst h;exact iN _ _ _ _)
  |cases h
theorem PI {y:Operand} {k:Nat} (h:zy σ y k=aa x):jz σ x:=by
 unfold zy at h
 repeat' split at h
 all_goals first
  |(injection h with h;subst h;exact iN _ _ _ _)
  |cases h
theorem LH {t:TypeId} {y z:Operand} (h:yb P σ t y z=aa x):jz σ x:=by
 unfold yb at h
 repeat' split at h
 all_goals first
  |(injection h with h;subst h;intro hw;cases hw)
  |cases h
theorem WM {t:TypeId} {y:Operand} (h:Lx P σ t y=aa x):jz σ x:=by
 unfold Lx at h
 repeat' split at h
 all_goals first
  |(injection h with h;subst h;exact iN _ _ _ _)
  |cases h
theorem Qt {t t2:TypeId} {y z:Operand} (h:yI P σ t t2 y z=aa x):jz σ x:=by
 unfold yI at h;split at h
 ·split at h
  ·split at h
   ·injection h with h;subst h;intro hw;cases hw
   ·cases h
  ·split at h
   ·split at h
    ·injection h with h;subst h;intro hw;cases hw
    ·cases h
   ·cases h
  ·cases h
 ·cases h
theorem UE (hT:cN D P T) {f:Operand} {args:List Operand} {b:Bool} (h:EZ T σ f args b=aa x):jz σ x:=by
 unfold EZ at h;split at h
 ·split at h
  ·rename_i p hp;exact((B2 hT hp).ok b).still _ _ _ h
  ·cases h
 ·cases h
theorem QC (hT:cN D P T) {r:Operand} {name:String} {args:List Operand} {b:Bool} (h:yU P T σ r name args b=aa x):jz σ x:=by
 unfold yU at h;split at h
 ·split at h
  ·split at h
   ·rename_i p _ hp;exact((B2 hT hp).ok b).still _ _ _ h
   ·cases h
  ·cases h
 ·cases h
theorem W8 (hT:cN D P T) {f:Operand} {args:List Operand} {b:Bool} (h:EZ T σ f args b=aa x):∀ i,i<σ.hp.length->Pz x.wr i=ao->x.hp[i]?=σ.hp[i]?:=by
 unfold EZ at h;split at h
 ·split at h
  ·rename_i p hp;exact(B2 hT hp).IJ b _ _ _ h
  ·cases h
 ·cases h
theorem SZ (hT:cN D P T) {r:Operand} {name:String} {args:List Operand} {b:Bool} (h:yU P T σ r name args b=aa x):∀ i,i<σ.hp.length->Pz x.wr i=ao->x.hp[i]?=σ.hp[i]?:=by
 unfold yU at h;split at h
 ·split at h
  ·split at h
   ·rename_i p _ hp;exact(B2 hT hp).IJ b _ _ _ h
   ·cases h
  ·cases h
 ·cases h
theorem Nw {fn:Fn} {fi ca:List Operand} (h:AR σ fn fi ca=aa x):jz σ x:=by
 unfold AR at h;split at h
 ·injection h with h;subst h;exact iN _ _ _ _
 ·cases h
theorem SV {t:TypeId} {y:Operand} (h:DV P T σ t y=aa x):jz σ x:=by
 unfold DV at h;split at h
 ·rename_i hx;injection h with h;subst h;exact Uo hx
 ·repeat' split at h
  all_goals first
   |(injection h with h;subst h;exact iN _ _ _ _)
   |cases h
theorem abD (hT:cN D P T) {o:Oper} {b:Bool} (h:LX P T σ o b=aa x):jz σ x:=by
 obtain⟨dst,op,ty,pos,after,guard⟩:=o;unfold LX at h;simp only at h;split at h
 ·exact Hx h
 ·exact Hx h
 ·exact UZ h
 ·exact SL h
 ·exact WN h
 ·exact SN h
 ·split at h
  ·rename_i hx;injection h with h;subst h;exact Ko hx
  ·exact J2 h
 ·exact SV h
 ·split at h
  ·exact S4 h
  ·cases h
 ·exact WW h
 ·exact Xb h
 ·split at h
  ·exact W4 h
  ·exact sr h
 ·exact SP h
 ·exact LL h
 ·exact S6 h
 ·split at h
  ·exact Nf h
  ·split at h
   ·exact J_ h
   ·exact LG h
 ·split at h
  ·exact NA h
  ·exact sr h
 ·exact PI h
 ·exact LH h
 ·rename_i callee args ts;split at h
  ·exact UE hT h
  ·split at h
   ·exact Qt h
   ·split at h
    ·exact WM h
    ·exact sr h
   ·exact sr h
  ·exact QC hT h
 ·exact Nw h
 ·exact sr h
def abt (o:Oper):Bool :=
 match o with
 |⟨_,.call ⟨.value _,_,_⟩,_,_,_,_⟩=>ao
 |⟨_,.call ⟨.invoke _ _,_,_⟩,_,_,_,_⟩=>ao
 |_=>an
def Uz (o:Oper):Bool :=
 match o with
 |⟨_,.call ⟨.builtin .append,⟨[_,_]⟩,⟨[_,_]⟩⟩,_,_,_,_⟩=>ao
 |_=>an
theorem SQ {t t2:TypeId} {y z:Operand} (h:yI P σ t t2 y z=aa x):∀ i,i<σ.hp.length->H_ x.wr i=an->x.hp[i]?=σ.hp[i]?:=by
 unfold yI at h;split at h
 ·split at h
  ·split at h
   ·injection h with h;subst h;intro i hi _;exact cZ hi
   ·cases h
  ·split at h
   ·split at h
    ·injection h with h
     subst h;intro j hj hm;simp only[H_,Bool.or_eq_false_iff] at hm;simp only;rw[cZ (by simpa using hj),kv]
     intro e;rw[e] at hm;simp at hm
    ·cases h
   ·cases h
  ·cases h
 ·cases h
def Li (o:Oper) (wr:List (Nat×Nat)) (b:Nat):Bool:=(abt o&&Pz wr b)||(Uz o && !H_ wr b)
theorem ac4 (hT:cN D P T) {o:Oper} {b:Bool} (h:LX P T σ o b=aa x):∀ i,i<σ.hp.length->Li o x.wr i=ao->x.hp[i]?=σ.hp[i]?:=by
 intro i hi hk;simp only[Li,Bool.or_eq_true,aM] at hk;rcases hk with⟨hc,hk⟩|⟨hc,hk⟩
 ·unfold abt at hc;split at hc
  ·exact W8 hT h i hi hk
  ·exact SZ hT h i hi hk
  ·cases hc
 ·unfold Uz at hc;split at hc
  ·exact SQ h i hi (by simpa using hk)
  ·cases hc
end
end Rx
end Go.Proofs.YtjlomlgdgpoepaaGreat
