import Derived.LaidEql
import Derived.Below
import Derived.WalkKit
import Derived.Laws.OwnMore
import Derived.Deep.Draws
import Derived.Orders
import Derived.IntWalk
import Derived.Laws.Append
import Derived.Scope
import Derived.Still
set_option linter.unusedVariables false
set_option linter.unusedSimpArgs false
namespace Go.Proofs.YtjlomlgdgpoepaaGreat
open _root_.Array renaming ext'→qu,getElem?_eq_none→Gr,getElem?_setIfInBounds→uK,length_toList→wj,mapM_eq_mapM_toList→Dy,range→Gs,toArray_toList→IK,toList_extract→IJ,toList_map→mj
open _root_.Bool renaming and_eq_true→aL,false_eq_true→fu,false→ao,true→aq,xor→xd
open _root_.Classical renaming byContradiction→iy
open _root_.Eq renaming symm→qV
open _root_.Go renaming undef→vq
open _root_.Go.Act renaming eval→B2,put→B3
open _root_.Go.BinOp renaming eql→Ss,neq→z6
open _root_.Go.Builtin renaming append_→tD,firstCells→ku,lenOf→C8,zeroCells→pj
open _root_.Go.Exit renaming inBlock→KI
open _root_.Go.Instr renaming buildSlice→NZ,build→WZ,field→WW,fill→ZY,indexAt→Jk,loadAt→A6,sliceAt→Jl,sliceBounds→tZ,sliceBound→Fi,slice→W0,storeAt→SQ,sureAddr→oH
open _root_.Go.IntKind renaming i64→av
open _root_.Go.Made renaming depth→P7
open _root_.Go.Op renaming eqFields→Ch,equalIn→mi,equal→V_,intArith→Mr
open _root_.Go.Oper renaming upon_enter→P6,upon→acA,wp→RA
open _root_.Go.Program renaming fieldsOf→NY
open _root_.Go.Region renaming wanted→kz
open _root_.Go.Result renaming andThen_ok→cA
open _root_.Go.RowKit.Below renaming heap_alloc→NX,heap_setCell→KH
open _root_.Go.Sem renaming program→W1,run_bind→dz,run_ite→Ms,run_map→WY,run_pure→dX
open _root_.Go.Value renaming cells→np,iface→Gt,oneCell'→qb
open _root_.Go.World renaming cell?_of_block→A5,frozen?→SP,setRow→Ff
open _root_.Iff renaming rfl→r_
open _root_.Int renaming eq_ofNat_of_zero_le→s8,le_refl→nq,toNat_natCast→iF
open _root_.List renaming append_assoc→rD,eq_nil_of_length_eq_zero→iQ,ext_getElem?→nU,getD_eq_getElem?_getD→ax,getElem?_append_left→db,getElem?_append_right→dU,getElem?_cons_succ→bH,getElem?_cons_zero→cf,getElem?_drop→oL,getElem?_eq_getElem→bj,getElem?_eq_none→dg,getElem?_eq_some_iff→aU,getElem?_map→gh,getElem?_of_mem→A7,getElem?_range→sH,getElem?_set_ne→kr,getElem?_set_self→jS,getElem?_set→Dh,getElem?_take→oJ,getElem?_toArray→jA,length_append→bJ,length_cons→cI,length_nil→ky,length_set→e_,map_congr_left→nY,map_cons→gC,map_id→WX,map_nil→A9,map_toArray→vp,mem_append→b9,mem_cons→bR,mem_filter→pa,mem_map→o_,mem_of_getElem?→lu,replicate→ld,size_toArray→Di
open _root_.Nat renaming add_assoc→jh,add_comm→sC,add_mul_div_right→z7,add_mul_mod_self_right→vX,add_mul→ik,add_sub_cancel→mb,add_zero→gV,beq→fo,ble_eq→vo,ble→uJ,blt_eq→fa,blt→gU,div_eq_of_lt→Fg,eq_of_beq_eq_true→cR,le_of_ble_eq_true→jB,le_of_not_lt→nl,le_refl→bc,le_succ→mH,le_trans→iY,lt_of_lt_of_le→ls,lt_or_ge→cx,mod_eq_of_lt→Fh,mod_lt→P4,mul_comm→Wa,mul_eq_zero→Gc,mul_le_mul_right→jo,one_mul→qv,sub_self→V',zero_add→b5,zero_mul→A8
open _root_.Ne renaming symm→Yq
open _root_.Option renaming map_none→P5,map_some→j_,none→aj,some→aa
open _root_.Option.some renaming injEq→cu,inj→o9
open _root_.Or renaming inl→dN,inr→eY
namespace State
open Go.RowKit
structure Kept (F:Nat->Prop) (w w':World):Prop where
 os:w'.os=w.os
 tape:w'.tape=w.tape
 output:w'.output=w.output
 size:w.heap.size≤w'.heap.size
 block:∀ k,k<w.heap.size->¬ F k->w'.heap[k]?=w.heap[k]?
section
variable {F G:Nat->Prop} {a b c w w':World}
theorem Kept.refl (F:Nat->Prop) (w:World):Kept F w w:=⟨rfl,rfl,rfl,bc _,fun _ _ _=>rfl⟩
theorem Kept.trans (h:Kept F a b) (k:Kept G b c) (hFG:∀ i,i<a.heap.size->G i->F i):Kept F a c :=
 ⟨k.os.trans h.os,k.tape.trans h.tape,k.output.trans h.output,iY h.size k.size,fun i hi hn=>(k.block i (ls hi h.size) (fun hg=>hn (hFG i hi hg))).trans (h.block i hi hn)⟩
theorem Kept.mono (h:Kept F a b) (hFG:∀ i,F i->G i):Kept G a b:=⟨h.os,h.tape,h.output,h.size,fun i hi hn=>h.block i hi (fun hf=>hn (hFG i hf))⟩
theorem Kept.drew (h:Kept F a b):Kept F a b.drew:=⟨h.os,h.tape,h.output,h.size,h.block⟩
theorem Kept.alloc (h:Kept F a b) (o:Obj):Kept F a (b.alloc o) :=
 ⟨h.os,h.tape,h.output,iY h.size (by simp),fun i hi hn=>(NX b o i (ls hi h.size)).trans (h.block i hi hn)⟩
theorem Kept.setCell (h:Kept F a b) {p:Addr} (hp:F p.block∨a.heap.size≤p.block) (u:Value):Kept F a (b.setCell p u) :=
 ⟨h.os,h.tape,h.output,by simpa [World.setCell] using h.size,fun i hi hn=>(KH b p u i (fun e=>by
  rcases hp with hp|hp
  ·exact hn (by rw[e];exact hp)
  ·omega)).trans (h.block i hi hn)⟩
theorem Kept.below {B:Nat} (h:Kept F a b) (hB:∀ k,k<B->k<a.heap.size/\¬ F k):Below B a b:=⟨h.os,h.tape,h.output,h.size,fun k hk=>h.block k (hB k hk).1 (hB k hk).2⟩
theorem Kept.cell (h:Kept F a b) {p:Addr} (hp:p.block<a.heap.size) (hn:¬ F p.block):b.cell? p=a.cell? p:=A5 (h.block p.block hp hn)
theorem Kept.frozen (h:Kept F a b) {p:Addr} (hp:p.block<a.heap.size) (hn:¬ F p.block):b.frozen? p=a.frozen? p:=World.frozen?_of_block (h.block p.block hp hn)
end
def Whole (w:World) (g:Nat) (t:TypeId) (cs:Array Value):Prop:=w.heap[g]?=aa (.cells cs t (0,0))
section
variable {F:Nat->Prop} {w w':World} {g:Nat} {t:TypeId} {cs:Array Value}
theorem Whole.lt (h:Whole w g t cs):g<w.heap.size:=by
 rcases cx g w.heap.size with cl|j6
 ·exact cl
 ·unfold Whole at h;rw[Gr j6] at h;cases h
theorem Whole.cell (h:Whole w g t cs) (i:Nat):w.cell? ⟨g,i,aj⟩=cs[i]?:=cell_of_row w g i cs t (0,0) h
theorem Whole.frozen (h:Whole w g t cs) (i:Nat):w.frozen? ⟨g,i,aj⟩=ao:=by
 unfold Whole at h;unfold SP;simp only[h];simp
theorem Whole.new (w:World) (t:TypeId) (cs:Array Value):Whole (w.alloc (.cells cs t)) w.heap.size t cs:=heap_alloc_new w _
theorem Whole.kept (h:Whole w g t cs) (hk:Kept F w w') (hn:¬ F g):Whole w' g t cs:=(hk.block g h.lt hn).trans h
theorem Whole.alloc (h:Whole w g t cs) (o:Obj):Whole (w.alloc o) g t cs:=(NX w o g h.lt).trans h
theorem Whole.far (h:Whole w g t cs) {p:Addr} (hp:g≠p.block) (u:Value):Whole (w.setCell p u) g t cs:=(KH w p u g hp).trans h
end
def VU (w:World) (base:Nat) (e:TypeId) (v:Value) (xs:List Value):Prop:=w.ownsRow base e 1 v xs.length xs
section
variable {F:Nat->Prop} {w w':World} {base:Nat} {e:TypeId} {v:Value} {xs:List Value}
theorem VU.nil (w:World) (base:Nat) (e:TypeId):VU w base e (.slice aj 0 0) []:=World.ownsRow_nil _ _ _ _
theorem VU.kept (h:VU w base e v xs) (hk:Kept F w w') (hn:∀ k,v.ownBlock=aa k->¬ F k):VU w' base e v xs:=by
 refine⟨h.1,?_⟩;rcases h.2 with h'|⟨g,cap,cur,hv,hba,hh,hr⟩
 ·exact dN h'
 ·refine eY ⟨g,cap,cur,hv,hba,?_,hr⟩;have cl:g<w.heap.size:=by
   rcases cx g w.heap.size with h|h
   ·exact h
   ·rw[Gr h] at hh;cases hh
  rw[hk.block g cl (hn g (by rw[hv];rfl))]
  exact hh
end
end State
namespace Rx
structure Place where
 lB:Nat
 off:Nat
 cap:Nat
 nil:Bool
abbrev Env:=Nat->Place
def cellOf (e:Nat):Option Nat->Nat
 |none=>e
 |some q=>e*(q%1000000 / 1000)+q%1000
def iE (ρ:Env) (a:Addr):Addr:=⟨(ρ a.block).lB,(ρ a.block).off+cellOf a.off a.spot,aj⟩
def lD (ρ:Env) (a:Addr) (n c:Nat):Value :=
 match a.spot with
 |none=>.slice (aa (iE ρ a)) n c
 |some q =>
  if(ρ a.block).nil=aq then .slice aj n 0
  else if q / 1000000≠0/\(ρ a.block).cap≤a.off then .slice (aa ⟨(ρ (q / 1000000-1)).lB,(ρ (q / 1000000-1)).off,aj⟩) n 0
  else .slice (aa (iE ρ a)) n ((ρ a.block).cap-a.off)
mutual
def bW (ρ:Env):Value->Value
 |.pointer (aa a)=>.pointer (aa (iE ρ a))
 |.slice (aa a) n c=>lD ρ a n c
 |.map (aa r)=>.map (aa (ρ r).lB)
 |.chan (aa r)=>.chan (aa (ρ r).lB)
 |.agg ⟨l⟩=>.agg ⟨nz ρ l⟩
 |.tuple ⟨l⟩=>.tuple ⟨nz ρ l⟩
 |.func fn ⟨f⟩ ⟨c⟩=>.func fn ⟨nz ρ f⟩ ⟨nz ρ c⟩
 |.iface t v=>.iface t (bW ρ v)
 |v=>v
def nz (ρ:Env):List Value->List Value
 |[]=>[]
 |v::l=>bW ρ v::nz ρ l
end
section
variable {ρ gv:Env}
theorem k_ (l:List Value):nz ρ l=l.map (bW ρ):=by
 induction l with
 |nil=>simp[nz]
 |cons v l ih=>simp[nz,ih]
theorem zw (cs:Array Value):bW ρ (.agg cs)=.agg (cs.map (bW ρ)):=by
 obtain⟨l⟩:=cs;simp[bW,k_]
theorem abI (cs:Array Value):bW ρ (.tuple cs)=.tuple (cs.map (bW ρ)):=by
 obtain⟨l⟩:=cs;simp[bW,k_]
@[simp] theorem xJ (k:IntKind) (n:Int):bW ρ (.int k n)=.int k n:=by simp[bW]
@[simp] theorem VY (b:Bool):bW ρ (.bool b)=.bool b:=by simp[bW]
@[simp] theorem Dm (s:ByteArray):bW ρ (.string s)=.string s:=by simp[bW]
end
mutual
def flat:Value->Bool
 |.pointer (aa _)|.slice (aa _) _ _|.map (aa _)|.chan (aa _)=>ao
 |.agg ⟨l⟩=>pH l
 |.tuple ⟨l⟩=>pH l
 |.func _ ⟨f⟩ ⟨c⟩=>pH f&&pH c
 |.iface _ v=>flat v
 |_=>aq
def pH:List Value->Bool
 |[]=>aq
 |v::l=>flat v&&pH l
end
def E3:Option Nat->Nat
 |none=>0
 |some q=>q / 1000000
mutual
def fp (n:Nat):Value->Bool
 |.pointer (aa a)=>gU a.block n
 |.slice (aa a) _ _=>gU a.block n&&uJ (E3 a.spot) n
 |.map (aa r)|.chan (aa r)=>gU r n
 |.agg ⟨l⟩=>ix n l
 |.tuple ⟨l⟩=>ix n l
 |.func _ ⟨f⟩ ⟨c⟩=>ix n f&&ix n c
 |.iface _ v=>fp n v
 |_=>aq
def ix (n:Nat):List Value->Bool
 |[]=>aq
 |v::l=>fp n v&&ix n l
end
section
variable {ρ gv:Env} {n m:Nat}
theorem PZ {a:Addr} (h:∀ i,i<n->ρ i=gv i) (ha:a.block<n):iE ρ a=iE gv a:=by
 unfold iE;rw[h _ ha]
theorem YT {a:Addr} {k c:Nat} (h:∀ i,i<n->ρ i=gv i) (ha:a.block<n) (ht:E3 a.spot≤n):lD ρ a k c=lD gv a k c:=by
 unfold lD;rw[PZ h ha,h _ ha];cases hs:a.spot with
 |none=>rfl
 |some q =>
  rw[hs] at ht;simp only[E3] at ht;simp only;split
  ·rfl
  ·split
   ·rename_i hq;rw[h (q / 1000000-1) (by omega)]
   ·rfl
mutual
theorem na (h:∀ i,i<n->ρ i=gv i):∀ v,fp n v=aq->bW ρ v=bW gv v
 |.pointer (aa a),hv=>by
  simp only[fp,fa] at hv;simp only[bW,PZ h hv]
 |.pointer aj,_=>by simp[bW]
 |.slice (aa a) k c,hv=>by
  simp only[fp,aL,fa,vo] at hv;simp only[bW];exact YT h hv.1 hv.2
 |.slice aj _ _,_=>by simp[bW]
 |.map (aa r),hv=>by simp only[fp,fa] at hv;simp[bW,h _ hv]
 |.map aj,_=>by simp[bW]
 |.chan (aa r),hv=>by simp only[fp,fa] at hv;simp[bW,h _ hv]
 |.chan aj,_=>by simp[bW]
 |.agg ⟨l⟩,hv=>by simp only[fp] at hv;simp only[bW,qi h l hv]
 |.tuple ⟨l⟩,hv=>by simp only[fp] at hv;simp only[bW,qi h l hv]
 |.func fn ⟨f⟩ ⟨c⟩,hv=>by
  simp only[fp,aL] at hv;simp only[bW,qi h f hv.1,qi h c hv.2]
 |.iface t v,hv=>by simp only[fp] at hv;simp only[bW,na h v hv]
 |.int _ _,_=>by simp
 |.bool _,_=>by simp
 |.string _,_=>by simp
 |.float _ _,_=>by simp[bW]
 |.complex _ _ _,_=>by simp[bW]
 |.nilFunc,_=>by simp[bW]
 |.nilIface,_=>by simp[bW]
theorem qi (h:∀ i,i<n->ρ i=gv i):∀ l,ix n l=aq->nz ρ l=nz gv l
 |[],_=>rfl
 |v::l,hv=>by
  simp only[ix,aL] at hv;simp only[nz,na h v hv.1,qi h l hv.2]
end
mutual
theorem nS:∀ v,flat v=aq->bW ρ v=v
 |.pointer (aa a),hv=>by simp[flat] at hv
 |.pointer aj,_=>by simp[bW]
 |.slice (aa a) k c,hv=>by simp[flat] at hv
 |.slice aj _ _,_=>by simp[bW]
 |.map (aa r),hv=>by simp[flat] at hv
 |.map aj,_=>by simp[bW]
 |.chan (aa r),hv=>by simp[flat] at hv
 |.chan aj,_=>by simp[bW]
 |.agg ⟨l⟩,hv=>by simp only[flat] at hv;simp only[bW,Cr l hv]
 |.tuple ⟨l⟩,hv=>by simp only[flat] at hv;simp only[bW,Cr l hv]
 |.func fn ⟨f⟩ ⟨c⟩,hv=>by
  simp only[flat,aL] at hv;simp only[bW,Cr f hv.1,Cr c hv.2]
 |.iface t v,hv=>by simp only[flat] at hv;simp only[bW,nS v hv]
 |.int _ _,_=>by simp
 |.bool _,_=>by simp
 |.string _,_=>by simp
 |.float _ _,_=>by simp[bW]
 |.complex _ _ _,_=>by simp[bW]
 |.nilFunc,_=>by simp[bW]
 |.nilIface,_=>by simp[bW]
theorem Cr:∀ l,pH l=aq->nz ρ l=l
 |[],_=>rfl
 |v::l,hv=>by
  simp only[pH,aL] at hv;simp only[nz,nS v hv.1,Cr l hv.2]
end
mutual
theorem IE:∀ v,flat v=aq->fp n v=aq
 |.pointer (aa a),hv=>by simp[flat] at hv
 |.pointer aj,_=>by simp[fp]
 |.slice (aa a) k c,hv=>by simp[flat] at hv
 |.slice aj _ _,_=>by simp[fp]
 |.map (aa r),hv=>by simp[flat] at hv
 |.map aj,_=>by simp[fp]
 |.chan (aa r),hv=>by simp[flat] at hv
 |.chan aj,_=>by simp[fp]
 |.agg ⟨l⟩,hv=>by simp only[flat] at hv;simp only[fp];exact zF l hv
 |.tuple ⟨l⟩,hv=>by simp only[flat] at hv;simp only[fp];exact zF l hv
 |.func fn ⟨f⟩ ⟨c⟩,hv=>by
  simp only[flat,aL] at hv;simp only[fp,aL];exact⟨zF f hv.1,zF c hv.2⟩
 |.iface t v,hv=>by simp only[flat] at hv;simp only[fp];exact IE v hv
 |.int _ _,_=>by simp[fp]
 |.bool _,_=>by simp[fp]
 |.string _,_=>by simp[fp]
 |.float _ _,_=>by simp[fp]
 |.complex _ _ _,_=>by simp[fp]
 |.nilFunc,_=>by simp[fp]
 |.nilIface,_=>by simp[fp]
theorem zF:∀ l,pH l=aq->ix n l=aq
 |[],_=>rfl
 |v::l,hv=>by
  simp only[pH,aL] at hv;simp only[ix,aL];exact⟨IE v hv.1,zF l hv.2⟩
end
mutual
theorem Bp (hm:n≤m):∀ v,fp n v=aq->fp m v=aq
 |.pointer (aa a),hv=>by simp only[fp,fa] at *;omega
 |.pointer aj,_=>by simp[fp]
 |.slice (aa a) k c,hv=>by simp only[fp,aL,fa,vo] at *;omega
 |.slice aj _ _,_=>by simp[fp]
 |.map (aa r),hv=>by simp only[fp,fa] at *;omega
 |.map aj,_=>by simp[fp]
 |.chan (aa r),hv=>by simp only[fp,fa] at *;omega
 |.chan aj,_=>by simp[fp]
 |.agg ⟨l⟩,hv=>by simp only[fp] at *;exact uY hm l hv
 |.tuple ⟨l⟩,hv=>by simp only[fp] at *;exact uY hm l hv
 |.func fn ⟨f⟩ ⟨c⟩,hv=>by
  simp only[fp,aL] at *
  exact⟨uY hm f hv.1,uY hm c hv.2⟩
 |.iface t v,hv=>by simp only[fp] at *;exact Bp hm v hv
 |.int _ _,_=>by simp[fp]
 |.bool _,_=>by simp[fp]
 |.string _,_=>by simp[fp]
 |.float _ _,_=>by simp[fp]
 |.complex _ _ _,_=>by simp[fp]
 |.nilFunc,_=>by simp[fp]
 |.nilIface,_=>by simp[fp]
theorem uY (hm:n≤m):∀ l,ix n l=aq->ix m l=aq
 |[],_=>rfl
 |v::l,hv=>by
  simp only[ix,aL] at *
  exact⟨Bp hm v hv.1,uY hm l hv.2⟩
end
theorem wY {l:List Value}:ix n l=aq↔∀ v∈l,fp n v=aq:=by
 induction l with
 |nil=>simp[ix]
 |cons v l ih=>simp[ix,ih]
theorem zq {l:List Value}:pH l=aq↔∀ v∈l,flat v=aq:=by
 induction l with
 |nil=>simp[pH]
 |cons v l ih=>simp[pH,ih]
theorem WA:∀ v:Value,(bW ρ v).oneCell'=v.oneCell'
 |.pointer (aa a)=>by simp[bW,qb]
 |.pointer aj=>by simp[bW]
 |.slice (aa a) k c=>by
  simp only[bW,lD];cases a.spot with
  |none=>rfl
  |some q=>simp only;split<;>first|rfl|(split<;>rfl)
 |.slice aj _ _=>by simp[bW]
 |.map (aa r)=>by simp[bW,qb]
 |.map aj=>by simp[bW]
 |.chan (aa r)=>by simp[bW,qb]
 |.chan aj=>by simp[bW]
 |.agg ⟨l⟩=>by simp[bW,qb]
 |.tuple ⟨l⟩=>by simp[bW,qb]
 |.func fn ⟨f⟩ ⟨c⟩=>by simp[bW,qb]
 |.iface t v=>by simp[bW,qb]
 |.int _ _=>by simp
 |.bool _=>by simp
 |.string _=>by simp
 |.float _ _=>by simp[bW]
 |.complex _ _ _=>by simp[bW]
 |.nilFunc=>by simp[bW]
 |.nilIface=>by simp[bW]
theorem Sj (a:Addr) (k c:Nat):∃ A c',lD ρ a k c=.slice A k c':=by
 unfold lD;cases a.spot with
 |none=>exact⟨_,_,rfl⟩
 |some q=>simp only;split<;>first|exact⟨_,_,rfl⟩|(split<;>exact⟨_,_,rfl⟩)
theorem Cn (v:Value):(bW ρ v).cells=v.cells.map (bW ρ):=by
 cases v with
 |agg cs=>rw[zw];rfl
 |slice a k c =>
  cases a with
  |none=>simp[bW,np]
  |some a =>
   obtain⟨A,c',h⟩:=Sj (ρ:=ρ) a k c;simp[bW,h,np]
 |pointer a=>cases a<;>simp[bW,np]
 |map a=>cases a<;>simp[bW,np]
 |chan a=>cases a<;>simp[bW,np]
 |tuple cs=>obtain⟨l⟩:=cs;simp[bW,np]
 |func fn f c=>obtain⟨f⟩:=f;obtain⟨c⟩:=c;simp[bW,np]
 |iface t v=>simp[bW,np]
 |_=>simp[bW,np]
end
end Rx
namespace Rx
open Go.RowKit State
structure aT where
 i:List Int
 b:List Bool
 s:List ByteArray
def yO (l:List Int):aT:=⟨l,[],[]⟩
def AE (l:List Bool):aT:=⟨[],l,[]⟩
def Ep (l:List ByteArray):aT:=⟨[],[],l⟩
def Lu:aT:=⟨[],[],[]⟩
def gD:Value->aT->Nat->Value
 |.int k _,c,e=>.int k (c.i.getD e 0)
 |.bool _,c,e=>.bool (c.b.getD e ao)
 |.string _,c,e=>.string (c.s.getD e ⟨#[]⟩)
 |v,_,_=>v
def jJ:Value->aT->Nat->Prop
 |.int _ _,c,n=>c.i.length=n
 |.bool _,c,n=>c.b.length=n
 |.string _,c,n=>c.s.length=n
 |v,_,_=>flat v=aq/\v.oneCell'=aq
structure Row where
 tm:List Value
 n:Nat
 ez:List aT
structure oe (r:Row) (arr:Array Value) (o:Nat):Prop where
 len:r.ez.length=r.tm.length
 I_:∀ (f:Nat) (t:Value) (c:aT),r.tm[f]?=aa t->r.ez[f]?=aa c->jJ t c r.n
 cell:∀ (f:Nat) (t:Value) (c:aT) (e:Nat),r.tm[f]?=aa t->r.ez[f]?=aa c->e<r.n->arr[o+(e*r.tm.length+f)]?=aa (gD t c e)
abbrev SB (R:Type):=(TypeId×List Value) ⊕ (TypeId×Row) ⊕ Row ⊕ R
abbrev Hp (R:Type):=List (Option (SB R))
structure fK (R:Type) where
 H:R->Place->(Nat->Prop)->World->Prop
 H0:∀ x p F w w',H x p F w->(∀ k,F k->w'.heap[k]?=w.heap[k]?)->H x p F w'
 lt:∀ x p F w k,H x p F w->F k->k<w.heap.size
structure Ctx where
 w0:World
 U:Nat->Prop
 e0:Env
 n0:Nat
section
variable {R:Type} {D:fK R} {C:Ctx} {ρ gv:Env} {i n:Nat} {F:Nat->Prop} {w w':World} {B:SB R}
def hold (D:fK R) (C:Ctx) (ρ:Env) (i:Nat) (F:Nat->Prop) (w:World):SB R->Prop
 |.inl (t,cs)=>(ρ i).off=0/\(∀ k,F k↔k=(ρ i).lB)/\w.heap[(ρ i).lB]?=aa (.cells (cs.map (bW ρ)).toArray t (0,0))
 |.inr (.inl (t,r))=>(∀ k,F k↔((ρ i).nil=ao/\k=(ρ i).lB))/\0<r.tm.length/\r.n≤(ρ i).cap/\(ρ i).cap≤maxLen/\((ρ i).nil=aq->(ρ i).cap=0) /\
   ∃ arr,((ρ i).nil=ao->w.heap[(ρ i).lB]?=aa (.cells arr t (0,0))/\arr.size=(ρ i).off+(ρ i).cap*r.tm.length)/\oe r arr (ρ i).off
 |.inr (.inr (.inl r))=>(∀ k,¬ F k)/\0<r.tm.length/\r.n≤(ρ i).cap/\(ρ i).cap≤maxLen/\((ρ i).nil=aq->(ρ i).cap=0) /\
   ∃ arr,((ρ i).nil=ao->0<r.n->(ρ i).lB<C.w0.heap.size/\¬ C.U (ρ i).lB/\∃ t fz,C.w0.heap[(ρ i).lB]?=aa (.cells arr t fz))/\oe r arr (ρ i).off
 |.inr (.inr (.inr x))=>D.H x (ρ i) F w
def inside (n:Nat):SB R->Prop
 |.inl (_,cs)=>ix n cs=aq
 |_=>True
theorem Cf {m:Nat} (hm:n≤m) (h:inside n B):inside m B:=by
 rcases B with⟨t,cs⟩|⟨t,r⟩|r|x<;>first|exact trivial|skip
 exact uY hm _ h
theorem JL (h:hold D C ρ i F w B) (hk:∀ k,F k->w'.heap[k]?=w.heap[k]?):hold D C ρ i F w' B:=by
 rcases B with⟨t,cs⟩|⟨t,r⟩|r|x
 ·obtain⟨h1,h2,h3⟩:=h;exact⟨h1,h2,by rw[hk _ ((h2 _).2 rfl)];exact h3⟩
 ·obtain⟨h1,h2,h3,h4,Kp,arr,h5,h6⟩:=h;exact⟨h1,h2,h3,h4,Kp,arr,fun hn=>by rw[hk _ ((h1 _).2 ⟨hn,rfl⟩)];exact h5 hn,h6⟩
 ·exact h
 ·exact D.H0 _ _ _ _ _ h hk
theorem Ib (h:hold D C ρ i F w B) (qF:∀ j,j<n->gv j=ρ j) (hi:i<n) (hs:inside n B):hold D C gv i F w B:=by
 have e:=qF i hi;rcases B with⟨t,cs⟩|⟨t,r⟩|r|x
 ·simp only[hold,e] at *
  have:cs.map (bW gv)=cs.map (bW ρ):=nY fun v hv=>(na (fun j hj=>(qF j hj)) v (wY.1 hs v hv))
  rw[this];exact h
 ·simp only[hold,e] at *;exact h
 ·simp only[hold,e] at *;exact h
 ·simp only[hold,e] at *;exact h
structure HM (D:fK R) (C:Ctx) (ρ:Env) (ft:Nat->Nat->Prop) (h:Hp R) (w:World):Prop where
 at_:∀ i B,h[i]?=aa (aa B)->hold D C ρ i (ft i) w B/\inside h.length B
 lt:∀ i k,ft i k->k<w.heap.size
 fresh:∀ i k,ft i k->C.U k∨C.w0.heap.size≤k
 apart:∀ i j k,ft i k->ft j k->i=j
 some_:∀ i k,ft i k->∃ B,h[i]?=aa (aa B)
 kept:Kept C.U C.w0 w
variable {ft ks:Nat->Nat->Prop} {h h':Hp R}
theorem HM.same (hm:HM D C ρ ft h w) (hh:w'.heap=w.heap) (ho:w'.os=w.os) (ht:w'.tape=w.tape) (hu:w'.output=w.output):HM D C ρ ft h w' where
 at_ i B hi:=⟨JL (hm.at_ i B hi).1 (fun k _=>by rw[hh]),(hm.at_ i B hi).2⟩
 lt i k hk:=by rw[hh];exact hm.lt i k hk
 fresh:=hm.fresh
 apart:=hm.apart
 some_:=hm.some_
 kept:=⟨ho.trans hm.kept.os,ht.trans hm.kept.tape,hu.trans hm.kept.output,by rw[hh];exact hm.kept.size,fun k hk hn=>by rw[hh];exact hm.kept.block k hk hn⟩
theorem HM.drew (hm:HM D C ρ ft h w):HM D C ρ ft h w.drew:=hm.same rfl rfl rfl rfl
theorem HM.step (hm:HM D C ρ ft h w) (S:Nat->Prop) (hk:Kept (fun k=>∃ i,S i/\ft i k) w w') (qF:∀ i,i<h.length->gv i=ρ i) (hlen:h.length≤h'.length)
  (uB:∀ i B,(i<h.length->S i)->h'[i]?=aa (aa B)->hold D C gv i (ks i) w' B/\inside h'.length B)
  (F8:∀ i,i<h.length->¬ S i->h'[i]?=h[i]?/\∀ k,ks i k↔ft i k)
  (j5:∀ i k,(i<h.length->S i)->ks i k->((∃ j,S j/\ft j k)∨w.heap.size≤k)/\k<w'.heap.size/\∃ B,h'[i]?=aa (aa B))
  (hap:∀ i j k,(i<h.length->S i)->(j<h.length->S j)->ks i k->ks j k->i=j):HM D C gv ks h' w' where
 at_ i B hi:=by
  by_cases hs:i<h.length/\¬ S i
  ·obtain⟨hl,hn⟩:=hs;obtain⟨e,hf⟩:=F8 i hl hn;rw[e] at hi;obtain⟨h1,h2⟩:=hm.at_ i B hi;refine⟨?_,Cf hlen h2⟩;have h3:=Ib h1 qF hl h2;have h4:hold D C gv i (ft i) w' B:=JL h3 fun k nx=>hk.block k (hm.lt i k nx) (fun⟨j,hj,hjk⟩=>hn (by rw[hm.apart i j k nx hjk];exact hj))
   have:ks i=ft i:=funext fun k=>propext (hf k)
   rw[this];exact h4
  ·exact uB i B (fun hl=>iy fun hn=>hs ⟨hl,hn⟩) hi
 lt i k hi:=by
  by_cases hs:i<h.length/\¬ S i
  ·exact ls (hm.lt i k (((F8 i hs.1 hs.2).2 k).1 hi)) hk.size
  ·exact(j5 i k (fun hl=>iy fun hn=>hs ⟨hl,hn⟩) hi).2.1
 fresh i k hi:=by
  by_cases hs:i<h.length/\¬ S i
  ·exact hm.fresh i k (((F8 i hs.1 hs.2).2 k).1 hi)
  ·rcases(j5 i k (fun hl=>iy fun hn=>hs ⟨hl,hn⟩) hi).1 with⟨j,_,hj⟩|j6
   ·exact hm.fresh j k hj
   ·exact eY (iY hm.kept.size j6)
 apart i j k hi hj:=by
  by_cases hs:i<h.length/\¬ S i<;>by_cases VA:j<h.length/\¬ S j
  ·exact hm.apart i j k (((F8 i hs.1 hs.2).2 k).1 hi) (((F8 j VA.1 VA.2).2 k).1 hj)
  ·have lR:=((F8 i hs.1 hs.2).2 k).1 hi;rcases(j5 j k (fun hl=>iy fun hn=>VA ⟨hl,hn⟩) hj).1 with⟨l,hl,um⟩|j6
   ·exact absurd hl (by rw[← hm.apart i l k lR um];exact hs.2)
   ·have:=hm.lt i k lR;omega
  ·have LR:=((F8 j VA.1 VA.2).2 k).1 hj;rcases(j5 i k (fun hl=>iy fun hn=>hs ⟨hl,hn⟩) hi).1 with⟨l,hl,um⟩|j6
   ·exact absurd hl (by rw[← hm.apart j l k LR um];exact VA.2)
   ·have:=hm.lt j k LR;omega
  ·exact hap i j k (fun hl=>iy fun hn=>hs ⟨hl,hn⟩) (fun hl=>iy fun hn=>VA ⟨hl,hn⟩) hi hj
 some_ i k hi:=by
  by_cases hs:i<h.length/\¬ S i
  ·obtain⟨e,hf⟩:=F8 i hs.1 hs.2;rw[e];exact hm.some_ i k ((hf k).1 hi)
  ·exact(j5 i k (fun hl=>iy fun hn=>hs ⟨hl,hn⟩) hi).2.2
 kept:=hm.kept.trans hk fun k nx ⟨j,_,hj⟩=>by
  rcases hm.fresh j k hj with hu|j6
  ·exact hu
  ·omega
def qg {α:Type} (f:Nat->α) (n:Nat) (a:α):Nat->α:=fun i=>if i=n then a else f i
theorem jg {α:Type} (f:Nat->α) (n:Nat) (a:α):qg f n a n=a:=by simp[qg]
theorem ox {α:Type} (f:Nat->α) (n:Nat) (a:α) {i:Nat} (hi:i<n):qg f n a i=f i:=by simp[qg,Nat.ne_of_lt hi]
theorem vV {α:Type} (f:Nat->α) (n:Nat) (a:α) {i:Nat} (hi:i≠n):qg f n a i=f i:=by simp[qg,hi]
theorem HM.push (hm:HM D C ρ ft h w) (p:Place) (o:Obj) (hp:p.lB=w.heap.size) (B:SB R) (hB:hold D C (qg ρ h.length p) h.length (fun k=>k=w.heap.size) (w.alloc o) B) (hs:inside (h.length+1) B) :
  HM D C (qg ρ h.length p) (qg ft h.length (fun k=>k=w.heap.size)) (h++[aa B]) (w.alloc o):=by
 refine hm.step (fun _=>False) ((Kept.refl _ _).alloc _) (fun i hi=>ox _ _ _ hi) (by simp) ?_ ?_ ?_ ?_
 ·intro i B' hi jz;have j6:h.length≤i:=nl hi;rw[dU j6] at jz;have:i=h.length:=by
   rcases cx h.length i with cl|hle
   ·rw[dg (by simp;omega)] at jz;cases jz
   ·omega
  subst this;simp at jz;subst jz;rw[jg]
  simpa using⟨hB,hs⟩
 ·intro i hi _;exact⟨db hi,fun k=>by rw[ox _ _ _ hi]⟩
 ·intro i k hi hk;have j6:h.length≤i:=nl hi
  by_cases he:i=h.length
  ·subst he;rw[jg] at hk;subst hk;exact⟨eY (bc _),by simp,B,by simp⟩
  ·rw[vV _ _ _ he] at hk;obtain⟨B',jz⟩:=hm.some_ i k hk;rw[dg j6] at jz;cases jz
 ·intro i j k hi hj GQ GG;have hgi:h.length≤i:=nl hi;have hgj:h.length≤j:=nl hj;have key:∀ l,h.length≤l->qg ft h.length (fun k=>k=w.heap.size) l k->l=h.length:=fun l hl um=>by
   refine iy fun he=>?_
   rw[vV _ _ _ he] at um;obtain⟨B',jz⟩:=hm.some_ l k um;rw[dg hl] at jz;cases jz
  rw[key i hgi GQ,key j hgj GG]
theorem HM.pushNone (hm:HM D C ρ ft h w) (p:Place):HM D C (qg ρ h.length p) ft (h++[aj]) w:=by
 refine hm.step (fun _=>False) (Kept.refl _ _) (fun i hi=>ox _ _ _ hi) (by simp) ?_ ?_ ?_ ?_
 ·intro i B' hi jz;have j6:h.length≤i:=nl hi;rw[dU j6] at jz;rcases cx h.length i with cl|hle
  ·rw[dg (by simp;omega)] at jz;cases jz
  ·rw[show i-h.length=0 by omega] at jz;simp at jz
 ·intro i hi _;exact⟨db hi,fun k=>r_⟩
 ·intro i k hi hk;obtain⟨B',jz⟩:=hm.some_ i k hk;have cl:=(aU.1 jz).1;exact absurd cl hi
 ·intro i j k hi hj GQ GG;exact hm.apart i j k GQ GG
theorem HM.put (hm:HM D C ρ ft h w) {i:Nat} {B0:SB R} (hi:h[i]?=aa (aa B0)) (hk:Kept (ft i) w w') (B:SB R) (F:Nat->Prop) (hB:hold D C ρ i F w' B) (hs:inside h.length B)
  (hF:∀ k,F k->(ft i k∨w.heap.size≤k)/\k<w'.heap.size):HM D C ρ (qg ft i F) (h.set i (aa B)) w':=by
 have hl:i<h.length:=(aU.1 hi).1;refine hm.step (fun j=>j=i) (hk.mono fun k hk=>⟨i,rfl,hk⟩) (fun _ _=>rfl) (by simp) ?_ ?_ ?_ ?_
 ·intro j B' hj jz
  by_cases he:j=i
  ·subst he;rw[jS hl] at jz;injection jz with jz;injection jz with jz
   subst jz;rw[jg];exact⟨hB,by rw[e_];exact hs⟩
  ·have cl:¬ j<h.length:=fun cl=>he (hj cl)
   rw[dg (by rw[e_];omega)] at jz
   cases jz
 ·intro j hj hn;refine⟨kr (fun e=>hn e.symm),fun k=>by rw[vV _ _ _ hn]⟩
 ·intro j k hj nx
  by_cases he:j=i
  ·subst he;rw[jg] at nx;obtain⟨h1,h2⟩:=hF k nx;exact⟨h1.imp (fun h=>⟨j,rfl,h⟩) id,h2,B,jS hl⟩
  ·rw[vV _ _ _ he] at nx;obtain⟨B',jz⟩:=hm.some_ j k nx;have cl:=(aU.1 jz).1;exact absurd (hj cl) he
 ·intro a b k ha hb hka hkb;have key:∀ l,(l<h.length->l=i)->qg ft i F l k->l=i:=fun l Bf um=>by
   refine iy fun he=>?_
   rw[vV _ _ _ he] at um;obtain⟨B',jz⟩:=hm.some_ l k um;exact he (Bf (aU.1 jz).1)
  rw[key a ha hka,key b hb hkb]
theorem HM.drop (hm:HM D C ρ ft h w) (i:Nat):HM D C ρ (qg ft i (fun _=>False)) (h.set i aj) w:=by
 refine hm.step (fun j=>j=i) (Kept.refl _ _) (fun _ _=>rfl) (by simp) ?_ ?_ ?_ ?_
 ·intro j B' hj jz
  by_cases he:j=i
  ·subst he
   by_cases hl:j<h.length
   ·rw[jS hl] at jz;injection jz with jz
    cases jz
   ·rw[dg (by rw[e_];omega)] at jz
    cases jz
  ·have cl:¬ j<h.length:=fun cl=>he (hj cl)
   rw[dg (by rw[e_];omega)] at jz
   cases jz
 ·intro j hj hn;refine⟨kr (fun e=>hn e.symm),fun k=>by rw[vV _ _ _ hn]⟩
 ·intro j k hj nx
  by_cases he:j=i
  ·subst he;rw[jg] at nx;exact nx.elim
  ·rw[vV _ _ _ he] at nx;obtain⟨B',jz⟩:=hm.some_ j k nx;have cl:=(aU.1 jz).1;exact absurd (hj cl) he
 ·intro a b k ha hb hka hkb;have key:∀ l,qg ft i (fun _=>False) l k->ft l k:=fun l um=>by
   by_cases he:l=i
   ·subst he;rw[jg] at um;exact um.elim
   ·rw[vV _ _ _ he] at um;exact um
  exact hm.apart a b k (key a hka) (key b hkb)
end
end Rx
namespace Rx
open Go.RowKit State
structure SS (R:Type) where
 tm:List (Option Value)
 li:List (Nat×Bool)
 hp:Hp R
structure Out (R:Type) where
 vc:Prop
 v:Value
 lit:Option Bool
 hp:Hp R
 rd:List (Nat×Nat)
 wr:List (Nat×Nat)
structure TM (ρ:Env) (n:Nat) (tm:List (Option Value)) (a:Act):Prop where
 size:a.tmps.size=tm.length
 val:∀ (t:Nat) (v:Value),tm[t]?=aa (aa v)->a.tmps[t]?=aa (bW ρ v)/\fp n v=aq
def LI (li:List (Nat×Bool)) (tm:List (Option Value)):Prop:=∀ (t:Nat) (b:Bool),(t,b)∈li->tm[t]?=aa (aa (.bool b))
def ev (tm:List (Option Value)):Operand->Option Value
 |.tmp t=>match tm[t]? with
  |some (aa v)=>aa v
  |_=>aj
 |.const v=>if flat v then aa v else aj
 |.func f=>aa (.func (.func f) #[] #[])
 |.global _=>aj
def look (li:List (Nat×Bool)) (t:Nat):Option Bool :=
 match li with
 |[]=>aj
 |(u,b)::l=>if fo u t then aa b else look l t
def F5 (li:List (Nat×Bool)):Operand->Option Bool
 |.tmp t=>look li t
 |.const (.bool b)=>aa b
 |_=>aj
section
variable {R:Type} {D:fK R} {P:Program}
theorem Nv {li:List (Nat×Bool)} {t:Nat} {b:Bool} (h:look li t=aa b):(t,b)∈li:=by
 induction li with
 |nil=>cases h
 |cons p l ih =>
  obtain⟨u,c⟩:=p;simp only[look] at h;split at h
  ·rename_i e;have e:=cR e;injection h with h
   subst h;subst e;exact List.mem_cons_self
  ·exact List.mem_cons_of_mem _ (ih h)
theorem ew {ρ:Env} {n:Nat} {tm:List (Option Value)} {a:Act} {x:Operand} {v:Value} (ht:TM ρ n tm a) (h:ev tm x=aa v):a.eval x=bW ρ v/\fp n v=aq:=by
 cases x with
 |tmp t =>
  simp only[ev] at h;split at h
  ·rename_i u hu;injection h with h
   subst h;obtain⟨h1,h2⟩:=ht.val t u hu;exact⟨by simp[B2,h1],h2⟩
  ·cases h
 |const u =>
  simp only[ev] at h;split at h
  ·rename_i hf;injection h with h
   subst h;exact⟨by simp[B2,nS u hf],IE u hf⟩
  ·cases h
 |func f =>
  simp only[ev] at h;injection h with h
  subst h;exact⟨by simp[B2,bW,nz],by simp[fp,ix]⟩
 |global g=>cases h
theorem ym {li:List (Nat×Bool)} {tm:List (Option Value)} {x:Operand} {b:Bool} (hl:LI li tm) (h:F5 li x=aa b):ev tm x=aa (.bool b):=by
 cases x with
 |tmp t =>
  have:=hl t b (Nv h);simp[ev,this]
 |const u =>
  cases u<;>simp only[F5] at h<;>try cases h
  simp[ev,flat]
 |func f=>cases h
 |global g=>cases h
structure lZ (D:fK R) (P:Program) (o:Oper) (σ:SS R) (x:Out R):Prop where
 run:∀ C ρ ft a w K Q,TM ρ σ.hp.length σ.tm a->LI σ.li σ.tm->HM D C ρ ft σ.hp w->x.vc ->
  (∀ gv ks w',(∀ i,i<σ.hp.length->gv i=ρ i)->HM D C gv ks x.hp w'->K (a.put o.dst (bW gv x.v)) w')->o.wp P a w K Q
 len:σ.hp.length≤x.hp.length
 lit:LI σ.li σ.tm->∀ b,x.lit=aa b->x.v=.bool b
theorem rj {o:Oper} {a:Act} {w w':World} {v:Value} {K:Act->World->Prop} {Q:Exit->Act->World->Prop} (h:(execOp a.eval o).run P w=.ok (.value v) w') (hk:K (a.put o.dst v) w'):o.wp P a w K Q:=by
 simp only[RA,h,acA];exact hk
theorem VH {o:Oper} {a:Act} {w w':World} {K:Act->World->Prop} {Q:Exit->Act->World->Prop} (h:(execOp a.eval o).run P w=.ok .skip w') (hk:K (a.put o.dst undef) w'):o.wp P a w K Q:=by
 simp only[RA,h,acA];exact hk
def gq (σ:SS R) (vc:Prop) (v:Value) (lit:Option Bool) (rd:List (Nat×Nat)):Out R:=⟨vc,v,lit,σ.hp,rd,[]⟩
theorem hU {o:Oper} {σ:SS R} {vc:Prop} {v:Value} {lit:Option Bool} {rd:List (Nat×Nat)}
  (h:∀ C ρ ft a w,TM ρ σ.hp.length σ.tm a->LI σ.li σ.tm->HM D C ρ ft σ.hp w->vc->(execOp a.eval o).run P w=.ok (.value (bW ρ v)) w)
  (hl:LI σ.li σ.tm->∀ b,lit=aa b->v=.bool b):lZ D P o σ (gq σ vc v lit rd) where
 run C ρ ft a w K Q ht iw hm hv hk:=rj (h C ρ ft a w ht iw hm hv) (hk ρ ft w (fun _ _=>rfl) hm)
 len:=bc _
 lit:=hl
def xO {α:Type} (P:Program):Sem α->Option α
 |.pure a=>aa a
 |.program k=>xO P (k P)
 |.mark _ k=>xO P k
 |_=>aj
theorem Mh {α:Type} {P:Program} (s:Sem α) {a:α} (h:xO P s=aa a) (w:World):s.run P w=.ok a w:=by
 induction s generalizing w with
 |pure b=>simp only[xO] at h;injection h with h;subst h;rfl
 |program k ih=>simp only[xO] at h;simp only[Sem.run];exact ih P h w
 |mark m k ih=>simp only[xO] at h;simp only[Sem.run];exact ih h w
 |_=>simp only[xO] at h;cases h
def evf (tm:List (Option Value)) (x:Operand):Value:=(ev tm x).getD undef
def abk (tm:List (Option Value)) (x:Operand):Bool :=
 match ev tm x with
 |some v=>flat v
 |none=>ao
def flatAll (tm:List (Option Value)):List Operand->Bool
 |[]=>aq
 |x::l=>abk tm x&&flatAll tm l
theorem Wx {tm:List (Option Value)} {l:List Operand} (h:flatAll tm l=aq) {x:Operand} (hx:x∈l):∃ v,ev tm x=aa v/\flat v=aq:=by
 induction l with
 |nil=>cases hx
 |cons y l ih =>
  simp only[flatAll,aL] at h;rcases bR.1 hx with rfl|hx
  ·have h1:=h.1;unfold abk at h1;split at h1
   ·exact⟨_,by assumption,h1⟩
   ·cases h1
  ·exact ih h.2 hx
def noSelect:Op->Bool
 |.select _ _=>ao
 |_=>aq
def uj (P:Program) (σ:SS R) (o:Oper):Option (Out R) :=
 if noSelect o.op&&flatAll σ.tm o.op.operands.toList then
  match xO P (execOp (evf σ.tm) o) with
  |some (.value v)=>if flat v then aa (gq σ True v aj []) else aj
  |_=>aj
 else aj
theorem wW {σ:SS R} {o:Oper} {x:Out R} (h:uj P σ o=aa x):lZ D P o σ x:=by
 unfold uj at h;split at h
 ·rename_i hc;simp only[aL] at hc;split at h
  ·rename_i v hp;split at h
   ·rename_i hf;injection h with h
    subst h;refine hU (fun C ρ ft a w ht iw hm _=>?_) (fun _ b hb=>by cases hb)
    have e:execOp a.eval o=execOp (evf σ.tm) o:=by
     refine execOp_congr o (fun cs b hs=>?_) (fun y hy=>?_)
     ·rw[hs] at hc;simp[noSelect] at hc
     ·obtain⟨u,hu,hfu⟩:=Wx hc.2 (Array.mem_toList_iff.2 hy);rw[(ew ht hu).1,nS u hfu];simp[evf,hu]
    rw[e,Mh _ hp w,nS v hf]
   ·cases h
  ·cases h
 ·cases h
def vR (σ:SS R) (x:Operand):Option (Out R) :=
 match ev σ.tm x with
 |some v=>aa (gq σ True v (F5 σ.li x) [])
 |none=>aj
theorem Sg {σ:SS R} {o:Oper} {y:Operand} {x:Out R} (ho:o.op=.move y∨o.op=.assign y) (h:vR σ y=aa x):lZ D P o σ x:=by
 unfold vR at h;split at h
 ·rename_i v hv;injection h with h
  subst h;refine hU (fun C ρ ft a w ht iw hm _=>?_) (fun iw b hb=>?_)
  ·rw[← (ew ht hv).1];rcases ho with ho|ho<;>simp[execOp,ho]
  ·have:=ym iw hb;rw[hv] at this;exact o9 this
 ·cases h
def Hm (σ:SS R) (c y z:Operand):Option (Out R) :=
 match F5 σ.li c with
 |some aq=>vR σ y
 |some ao=>vR σ z
 |none =>
  match ev σ.tm c,ev σ.tm y,ev σ.tm z with
  |some (.bool c),aa (.bool y),aa (.bool z)=>aa (gq σ True (.bool (if c then y else z)) aj [])
  |_,_,_=>aj
theorem abr {σ:SS R} {o:Oper} {c y z:Operand} {x:Out R} (ho:o.op=.pick c y z) (h:Hm σ c y z=aa x):lZ D P o σ x:=by
 unfold Hm at h;split at h
 ·rename_i hl;unfold vR at h;split at h
  ·rename_i v hv;injection h with h
   subst h;refine hU (fun C ρ ft a w ht iw hm _=>?_) (fun iw b hb=>?_)
   ·have h1:=(ew ht (ym iw hl)).1;rw[← (ew ht hv).1];simp[execOp,ho,h1,asBool]
   ·have:=ym iw hb;rw[hv] at this;exact o9 this
  ·cases h
 ·rename_i hl;unfold vR at h;split at h
  ·rename_i v hv;injection h with h
   subst h;refine hU (fun C ρ ft a w ht iw hm _=>?_) (fun iw b hb=>?_)
   ·have h1:=(ew ht (ym iw hl)).1;rw[← (ew ht hv).1];simp[execOp,ho,h1,asBool]
   ·have:=ym iw hb;rw[hv] at this;exact o9 this
  ·cases h
 ·split at h
  ·rename_i c' y' z' hc hy hz;injection h with h
   subst h;refine hU (fun C ρ ft a w ht iw hm _=>?_) (fun iw b hb=>by cases hb)
   have h1:=(ew ht hc).1;have h2:=(ew ht hy).1;have h3:=(ew ht hz).1;simp[execOp,ho,h1,h2,h3,asBool]
  ·cases h
def Lo (σ:SS R) (y:Operand):Option (Out R) :=
 match ev σ.tm y with
 |some (.bool b)=>aa (gq σ True (.bool (!b)) ((F5 σ.li y).map (!·)) [])
 |_=>aj
theorem ac4 {σ:SS R} {o:Oper} {t:TypeId} {y:Operand} {x:Out R} (ho:o.op=.unOp .not t y) (h:Lo σ y=aa x):lZ D P o σ x:=by
 unfold Lo at h;split at h
 ·rename_i b hb;injection h with h
  subst h;refine hU (fun C ρ ft a w ht iw hm _=>?_) (fun iw c hc=>?_)
  ·have h1:=(ew ht hb).1;simp[execOp,ho,h1,Op.unary]
  ·cases hl:F5 σ.li y with
   |none=>rw[hl] at hc;cases hc
   |some d =>
    have:=ym iw hl;rw[hb] at this;injection this with this;injection this with this
    subst this;rw[hl] at hc;injection hc with hc
    subst hc
    rfl
 ·cases h
def Lq (σ:SS R) (y:Operand):Option (Out R) :=
 match ev σ.tm y with
 |some (.pointer (aa p))=>aa (gq σ True (.pointer (aa p)) aj [])
 |some (.func (.func f) xs ys)=>aa (gq σ True (.func (.func f) xs ys) aj [])
 |_=>aj
theorem adT {σ:SS R} {o:Oper} {y:Operand} {x:Out R} (ho:o.op=.nilCheck y) (h:Lq σ y=aa x):lZ D P o σ x:=by
 unfold Lq at h;split at h
 ·rename_i p hp;injection h with h
  subst h;refine hU (fun C ρ ft a w ht iw hm _=>?_) (fun iw c hc=>by cases hc)
  have h1:=(ew ht hp).1;simp only[bW] at h1;simp[execOp,ho,h1,bW]
 ·rename_i f xs ys hp;injection h with h
  subst h;refine hU (fun C ρ ft a w ht iw hm _=>?_) (fun iw c hc=>by cases hc)
  have h1:=(ew ht hp).1;obtain⟨xs⟩:=xs;obtain⟨ys⟩:=ys;simp only[bW] at h1;simp[execOp,ho,h1,bW]
 ·cases h
def zH (σ:SS R) (y:Operand) (k:Nat):Option (Out R) :=
 match ev σ.tm y with
 |some (.tuple ⟨l⟩)=>match l[k]? with
  |some v=>aa (gq σ True v aj [])
  |none=>aj
 |_=>aj
theorem T5 {σ:SS R} {o:Oper} {y:Operand} {k:Nat} {x:Out R} (ho:o.op=.extract y k) (h:zH σ y k=aa x):lZ D P o σ x:=by
 unfold zH at h;split at h
 ·rename_i l hl;split at h
  ·rename_i v hv;injection h with h
   subst h;refine hU (fun C ρ ft a w ht iw hm _=>?_) (fun iw c hc=>by cases hc)
   have h1:=(ew ht hl).1;rw[abI] at h1;simp[execOp,ho,h1,Instr.extract,hv]
  ·cases h
 ·cases h
def Hd (P:Program) (t:TypeId):Value->Value->Option Bool
 |.pointer p,.pointer aj|.pointer aj,.pointer p =>
  match P.underlying t with
  |some (.pointer _)=>aa (match p with|none=>aq|some _=>ao)
  |_=>aj
 |.slice aj _ _,.slice aj _ _ =>
  match P.underlying t with
  |some (.slice _)=>aa aq
  |_=>aj
 |.slice (aa ⟨_,_,aj⟩) _ _,.slice aj _ _ =>
  match P.underlying t with
  |some (.slice _)=>aa ao
  |_=>aj
 |.func _ _ _,.nilFunc =>
  match P.underlying t with
  |some (.func _ _ _)=>aa ao
  |_=>aj
 |.nilFunc,.nilFunc =>
  match P.underlying t with
  |some (.func _ _ _)=>aa aq
  |_=>aj
 |_,_=>aj
def zt (P:Program) (σ:SS R) (neg:Bool) (t:TypeId) (y z:Operand):Option (Out R) :=
 match ev σ.tm y,ev σ.tm z with
 |some u,aa v=>match Hd P t u v with
  |some b=>aa (gq σ True (.bool (xd b neg)) (aa (xd b neg)) [])
  |none=>aj
 |_,_=>aj
theorem WL {t:TypeId} {u v:Value} {b:Bool} (h:Hd P t u v=aa b) (ρ:Env) (w:World):(V_ t (bW ρ u) (bW ρ v)).run P w=.ok b w:=by
 have key:∀ (d:Nat),(mi (d+1) t (bW ρ u) (bW ρ v)).run P w=.ok b w:=by
  intro d;unfold Hd at h;split at h
  ·rename_i p;split at h
   ·rename_i hu;injection h with h
    subst h;cases p<;>simp[mi,run_underlying hu,bW]
   ·cases h
  ·rename_i p _;split at h
   ·rename_i hu;injection h with h
    subst h;cases p<;>simp[mi,run_underlying hu,bW]
   ·cases h
  ·split at h
   ·rename_i hu;injection h with h
    subst h;simp[mi,run_underlying hu,bW]
   ·cases h
  ·split at h
   ·rename_i hu;injection h with h
    subst h;simp[mi,run_underlying hu,bW,lD]
   ·cases h
  ·rename_i fn f c;split at h
   ·rename_i hu;injection h with h
    subst h;obtain⟨f⟩:=f;obtain⟨c⟩:=c;simp[mi,run_underlying hu,bW]
   ·cases h
  ·split at h
   ·rename_i hu;injection h with h
    subst h;simp[mi,run_underlying hu,bW]
   ·cases h
  ·cases h
 unfold V_;exact key 9999
theorem Pm {σ:SS R} {o:Oper} {neg:Bool} {t t':TypeId} {y z:Operand} {x:Out R} (ho:o.op=.binOp (if neg then .neq else .eql) t y z t') (h:zt P σ neg t y z=aa x):lZ D P o σ x:=by
 unfold zt at h;split at h
 ·rename_i u v hu hv;split at h
  ·rename_i b hb;injection h with h
   subst h;refine hU (fun C ρ ft a w ht iw hm _=>?_) (fun iw c hc=>by injection hc with hc;rw[hc])
   have h1:=(ew ht hu).1;have h2:=(ew ht hv).1;have hr:=WL hb ρ w;have hg:∀ op,(eqGuard op t y z (bW ρ u) (bW ρ v)).run P w=.ok () w:=by
    intro op;unfold Hd at hb;split at hb
    all_goals first
     |cases hb
     |skip
    ·rename_i p;cases p<;>cases op<;>simp[eqGuard,bW]
    ·rename_i p _;cases p<;>cases op<;>simp[eqGuard,bW]
    ·cases op<;>simp[eqGuard,bW]
    ·cases op<;>simp[eqGuard,bW,lD]
    ·rename_i fn f c;obtain⟨f⟩:=f;obtain⟨c⟩:=c;cases op<;>simp[eqGuard,bW]
    ·cases op<;>simp[eqGuard,bW]
   have L6:∀ op,(op=.eql∨op=.neq)->(binOp op t (bW ρ u) (bW ρ v)).run P w=.ok (.bool (xd b (op==.neq))) w:=by
    intro op hop;have q1:(Ss==z6)=ao:=by decide
    have q2:(z6==z6)=aq:=by decide
    unfold Hd at hb;rcases hop with rfl|rfl
    all_goals
     split at hb
     all_goals first
      |cases hb
      |skip
     ·rename_i p;cases p<;>simp[binOp,bW] at hr ⊢<;>simp[hr,q1,q2]
     ·rename_i p _;cases p<;>simp[binOp,bW] at hr ⊢<;>simp[hr,q1,q2]
     ·simp[binOp,bW] at hr ⊢;simp[hr,q1,q2]
     ·simp[binOp,bW,lD] at hr ⊢;simp[hr,q1,q2]
     ·rename_i fn f c;obtain⟨f⟩:=f;obtain⟨c⟩:=c;simp[binOp,bW] at hr ⊢;simp[hr,q1,q2]
     ·simp[binOp,bW] at hr ⊢;simp[hr,q1,q2]
   cases neg with
   |false =>
    have h3:=L6 .eql (dN rfl);have h4:=hg .eql;simp only[fu,if_false] at ho;have q1:(Ss==z6)=ao:=by decide
    simp[execOp,ho,h1,h2,h3,h4,q1]
   |true =>
    have h3:=L6 .neq (eY rfl);have h4:=hg .neq;simp only[if_true] at ho;simp[execOp,ho,h1,h2,h3,h4]
  ·cases h
 ·cases h
def zX (P:Program) (σ:SS R) (own:Option (Option (SB R))->Bool) (neg:Bool) (t:TypeId) (y z:Operand):Option (Out R) :=
 match ev σ.tm y,ev σ.tm z with
 |some (.pointer (aa ⟨i,0,aj⟩)),aa (.pointer (aa ⟨j,0,aj⟩)) =>
  match P.underlying t with
  |some (.pointer el)=>match P.info? el with
   |some inf =>
    if gU 0 inf.size then
     match fo i j with
     |true=>aa (gq σ True (.bool (xd aq neg)) (aa (xd aq neg)) [])
     |false=>if own σ.hp[i]?&&own σ.hp[j]? then aa (gq σ True (.bool (xd ao neg)) (aa (xd ao neg)) []) else aj
    else aj
   |none=>aj
  |_=>aj
 |_,_=>aj
theorem Pq {own:Option (Option (SB R))->Bool} (V6:∀ {C:Ctx} {ρ:Env} {ft:Nat->Nat->Prop} {h:Hp R} {w:World} {i:Nat},HM D C ρ ft h w->own h[i]?=aq->ft i (ρ i).lB/\∃ ca ta,w.heap[(ρ i).lB]?=aa (.cells ca ta (0,0)))
  {σ:SS R} {o:Oper} {neg:Bool} {t t':TypeId} {y z:Operand} {x:Out R} (ho:o.op=.binOp (if neg then .neq else .eql) t y z t') (h:zX P σ own neg t y z=aa x):lZ D P o σ x:=by
 unfold zX at h;split at h
 ·rename_i i j hu hv;split at h
  ·rename_i el ht;split at h
   ·rename_i inf xY;split at h
    ·rename_i n9
     have am3 : ¬ inf.size = 0 := by have : 0 < inf.size := by simpa using n9
                                     omega
     have key:∀ (b:Bool),aa (gq σ True (.bool (xd b neg)) (aa (xd b neg)) [])=aa x ->
       (∀ {C:Ctx} {ρ:Env} {ft:Nat->Nat->Prop} {w:World},HM D C ρ ft σ.hp w->(sameAddr (iE ρ ⟨i,0,aj⟩) (iE ρ ⟨j,0,aj⟩)).run P w=.ok b w)->lZ D P o σ x:=by
      intro b h hb;injection h with h
      subst h;refine hU (fun C ρ ft a w ht' iw hm _=>?_) (fun iw c hc=>by injection hc with hc;rw[hc])
      have h1:=(ew ht' hu).1;have h2:=(ew ht' hv).1;have h5:=hb hm;simp only[bW] at h1 h2;have hr:(V_ t (.pointer (aa (iE ρ ⟨i,0,aj⟩))) (.pointer (aa (iE ρ ⟨j,0,aj⟩)))).run P w=.ok b w:=by
       have q:∀ d,(mi (d+1) t (.pointer (aa (iE ρ ⟨i,0,aj⟩))) (.pointer (aa (iE ρ ⟨j,0,aj⟩)))).run P w=.ok b w:=fun d=>by
        simp[mi,run_underlying ht,sizeOf,typeInfo,xY,am3,h5]
       exact q 9999
      cases neg with
      |false =>
       simp only[fu,if_false] at ho;have q1:(Ss==z6)=ao:=by decide
       simp[execOp,ho,h1,h2,eqGuard,binOp,hr,q1,bW]
      |true =>
       simp only[if_true] at ho;have q2:(z6==z6)=aq:=by decide
       simp[execOp,ho,h1,h2,eqGuard,binOp,hr,q2,bW]
     split at h
     ·rename_i hb;have:=cR hb;subst this;exact key aq h (fun _=>run_sameAddr_same _ _)
     ·rename_i hb;split at h
      ·rename_i hc;simp only[aL] at hc;refine key ao h (fun {C ρ ft w} hm=>?_)
       obtain⟨g1,c1,t1,e1⟩:=V6 hm hc.1;obtain⟨g2,c2,t2,e2⟩:=V6 hm hc.2;refine run_sameAddr_other (ca:=c1) (cb:=c2) (ta:=t1) (tb:=t2) _ (fun e=>?_) e1 e2
       simp only[iE,Addr.mk.injEq] at e;rw[e.1] at g1;have:=hm.apart _ _ _ g1 g2;subst this;simp at hb
      ·cases h
    ·cases h
   ·cases h
  ·cases h
 ·cases h
end
end Rx
namespace Rx
open Go.RowKit State
structure fits (n:Int):Prop where
 lo:-9223372036854775808≤n
 hi:n≤9223372036854775807
theorem pA {n:Int} (h:fits n):av.wrap n=n:=by rw[IntKind.wrap_i64];have:=h.lo;have:=h.hi;omega
section
variable {R:Type} {D:fK R} {P:Program} {C:Ctx} {ρ:Env} {ft:Nat->Nat->Prop} {w w':World}
def OM (σ:SS R) (op:BinOp) (y z:Operand):Option (Out R) :=
 match ev σ.tm y,ev σ.tm z with
 |some (.int .i64 a),aa (.int .i64 b) =>
  match op with
  |.add=>aa (gq σ (fits (a+b)) (.int .i64 (a+b)) aj [])
  |.sub=>aa (gq σ (fits (a-b)) (.int .i64 (a-b)) aj [])
  |.mul=>aa (gq σ (fits (a*b)) (.int .i64 (a*b)) aj [])
  |.quo=>aa (gq σ (b≠0/\fits (a.tdiv b)) (.int .i64 (a.tdiv b)) aj [])
  |.rem=>aa (gq σ (b≠0) (.int .i64 (a.tmod b)) aj [])
  |_=>aj
 |_,_=>aj
theorem ac1 {σ:SS R} {o:Oper} {op:BinOp} {t t':TypeId} {y z:Operand} {x:Out R} (ho:o.op=.binOp op t y z t') (h:OM σ op y z=aa x):lZ D P o σ x:=by
 unfold OM at h;split at h
 ·rename_i a b ha hb;cases op<;>simp only at h<;>try cases h
  all_goals
   refine hU (fun C ρ ft ac w ht iw hm hv=>?_) (fun iw c hc=>by cases hc)
   have h1:=(ew ht ha).1;have h2:=(ew ht hb).1;simp only[xJ] at h1 h2;simp only[execOp,ho,h1,h2,xJ]
  ·simp[eqGuard,binOp,Mr,pA hv]
  ·simp[eqGuard,binOp,Mr,pA hv]
  ·simp[eqGuard,binOp,Mr,pA hv]
  ·simp[eqGuard,binOp,Op.intDiv,pA hv.2,hv.1]
  ·simp[eqGuard,binOp,Op.intDiv,hv]
 ·cases h
def Pd (σ:SS R) (y z:Operand):Option (Out R) :=
 match ev σ.tm y,ev σ.tm z with
 |some (.string a),aa (.string b)=>aa (gq σ (a.size+b.size≤9223372036854775807) (.string (a++b)) aj [])
 |_,_=>aj
theorem adx {σ:SS R} {o:Oper} {t t':TypeId} {y z:Operand} {x:Out R} (ho:o.op=.binOp .add t y z t') (h:Pd σ y z=aa x):lZ D P o σ x:=by
 unfold Pd at h;split at h
 ·rename_i a b ha hb;injection h with h
  subst h;refine hU (fun C ρ ft ac w ht iw hm hv=>?_) (fun iw c hc=>by cases hc)
  have h1:=(ew ht ha).1;have h2:=(ew ht hb).1;simp only[Dm] at h1 h2;have hm:¬ ((a.size+b.size:Nat):Int)>av.max:=by
   have:av.max=9223372036854775807:=by decide
   rw[this];omega
  simp only[execOp,ho,h1,h2,Dm];simp only[eqGuard,binOp,Op.stringOp,if_neg hm];simp
 ·cases h
def Hy (P:Program) (sub:TypeId->List Value->List Value->Option Bool) (xs ys:List Value):List Field->Option Bool
 |[]=>aa aq
 |f::fs =>
  if f.name ≠ "_" then
   match P.underlying f.type with
   |some (.struct _) =>
    match P.info? f.type with
    |some i =>
     match sub f.type ((xs.drop f.offset).take i.size) ((ys.drop f.offset).take i.size) with
     |some b=>(Hy P sub xs ys fs).map fun r=>b&&r
     |none=>aj
    |none=>aj
   |u =>
    match u,xs[f.offset]?,ys[f.offset]? with
    |some (.int _),aa (.int k a),aa (.int k' b)=>if k=k' then(Hy P sub xs ys fs).map fun r=>(a==b)&&r else aj
    |some .bool,aa (.bool a),aa (.bool b)=>(Hy P sub xs ys fs).map fun r=>(a==b)&&r
    |some .string,aa (.string a),aa (.string b)=>(Hy P sub xs ys fs).map fun r=>(a==b)&&r
    |_,_,_=>aj
  else Hy P sub xs ys fs
def eqD (P:Program):Nat->TypeId->List Value->List Value->Option Bool
 |0,_,_,_=>aj
 |n+1,t,xs,ys =>
  match P.underlying t with
  |some (.struct ⟨fs⟩)=>if P.stoodInHeld t then aj else Hy P (eqD P n) xs ys fs
  |_=>aj
theorem TX {t:TypeId} {fs:Array Field} {i:TypeInfo} {xs:List Value} {off:Nat} (hu:P.underlying t=aa (.struct fs)) (hi:P.info? t=aa i) (w:World):(part t ⟨xs⟩ off).run P w=.ok (.agg ⟨(xs.drop off).take i.size⟩) w:=by
 have h1:(isAgg t).run P w=.ok aq w:=by simp[isAgg,run_underlying hu]
 have h2:(sizeOf t).run P w=.ok i.size w:=by simp[sizeOf,typeInfo,hi]
 have h3:((⟨xs⟩:Array Value).extract off (off+i.size))=⟨(xs.drop off).take i.size⟩:=by
  apply qu;simp
 simp only[part,dz,h1,cA,if_true,h2,dX,h3]
theorem Lb {sub:TypeId->List Value->List Value->Option Bool} {xs ys:List Value} (d:Nat) (w:World) (m_:∀ t a c b,sub t a c=aa b->(mi (d+1) t (.agg ⟨a⟩) (.agg ⟨c⟩)).run P w=.ok b w):∀ (fs:List Field) (r:Bool),Hy P sub xs ys fs=aa r->(Ch (d+1) ⟨xs⟩ ⟨ys⟩ fs).run P w=.ok r w
 |[],r,h=>by
  simp only[Hy] at h;injection h with h
  subst h;simp[Ch]
 |f::fs,r,h=>by
  simp only[Hy] at h;simp only[Ch]
  have aeA:∀ (b:Bool) (x y:Value),((part f.type ⟨xs⟩ f.offset).run P w=.ok x w)->((part f.type ⟨ys⟩ f.offset).run P w=.ok y w)->(mi (d+1) f.type x y).run P w=.ok b w->(Hy P sub xs ys fs).map (fun r=>b&&r)=aa r ->
    (do
     let a ← part f.type ⟨xs⟩ f.offset
     let b ← part f.type ⟨ys⟩ f.offset
     let r ← mi (d+1) f.type a b
     if(!r)=aq then pure ao else Ch (d+1) ⟨xs⟩ ⟨ys⟩ fs:Sem Bool).run P w=.ok r w:=by
   intro b x y hx hy he hr;cases hq:Hy P sub xs ys fs with
   |none=>rw[hq] at hr;cases hr
   |some r' =>
    rw[hq] at hr;simp only[j_,cu] at hr;have ih:=Lb d w m_ fs r' hq;simp only[dz,hx,hy,cA,he];cases b with
    |true =>
     simp only[Bool.true_and] at hr;subst hr;simp[ih]
    |false =>
     simp only[Bool.false_and] at hr;subst hr;simp
  have step:∀ (b:Bool) (x y:Value),((isAgg f.type).run P w=.ok ao w)->xs[f.offset]?=aa x->ys[f.offset]?=aa y->(mi (d+1) f.type x y).run P w=.ok b w->(Hy P sub xs ys fs).map (fun r=>b&&r)=aa r ->
    (do
     let a ← part f.type ⟨xs⟩ f.offset
     let b ← part f.type ⟨ys⟩ f.offset
     let r ← mi (d+1) f.type a b
     if(!r)=aq then pure ao else Ch (d+1) ⟨xs⟩ ⟨ys⟩ fs:Sem Bool).run P w=.ok r w:=by
   intro b x y aiK hx hy he hr;refine aeA b x y ?_ ?_ he hr
   ·simp only[part,dz,aiK,cA,fu,if_false,jA,hx,dX]
   ·simp only[part,dz,aiK,cA,fu,if_false,jA,hy,dX]
  split at h
  ·rename_i hn;rw[if_pos hn];split at h
   ·rename_i gs hu;split at h
    ·rename_i i hi;split at h
     ·rename_i b hb;exact aeA b _ _ (TX hu hi w) (TX hu hi w) (m_ _ _ _ _ hb) h
     ·cases h
    ·cases h
   ·split at h
    ·rename_i k0 k a k' b hu hx hy;split at h
     ·rename_i hk;subst hk;exact step _ _ _ (by simp[isAgg,run_underlying hu]) hx hy (run_equalIn_int w d f.type k k0 a b hu) h
     ·cases h
    ·rename_i a b hu hx hy;exact step _ _ _ (by simp[isAgg,run_underlying hu]) hx hy (run_equalIn_bool' w d f.type a b hu) h
    ·rename_i a b hu hx hy;refine step _ _ _ (by simp[isAgg,run_underlying hu]) hx hy ?_ h
     rw[beq_toListBytes];exact run_equalIn_string w d f.type a b hu
    ·cases h
  ·rename_i hn;rw[if_neg hn];exact Lb d w m_ fs r h
theorem Xd (w:World):∀ (n d:Nat),n≤d->∀ (t:TypeId) (a c:List Value) (b:Bool),eqD P n t a c=aa b->(mi (d+1) t (.agg ⟨a⟩) (.agg ⟨c⟩)).run P w=.ok b w
 |0,d,_,t,a,c,b,h=>by cases h
 |n+1,0,hd,t,a,c,b,h=>by omega
 |n+1,d+1,hd,t,a,c,b,h=>by
  simp only[eqD] at h;split at h
  ·rename_i fs hu;split at h
   ·cases h
   ·rename_i hs;have hs:P.stoodInHeld t=ao:=by simpa using hs
    have hfo:P.fieldsOf t=⟨fs⟩:=by simp[NY,hu]
    have yp:=run_equalIn_struct (P:=P) w (d+1) t ⟨a⟩ ⟨c⟩ (by rw[hfo];exact hu) hs
    rw[hfo] at yp;exact yp.trans (Lb d w (fun t' a' c' b' h'=>Xd w n d (by omega) t' a' c' b' h') fs b h)
  ·cases h
def zJ (P:Program) (σ:SS R) (neg:Bool) (t:TypeId) (y z:Operand):Option (Out R) :=
 match ev σ.tm y,ev σ.tm z with
 |some (.agg ⟨xs⟩),aa (.agg ⟨ys⟩) =>
  match P.underlying t with
  |some (.struct ⟨fs⟩) =>
   if pH xs&&pH ys && !P.stoodInHeld t && !P.eqGuardType P.depth t then
    match Hy P (eqD P 4) xs ys fs with
    |some b=>aa (gq σ True (.bool (if neg then !b else b)) aj [])
    |none=>aj
   else aj
  |_=>aj
 |_,_=>aj
theorem Ol {σ:SS R} {o:Oper} {neg:Bool} {t t':TypeId} {y z:Operand} {x:Out R} (ho:o.op=.binOp (if neg then .neq else .eql) t y z t') (h:zJ P σ neg t y z=aa x):lZ D P o σ x:=by
 unfold zJ at h;split at h
 ·rename_i xs ys ha hb;split at h
  ·rename_i fs hu;split at h
   ·rename_i hc;simp only[aL,Bool.not_eq_true'] at hc;obtain⟨⟨⟨f1,f2⟩,hs⟩,hg⟩:=hc;split at h
    ·rename_i b hq;injection h with h
     subst h;refine hU (fun C ρ ft ac w ht iw hm hv=>?_) (fun iw c hc=>by cases hc)
     have h1:=(ew ht ha).1;have h2:=(ew ht hb).1;rw[nS _ (by simpa [flat] using f1)] at h1
     rw[nS _ (by simpa [flat] using f2)] at h2
     have hfo:P.fieldsOf t=⟨fs⟩:=by simp[NY,hu]
     have he:=Lb (P:=P) (xs:=xs) (ys:=ys) 9998 w (fun t' a' c' b' h'=>Xd w 4 9998 (by omega) t' a' c' b' h') fs b hq
     have yp:=run_equalIn_struct (P:=P) w 9999 t ⟨xs⟩ ⟨ys⟩ (by rw[hfo];exact hu) hs
     rw[hfo] at yp;have Ze:(mi 10000 t (.agg ⟨xs⟩) (.agg ⟨ys⟩)).run P w=.ok b w:=yp.trans he;simp only[execOp,ho,h1,h2,VY];cases neg with
     |false =>
      simp only[fu,if_false,dz,run_eqGuard_agg w _ t y z _ _ hg,cA,run_eql_struct,Ze,dX]
     |true =>
      simp only[if_true,dz,run_eqGuard_agg w _ t y z _ _ hg,cA,run_neq_struct,Ze,dX]
    ·cases h
   ·cases h
  ·cases h
 ·cases h
def B9 (P:Program) (t:TypeId):Option (Option Nat) :=
 match P.underlying t with
 |some (.struct _)|some (.array _ _) =>
  match P.info? t with
  |some i=>aa (aa i.size)
  |none=>aj
 |some _=>aa aj
 |none=>aj
theorem Px {t:TypeId} {n:Nat} (h:B9 P t=aa (aa n)) (w:World):(isAgg t).run P w=.ok aq w/\(sizeOf t).run P w=.ok n w:=by
 unfold B9 at h;split at h
 ·rename_i fs hu;split at h
  ·rename_i i hi;injection h with h;injection h with h
   subst h;exact⟨by simp[isAgg,run_underlying hu],by simp[sizeOf,typeInfo,hi]⟩
  ·cases h
 ·rename_i n' e hu;split at h
  ·rename_i i hi;injection h with h;injection h with h
   subst h;exact⟨by simp[isAgg,run_underlying hu],by simp[sizeOf,typeInfo,hi]⟩
  ·cases h
 ·injection h with h;cases h
 ·cases h
theorem Pk {t:TypeId} (h:B9 P t=aa aj) (w:World):(isAgg t).run P w=.ok ao w:=by
 unfold B9 at h;split at h
 ·split at h
  ·injection h with h;cases h
  ·cases h
 ·split at h
  ·injection h with h;cases h
  ·cases h
 ·rename_i d h1 h2 hu;unfold isAgg;rw[dz,run_underlying hu w];simp only[cA]
  first
   |rfl
   |(split
      · rename_i fs; exact absurd hu (h1 fs)
      · rename_i n e; exact absurd hu (h2 n e)
      · rfl)
 ·cases h
def DQ (P:Program) (σ:SS R) (t:TypeId) (y:Operand) (k:Nat):Option (Out R) :=
 match ev σ.tm y with
 |some (.agg ⟨l⟩) =>
  match P.underlying t with
  |some (.struct ⟨fs⟩) =>
   match fs[k]? with
   |some f =>
    match B9 P f.type with
    |some aj=>match l[f.offset]? with
     |some v=>aa (gq σ True v aj [])
     |none=>aj
    |some (aa n)=>aa (gq σ True (.agg ⟨(l.drop f.offset).take n⟩) aj [])
    |none=>aj
   |none=>aj
  |_=>aj
 |_=>aj
theorem ZL {σ:SS R} {o:Oper} {t:TypeId} {y:Operand} {k:Nat} {x:Out R} (ho:o.op=.field t y k) (h:DQ P σ t y k=aa x):lZ D P o σ x:=by
 unfold DQ at h;split at h
 ·rename_i l ha;split at h
  ·rename_i fs hu;split at h
   ·rename_i f hf;split at h
    ·rename_i hg;split at h
     ·rename_i v hv;injection h with h
      subst h;refine hU (fun C ρ ft ac w ht iw hm _=>?_) (fun iw c hc=>by cases hc)
      have h1:=(ew ht ha).1;rw[zw] at h1;simp[execOp,ho,h1,WW,run_underlying hu,hf,asAgg,part,Pk hg w,hv]
     ·cases h
    ·rename_i n hg;injection h with h
     subst h;refine hU (fun C ρ ft ac w ht iw hm _=>?_) (fun iw c hc=>by cases hc)
     have h1:=(ew ht ha).1;rw[zw] at h1;obtain⟨g1,g2⟩:=Px hg w;simp only[execOp,ho,h1,WW,dz,run_underlying hu,cA,jA,hf,asAgg,dX,part,g1,if_true,g2,zw]
     congr 3
     apply qu;simp[IJ,List.extract_eq_take_drop,List.map_drop,List.map_take]
    ·cases h
   ·cases h
  ·cases h
 ·cases h
def v9 (P:Program) (σ:SS R) (t:TypeId) (y:Operand) (k:Nat):Option (Out R) :=
 match ev σ.tm y with
 |some (.pointer (aa ⟨i,e,sp⟩)) =>
  match P.underlying t with
  |some (.struct ⟨fs⟩) =>
   match fs[k]? with
   |some f =>
    match P.info? f.type with
    |some inf =>
     if fo inf.size 0 then aj else
     match sp with
     |none=>aa (gq σ True (.pointer (aa ⟨i,e+f.offset,aj⟩)) aj [])
     |some q=>if gU q 1000000&&gU (q%1000+f.offset) 1000 then aa (gq σ True (.pointer (aa ⟨i,e,aa (q+f.offset)⟩)) aj []) else aj
    |none=>aj
   |none=>aj
  |_=>aj
 |_=>aj
theorem pQ (b o j:Nat):(⟨b,o,aj⟩:Addr).add j=⟨b,o+j,aj⟩:=by
 unfold Addr.add;split
 ·rename_i h;subst h;rfl
 ·rfl
theorem QM {σ:SS R} {o:Oper} {t:TypeId} {y:Operand} {k:Nat} {x:Out R} (ho:o.op=.fieldAddr t y k) (h:v9 P σ t y k=aa x):lZ D P o σ x:=by
 unfold v9 at h;split at h
 ·rename_i i e sp ha;split at h
  ·rename_i fs hu;split at h
   ·rename_i f hf;split at h
    ·rename_i inf hi;split at h
     ·cases h
     ·rename_i hz;have GK:inf.size≠0:=fun e=>hz (by rw[e];rfl)
      have key:∀ (C:Ctx) (ρ:Env) (ft:Nat->Nat->Prop) (ac:Act) (w:World),TM ρ σ.hp.length σ.tm ac ->
        (execOp ac.eval o).run P w=.ok (.value (.pointer (aa ((iE ρ ⟨i,e,sp⟩).add f.offset)))) w:=by
       intro C ρ ft ac w ht;have h1:=(ew ht ha).1;simp only[bW] at h1;simp[execOp,ho,h1,Instr.fieldAt,run_underlying hu,hf,oH,fieldPlace,sizeOf,typeInfo,hi,GK]
      split at h
      ·injection h with h
       subst h;refine hU (fun C ρ ft ac w ht iw hm _=>?_) (fun iw c hc=>by cases hc)
       rw[key C ρ ft ac w ht];simp only[bW,iE,pQ,cellOf,jh]
      ·rename_i q;split at h
       ·rename_i hq;simp only[aL,fa] at hq;injection h with h
        subst h;refine hU (fun C ρ ft ac w ht iw hm _=>?_) (fun iw c hc=>by cases hc)
        rw[key C ρ ft ac w ht];simp only[bW,iE,pQ,cellOf];have e1:q%1000000 / 1000=(q+f.offset)%1000000 / 1000:=by omega
        have e2:q%1000+f.offset=(q+f.offset)%1000:=by omega
        rw[e1,← e2,jh,jh]
       ·cases h
    ·cases h
   ·cases h
  ·cases h
 ·cases h
end
end Rx
namespace Rx
open Go.RowKit State
section
variable {R:Type} {D:fK R} {P:Program} {C:Ctx} {ρ:Env} {ft:Nat->Nat->Prop} {w w':World}
def yx (P:Program) (σ:SS R) (t:TypeId) (y z:Operand):Option (Out R) :=
 match ev σ.tm y,ev σ.tm z with
 |some (.slice (aa ⟨i,e0,aa q⟩) n _),aa (.int _ j) =>
  match P.underlying t with
  |some (.slice el) =>
   match P.info? el,σ.hp[i]? with
   |some inf,aa (aa (.inr (.inl (_,r)))) =>
    if fo (q%1000000) (1000*inf.size)&&fo inf.size r.tm.length then
     aa (gq σ (0≤j/\j<n/\e0+n≤r.n) (.pointer (aa ⟨i,e0+j.toNat,aa (1000*inf.size)⟩)) aj [])
    else aj
   |some inf,aa (aa (.inr (.inr (.inl r)))) =>
    if fo (q%1000000) (1000*inf.size)&&fo inf.size r.tm.length then
     aa (gq σ (0≤j/\j<n/\e0+n≤r.n) (.pointer (aa ⟨i,e0+j.toNat,aa (1000*inf.size)⟩)) aj [])
    else aj
   |_,_=>aj
  |_=>aj
 |_,_=>aj
theorem afV {i:Nat} {h:Hp R} {t:TypeId} {r:Row} (hm:HM D C ρ ft h w) (hi:h[i]?=aa (aa (.inr (.inl (t,r))))):r.n≤(ρ i).cap:=(hm.at_ i _ hi).1.2.2.1
theorem ac3 {i:Nat} {h:Hp R} {r:Row} (hm:HM D C ρ ft h w) (hi:h[i]?=aa (aa (.inr (.inr (.inl r))))):r.n≤(ρ i).cap:=(hm.at_ i _ hi).1.2.2.1
theorem Jj {σ:SS R} {o:Oper} {t el:TypeId} {y z:Operand} {i e0 q n c:Nat} {k:IntKind} {j:Int} {inf:TypeInfo} {N:Nat} (ho:o.op=.indexAddr t y z)
  (ha:ev σ.tm y=aa (.slice (aa ⟨i,e0,aa q⟩) n c)) (hb:ev σ.tm z=aa (.int k j)) (hu:P.underlying t=aa (.slice el)) (hi:P.info? el=aa inf)
  (hq:q%1000000=1000*inf.size) {ac:Act} (ht:TM ρ σ.hp.length σ.tm ac) (hv:0≤j/\j<n/\e0+n≤N) (MX:N≤(ρ i).cap) (HP:(ρ i).nil=aq->(ρ i).cap=0) :
  (execOp ac.eval o).run P w=.ok (.value (bW ρ (.pointer (aa ⟨i,e0+j.toNat,aa (1000*inf.size)⟩)))) w:=by
 have h1:=(ew ht ha).1;have h2:=(ew ht hb).1;obtain⟨v0,v1,v2⟩:=hv;have kt:¬ (q / 1000000≠0/\(ρ i).cap≤e0):=fun h=>by omega
 have hnn:¬ (ρ i).nil=aq:=fun h=>by have:=HP h;omega
 simp only[bW,lD,if_neg kt,if_neg hnn] at h1;simp only[xJ] at h2;have n9:1000*inf.size%1000000=1000*inf.size:=by rw[← hq];omega
 simp only[execOp,ho,h1,h2,Jk,asIntOf,dz,dX,cA,run_underlying hu,Ms];have hc:(0≤j/\j<(n:Int)):=⟨v0,v1⟩;have T_:q%1000000 / 1000=inf.size:=by omega
 have xa:q%1000=0:=by omega
 have hd3:1000*inf.size%1000000 / 1000=inf.size:=by omega
 have hd4:1000*inf.size%1000=0:=by omega
 simp only[hc,and_self,if_true,sizeOf,typeInfo,dz,run_program,cA,hi,dX,bW,iE,pQ,cellOf,T_,xa,hd3,hd4,gV];simp[ik,jh]
theorem Rc {σ:SS R} {o:Oper} {t:TypeId} {y z:Operand} {x:Out R} (ho:o.op=.indexAddr t y z) (h:yx P σ t y z=aa x):lZ D P o σ x:=by
 unfold yx at h;split at h
 ·rename_i i e0 q n c k j ha hb;split at h
  ·rename_i el hu;split at h
   ·rename_i inf t' r hi hr;split at h
    ·rename_i hc;simp only[aL] at hc;have hq:=cR hc.1;injection h with h
     subst h;exact hU (fun C ρ ft ac w ht iw hm hv=>Jj ho ha hb hu hi hq ht hv (afV hm hr) (hm.at_ i _ hr).1.2.2.2.2.1) (fun iw c hc=>by cases hc)
    ·cases h
   ·rename_i inf r hi hr;split at h
    ·rename_i hc;simp only[aL] at hc;have hq:=cR hc.1;injection h with h
     subst h;exact hU (fun C ρ ft ac w ht iw hm hv=>Jj ho ha hb hu hi hq ht hv (ac3 hm hr) (hm.at_ i _ hr).1.2.2.2.2.1) (fun iw c hc=>by cases hc)
    ·cases h
   ·cases h
  ·cases h
 ·cases h
def wN (P:Program) (σ:SS R) (t:TypeId) (y z:Operand):Option (Out R) :=
 match ev σ.tm y,ev σ.tm z with
 |some (.slice (aa ⟨i,e,aj⟩) n _),aa (.int _ j) =>
  match P.underlying t with
  |some (.slice el) =>
   match P.info? el with
   |some inf=>aa (gq σ (0≤j/\j<n) (.pointer (aa ⟨i,e+j.toNat*inf.size,aj⟩)) aj [])
   |none=>aj
  |_=>aj
 |_,_=>aj
theorem OB {σ:SS R} {o:Oper} {t:TypeId} {y z:Operand} {x:Out R} (ho:o.op=.indexAddr t y z) (h:wN P σ t y z=aa x):lZ D P o σ x:=by
 unfold wN at h;split at h
 ·rename_i i e n c k j ha hb;split at h
  ·rename_i el hu;split at h
   ·rename_i inf hi;injection h with h
    subst h;refine hU (fun C ρ ft ac w ht iw hm hv=>?_) (fun iw c hc=>by cases hc)
    have h1:=(ew ht ha).1;have h2:=(ew ht hb).1;simp only[bW,lD] at h1;simp only[xJ] at h2;have hc:(0≤j/\j<(n:Int)):=hv;simp only[execOp,ho,h1,h2,Jk,asIntOf,dz,dX,cA,run_underlying hu,Ms];simp only[hc,and_self,if_true,sizeOf,typeInfo,dz,run_program,cA,hi,dX,bW,iE,pQ,cellOf,jh]
   ·cases h
  ·cases h
 ·cases h
def AG (P:Program) (σ:SS R) (t:TypeId) (y z:Operand):Option (Out R) :=
 match ev σ.tm y,ev σ.tm z with
 |some (.pointer (aa ⟨i,e,sp⟩)),aa (.int _ j) =>
  match P.underlying t with
  |some (.array n el) =>
   match P.info? el with
   |some inf =>
    match sp with
    |none=>aa (gq σ (0≤j/\j<n) (.pointer (aa ⟨i,e+j.toNat*inf.size,aj⟩)) aj [])
    |some q=>if gU q 1000000&&gU (q%1000+n*inf.size) 1000 then aa (gq σ (0≤j/\j<n) (.pointer (aa ⟨i,e,aa (q+j.toNat*inf.size)⟩)) aj []) else aj
   |none=>aj
  |_=>aj
 |_,_=>aj
theorem SO {σ:SS R} {o:Oper} {t:TypeId} {y z:Operand} {x:Out R} (ho:o.op=.indexAddr t y z) (h:AG P σ t y z=aa x):lZ D P o σ x:=by
 unfold AG at h;split at h
 ·rename_i i e sp k j ha hb;split at h
  ·rename_i n el hu;split at h
   ·rename_i inf hi
    have key:∀ (ρ:Env) (ac:Act) (w:World),TM ρ σ.hp.length σ.tm ac->(0≤j/\j<(n:Int)) ->
      (execOp ac.eval o).run P w=.ok (.value (.pointer (aa ((iE ρ ⟨i,e,sp⟩).add (j.toNat*inf.size))))) w:=by
     intro ρ ac w ht hj;have h1:=(ew ht ha).1;have h2:=(ew ht hb).1;simp only[bW] at h1;simp only[xJ] at h2;simp only[execOp,ho,h1,h2,Jk,oH,asIntOf,dz,dX,cA,run_underlying hu,Ms];simp only[hj,and_self,if_true,sizeOf,typeInfo,dz,run_program,cA,hi,dX]
    split at h
    ·injection h with h
     subst h;refine hU (fun C ρ ft ac w ht iw hm hv=>?_) (fun iw c hc=>by cases hc)
     rw[key ρ ac w ht hv];simp only[bW,iE,pQ,cellOf,jh]
    ·rename_i q;split at h
     ·rename_i hq;simp only[aL,fa] at hq;injection h with h
      subst h;refine hU (fun C ρ ft ac w ht iw hm hv=>?_) (fun iw c hc=>by cases hc)
      rw[key ρ ac w ht hv];have hv':0≤j/\j<(n:Int):=hv;have hs:j.toNat*inf.size≤n*inf.size:=jo _ (by omega)
      simp only[bW,iE,pQ,cellOf];have e1:q%1000000 / 1000=(q+j.toNat*inf.size)%1000000 / 1000:=by omega
      have e2:q%1000+j.toNat*inf.size=(q+j.toNat*inf.size)%1000:=by omega
      rw[e1,← e2,jh,jh]
     ·cases h
   ·cases h
  ·cases h
 ·cases h
def wI (tm:List Value) (ez:List aT) (e:Nat):Nat->Nat->Option (List Value)
 |_,0=>aa []
 |f,m+1 =>
  match tm[f]?,ez[f]? with
  |some t,aa c=>(wI tm ez e (f+1) m).map (gD t c e::·)
  |_,_=>aj
theorem EA {tm:List Value} {ez:List aT} {e:Nat}:∀ {m f:Nat} {l:List Value},wI tm ez e f m=aa l->l.length=m/\∀ (j:Nat) (v:Value),l[j]?=aa v->∃ t c,tm[f+j]?=aa t/\ez[f+j]?=aa c/\v=gD t c e
 |0,f,l,h=>by
  simp only[wI] at h;injection h with h
  subst h;exact⟨rfl,fun j v hv=>by simp at hv⟩
 |m+1,f,l,h=>by
  simp only[wI] at h;split at h
  ·rename_i t c ht hc;cases hr:wI tm ez e (f+1) m with
   |none=>rw[hr] at h;cases h
   |some l' =>
    rw[hr] at h;simp only[j_,cu] at h;subst h;obtain⟨h1,h2⟩:=EA hr;refine⟨by simp[h1],fun j v hv=>?_⟩
    cases j with
    |zero =>
     simp only[cf,cu] at hv;exact⟨t,c,ht,hc,hv.symm⟩
    |succ j =>
     simp only[bH] at hv;obtain⟨t',c',g1,g2,g3⟩:=h2 j v hv;exact⟨t',c',by rw[show f+(j+1)=f+1+j by omega];exact g1,by rw[show f+(j+1)=f+1+j by omega];exact g2,g3⟩
  ·cases h
theorem KE {t:Value} {c:aT} {n:Nat} (h:jJ t c n) (e:Nat):flat (gD t c e)=aq:=by
 cases t<;>simp only[gD,flat]<;>exact h.1
theorem Wr {t:Value} {c:aT} {n:Nat} (h:jJ t c n) (e:Nat):(gD t c e).oneCell'=aq:=by
 cases t<;>simp only[gD,qb]<;>exact h.2
def rowOf (x:Option (Option (SB R))):Option Row :=
 match x with
 |some (aa (.inr (.inl (_,r))))=>aa r
 |some (aa (.inr (.inr (.inl r))))=>aa r
 |_=>aj
theorem Cs {h:Hp R} {i:Nat} {r:Row} (hm:HM D C ρ ft h w) (hr:rowOf h[i]?=aa r) :
  r.n≤(ρ i).cap/\(ρ i).cap≤maxLen/\0<r.tm.length/\r.ez.length=r.tm.length/\(∀ (f:Nat) (t:Value) (c:aT),r.tm[f]?=aa t->r.ez[f]?=aa c->jJ t c r.n) /\
   ∀ (f:Nat) (t:Value) (c:aT) (e:Nat),r.tm[f]?=aa t->r.ez[f]?=aa c->e<r.n->w.cell? ⟨(ρ i).lB,(ρ i).off+(e*r.tm.length+f),aj⟩=aa (gD t c e):=by
 unfold rowOf at hr;split at hr
 ·rename_i t0 r0 hi;injection hr with hr
  subst hr;obtain⟨h1,h2,h3,h4,Kp,arr,h5,h7⟩:=(hm.at_ i _ hi).1;refine⟨h3,h4,h2,h7.len,h7.I_,fun f t c e g1 g2 g3=>?_⟩
  have hn:(ρ i).nil=ao:=by
   cases hq:(ρ i).nil with
   |false=>rfl
   |true=>have:=Kp hq;omega
  rw[cell_of_row w _ _ arr _ _ (h5 hn).1];exact h7.cell f t c e g1 g2 g3
 ·rename_i r0 hi;injection hr with hr
  subst hr;obtain⟨h1,h2,h3,h4,Kp,arr,h5,h8⟩:=(hm.at_ i _ hi).1;refine⟨h3,h4,h2,h8.len,h8.I_,fun f t c e g1 g2 g3=>?_⟩
  have hn:(ρ i).nil=ao:=by
   cases hq:(ρ i).nil with
   |false=>rfl
   |true=>have:=Kp hq;omega
  obtain⟨h5,h6,t0,fz,h7⟩:=h5 hn (by omega)
  rw[cell_of_row w _ _ arr t0 fz (by rw[hm.kept.block _ h5 h6];exact h7)]
  exact h8.cell f t c e g1 g2 g3
 ·cases hr
theorem Ca {h:Hp R} {i:Nat} {t:TypeId} {cs:List Value} (hm:HM D C ρ ft h w) (hi:h[i]?=aa (aa (.inl (t,cs)))) (j:Nat) :
  w.cell? ⟨(ρ i).lB,(ρ i).off+j,aj⟩=cs[j]?.map (bW ρ):=by
 obtain⟨h1,h2,h3⟩:=(hm.at_ i _ hi).1;rw[cell_of_row w _ _ _ _ _ h3,h1,b5];simp
def MU (i f:Nat):Nat->List (Nat×Nat)
 |0=>[]
 |m+1=>(i,f+1)::MU i (f+1) m
def AI (P:Program) (σ:SS R) (t:TypeId) (y:Operand):Option (Out R) :=
 match ev σ.tm y with
 |some (.pointer (aa ⟨i,e,aj⟩)) =>
  match σ.hp[i]? with
  |some (aa (.inl (_,cs))) =>
   match B9 P t with
   |some aj=>match cs[e]? with
    |some v=>aa (gq σ True v aj [(i,e+1)])
    |none=>aj
   |some (aa n)=>if uJ (e+n) cs.length then aa (gq σ True (.agg ⟨(cs.drop e).take n⟩) aj (MU i e n)) else aj
   |none=>aj
  |_=>aj
 |some (.pointer (aa ⟨i,e,aa q⟩)) =>
  match rowOf σ.hp[i]? with
  |some r =>
   if fo (q / 1000) r.tm.length&&gU q 1000000 then
    match B9 P t with
    |some aj=>match wI r.tm r.ez e (q%1000) 1 with
     |some [v]=>aa (gq σ (e<r.n) v aj [(i,q%1000+1)])
     |_=>aj
    |some (aa n)=>match wI r.tm r.ez e (q%1000) n with
     |some l=>aa (gq σ (e<r.n) (.agg ⟨l⟩) aj (MU i (q%1000) n))
     |none=>aj
    |none=>aj
   else aj
  |none=>aj
 |_=>aj
theorem Gp {t:TypeId} {a:Addr} {cs:List Value} (ha:B9 P t=aa (aa cs.length)) (h:∀ (j:Nat) (v:Value),cs[j]?=aa v->w.cell? (a.add j)=aa v):(loadVar t a).run P w=.ok (.agg ⟨cs⟩) w:=by
 obtain⟨g1,g2⟩:=Px ha w;have hl:=run_loadCells_list (P:=P) w a cs h;simp only[loadVar,dz,g1,cA,if_true,g2,hl,dX]
theorem Cd {t:TypeId} {a:Addr} {v:Value} (ha:B9 P t=aa aj) (h:w.cell? a=aa v):(loadVar t a).run P w=.ok v w:=by
 have g1:=Pk ha w;simp only[loadVar,dz,g1,cA,fu,if_false,run_load,h]
theorem Sq {σ:SS R} {o:Oper} {t:TypeId} {y:Operand} {x:Out R} (ho:o.op=.load t y) (h:AI P σ t y=aa x):lZ D P o σ x:=by
 unfold AI at h;split at h
 ·rename_i i e ha;split at h
  ·rename_i t' cs hi;split at h
   ·rename_i hg;split at h
    ·rename_i v hv;injection h with h
     subst h;refine hU (fun C ρ ft ac w ht iw hm _=>?_) (fun iw c hc=>by cases hc)
     have h1:=(ew ht ha).1;simp only[bW,iE,cellOf] at h1;have hc:=Ca hm hi e;rw[hv] at hc;simp[execOp,ho,h1,A6,oH,Cd hg hc]
    ·cases h
   ·rename_i n hg;split at h
    ·rename_i hle;have hle:=jB hle;injection h with h
     subst h;refine hU (fun C ρ ft ac w ht iw hm _=>?_) (fun iw c hc=>by cases hc)
     have h1:=(ew ht ha).1;simp only[bW,iE,cellOf] at h1;have hl:(((cs.drop e).take n).map (bW ρ)).length=n:=by simp;omega
     have Sn:(loadVar t ⟨(ρ i).lB,(ρ i).off+e,aj⟩).run P w=.ok (.agg ⟨((cs.drop e).take n).map (bW ρ)⟩) w:=by
      refine Gp (by rw[hl];exact hg) (fun j v hv=>?_)
      rw[pQ,jh,Ca hm hi];have hj:j<n:=by have:=(aU.1 hv).1;omega
      simp only[gh,oJ,hj,if_true,oL] at hv;exact hv
     simp only[execOp,ho,h1,A6,oH,dz,dX,cA,Sn,zw]
     congr 3
     simp
    ·cases h
   ·cases h
  ·cases h
 ·rename_i i e q ha;split at h
  ·rename_i r hr;split at h
   ·rename_i hc;simp only[aL,fa] at hc;have hq:=cR hc.1;have FW:=hc.2
    have key:∀ (C:Ctx) (ρ:Env) (ft:Nat->Nat->Prop) (ac:Act) (w:World),TM ρ σ.hp.length σ.tm ac->HM D C ρ ft σ.hp w->e<r.n ->
      ac.eval y=.pointer (aa ⟨(ρ i).lB,(ρ i).off+(e*r.tm.length+q%1000),aj⟩) /\
      ∀ (m:Nat) (l:List Value),wI r.tm r.ez e (q%1000) m=aa l->(∀ (j:Nat) (v:Value),l[j]?=aa v->w.cell? ((⟨(ρ i).lB,(ρ i).off+(e*r.tm.length+q%1000),aj⟩:Addr).add j)=aa v)/\∀ v∈l,flat v=aq:=by
     intro C ρ ft ac w ht hm he;have h1:=(ew ht ha).1;have e1:q%1000000 / 1000=r.tm.length:=by omega
     simp only[bW,iE,cellOf,e1] at h1;obtain⟨_,_,_,_,g4,g5⟩:=Cs hm hr;refine⟨h1,fun m l hl=>?_⟩
     obtain⟨k1,k2⟩:=EA hl;refine⟨fun j v hv=>?_,fun v hv=>?_⟩
     ·obtain⟨t,c,q1,q2,rfl⟩:=k2 j v hv;rw[pQ,jh,jh];exact g5 _ _ _ _ q1 q2 he
     ·obtain⟨j,hj⟩:=A7 hv;obtain⟨t,c,q1,q2,rfl⟩:=k2 j v hj;exact KE (g4 _ _ _ q1 q2) e
    split at h
    ·rename_i hg;split at h
     ·rename_i v hv;injection h with h
      subst h;refine hU (fun C ρ ft ac w ht iw hm he=>?_) (fun iw c hc=>by cases hc)
      obtain⟨h1,h2⟩:=key C ρ ft ac w ht hm he;obtain⟨h3,h4⟩:=h2 _ _ hv;have h5:=h3 0 v (by simp)
      rw[pQ,gV] at h5;rw[nS v (h4 v (by simp))]
      simp[execOp,ho,h1,A6,oH,Cd hg h5]
     ·cases h
    ·rename_i n hg;split at h
     ·rename_i l hl;injection h with h
      subst h;refine hU (fun C ρ ft ac w ht iw hm he=>?_) (fun iw c hc=>by cases hc)
      obtain⟨h1,h2⟩:=key C ρ ft ac w ht hm he;obtain⟨h3,h4⟩:=h2 _ _ hl;have hn:=(EA hl).1;have Sn:=Gp (P:=P) (t:=t) (by rw[hn];exact hg) h3
      rw[nS (.agg ⟨l⟩) (by simpa [flat] using zq.2 h4)]
      simp only[execOp,ho,h1,A6,oH,dz,dX,cA,Sn]
     ·cases h
    ·cases h
   ·cases h
  ·cases h
 ·cases h
def nA (cur:Array Value):Nat->List Value->Array Value
 |_,[]=>cur
 |k,v::l=>nA (cur.setIfInBounds k v) (k+1) l
def HX (cs:List Value):Nat->List Value->List Value
 |_,[]=>cs
 |k,v::l=>HX (cs.set k v) (k+1) l
theorem Gq (cs:List Value):∀ (k:Nat) (l:List Value),nA (cs.map (bW ρ)).toArray k (l.map (bW ρ))=((HX cs k l).map (bW ρ)).toArray
 |_,[]=>rfl
 |k,v::l=>by
  simp only[gC,nA,HX];have:(cs.map (bW ρ)).toArray.setIfInBounds k (bW ρ v)=((cs.set k v).map (bW ρ)).toArray:=by simp
  rw[this];exact Gq (cs.set k v) (k+1) l
theorem Ea (cur:Array Value):∀ (k:Nat) (l:List Value),(nA cur k l).size=cur.size
 |_,[]=>rfl
 |k,v::l=>by rw[nA,Ea];simp
theorem LN (cs:List Value):∀ (k:Nat) (l:List Value),(HX cs k l).length=cs.length
 |_,[]=>rfl
 |k,v::l=>by rw[HX,LN];simp
theorem Vf {n:Nat} {cs:List Value}:∀ (k:Nat) (l:List Value),ix n cs=aq->ix n l=aq->ix n (HX cs k l)=aq
 |_,[],h,_=>h
 |k,v::l,h,hl=>by
  simp only[ix,aL] at hl;refine Vf (k+1) l ?_ hl.2;rw[wY] at h ⊢;intro u hu;rcases List.mem_or_eq_of_mem_set hu with hu|rfl
  ·exact h u hu
  ·exact hl.1
theorem yD (g o:Nat) (t:TypeId):∀ (vs:List Value) (i:Nat) (cur:Array Value) (w:World),w.heap[g]?=aa (.cells cur t (0,0))->o+i+vs.length≤cur.size->(∀ v∈vs,v.oneCell'=aq) ->
  (storeCells ⟨g,o,aj⟩ vs i).run P w=.ok () (w.setRow g (nA cur (o+i) vs))
 |[],i,cur,w,hg,_,_=>by
  simp only[storeCells,nA];rw[setRow_self w g cur t (0,0) hg]
  rfl
 |v::rest,i,cur,w,hg,hl,h1=>by
  have hi:o+i<cur.size:=by simp at hl;omega
  have akQ:w.cell? ⟨g,o+i,aj⟩=aa cur[o+i]:=by simp[World.cell?,hg,hi]
  have amN:w.frozen? ⟨g,o+i,aj⟩=ao:=by simp[SP,hg]
  have yp:(store ((⟨g,o,aj⟩:Addr).add i) v).run P w=.ok () (w.setRow g (cur.setIfInBounds (o+i) v)):=by
   rw[pQ,run_store P w _ v _ (h1 v (by simp)),akQ]
   simp[amN,setCell_eq_setRow w g (o+i) cur t (0,0) v hg]
  have ih:=yD g o t rest (i+1) (cur.setIfInBounds (o+i) v) (w.setRow g (cur.setIfInBounds (o+i) v)) (setRow_heap w g cur _ t _ hg) (by simp at hl ⊢;omega) (fun x hx=>h1 x (by simp[hx]))
  simp only[storeCells,dz,yp,cA,ih,setRow_setRow,nA,jh]
theorem Gf (w:World) (g:Nat) (cs:Array Value) {F:Nat->Prop} (hF:F g):Kept F w (w.setRow g cs) :=
 ⟨rfl,rfl,rfl,by simp[Ff],fun k _ hn=>setRow_other w g k cs (fun e=>hn (e▸hF))⟩
def YH:List Value->Bool
 |[]=>aq
 |v::l=>v.oneCell'&&YH l
theorem ad2 {l:List Value} (h:YH l=aq):∀ v∈l,v.oneCell'=aq:=by
 induction l with
 |nil=>intro v hv;cases hv
 |cons u l ih =>
  simp only[YH,aL] at h;intro v hv;rcases bR.1 hv with rfl|hv
  ·exact h.1
  ·exact ih h.2 v hv
def OY (t:Value) (c:aT) (e:Nat) (v:Value):Option aT :=
 match t,v with
 |.int k _,.int k' x=>if k=k' then aa { c with i:=c.i.set e x } else aj
 |.bool _,.bool x=>aa { c with b:=c.b.set e x }
 |.string _,.string x=>aa { c with s:=c.s.set e x }
 |_,_=>aj
def GL (tm:List Value) (ez:List aT) (e:Nat):Nat->List Value->Option (List aT)
 |_,[]=>aa ez
 |f,v::l =>
  match tm[f]?,ez[f]? with
  |some t,aa c=>match OY t c e v with
   |some c'=>GL tm (ez.set f c') e (f+1) l
   |none=>aj
  |_,_=>aj
theorem R9 {t:Value} {c c':aT} {e n:Nat} {v:Value} (h:OY t c e v=aa c') (hc:jJ t c n) (he:e<n) :
  jJ t c' n/\flat v=aq/\v.oneCell'=aq/\∀ e',e'<n->gD t c' e'=if e'=e then v else gD t c e':=by
 unfold OY at h;split at h
 ·split at h
  ·rename_i k _ k' x hk;subst hk;injection h with h
   subst h;refine⟨by simpa [jJ] using hc,rfl,rfl,fun e' vQ=>?_⟩
   simp only[jJ] at hc;simp only[gD,ax,Dh]
   by_cases heq:e=e'
   ·subst heq;simp[hc,he]
   ·simp[heq,Yq heq,fun h=>heq (qV h)]
  ·cases h
 ·injection h with h
  subst h;refine⟨by simpa [jJ] using hc,rfl,rfl,fun e' vQ=>?_⟩
  simp only[jJ] at hc;simp only[gD,ax,Dh]
  by_cases heq:e=e'
  ·subst heq;simp[hc,he]
  ·simp[heq,Yq heq,fun h=>heq (qV h)]
 ·injection h with h
  subst h;refine⟨by simpa [jJ] using hc,rfl,rfl,fun e' vQ=>?_⟩
  simp only[jJ] at hc;simp only[gD,ax,Dh]
  by_cases heq:e=e'
  ·subst heq;simp[hc,he]
  ·simp[heq,Yq heq,fun h=>heq (qV h)]
 ·cases h
theorem Uz {s e e' f f':Nat} (hf:f<s) (hf':f'<s) (h:e*s+f=e'*s+f'):e=e'/\f=f':=by
 have h1:(e*s+f) / s=e:=by rw[sC,z7 _ _ (by omega),Fg hf,b5]
 have h2:(e'*s+f') / s=e':=by rw[sC,z7 _ _ (by omega),Fg hf',b5]
 have:e=e':=by rw[← h1,← h2,h]
 subst this;exact⟨rfl,by omega⟩
theorem ZB {r:Row} {arr:Array Value} {o e f:Nat} {t:Value} {c c':aT} {v:Value} (hr:oe r arr o) (ht:r.tm[f]?=aa t) (hc:r.ez[f]?=aa c) (he:e<r.n)
  (hs:OY t c e v=aa c'):oe { r with ez:=r.ez.set f c' } (arr.setIfInBounds (o+(e*r.tm.length+f)) v) o:=by
 obtain⟨k1,k2,k3,k4⟩:=R9 hs (hr.I_ f t c ht hc) he;have wq:f<r.tm.length:=(aU.1 ht).1;have RR:f<r.ez.length:=(aU.1 hc).1;refine⟨by simpa using hr.len,fun f' t' c1 h1 h2=>?_,fun f' t' c1 e' h1 h2 h3=>?_⟩
 ·simp only at h1 h2
  by_cases LW:f=f'
  ·subst LW;rw[ht] at h1;injection h1 with h1;subst h1
   rw[jS RR] at h2;injection h2 with h2;subst h2
   exact k1
  ·rw[kr LW] at h2;exact hr.I_ f' t' c1 h1 h2
 ·simp only at h1 h2 h3 ⊢;have Bt:f'<r.tm.length:=(aU.1 h1).1;rw[uK];have hold:=hr.cell f' t'
  by_cases LW:f=f'
  ·subst LW;rw[ht] at h1;injection h1 with h1;subst h1
   rw[jS RR] at h2;injection h2 with h2;subst h2
   rw[k4 e' h3];have h5:=hr.cell f t c e' ht hc h3;have cl:o+(e'*r.tm.length+f)<arr.size:=(Array.getElem?_eq_some_iff.1 h5).1
   by_cases hee:e'=e
   ·subst hee;simp[cl]
   ·rw[if_neg hee,if_neg (fun hh=>hee (Uz wq wq (by omega:e'*r.tm.length+f=e*r.tm.length+f)).1)]
    exact h5
  ·rw[kr LW] at h2;rw[if_neg (fun hh=>LW (Uz wq Bt (by omega:e*r.tm.length+f=e'*r.tm.length+f')).2)]
   exact hr.cell f' t' c1 e' h1 h2 h3
theorem Mo {tm:List Value} {n o e:Nat} (he:e<n):∀ {vs:List Value} {f:Nat} {ez S3:List aT} {arr:Array Value},oe ⟨tm,n,ez⟩ arr o->GL tm ez e f vs=aa S3 ->
  oe ⟨tm,n,S3⟩ (nA arr (o+(e*tm.length+f)) vs) o/\(∀ v∈vs,flat v=aq/\v.oneCell'=aq)/\(vs=[]∨f+vs.length≤tm.length)
 |[],f,ez,S3,arr,hr,h=>by
  simp only[GL] at h;injection h with h
  subst h;exact⟨hr,(fun v hv=>by cases hv),dN rfl⟩
 |v::l,f,ez,S3,arr,hr,h=>by
  simp only[GL] at h;split at h
  ·rename_i t c ht hc;split at h
   ·rename_i c' hs;obtain⟨h1,h2,h3⟩:=Mo (tm:=tm) (n:=n) (o:=o) (e:=e) he (f:=f+1) (ZB hr ht hc he hs) h;obtain⟨_,k2,k3,_⟩:=R9 hs (hr.I_ f t c ht hc) he;have wq:f<tm.length:=(aU.1 ht).1;refine⟨h1,fun u hu=>?_,eY ?_⟩
    ·rcases bR.1 hu with rfl|hu
     ·exact⟨k2,k3⟩
     ·exact h2 u hu
    ·rcases h3 with rfl|h3
     ·simp only[cI,ky];omega
     ·simp only[cI];omega
   ·cases h
  ·cases h
def DM (P:Program) (σ:SS R) (t:TypeId) (y z:Operand):Option (Out R) :=
 match ev σ.tm y,ev σ.tm z with
 |some (.pointer (aa ⟨i,e,aj⟩)),aa v =>
  match σ.hp[i]?,P.info? t with
  |some (aa (.inl (ty,cs))),aa inf =>
   if fo v.cells.toList.length inf.size&&uJ (e+inf.size) cs.length&&YH v.cells.toList then
    aa ⟨True,undef,aj,σ.hp.set i (aa (.inl (ty,HX cs e v.cells.toList))),[],MU i e inf.size⟩
   else aj
  |_,_=>aj
 |some (.pointer (aa ⟨i,e,aa q⟩)),aa v =>
  match σ.hp[i]?,P.info? t with
  |some (aa (.inr (.inl (ty,r)))),aa inf =>
   if fo v.cells.toList.length inf.size&&fo (q / 1000) r.tm.length&&gU q 1000000&&gU 0 inf.size then
    match GL r.tm r.ez e (q%1000) v.cells.toList with
    |some ez=>aa ⟨e<r.n,undef,aj,σ.hp.set i (aa (.inr (.inl (ty,{ r with ez:=ez })))),[],MU i (q%1000) inf.size⟩
    |none=>aj
   else aj
  |_,_=>aj
 |_,_=>aj
theorem Sp {n:Nat} {v:Value} (h:fp n v=aq):ix n v.cells.toList=aq:=by
 cases v with
 |agg cs=>obtain⟨l⟩:=cs;simpa [fp,np] using h
 |_=>simp only[np,ix,h];rfl
theorem Yw {σ:SS R} {o:Oper} {t:TypeId} {y z:Operand} {x:Out R} (ho:o.op=.store t y z) (hd:o.dst=aj) (h:DM P σ t y z=aa x):lZ D P o σ x:=by
 unfold DM at h;split at h
 ·rename_i i e v ha hb;split at h
  ·rename_i ty cs inf hi xY;split at h
   ·rename_i hc;simp only[aL] at hc;have n9:=cR hc.1.1;have hle:=jB hc.1.2;have adh:=ad2 hc.2;injection h with h
    subst h;refine⟨fun C ρ ft ac w K Q ht iw hm _ hK=>?_,by simp,fun _ b hb=>by cases hb⟩
    have h1:=(ew ht ha).1;obtain⟨h2,h2'⟩:=ew ht hb;simp only[bW,iE,cellOf] at h1;obtain⟨g1,g2,g3⟩:=(hm.at_ i _ hi).1;have hvl:((bW ρ v).cells.toList)=v.cells.toList.map (bW ρ):=by rw[Cn];simp
    have yp:=yD (P:=P) (ρ i).lB e ty (v.cells.toList.map (bW ρ)) 0 _ w g3 (by have:=n9;simp only[wj] at this;simp;omega) (fun u hu=>by
     obtain⟨u',hu',rfl⟩:=o_.1 hu;rw[WA];exact adh u' hu')
    simp only[gV] at yp;rw[Gq] at yp;have nR:(execOp ac.eval o).run P w=.ok .skip (w.setRow (ρ i).lB ((HX cs e v.cells.toList).map (bW ρ)).toArray):=by
     have Uo:(bW ρ v).cells.size=inf.size:=by rw[← wj,hvl];simpa using n9
     simp only[execOp,ho,h1,h2,SQ,oH,storeVar,dz,dX,cA,sizeOf,typeInfo,run_program,xY,Uo,ne_eq,not_true_eq_false,if_false,g1,b5,hvl,yp]
    refine VH nR (hK ρ (qg ft i (ft i)) _ (fun _ _=>rfl) ?_)
    refine hm.put hi (Gf _ _ _ ((g2 _).2 rfl)) _ _ ⟨g1,g2,setRow_heap w _ _ _ _ _ g3⟩ (Vf _ _ (hm.at_ i _ hi).2 (Sp h2')) (fun k hk=>⟨dN hk,by simpa [Ff] using hm.lt i k hk⟩)
   ·cases h
  ·cases h
 ·rename_i i e q v ha hb;split at h
  ·rename_i ty r inf hi xY;split at h
   ·rename_i hc;simp only[aL,fa] at hc;have n9:=cR hc.1.1.1;have hq:=cR hc.1.1.2;have FW:=hc.1.2;have Xu:=hc.2;split at h
    ·rename_i ez Dq;injection h with h
     subst h;refine⟨fun C ρ ft ac w K Q ht iw hm he hK=>?_,by simp,fun _ b hb=>by cases hb⟩
     have h1:=(ew ht ha).1;obtain⟨h2,h2'⟩:=ew ht hb;have e1:q%1000000 / 1000=r.tm.length:=by omega
     simp only[bW,iE,cellOf,e1] at h1;obtain⟨g1,g2,g3,g4,g4',arr,g56,g7⟩:=(hm.at_ i _ hi).1;have hnn:(ρ i).nil=ao:=by
      cases hqq:(ρ i).nil with
      |false=>rfl
      |true=>have:=g4' hqq;have:e<r.n:=he;omega
     obtain⟨g5,g6⟩:=g56 hnn;obtain⟨k1,k2,k3⟩:=Mo (tm:=r.tm) (n:=r.n) he (arr:=arr) g7 Dq;have hvl:((bW ρ v).cells.toList)=v.cells.toList:=by
      rw[Cn];rw[mj]
      conv=>rhs;rw[← WX v.cells.toList]
      exact nY fun u hu=>nS u (k2 u hu).1
     have E6:(ρ i).off+(e*r.tm.length+q%1000)+0+v.cells.toList.length≤arr.size:=by
      have hmul:(e+1)*r.tm.length≤(ρ i).cap*r.tm.length:=jo _ (by have:e<r.n:=he;omega)
      rw[ik,qv] at hmul;rw[g6];rcases k3 with k3|k3
      ·rw[k3] at n9;simp at n9;omega
      ·omega
     have yp:=yD (P:=P) (ρ i).lB ((ρ i).off+(e*r.tm.length+q%1000)) ty v.cells.toList 0 arr w g5 E6 (fun u hu=>(k2 u hu).2)
     simp only[gV] at yp;have nR:(execOp ac.eval o).run P w=.ok .skip (w.setRow (ρ i).lB (nA arr ((ρ i).off+(e*r.tm.length+q%1000)) v.cells.toList)):=by
      have Uo:(bW ρ v).cells.size=inf.size:=by rw[← wj,hvl];exact n9
      simp only[execOp,ho,h1,h2,SQ,oH,storeVar,dz,dX,cA,sizeOf,typeInfo,run_program,xY,Uo,ne_eq,not_true_eq_false,if_false,hvl,yp]
     refine VH nR (hK ρ (qg ft i (ft i)) _ (fun _ _=>rfl) ?_)
     exact hm.put hi (Gf _ _ _ ((g1 _).2 ⟨hnn,rfl⟩)) _ _ ⟨g1,g2,g3,g4,g4',_,fun _=>⟨setRow_heap w _ _ _ _ _ g5,by rw[Ea];exact g6⟩,k1⟩ trivial (fun k hk=>⟨dN hk,by simpa [Ff] using hm.lt i k hk⟩)
    ·cases h
   ·cases h
  ·cases h
 ·cases h
end
end Rx
namespace Rx
open Go.RowKit State
section
variable {R:Type} {D:fK R} {P:Program} {C:Ctx} {ρ:Env} {ft:Nat->Nat->Prop} {w w':World}
def wL (σ:SS R) (t:TypeId) (cs:List Value):Option (Out R) :=
 aa ⟨True,.pointer (aa ⟨σ.hp.length,0,aj⟩),aj,σ.hp++[aa (.inl (t,cs))],[],[(σ.hp.length,0)]⟩
theorem L_ {σ:SS R} {o:Oper} {t:TypeId} {cs:List Value} {x:Out R}
  (nR:∀ (ρ:Env) (a:Act) (w:World),TM ρ σ.hp.length σ.tm a->(execOp a.eval o).run P w=.ok (.value (.pointer (aa ⟨w.heap.size,0,aj⟩))) (w.alloc (.cells (cs.map (bW ρ)).toArray t))/\ix σ.hp.length cs=aq)
  (h:wL σ t cs=aa x):lZ D P o σ x:=by
 unfold wL at h;injection h with h
 subst h;refine⟨fun C ρ ft a w K Q ht iw hm _ hK=>?_,by simp,fun _ b hb=>by cases hb⟩
 obtain⟨h1,h2⟩:=nR ρ a w ht;have Vv:cs.map (bW (qg ρ σ.hp.length ⟨w.heap.size,0,0,ao⟩))=cs.map (bW ρ) :=
  nY fun v hv=>na (n:=σ.hp.length) (fun i hi=>ox _ _ _ hi) v (wY.1 h2 v hv)
 have hp:=hm.push (D:=D) ⟨w.heap.size,0,0,ao⟩ (.cells (cs.map (bW ρ)).toArray t) rfl (.inl (t,cs)) (by
  refine⟨by rw[jg],fun k=>by rw[jg],?_⟩
  rw[jg,Vv];exact heap_alloc_new w _) (uY (mH _) _ h2)
 refine rj h1 ?_;have:=hK _ _ _ (fun i hi=>ox ρ σ.hp.length ⟨w.heap.size,0,0,ao⟩ hi) hp
 simpa [bW,iE,jg,cellOf] using this
def DT (P:Program) (σ:SS R) (t:TypeId):Option (Out R) :=
 match P.info? t with
 |some i=>match i.zero with
  |some z=>if pH z.cells.toList then wL σ t z.cells.toList else aj
  |none=>aj
 |none=>aj
theorem Eh {l:List Value} (h:pH l=aq):l.map (bW ρ)=l:=by
 conv=>rhs;rw[← WX l]
 exact nY fun v hv=>nS v (zq.1 h v hv)
theorem YP {σ:SS R} {o:Oper} {t:TypeId} {x:Out R} (ho:o.op=.alloc t) (h:DT P σ t=aa x):lZ D P o σ x:=by
 unfold DT at h;split at h
 ·rename_i i hi;split at h
  ·rename_i z hz;split at h
   ·rename_i hf;refine L_ (fun ρ a w ht=>⟨?_,zF _ hf⟩) h
    rw[Eh hf];simp[execOp,ho,Instr.alloc,zeroValue,typeInfo,hi,hz,newVar,newRow]
   ·cases h
  ·cases h
 ·cases h
def KU (σ:SS R) (t:TypeId) (y:Operand):Option (Out R) :=
 match ev σ.tm y with
 |some v=>wL σ t v.cells.toList
 |none=>aj
theorem ad5 {σ:SS R} {o:Oper} {t:TypeId} {y:Operand} {x:Out R} (ho:o.op=.box t y) (h:KU σ t y=aa x):lZ D P o σ x:=by
 unfold KU at h;split at h
 ·rename_i v hv;refine L_ (fun ρ a w ht=>?_) h
  obtain⟨h1,h2⟩:=ew ht hv;refine⟨?_,Sp h2⟩;have:(bW ρ v).cells=(v.cells.toList.map (bW ρ)).toArray:=by rw[Cn];apply qu;simp
  simp[execOp,ho,Instr.box,newVar,newRow,h1,this]
 ·cases h
def Bu (tm:List (Option Value)):List (Nat×Operand)->Option (List (Nat×Value))
 |[]=>aa []
 |(i,y)::l =>
  match ev tm y,Bu tm l with
  |some v,aa r=>aa ((i,v)::r)
  |_,_=>aj
theorem yh {tm:List (Option Value)} {n:Nat} {a:Act} (ht:TM ρ n tm a):∀ {l:List (Nat×Operand)} {r:List (Nat×Value)},Bu tm l=aa r ->
  l.map (fun(i,y)=>(i,a.eval y))=r.map (fun(i,v)=>(i,bW ρ v))/\∀ p∈r,fp n p.2=aq
 |[],r,h=>by
  simp only[Bu] at h;injection h with h
  subst h;exact⟨rfl,fun p hp=>by cases hp⟩
 |(i,y)::l,r,h=>by
  simp only[Bu] at h;split at h
  ·rename_i v r' hv hr;injection h with h
   subst h;obtain⟨h1,h2⟩:=ew ht hv;obtain⟨h3,h4⟩:=yh ht hr;refine⟨by simp only[gC,h1,h3],fun p hp=>?_⟩
   rcases bR.1 hp with rfl|hp
   ·exact h2
   ·exact h4 p hp
  ·cases h
def F7 (place:Nat->Option (Nat×Nat)) (cs:List Value):List (Nat×Value)->Option (List Value)
 |[]=>aa cs
 |(i,v)::rest =>
  match place i with
  |none=>aj
  |some (off,size) =>
   if fo v.cells.toList.length size&&uJ (off+size) cs.length then F7 place (HX cs off v.cells.toList) rest else aj
theorem SA (vs:List Value):∀ (k:Nat) (cur:Array Value) (off:Nat),(vs.zipIdx k).foldl (fun cs (x:Value×Nat)=>cs.setIfInBounds (off+x.2) x.1) cur=nA cur (off+k) vs:=by
 induction vs with
 |nil=>intro k cur off;rfl
 |cons v l ih=>intro k cur off;simp only[List.zipIdx_cons,List.foldl_cons,nA];rw[ih];simp[jh]
theorem AK {place:Nat->Option (Nat×Nat)}:∀ {rest:List (Nat×Value)} {cs r:List Value},F7 place cs rest=aa r ->
  ZY place (cs.map (bW ρ)).toArray (rest.map fun(i,v)=>(i,bW ρ v))=aa (r.map (bW ρ)).toArray/\r.length=cs.length
 |[],cs,r,h=>by
  simp only[F7] at h;injection h with h
  subst h;exact⟨rfl,rfl⟩
 |(i,v)::rest,cs,r,h=>by
  simp only[F7] at h;split at h
  ·cases h
  ·rename_i off size hp;split at h
   ·rename_i hc;simp only[aL] at hc;have h1:=cR hc.1;have h2:=jB hc.2;obtain⟨h3,h4⟩:=AK h;refine⟨?_,by rw[h4,LN]⟩
    simp only[gC,ZY,hp];have n9:(bW ρ v).cells.size=size:=by rw[Cn];simpa using h1
    rw[if_neg (by simp[n9];omega)]
    rw[← h3]
    congr 1
    have:(bW ρ v).cells=(v.cells.toList.map (bW ρ)).toArray:=by rw[Cn];apply qu;simp
    rw[this];have e:=SA (v.cells.toList.map (bW ρ)) 0 (cs.map (bW ρ)).toArray off;rw[gV,Gq] at e;rw[← e];simp[← Array.foldl_toList]
   ·cases h
def Hq (P:Program):List Field->Option (List (Nat×Nat))
 |[]=>aa []
 |f::fs =>
  match P.info? f.type,Hq P fs with
  |some i,aa r=>aa ((f.offset,i.size)::r)
  |_,_=>aj
theorem JU (w:World):∀ {fs:List Field} {r:List (Nat×Nat)},Hq P fs=aa r->(fs.mapM (m:=Sem) fun f=>do pure (f.offset,← sizeOf f.type)).run P w=.ok r w
 |[],r,h=>by
  simp only[Hq] at h;injection h with h
  subst h;simp
 |f::fs,r,h=>by
  simp only[Hq] at h;split at h
  ·rename_i i r' hi hr;injection h with h
   subst h;have ih:=JU w hr;simp[sizeOf,typeInfo,hi] at ih ⊢;simp[ih]
  ·cases h
def DF (P:Program) (σ:SS R) (t:TypeId) (parts:List (Nat×Operand)):Option (Out R) :=
 match P.info? t,P.underlying t,Bu σ.tm parts with
 |some i,aa (.struct ⟨fs⟩),aa ps =>
  match i.zero,Hq P fs with
  |some z,aa sz =>
   if pH z.cells.toList then
    match F7 (fun k=>sz[k]?) z.cells.toList ps with
    |some cs=>aa (gq σ True (.agg ⟨cs⟩) aj [])
    |none=>aj
   else aj
  |_,_=>aj
 |some i,aa (.array _ elem),aa ps =>
  match i.zero,P.info? elem with
  |some z,aa ie =>
   if pH z.cells.toList then
    match F7 (fun k=>aa (k*ie.size,ie.size)) z.cells.toList ps with
    |some cs=>aa (gq σ True (.agg ⟨cs⟩) aj [])
    |none=>aj
   else aj
  |_,_=>aj
 |_,_,_=>aj
theorem Y5 {σ:SS R} {o:Oper} {t:TypeId} {parts:Array (Nat×Operand)} {x:Out R} (ho:o.op=.build t parts) (h:DF P σ t parts.toList=aa x):lZ D P o σ x:=by
 unfold DF at h;split at h
 ·rename_i i fs ps hi hu U6;split at h
  ·rename_i z sz hz n9;split at h
   ·rename_i hf;split at h
    ·rename_i cs Ht;injection h with h
     subst h;refine hU (fun C ρ ft a w ht iw hm _=>?_) (fun iw c hc=>by cases hc)
     obtain⟨h1,h2⟩:=yh ht U6;obtain⟨h3,h4⟩:=AK (ρ:=ρ) Ht;rw[Eh hf] at h3;have I8:(parts.map fun(i,y)=>(i,a.eval y)).toList=ps.map fun(i,v)=>(i,bW ρ v):=by
      rw[mj];exact h1
     have J8:=JU w n9;have hm3:((⟨fs⟩:Array Field).mapM (m:=Sem) fun f=>do pure (f.offset,← sizeOf f.type)).run P w=.ok ⟨sz⟩ w:=by
      rw[Dy,WY,J8];simp
     have aiW:(fun(k:Nat)=>(⟨sz⟩:Array (Nat×Nat))[k]?)=fun(k:Nat)=>sz[k]?:=by funext k;simp
     simp only[execOp,ho,WZ,zeroValue,typeInfo,dz,run_program,cA,hi,dX,hz,run_underlying hu,hm3,I8,aiW];simp only[IK] at h3;rw[h3,zw];simp
    ·cases h
   ·cases h
  ·cases h
 ·rename_i i q elem ps hi hu U6;split at h
  ·rename_i z ie hz hie;split at h
   ·rename_i hf;split at h
    ·rename_i cs Ht;injection h with h
     subst h;refine hU (fun C ρ ft a w ht iw hm _=>?_) (fun iw c hc=>by cases hc)
     obtain⟨h1,h2⟩:=yh ht U6;obtain⟨h3,h4⟩:=AK (ρ:=ρ) Ht;rw[Eh hf] at h3;have I8:(parts.map fun(i,y)=>(i,a.eval y)).toList=ps.map fun(i,v)=>(i,bW ρ v):=by
      rw[mj];exact h1
     simp only[execOp,ho,WZ,zeroValue,typeInfo,sizeOf,dz,run_program,cA,hi,hie,dX,hz,run_underlying hu,I8];simp only[IK] at h3;rw[h3,zw];simp
    ·cases h
   ·cases h
  ·cases h
 ·cases h
end
end Rx
namespace Rx
open Go.RowKit State
section
variable {R:Type} {D:fK R} {P:Program} {C:Ctx} {ρ:Env} {ft:Nat->Nat->Prop} {w w':World}
def Hn (t:Value):List Value->Option aT
 |[]=>match t with
  |.int _ _|.bool _|.string _=>aa Lu
  |_=>aj
 |v::l =>
  match t,v,Hn t l with
  |.int k _,.int k' x,aa c=>if k=k' then aa { c with i:=x::c.i } else aj
  |.bool _,.bool x,aa c=>aa { c with b:=x::c.b }
  |.string _,.string x,aa c=>aa { c with s:=x::c.s }
  |_,_,_=>aj
theorem Du {t:Value}:∀ {l:List Value} {c:aT},Hn t l=aa c->jJ t c l.length/\∀ (e:Nat),e<l.length->l[e]?=aa (gD t c e)
 |[],c,h=>by
  simp only[Hn] at h;split at h
  ·injection h with h;subst h;exact⟨rfl,fun e he=>by simp at he⟩
  ·injection h with h;subst h;exact⟨rfl,fun e he=>by simp at he⟩
  ·injection h with h;subst h;exact⟨rfl,fun e he=>by simp at he⟩
  ·cases h
 |v::l,c,h=>by
  simp only[Hn] at h;split at h
  ·rename_i k _ k' x c' hc;split at h
   ·rename_i hk;subst hk;injection h with h
    subst h;obtain⟨h1,h2⟩:=Du hc;refine⟨by simpa [jJ] using h1,fun e he=>?_⟩
    cases e with
    |zero=>simp[gD]
    |succ e =>
     have:=h2 e (by simpa using he)
     simpa [gD] using this
   ·cases h
  ·rename_i x c' hc;injection h with h
   subst h;obtain⟨h1,h2⟩:=Du hc;refine⟨by simpa [jJ] using h1,fun e he=>?_⟩
   cases e with
   |zero=>simp[gD]
   |succ e =>
    have:=h2 e (by simpa using he)
    simpa [gD] using this
  ·rename_i x c' hc;injection h with h
   subst h;obtain⟨h1,h2⟩:=Du hc;refine⟨by simpa [jJ] using h1,fun e he=>?_⟩
   cases e with
   |zero=>simp[gD]
   |succ e =>
    have:=h2 e (by simpa using he)
    simpa [gD] using this
  ·cases h
def G0 (cells:List Value) (s f:Nat):Nat->List Value
 |0=>[]
 |n+1=>G0 cells s f n++[(cells[n*s+f]?).getD undef]
theorem OC (cells:List Value) (s f:Nat):∀ (n:Nat),(G0 cells s f n).length=n/\∀ e,e<n->(G0 cells s f n)[e]?=aa ((cells[e*s+f]?).getD undef)
 |0=>⟨rfl,fun e he=>by omega⟩
 |n+1=>by
  obtain⟨h1,h2⟩:=OC cells s f n;refine⟨by simp[G0,h1],fun e he=>?_⟩
  simp only[G0];rcases cx e n with cl|j6
  ·rw[db (by omega)]
   exact h2 e cl
  ·have:e=n:=by omega
   subst this;rw[dU (by omega),h1]
   simp
def Et (cells:List Value) (s n:Nat):Nat->List Value->Option (List aT)
 |_,[]=>aa []
 |f,t::tm =>
  match Hn t (G0 cells s f n),Et cells s n (f+1) tm with
  |some c,aa r=>aa (c::r)
  |_,_=>aj
theorem L8 {cells:List Value} {s n:Nat}:∀ {tm:List Value} {f0:Nat} {ez:List aT},Et cells s n f0 tm=aa ez ->
  ez.length=tm.length/\∀ (f:Nat) (t:Value) (c:aT),tm[f]?=aa t->ez[f]?=aa c->jJ t c n/\∀ e,e<n->(cells[e*s+(f0+f)]?).getD undef=gD t c e
 |[],f0,ez,h=>by
  simp only[Et] at h;injection h with h
  subst h;exact⟨rfl,fun f t c h1 h2=>by simp at h1⟩
 |t0::tm,f0,ez,h=>by
  simp only[Et] at h;split at h
  ·rename_i c r hc hr;injection h with h
   subst h;obtain⟨h1,h2⟩:=L8 hr;refine⟨by simp[h1],fun f t c' g1 g2=>?_⟩
   cases f with
   |zero =>
    simp only[cf,cu] at g1 g2;subst g1;subst g2;obtain⟨k1,k2⟩:=Du hc;obtain⟨s1,s2⟩:=OC cells s f0 n;rw[s1] at k1 k2;refine⟨k1,fun e he=>?_⟩
    have:=k2 e he;rw[s2 e he] at this;exact o9 this
   |succ f =>
    simp only[bH] at g1 g2;have:=h2 f t c' g1 g2;rw[show f0+(f+1)=f0+1+f by omega]
    exact this
  ·cases h
theorem HM.Rq {h:Hp R} (hm:HM D C ρ ft h w) (t:TypeId) (r:Row) (arr:Array Value) (cap:Nat) (h0:0<r.tm.length) (hn:r.n≤cap) (hc:cap≤maxLen) (hs:arr.size=cap*r.tm.length) (hr:oe r arr 0) :
  HM D C (qg ρ h.length ⟨w.heap.size,0,cap,ao⟩) (qg ft h.length (fun k=>k=w.heap.size)) (h++[aa (.inr (.inl (t,r)))]) (w.alloc (.cells arr t)):=by
 refine hm.push ⟨w.heap.size,0,cap,ao⟩ (.cells arr t) rfl (.inr (.inl (t,r))) ?_ trivial;simp only[hold,jg];exact⟨fun k=>by simp,h0,hn,hc,(fun h=>by cases h),arr,fun _=>⟨heap_alloc_new w _,by omega⟩,hr⟩
theorem HM.Qo {h:Hp R} (hm:HM D C ρ ft h w) (t:TypeId) (r:Row) (h0:0<r.tm.length) (hn:r.n=0) (hl:r.ez.length=r.tm.length) (hc:∀ (f:Nat) (t:Value) (c:aT),r.tm[f]?=aa t->r.ez[f]?=aa c->jJ t c r.n) (b o:Nat) :
  HM D C (qg ρ h.length ⟨b,o,0,aq⟩) ft (h++[aa (.inr (.inl (t,r)))]) w:=by
 have CC:∀ k,¬ ft h.length k:=fun k hk=>by
  obtain⟨B,hB⟩:=hm.some_ _ _ hk;have:=(aU.1 hB).1;omega
 refine hm.step (fun _=>False) (Kept.refl _ _) (fun i hi=>ox _ _ _ hi) (by simp) ?_ ?_ ?_ ?_
 ·intro i B' hi jz;have j6:h.length≤i:=nl hi;rw[dU j6] at jz;have:i=h.length:=by
   rcases cx h.length i with cl|hle
   ·rw[dg (by simp;omega)] at jz;cases jz
   ·omega
  subst this;simp at jz;subst jz;refine⟨?_,trivial⟩;simp only[hold,jg];exact⟨fun k=>by simp[CC k],h0,by omega,by unfold maxLen;omega,fun _=>trivial,#[],(fun h=>by cases h),hl,hc,fun f t c e _ _ he=>by omega⟩
 ·intro i hi _;exact⟨db hi,fun k=>r_⟩
 ·intro i k hi hk;obtain⟨B',jz⟩:=hm.some_ i k hk;exact absurd (aU.1 jz).1 hi
 ·intro i j k hi hj GQ GG;exact hm.apart i j k GQ GG
def u7 (tm:List Value):Nat->List Value
 |0=>[]
 |n+1=>u7 tm n++tm
theorem qj (tm:List Value):∀ n,(u7 tm n).length=n*tm.length
 |0=>by simp[u7]
 |n+1=>by simp[u7,qj tm n,ik]
theorem ER (tm:List Value) (h0:0<tm.length):∀ (n j:Nat),j<n*tm.length->(u7 tm n)[j]?=tm[j%tm.length]?
 |0,j,hj=>by omega
 |n+1,j,hj=>by
  simp only[u7];rcases cx j (n*tm.length) with cl|j6
  ·rw[db (by rw[qj];exact cl)]
   exact ER tm h0 n j cl
  ·rw[dU (by rw[qj];exact j6),qj]
   have:j%tm.length=j-n*tm.length:=by
    rw[ik,qv] at hj;obtain⟨d,rfl⟩:∃ d,j=n*tm.length+d:=⟨j-n*tm.length,by omega⟩
    rw[sC,vX,Fh (by omega)]
    omega
   rw[this]
theorem TY (z:Array Value) (h0:0<z.size) (n:Nat):((Gs (n*z.size)).map (z[·%z.size]!))=(u7 z.toList n).toArray:=by
 apply qu;apply nU;intro j;simp only[mj,Array.toList_range,gh]
 by_cases hj:j<n*z.size
 ·rw[ER z.toList (by simpa using h0) n j (by simpa using hj)]
  have hm:j%z.size<z.size:=P4 _ h0;simp[hj,hm]
 ·rw[dg (by simpa using hj),dg (by rw[qj];simpa using hj)]
  simp
def FY:List (Nat×Value)->Bool
 |[]=>aq
 |(_,v)::l=>flat v&&FY l
theorem Jg {l:List (Nat×Value)} (h:FY l=aq):l.map (fun(i,v)=>(i,bW ρ v))=l:=by
 induction l with
 |nil=>rfl
 |cons p l ih =>
  obtain⟨i,v⟩:=p;simp only[FY,aL] at h;simp[ih h.2,nS v h.1]
def elemOf (P:Program) (t:TypeId):Option (TypeId×List Value×Nat) :=
 match P.underlying t with
 |some (.slice el) =>
  match P.info? el with
  |some inf=>match inf.zero with
   |some z=>if pH z.cells.toList&&fo inf.size z.cells.toList.length&&gU 0 inf.size&&gU inf.size 1000 then aa (el,z.cells.toList,inf.bytes) else aj
   |none=>aj
  |none=>aj
 |_=>aj
theorem zj {t el:TypeId} {tm:List Value} {De:Nat} (h:elemOf P t=aa (el,tm,De)) :
  ∃ inf z,P.underlying t=aa (.slice el)/\P.info? el=aa inf/\inf.zero=aa z/\z.cells.toList=tm/\inf.size=tm.length/\inf.bytes=De/\pH tm=aq/\0<tm.length/\tm.length<1000:=by
 unfold elemOf at h;split at h
 ·rename_i el' hu;split at h
  ·rename_i inf hi;split at h
   ·rename_i z hz;split at h
    ·rename_i hc;simp only[aL,fa] at hc;have h1:=cR hc.1.1.2;injection h with h
     injection h with h2 h3
     injection h3 with h3 h4
     subst h2;subst h3;subst h4;exact⟨inf,z,hu,hi,hz,rfl,h1,rfl,hc.1.1.1,by omega,by omega⟩
    ·cases h
   ·cases h
  ·cases h
 ·cases h
def uI (P:Program) (σ:SS R) (t:TypeId) (len:Nat) (parts:List (Nat×Operand)):Option (Out R) :=
 match elemOf P t,Bu σ.tm parts with
 |some (el,tm,_),aa ps =>
  if FY ps&&uJ (len*tm.length) 1000000 then
   match F7 (fun i=>aa (i*tm.length,tm.length)) (u7 tm len) ps with
   |some cells=>match Et cells tm.length len 0 tm with
    |some ez=>aa ⟨True,.slice (aa ⟨σ.hp.length,0,aa (1000*tm.length)⟩) len len,aj,σ.hp++[aa (.inr (.inl (el,⟨tm,len,ez⟩)))],[],[(σ.hp.length,0)]⟩
    |none=>aj
   |none=>aj
  else aj
 |_,_=>aj
theorem O' {σ:SS R} {o:Oper} {t:TypeId} {len:Nat} {parts:Array (Nat×Operand)} {x:Out R} (ho:o.op=.buildSlice t len parts) (h:uI P σ t len parts.toList=aa x):lZ D P o σ x:=by
 unfold uI at h;split at h
 ·rename_i el tm De ps he U6;obtain⟨inf,z,hu,hi,hz,Bk,n9,_,wq,h0,RJ⟩:=zj he;split at h
  ·rename_i hc;simp only[aL] at hc;have hle:=jB hc.2;split at h
   ·rename_i cells UG;split at h
    ·rename_i ez Dq;injection h with h
     subst h;refine⟨fun C ρ ft a w K Q ht iw hm _ hK=>?_,by simp,fun _ b hb=>by cases hb⟩
     obtain⟨h1,h2⟩:=yh ht U6;rw[Jg hc.1] at h1;obtain⟨h3,h4⟩:=AK (ρ:=ρ) UG;rw[Jg hc.1] at h3;have Zk:pH (u7 tm len)=aq:=by
      rw[zq];intro v hv;obtain⟨j,hj⟩:=A7 hv;have TG:=(aU.1 hj).1;rw[qj] at TG;rw[ER tm h0 len j TG] at hj;exact zq.1 wq v (lu hj)
     rw[Eh Zk] at h3;have I8:(parts.map fun(i,y)=>(i,a.eval y)).toList=ps:=by
      rw[mj];exact h1
     have Ks:z.cells.size=tm.length:=by rw[← Bk];simp
     have Gl:(if len*inf.size=0 then #[] else z.cells:Array Value)=if len*tm.length=0 then #[] else z.cells:=by rw[n9]
     have hzero:(Gs (len*tm.length)).map ((if len*tm.length=0 then(#[]:Array Value) else z.cells)[·%(if len*tm.length=0 then(#[]:Array Value) else z.cells).size]!)=(u7 tm len).toArray:=by
      by_cases yw:len*tm.length=0
      ·have:len=0:=by
        rcases Gc.1 yw with h|h
        ·exact h
        ·omega
       subst this;simp[u7]
      ·rw[if_neg yw];have:=TY z.cells (by omega) len
       rw[Ks,Bk] at this;rw[Ks];exact this
     have afk:cells.length=len*tm.length:=by rw[h4,qj]
     obtain⟨c1,c2⟩:=L8 Dq;have hcm:cells.map (bW ρ)=cells.map (bW ρ):=rfl;have wi:oe ⟨tm,len,ez⟩ (cells.map (bW ρ)).toArray 0:=by
      refine⟨c1,fun f t c g1 g2=>(c2 f t c g1 g2).1,fun f t c e g1 g2 g3=>?_⟩
      have Bt:f<tm.length:=(aU.1 g1).1;have cl:e*tm.length+f<cells.length:=by
       rw[afk];have:=jo tm.length (show e+1≤len from g3)
       rw[ik,qv] at this;omega
      obtain⟨k1,k2⟩:=c2 f t c g1 g2;have:=k2 e g3;rw[b5,bj cl,Option.getD_some] at this;rw[b5,jA,gh,bj cl,this];simp[nS _ (KE k1 e)]
     have nR:(execOp a.eval o).run P w=.ok (.value (.slice (aa ⟨w.heap.size,0,aj⟩) len len)) (w.alloc (.cells (cells.map (bW ρ)).toArray el)):=by
      have ad_:¬ len*tm.length>2 ^ 24:=by omega
      simp only[execOp,ho,NZ,dz,run_underlying hu,cA,sizeOf,typeInfo,run_program,hi,dX,n9,if_neg ad_,I8]
      by_cases yw:len*tm.length=0
      ·rw[if_pos yw] at hzero;rw[yw] at hzero;simp only[yw,if_true,dz,dX,cA];rw[hzero,h3];simp[newRow]
      ·rw[if_neg yw] at hzero;simp only[yw,if_false,dz,zeroValue,typeInfo,run_program,cA,hi,hz,dX];rw[hzero,h3];simp[newRow]
     refine rj nR ?_;have hp:=hm.Rq el ⟨tm,len,ez⟩ (cells.map (bW ρ)).toArray len h0 (bc _) (by
      have:len≤len*tm.length:=Nat.le_mul_of_pos_right _ h0;unfold maxLen;omega) (by simp[afk]) wi
     have:=hK _ _ _ (fun i hi=>ox ρ σ.hp.length ⟨w.heap.size,0,len,ao⟩ hi) hp
     have e1:1000*tm.length / 1000000=0:=by omega
     have e2:1000*tm.length%1000=0:=by omega
     simpa [bW,lD,iE,jg,cellOf,e1,e2] using this
    ·cases h
   ·cases h
  ·cases h
 ·cases h
def uE (P:Program) (σ:SS R) (t:TypeId) (len:Nat) (parts:List (Nat×Operand)):Option (Out R) :=
 match elemOf P t,Bu σ.tm parts with
 |some (el,tm,_),aa ps =>
  if uJ (len*tm.length) 1000000&&gU 0 len then
   match F7 (fun i=>aa (i*tm.length,tm.length)) (u7 tm len) ps with
   |some cells=>if ix σ.hp.length cells then aa ⟨True,.slice (aa ⟨σ.hp.length,0,aj⟩) len len,aj,σ.hp++[aa (.inl (el,cells))],[],[(σ.hp.length,0)]⟩ else aj
   |none=>aj
  else aj
 |_,_=>aj
theorem PA {σ:SS R} {o:Oper} {t:TypeId} {len:Nat} {parts:Array (Nat×Operand)} {x:Out R} (ho:o.op=.buildSlice t len parts) (h:uE P σ t len parts.toList=aa x):lZ D P o σ x:=by
 unfold uE at h;split at h
 ·rename_i el tm De ps he U6;obtain⟨inf,z,hu,hi,hz,Bk,n9,_,wq,h0,RJ⟩:=zj he;split at h
  ·rename_i hc;simp only[aL,fa] at hc;have hle:=jB hc.1;have ac_:=hc.2;split at h
   ·rename_i cells UG;split at h
    ·rename_i j5;injection h with h
     subst h;refine⟨fun C ρ ft a w K Q ht iw hm _ hK=>?_,by simp,fun _ b hb=>by cases hb⟩
     obtain⟨h1,h2⟩:=yh ht U6;obtain⟨h3,h4⟩:=AK (ρ:=ρ) UG;have Zk:pH (u7 tm len)=aq:=by
      rw[zq];intro v hv;obtain⟨j,hj⟩:=A7 hv;have TG:=(aU.1 hj).1;rw[qj] at TG;rw[ER tm h0 len j TG] at hj;exact zq.1 wq v (lu hj)
     rw[Eh Zk] at h3;have I8:(parts.map fun(i,y)=>(i,a.eval y)).toList=ps.map fun(i,v)=>(i,bW ρ v):=by
      rw[mj];exact h1
     have Ks:z.cells.size=tm.length:=by rw[← Bk];simp
     have kt:¬ len*tm.length=0:=by
      intro yw;rcases Gc.1 yw with h|h<;>omega
     have hzero:(Gs (len*tm.length)).map (z.cells[·%z.cells.size]!)=(u7 tm len).toArray:=by
      have:=TY z.cells (by omega) len
      rw[Ks,Bk] at this;rw[Ks];exact this
     have nR:(execOp a.eval o).run P w=.ok (.value (.slice (aa ⟨w.heap.size,0,aj⟩) len len)) (w.alloc (.cells (cells.map (bW ρ)).toArray el)):=by
      have ad_:¬ len*tm.length>2 ^ 24:=by omega
      simp only[execOp,ho,NZ,dz,run_underlying hu,cA,sizeOf,typeInfo,run_program,hi,dX,n9,if_neg ad_,I8];simp only[kt,if_false,dz,zeroValue,typeInfo,run_program,cA,hi,hz,dX];rw[hzero,h3];simp[newRow]
     have Vv:cells.map (bW (qg ρ σ.hp.length ⟨w.heap.size,0,0,ao⟩))=cells.map (bW ρ) :=
      nY fun v hv=>na (n:=σ.hp.length) (fun i hi=>ox _ _ _ hi) v (wY.1 j5 v hv)
     have hp:=hm.push (D:=D) ⟨w.heap.size,0,0,ao⟩ (.cells (cells.map (bW ρ)).toArray el) rfl (.inl (el,cells)) (by
      refine⟨by rw[jg],fun k=>by rw[jg],?_⟩
      rw[jg,Vv];exact heap_alloc_new w _) (uY (mH _) _ j5)
     refine rj nR ?_;have:=hK _ _ _ (fun i hi=>ox ρ σ.hp.length ⟨w.heap.size,0,0,ao⟩ hi) hp
     simpa [bW,lD,iE,jg,cellOf] using this
    ·cases h
   ·cases h
  ·cases h
 ·cases h
def Lh (t:Value) (n:Nat):Option aT :=
 match t with
 |.int _ x=>aa { Lu with i:=ld n x }
 |.bool x=>aa { Lu with b:=ld n x }
 |.string x=>aa { Lu with s:=ld n x }
 |_=>aj
def tL:List Value->Nat->Option (List aT)
 |[],_=>aa []
 |t::tm,n =>
  match Lh t n,tL tm n with
  |some c,aa r=>aa (c::r)
  |_,_=>aj
theorem Y3 {t:Value} {n:Nat} {c:aT} (h:Lh t n=aa c):jJ t c n/\∀ e,e<n->gD t c e=t:=by
 unfold Lh at h;split at h
 ·injection h with h;subst h
  exact⟨by simp[jJ],fun e he=>by simp[gD,ax,he]⟩
 ·injection h with h;subst h
  exact⟨by simp[jJ],fun e he=>by simp[gD,ax,he]⟩
 ·injection h with h;subst h
  exact⟨by simp[jJ],fun e he=>by simp[gD,ax,he]⟩
 ·cases h
theorem yi:∀ {tm:List Value} {n:Nat} {ez:List aT},tL tm n=aa ez->ez.length=tm.length/\∀ (f:Nat) (t:Value) (c:aT),tm[f]?=aa t->ez[f]?=aa c->jJ t c n/\∀ e,e<n->gD t c e=t
 |[],n,ez,h=>by
  simp only[tL] at h;injection h with h
  subst h;exact⟨rfl,fun f t c h1 _=>by simp at h1⟩
 |t0::tm,n,ez,h=>by
  simp only[tL] at h;split at h
  ·rename_i c r hc hr;injection h with h
   subst h;obtain⟨h1,h2⟩:=yi hr;refine⟨by simp[h1],fun f t c' g1 g2=>?_⟩
   cases f with
   |zero =>
    simp only[cf,cu] at g1 g2;subst g1;subst g2;exact Y3 hc
   |succ f =>
    simp only[bH] at g1 g2;exact h2 f t c' g1 g2
  ·cases h
def vm (P:Program) (σ:SS R) (t:TypeId):Option (Out R) :=
 match elemOf P t with
 |some (el,tm,_)=>match tL tm 0 with
  |some ez=>aa ⟨True,.slice (aa ⟨σ.hp.length,0,aa (1000*tm.length)⟩) 0 0,aj,σ.hp++[aa (.inr (.inl (el,⟨tm,0,ez⟩)))],[],[(σ.hp.length,0)]⟩
  |none=>aj
 |none=>aj
theorem SI {σ:SS R} {o:Oper} {t:TypeId} {n c:Nat} {y:Operand} {x:Out R} (ho:o.op=.move y∨o.op=.assign y) (hy:ev σ.tm y=aa (.slice aj 0 0)) (h:vm P σ t=aa x):lZ D P o σ x:=by
 unfold vm at h;split at h
 ·rename_i el tm De he;obtain⟨inf,z,hu,hi,hz,Bk,n9,_,wq,h0,RJ⟩:=zj he;split at h
  ·rename_i ez Dq;injection h with h
   subst h;refine⟨fun C ρ ft a w K Q ht iw hm _ hK=>?_,by simp,fun _ b hb=>by cases hb⟩
   obtain⟨c1,c2⟩:=yi Dq;have hv:=(ew ht hy).1;have nR:(execOp a.eval o).run P w=.ok (.value (.slice aj 0 0)) w:=by
    simp only[bW] at hv;rcases ho with ho|ho<;>simp[execOp,ho,hv]
   refine rj nR ?_;have hp:=hm.Qo el ⟨tm,0,ez⟩ h0 rfl c1 (fun f t c g1 g2=>(c2 f t c g1 g2).1) 0 0
   have:=hK _ _ _ (fun i hi=>ox ρ σ.hp.length ⟨0,0,0,aq⟩ hi) hp
   simpa [bW,lD,jg] using this
  ·cases h
 ·cases h
def yv (P:Program) (σ:SS R) (t:TypeId) (y z:Operand):Option (Out R) :=
 match elemOf P t,ev σ.tm y,ev σ.tm z with
 |some (el,tm,De),aa (.int _ l),aa (.int _ c) =>
  match tL tm l.toNat with
  |some ez=>aa ⟨0≤l/\l≤c/\c*De≤140737488355328/\c≤140737488355328,.slice (aa ⟨σ.hp.length,0,aa (1000*tm.length)⟩) l.toNat c.toNat,aj,σ.hp++[aa (.inr (.inl (el,⟨tm,l.toNat,ez⟩)))],[],[(σ.hp.length,0)]⟩
  |none=>aj
 |_,_,_=>aj
theorem Rm {σ:SS R} {o:Oper} {t:TypeId} {y z:Operand} {x:Out R} (ho:o.op=.makeSlice t y z) (h:yv P σ t y z=aa x):lZ D P o σ x:=by
 unfold yv at h;split at h
 ·rename_i el tm De k l k' c he hl hcp;obtain⟨inf,zv,hu,hi,hz,Bk,n9,hby,wq,h0,RJ⟩:=zj he;split at h
  ·rename_i ez Dq;injection h with h
   subst h;refine⟨fun C ρ ft a w K Q ht iw hm hv hK=>?_,by simp,fun _ b hb=>by cases hb⟩
   obtain⟨v0,v1,v2,v3⟩:=hv;obtain⟨c1,c2⟩:=yi Dq;have h1:=(ew ht hl).1;have h2:=(ew ht hcp).1;simp only[xJ] at h1 h2;obtain⟨ln,rfl⟩:=s8 v0;obtain⟨cn,rfl⟩:=s8 (Int.le_trans v0 v1);simp only[iF] at *
   have Ks:zv.cells.size=tm.length:=by rw[← Bk];simp
   have hw1:av.wrap (ln:Int)=ln:=pA ⟨by omega,by omega⟩
   have UM:av.wrap (cn:Int)=cn:=pA ⟨by omega,by omega⟩
   have Gl:(Gs (cn*tm.length)).map ((if cn*tm.length=0 then(#[]:Array Value) else zv.cells)[·%(if cn*tm.length=0 then(#[]:Array Value) else zv.cells).size]!)=(u7 tm cn).toArray:=by
    by_cases yw:cn*tm.length=0
    ·have:cn=0:=by
      rcases Gc.1 yw with h|h
      ·exact h
      ·omega
     subst this;simp[u7]
    ·rw[if_neg yw];have:=TY zv.cells (by omega) cn
     rw[Ks,Bk] at this;rw[Ks];exact this
   have L6:(De:Int)*(cn:Int)≤281474976710656:=by rw[Int.mul_comm];omega
   have nR:(execOp a.eval o).run P w=.ok (.value (.slice (aa ⟨w.heap.size,0,aj⟩) ln cn)) (w.alloc (.cells (u7 tm cn).toArray el)):=by
    simp only[execOp,ho,h1,h2,Instr.makeSlice,dz,run_underlying hu,cA,asInt,asIntOf,dX,typeInfo,run_program,hi,hw1,UM,hby];have ak1:(decide ((cn:Int)<0)||decide ((De:Int)*(cn:Int)>2 ^ 48)||decide ((ln:Int)<0)||decide ((ln:Int)>(cn:Int)))=ao:=by
     have e1:decide ((cn:Int)<0)=ao:=decide_eq_false (by omega)
     have e2:decide ((De:Int)*(cn:Int)>2 ^ 48)=ao:=decide_eq_false (by omega)
     have e3:decide ((ln:Int)<0)=ao:=decide_eq_false (by omega)
     have e4:decide ((ln:Int)>(cn:Int))=ao:=decide_eq_false (by omega)
     rw[e1,e2,e3,e4];rfl
    simp only[ak1,fu,if_false,dX,cA,run_askRoom,sizeOf,typeInfo,dz,run_program,hi,n9,iF]
    by_cases yw:cn*tm.length=0
    ·rw[if_pos yw] at Gl;rw[yw] at Gl;simp only[yw,if_true,dz,dX,cA];rw[Gl];simp[newRow]
    ·rw[if_neg yw] at Gl;simp only[yw,if_false,dz,zeroValue,typeInfo,run_program,cA,hi,hz,dX];rw[Gl];simp[newRow]
   refine rj nR ?_;have wi:oe ⟨tm,ln,ez⟩ (u7 tm cn).toArray 0:=by
    refine⟨c1,fun f t c g1 g2=>(c2 f t c g1 g2).1,fun f t c e g1 g2 g3=>?_⟩
    have Bt:f<tm.length:=(aU.1 g1).1;have cl:e*tm.length+f<cn*tm.length:=by
     have:=jo tm.length (show e+1≤cn by have:e<ln:=g3;omega)
     rw[ik,qv] at this;omega
    rw[b5,jA,ER tm h0 cn _ cl,(c2 f t c g1 g2).2 e g3];have:(e*tm.length+f)%tm.length=f:=by rw[sC,vX,Fh Bt]
    rw[this,g1]
   have hp:=hm.Rq el ⟨tm,ln,ez⟩ (u7 tm cn).toArray cn h0 (by simp only;omega) (by unfold maxLen;omega) (by simp[qj]) wi
   have:=hK _ _ _ (fun i hi=>ox ρ σ.hp.length ⟨w.heap.size,0,cn,ao⟩ hi) hp
   have e1:1000*tm.length / 1000000=0:=by omega
   have e2:1000*tm.length%1000=0:=by omega
   simpa [bW,lD,iE,jg,cellOf,e1,e2] using this
  ·cases h
 ·cases h
end
end Rx
namespace Rx
open Go.RowKit State
section
variable {R:Type} {D:fK R} {P:Program} {C:Ctx} {ρ:Env} {ft:Nat->Nat->Prop} {w w':World}
def Lf (P:Program) (σ:SS R) (t:TypeId) (y:Operand):Option (Out R) :=
 match ev σ.tm y,P.underlying t with
 |some (.slice (aa _) n _),aa (.slice _)=>aa (gq σ True (.int .i64 n) aj [])
 |_,_=>aj
theorem adj {σ:SS R} {o:Oper} {t:TypeId} {y:Operand} {x:Out R} (ho:o.op=.call { callee:=.builtin .len,args:=#[y],argTypes:=#[t] }) (h:Lf P σ t y=aa x):lZ D P o σ x:=by
 unfold Lf at h;split at h
 ·rename_i ad n c el ha hu;injection h with h
  subst h;refine hU (fun C ρ ft a w ht iw hm _=>?_) (fun iw c hc=>by cases hc)
  have h1:=(ew ht ha).1;simp only[bW] at h1;obtain⟨A,c',e⟩:=Sj (ρ:=ρ) ad n c;rw[e] at h1;simp[execOp,ho,resolve,invoke,builtin,h1,Builtin.len_,run_underlying hu,goInt]
 ·cases h
def Ub (s:ByteArray) (i:Nat):Int:=((s.data.toList[i]?).getD 0).toNat
def Ak (P:Program) (σ:SS R) (t:TypeId) (y z:Operand):Option (Out R) :=
 match ev σ.tm y,ev σ.tm z,P.underlying t with
 |some (.string s),aa (.int _ j),aa .string=>aa (gq σ (0≤j/\j<s.size) (.int .u8 (Ub s j.toNat)) aj [])
 |_,_,_=>aj
theorem SF {σ:SS R} {o:Oper} {t:TypeId} {y z:Operand} {x:Out R} (ho:o.op=.index t y z) (h:Ak P σ t y z=aa x):lZ D P o σ x:=by
 unfold Ak at h;split at h
 ·rename_i s k j ha hb hu;injection h with h
  subst h;refine hU (fun C ρ ft a w ht iw hm hv=>?_) (fun iw c hc=>by cases hc)
  obtain⟨v0,v1⟩:=hv;have h1:=(ew ht ha).1;have h2:=(ew ht hb).1;simp only[Dm] at h1;simp only[xJ] at h2;have cl:j.toNat<s.size:=by omega
  have ZC:j.toNat<s.data.toList.length:=by simpa using cl
  have KB:s[j.toNat]?=aa (s[j.toNat]):=by simp[cl]
  have hb:(s[j.toNat].toNat:Int)=Ub s j.toNat:=by
   unfold Ub;rw[bj ZC];simp
   rfl
  simp only[execOp,ho,h1,h2,Instr.index,asIntOf,dz,dX,cA,run_underlying hu,v0,if_true,KB,xJ,← hb]
 ·cases h
def evB (tm:List (Option Value)):Option Operand->Option (Option Int)
 |none=>aa aj
 |some y=>match ev tm y with
  |some (.int _ j)=>aa (aa j)
  |_=>aj
theorem wK {n:Nat} {tm:List (Option Value)} {a:Act} {y:Option Operand} {b:Option Int} (ht:TM ρ n tm a) (h:evB tm y=aa b) :
  (∃ (k:IntKind),∃ j,b=aa j/\y.map a.eval=aa (.int k j))∨(b=aj/\y.map a.eval=aj):=by
 cases y with
 |none=>simp only[evB] at h;injection h with h;subst h;exact eY ⟨rfl,rfl⟩
 |some y =>
  simp only[evB] at h;split at h
  ·rename_i k j hj;injection h with h
   subst h;have:=(ew ht hj).1;simp only[xJ] at this;exact dN ⟨k,j,rfl,by simp[this]⟩
  ·cases h
theorem Ga {isS:Bool} {len cap:Nat} {lo hi:Option Value} {l h:Int} (w:World)
  (hl:(∃ k,lo=aa (.int k l))∨(lo=aj/\l=0)) (hh:(∃ k,hi=aa (.int k h))∨(hi=aj/\h=len)) (h0:0≤l) (h1:l≤h) (h2:h≤cap) :
  (tZ isS len cap lo hi aj).run P w=.ok (l.toNat,h.toNat,cap) w:=by
 have hh0:0≤h:=by omega
 obtain⟨lN,rfl⟩:=s8 h0;obtain⟨hN,rfl⟩:=s8 hh0;have hA:hN≤cap:=by omega
 have hB:lN≤hN:=by omega
 rcases hl with⟨k,rfl⟩|⟨rfl,n_⟩<;>rcases hh with⟨k',rfl⟩|⟨rfl,hhl⟩
 ·simp[tZ,Fi,asIntOf,hA,hB]
 ·obtain rfl:hN=len:=by omega
  simp[tZ,Fi,asIntOf,hA,hB]
 ·obtain rfl:lN=0:=by omega
  simp[tZ,Fi,asIntOf,hA,hB]
 ·obtain rfl:hN=len:=by omega
  obtain rfl:lN=0:=by omega
  simp[tZ]
def G_ (P:Program) (σ:SS R) (t:TypeId) (y:Operand) (lo hi mx:Option Operand):Option (Out R) :=
 match mx with
 |some _=>aj
 |none =>
  match ev σ.tm y,evB σ.tm lo,evB σ.tm hi with
  |some (.string s),aa l,aa h =>
   match P.underlying t with
   |some .string=>aa (gq σ (0≤l.getD 0/\l.getD 0≤h.getD s.size/\h.getD s.size≤s.size) (.string (s.extract (l.getD 0).toNat (h.getD s.size).toNat)) aj [])
   |_=>aj
  |some (.slice (aa ⟨i,e0,aa q⟩) n c),aa l,aa h =>
   match elemOf P t,rowOf σ.hp[i]? with
   |some (el,tm,_),aa r =>
    if fo (q%1000000) (1000*tm.length)&&fo tm.length r.tm.length then
     match l with
     |none=>aa (gq σ (0≤h.getD n/\h.getD n≤n/\e0+n≤r.n) (.slice (aa ⟨i,e0,aa q⟩) (h.getD n).toNat c) aj [])
     |some l=>match gU q 1000000 with
      |true=>aa (gq σ (e0=0/\0≤l/\l≤h.getD n/\h.getD n≤n/\e0+n≤r.n) (.slice (aa ⟨i,e0+l.toNat,aa (1000*tm.length+1000000*(i+1))⟩) (h.getD n-l).toNat c) aj [])
      |false=>aa ⟨0≤l/\l≤h.getD n/\h.getD n≤n/\e0+n≤r.n,.slice (aa ⟨i,e0+l.toNat,aa (1000*tm.length+1000000*(σ.hp.length+1))⟩) (h.getD n-l).toNat c,aj,σ.hp++[aj],[],[(σ.hp.length,0)]⟩
    else aj
   |_,_=>aj
  |_,_,_=>aj
theorem Og {hi:Option Operand} {h:Option Int} {a:Act} {n:Nat} (hx:(∃ (k:IntKind),∃ j,h=aa j/\hi.map a.eval=aa (.int k j))∨(h=aj/\hi.map a.eval=aj)) :
  (∃ k,hi.map a.eval=aa (.int k (h.getD n)))∨(hi.map a.eval=aj/\h.getD n=n):=by
 rcases hx with⟨k,j,rfl,e⟩|⟨rfl,e⟩
 ·exact dN ⟨k,by simpa using e⟩
 ·exact eY ⟨e,rfl⟩
theorem ahO {lo:Option Operand} {l:Option Int} {a:Act} (hx:(∃ (k:IntKind),∃ j,l=aa j/\lo.map a.eval=aa (.int k j))∨(l=aj/\lo.map a.eval=aj)) :
  (∃ k,lo.map a.eval=aa (.int k (l.getD 0)))∨(lo.map a.eval=aj/\l.getD 0=0):=by
 rcases hx with⟨k,j,rfl,e⟩|⟨rfl,e⟩
 ·exact dN ⟨k,by simpa using e⟩
 ·exact eY ⟨e,rfl⟩
theorem uZ {t el:TypeId} {A:Option Addr} {n cap:Nat} {lo hi:Option Value} {l h:Int} {inf:TypeInfo} (w:World) (hu:P.underlying t=aa (.slice el)) (xY:P.info? el=aa inf)
  (hl:(∃ k,lo=aa (.int k l))∨(lo=aj/\l=0)) (hh:(∃ k,hi=aa (.int k h))∨(hi=aj/\h=n)) (h0:0≤l) (h1:l≤h) (h2:h≤cap) :
  (Jl t (.slice A n cap) lo hi aj).run P w=.ok (.slice (if cap=l.toNat then A else A.map (·.add (l.toNat*inf.size))) (h.toNat-l.toNat) (cap-l.toNat)) w:=by
 have hb:=Ga (P:=P) (isS:=aq) (len:=n) (cap:=cap) w hl hh h0 h1 h2;simp[Jl,run_underlying hu,W0,hb,sizeOf,typeInfo,xY]
theorem YO {σ:SS R} {o:Oper} {t:TypeId} {y:Operand} {lo hi mx:Option Operand} {x:Out R} (ho:o.op=.slice t y lo hi mx) (h:G_ P σ t y lo hi mx=aa x):lZ D P o σ x:=by
 unfold G_ at h;split at h
 ·cases h
 ·split at h
  ·rename_i s l hh ha hl Kv;split at h
   ·rename_i hu;injection h with h
    subst h;refine hU (fun C ρ ft a w ht iw hm hv=>?_) (fun iw c hc=>by cases hc)
    obtain⟨v0,v1,v2⟩:=hv;have h1:=(ew ht ha).1;simp only[Dm] at h1;have hb:=Ga (P:=P) (isS:=ao) (len:=s.size) (cap:=s.size) w (ahO (wK ht hl)) (Og (n:=s.size) (wK ht Kv)) v0 v1 v2;simp[execOp,ho,h1,Jl,run_underlying hu,W0,hb]
   ·cases h
  ·rename_i i e0 q n c l hh ha hl Kv;split at h
   ·rename_i el tm De r he hr;obtain⟨inf,z,hu,xY,hz,Bk,n9,_,wq,h0,RJ⟩:=zj he;split at h
    ·rename_i hc;simp only[aL] at hc;have hq:=cR hc.1;have sr:q%1000000 / 1000=tm.length:=by omega
     have FW:q%1000=0:=by omega
     split at h
     ·injection h with h
      subst h;refine hU (fun C ρ ft a w ht iw hm hv=>?_) (fun iw c hc=>by cases hc)
      obtain⟨v0,v1,v2⟩:=hv;have h1:=(ew ht ha).1;obtain⟨g1,g2,_⟩:=Cs hm hr;have A3:(∃ k,lo.map a.eval=aa (.int k 0))∨(lo.map a.eval=aj/\(0:Int)=0):=by
       rcases wK ht hl with⟨k,j,e,_⟩|⟨_,e⟩
       ·cases e
       ·exact eY ⟨e,rfl⟩
      have An:=Og (n:=n) (wK ht Kv);have amI:∀ A:Option Addr,(A.map fun x=>x.add 0)=A:=fun A=>by cases A<;>simp[Addr.add]
      have HP:=(fun(hz:(ρ i).nil=aq)=>(show(ρ i).cap=0 from by
       unfold rowOf at hr;split at hr
       ·rename_i t0 r0 hi;exact(hm.at_ i _ hi).1.2.2.2.2.1 hz
       ·rename_i r0 hi;exact(hm.at_ i _ hi).1.2.2.2.2.1 hz
       ·cases hr))
      simp only[bW,lD] at h1 ⊢
      by_cases hn:(ρ i).nil=aq
      ·rw[if_pos hn] at h1 ⊢;have MX:=HP hn;have uA:n=0:=by omega
       subst uA;have nw:=uZ (P:=P) (A:=aj) (n:=0) (cap:=0) w hu xY A3 An (nq 0) v0 (by simpa using v1)
       simp[execOp,ho,h1,nw]
      ·rw[if_neg hn] at h1 ⊢
       by_cases hex:q / 1000000≠0/\(ρ i).cap≤e0
       ·rw[if_pos hex] at h1 ⊢;have uA:n=0:=by omega
        subst uA;have nw:=uZ (P:=P) (A:=aa ⟨(ρ (q / 1000000-1)).lB,(ρ (q / 1000000-1)).off,aj⟩) (n:=0) (cap:=0) w hu xY A3 An (nq 0) v0 (by simpa using v1)
        simp[execOp,ho,h1,nw]
       ·rw[if_neg hex] at h1 ⊢;have nw:=uZ (P:=P) (A:=aa (iE ρ ⟨i,e0,aa q⟩)) (n:=n) (cap:=(ρ i).cap-e0) w hu xY A3 An (nq 0) v0 (by omega)
        simp[execOp,ho,h1,nw,amI]
     ·rename_i l;split at h
      ·rename_i L5;have jQ:q<1000000:=by simpa [fa] using L5
       injection h with h
       subst h;refine hU (fun C ρ ft a w ht iw hm hv=>?_) (fun iw c hc=>by cases hc)
       obtain⟨yw,v0,v1,v2,v3⟩:=hv;subst yw;have h1:=(ew ht ha).1;obtain⟨g1,g2,_⟩:=Cs hm hr;have A3:(∃ k,lo.map a.eval=aa (.int k l))∨(lo.map a.eval=aj/\l=0):=by
        rcases wK ht hl with⟨k,j,e,e2⟩|⟨e,_⟩
        ·injection e with e;subst e;exact dN ⟨k,e2⟩
        ·cases e
       have An:=Og (n:=n) (wK ht Kv);have HP:=(fun(hz:(ρ i).nil=aq)=>(show(ρ i).cap=0 from by
        unfold rowOf at hr;split at hr
        ·rename_i t0 r0 hi;exact(hm.at_ i _ hi).1.2.2.2.2.1 hz
        ·rename_i r0 hi;exact(hm.at_ i _ hi).1.2.2.2.2.1 hz
        ·cases hr))
       have e1:(1000*tm.length+1000000*(i+1)) / 1000000=i+1:=by omega
       have e2:(1000*tm.length+1000000*(i+1))%1000000 / 1000=tm.length:=by omega
       have e3:(1000*tm.length+1000000*(i+1))%1000=0:=by omega
       have hex:¬ (q / 1000000≠0/\(ρ i).cap≤0):=fun h=>h.1 (by omega)
       simp only[bW,lD] at h1 ⊢
       by_cases hn:(ρ i).nil=aq
       ·rw[if_pos hn] at h1 ⊢;have MX:=HP hn;have uA:n=0:=by omega
        subst uA;have n_:l=0:=by omega
        subst n_;have nw:=uZ (P:=P) (A:=aj) (n:=0) (cap:=0) w hu xY A3 An v0 v1 (by simpa using v2)
        simp[execOp,ho,h1,nw]
       ·rw[if_neg hn,if_neg hex,Nat.sub_zero] at h1;rw[if_neg hn];have nw:=uZ (P:=P) (A:=aa (iE ρ ⟨i,0,aa q⟩)) (n:=n) (cap:=(ρ i).cap) w hu xY A3 An v0 v1 (by omega)
        have hx:(execOp a.eval o).run P w=.ok (.value (.slice (if(ρ i).cap=l.toNat then aa (iE ρ ⟨i,0,aa q⟩) else(aa (iE ρ ⟨i,0,aa q⟩)).map (·.add (l.toNat*inf.size))) ((hh.getD ↑n).toNat-l.toNat) ((ρ i).cap-l.toNat))) w:=by
         simp only[execOp,ho,h1,P5,nw,dz,cA,dX]
        rw[hx];have m_:(hh.getD ↑n-l).toNat=(hh.getD ↑n).toNat-l.toNat:=by omega
        have Uo:inf.size=tm.length:=by rw[n9]
        rw[m_]
        by_cases pS:(ρ i).cap=l.toNat
        ·rw[if_pos pS,if_pos ⟨by omega,by omega⟩,e1,mb]
         simp only[iE,cellOf,FW,A8,b5,gV,pS,V']
        ·rw[if_neg pS,if_neg (fun h=>pS (by omega))]
         simp only[iE,cellOf,FW,e2,e3,A8,b5,gV,j_,pQ,Uo]
      ·injection h with h
       subst h;refine⟨fun C ρ ft a w K Q ht iw hm hv hK=>?_,by simp,fun _ b hb=>by cases hb⟩
       obtain⟨v0,v1,v2,v3⟩:=hv;have h1:=(ew ht ha).1;obtain⟨PX,L6⟩:=ew ht ha;simp only[fp,aL,fa] at L6;have Ct:i<σ.hp.length:=L6.1;obtain⟨g1,g2,_⟩:=Cs hm hr;have A3:(∃ k,lo.map a.eval=aa (.int k l))∨(lo.map a.eval=aj/\l=0):=by
        rcases wK ht hl with⟨k,j,e,e2⟩|⟨e,_⟩
        ·injection e with e;subst e;exact dN ⟨k,e2⟩
        ·cases e
       have An:=Og (n:=n) (wK ht Kv);have HP:=(fun(hz:(ρ i).nil=aq)=>(show(ρ i).cap=0 from by
        unfold rowOf at hr;split at hr
        ·rename_i t0 r0 hi;exact(hm.at_ i _ hi).1.2.2.2.2.1 hz
        ·rename_i r0 hi;exact(hm.at_ i _ hi).1.2.2.2.2.1 hz
        ·cases hr))
       generalize hN:σ.hp.length=N at *
       have e1:(1000*tm.length+1000000*(N+1)) / 1000000=N+1:=by omega
       have e2:(1000*tm.length+1000000*(N+1))%1000000 / 1000=tm.length:=by omega
       have e3:(1000*tm.length+1000000*(N+1))%1000=0:=by omega
       have aeh:∀ (A:Addr) (v:Value),(execOp a.eval o).run P w=.ok (.value v) w ->
         bW (qg ρ N ⟨A.block,A.off,0,ao⟩) (.slice (aa ⟨i,e0+l.toNat,aa (1000*tm.length+1000000*(N+1))⟩) (hh.getD ↑n-l).toNat c)=v->o.wp P a w K Q:=by
        intro A v nR hv;have hp:=hm.pushNone ⟨A.block,A.off,0,ao⟩;rw[hN] at hp;have:=hK _ _ _ (fun i hi=>ox ρ N ⟨A.block,A.off,0,ao⟩ hi) hp
        rw[hv] at this;exact rj nR this
       have YJ:∀ p:Place,qg ρ N p i=ρ i:=fun p=>ox _ _ _ Ct
       simp only[bW,lD] at h1
       by_cases hn:(ρ i).nil=aq
       ·rw[if_pos hn] at h1;have MX:=HP hn;have uA:n=0:=by omega
        subst uA;have n_:l=0:=by omega
        subst n_;have nw:=uZ (P:=P) (A:=aj) (n:=0) (cap:=0) w hu xY A3 An v0 v1 (by simpa using v2)
        refine aeh ⟨0,0,aj⟩ (.slice aj (hh.getD 0).toNat 0) (by simp[execOp,ho,h1,nw]) ?_
        simp only[bW,lD,YJ,hn,if_true];simp
       ·rw[if_neg hn] at h1
        by_cases hex:q / 1000000≠0/\(ρ i).cap≤e0
        ·rw[if_pos hex] at h1;have uA:n=0:=by omega
         subst uA;have n_:l=0:=by omega
         subst n_;have nw:=uZ (P:=P) (A:=aa ⟨(ρ (q / 1000000-1)).lB,(ρ (q / 1000000-1)).off,aj⟩) (n:=0) (cap:=0) w hu xY A3 An v0 v1 (by simpa using v2)
         refine aeh ⟨(ρ (q / 1000000-1)).lB,(ρ (q / 1000000-1)).off,aj⟩ (.slice (aa ⟨(ρ (q / 1000000-1)).lB,(ρ (q / 1000000-1)).off,aj⟩) (hh.getD 0).toNat 0) (by simp[execOp,ho,h1,nw]) ?_
         simp only[bW,lD,YJ,hn,if_false,e1,mb,jg];have pS:N+1≠0/\(ρ i).cap≤e0+(0:Int).toNat:=⟨by omega,by simpa using hex.2⟩
         simp[hn,pS.2];exact fun h=>absurd h (by simpa using hex.2)
        ·rw[if_neg hex] at h1;have nw:=uZ (P:=P) (A:=aa (iE ρ ⟨i,e0,aa q⟩)) (n:=n) (cap:=(ρ i).cap-e0) w hu xY A3 An v0 v1 (by omega)
         refine aeh (iE ρ ⟨i,e0,aa q⟩) _ (by simp only[execOp,ho,h1,P5,nw,dz,dX,cA];rfl) ?_
         simp only[bW,lD];rw[YJ,if_neg hn,e1];have Xs:(hh.getD (n:Int)-l).toNat=(hh.getD (n:Int)).toNat-l.toNat:=by omega
         by_cases pS:(ρ i).cap-e0=l.toNat
         ·rw[if_pos pS,if_pos ⟨by omega,by omega⟩,Xs,pS,V']
          simp[jg,iE]
         ·rw[if_neg pS,if_neg (by omega),Xs]
          simp only[iE,YJ,cellOf,e2,e3,sr,FW,j_,pQ,n9];simp[ik,jh,Nat.sub_add_eq]
    ·cases h
   ·cases h
  ·cases h
end
end Rx
namespace Rx
open Go.RowKit State
def cut {α:Type} (l:List α) (e n:Nat):List α:=(l.drop e).take n
theorem Ao {α:Type} {l:List α} {e n:Nat} (h:e+n≤l.length):(cut l e n).length=n:=by simp[cut];omega
theorem W7 {α:Type} {l:List α} {e n i:Nat} (h:i<n):(cut l e n)[i]?=l[e+i]?:=by simp[cut,oJ,h]
@[simp] theorem afW {α:Type} (l:List α):cut l 0 l.length=l:=by simp[cut]
def D' (t:Value) (c0:aT) (e0 n:Nat) (c1:aT) (e1 m:Nat):aT :=
 match t with
 |.int _ _=>⟨cut c0.i e0 n++cut c1.i e1 m,[],[]⟩
 |.bool _=>⟨[],cut c0.b e0 n++cut c1.b e1 m,[]⟩
 |_=>⟨[],[],cut c0.s e0 n++cut c1.s e1 m⟩
def xD:Value->Value->Bool
 |.int k _,.int k' _=>decide (k=k')
 |.bool _,.bool _=>aq
 |.string _,.string _=>aq
 |_,_=>ao
def xz:List Value->List Value->Bool
 |[],[]=>aq
 |a::l,b::r=>xD a b&&xz l r
 |_,_=>ao
theorem AV:∀ {l r:List Value},xz l r=aq->l.length=r.length
 |[],[],_=>rfl
 |[],_::_,h=>by simp[xz] at h
 |_::_,[],h=>by simp[xz] at h
 |a::l,b::r,h=>by
  simp only[xz,aL] at h;simp[AV h.2]
theorem FV:∀ {l r:List Value} {f:Nat} {a b:Value},xz l r=aq->l[f]?=aa a->r[f]?=aa b->xD a b=aq
 |[],r,f,a,b,_,h1,_=>by simp at h1
 |_::_,[],f,a,b,h,_,h2=>by simp at h2
 |a0::l,b0::r,f,a,b,h,h1,h2=>by
  simp only[xz,aL] at h;cases f with
  |zero=>simp only[cf,cu] at h1 h2;subst h1;subst h2;exact h.1
  |succ f=>simp only[bH] at h1 h2;exact FV h.2 h1 h2
theorem Sr {a b:Value} (h:xD a b=aq) (c:aT) (e:Nat):gD a c e=gD b c e:=by
 cases a<;>cases b<;>simp[xD,gD] at h ⊢
 exact h
theorem Qq {a b:Value} (h:xD a b=aq) (c:aT) (n:Nat):jJ a c n↔jJ b c n:=by
 cases a<;>cases b<;>simp[xD,jJ] at h ⊢
theorem abl {a:Value} {c0 c1:aT} {e0 n e1 m N0 N1:Nat} (hk:xD a a=aq) (h0:jJ a c0 N0) (h1:jJ a c1 N1) (hn:e0+n≤N0) (hm:e1+m≤N1) :
  jJ a (D' a c0 e0 n c1 e1 m) (n+m)/\∀ e,e<n+m->gD a (D' a c0 e0 n c1 e1 m) e=if e<n then gD a c0 (e0+e) else gD a c1 (e1+(e-n)):=by
 cases a<;>simp only[xD] at hk<;>try (cases hk)
 all_goals
  simp only[jJ] at h0 h1;refine⟨by simp only[jJ,D',bJ];rw[Ao (by omega),Ao (by omega)],fun e he=>?_⟩
  simp only[gD,D',ax]
  by_cases cl:e<n
  ·rw[if_pos cl,db (by rw[Ao (by omega)];exact cl),W7 cl]
  ·rw[if_neg cl,dU (by rw[Ao (by omega)];omega),Ao (by omega),W7 (by omega)]
def mF (e0 n e1 m:Nat):List Value->List aT->List aT->List aT
 |t::tm,c0::l0,c1::l1=>D' t c0 e0 n c1 e1 m::mF e0 n e1 m tm l0 l1
 |_,_,_=>[]
theorem Mb {e0 n e1 m:Nat}:∀ {tm:List Value} {l0 l1:List aT},tm.length=l0.length->l0.length=l1.length->(mF e0 n e1 m tm l0 l1).length=l0.length /\
  ∀ (f:Nat) (c:aT),(mF e0 n e1 m tm l0 l1)[f]?=aa c->∃ t c0 c1,tm[f]?=aa t/\l0[f]?=aa c0/\l1[f]?=aa c1/\c=D' t c0 e0 n c1 e1 m
 |[],[],[],_,_=>⟨rfl,fun f c h=>by simp[mF] at h⟩
 |[],_::_,_,h,_=>by simp at h
 |_::_,[],_,h,_=>by simp at h
 |_,[],_::_,_,h=>by simp at h
 |_,_::_,[],_,h=>by simp at h
 |t::tm,c0::l0,c1::l1,h0,h=>by
  obtain⟨h1,h2⟩:=Mb (e0:=e0) (n:=n) (e1:=e1) (m:=m) (tm:=tm) (l0:=l0) (l1:=l1) (by simpa using h0) (by simpa using h)
  refine⟨by simp[mF,h1],fun f c hc=>?_⟩
  cases f with
  |zero =>
   simp only[mF,cf,cu] at hc;exact⟨t,c0,c1,rfl,rfl,rfl,hc.symm⟩
  |succ f =>
   simp only[mF,bH] at hc ⊢;exact h2 f c hc
theorem Gi:∀ (l:List Value) (cur:Array Value) (k j:Nat),k+l.length≤cur.size->(nA cur k l)[j]?=if k≤j/\j<k+l.length then l[j-k]? else cur[j]?
 |[],cur,k,j,h=>by
  simp only[nA,ky];rw[if_neg (by omega)]
 |v::l,cur,k,j,h=>by
  simp only[nA];rw[Gi l _ (k+1) j (by simp at h ⊢;omega),uK]
  simp only[cI] at h ⊢
  by_cases h1:k+1≤j/\j<k+1+l.length
  ·rw[if_pos h1,if_pos (by omega)]
   rw[show j-k=(j-(k+1))+1 by omega,bH]
  ·rw[if_neg h1]
   by_cases h2:k=j
   ·subst h2;rw[if_pos rfl,if_pos (by omega),if_pos (by omega)]
    simp
   ·rw[if_neg h2,if_neg (by omega)]
section
variable {R:Type} {D:fK R} {P:Program} {C:Ctx} {ρ:Env} {ft:Nat->Nat->Prop} {w w':World}
def TI (σ:SS R) (tm:List Value) (y:Operand):Option (Row×Nat×Nat) :=
 match ev σ.tm y with
 |some (.slice aj 0 0)=>match tL tm 0 with
  |some ez=>aa (⟨tm,0,ez⟩,0,0)
  |none=>aj
 |some (.slice (aa ⟨j,e1,aa q⟩) m _) =>
  match rowOf σ.hp[j]? with
  |some r=>if fo (q%1000000) (1000*tm.length)&&xz r.tm tm then aa (r,e1,m) else aj
  |none=>aj
 |_=>aj
theorem aa3 {h:Hp R} {i:Nat} {r:Row} (hm:HM D C ρ ft h w) (hr:rowOf h[i]?=aa r):(ρ i).nil=aq->(ρ i).cap=0:=by
 intro hz;unfold rowOf at hr;split at hr
 ·rename_i t0 r0 hi;exact(hm.at_ i _ hi).1.2.2.2.2.1 hz
 ·rename_i r0 hi;exact(hm.at_ i _ hi).1.2.2.2.2.1 hz
 ·cases hr
theorem R5 {σ:SS R} {tm:List Value} {y:Operand} {r:Row} {e1 m:Nat} {a:Act} (h:TI σ tm y=aa (r,e1,m)) (ht:TM ρ σ.hp.length σ.tm a) (hm:HM D C ρ ft σ.hp w) (hv:e1+m≤r.n) (h0:0<tm.length) (RJ:tm.length<1000) :
  r.ez.length=tm.length/\(∀ (f:Nat) (t:Value) (c:aT),tm[f]?=aa t->r.ez[f]?=aa c->jJ t c r.n) /\
  ∃ A c',a.eval y=.slice A m c'/\∃ news:List Value,news.length=m*tm.length/\(∀ w2:World,w2.heap=w.heap->(ku tm.length m (a.eval y)).run P w2=.ok news.toArray w2)/\(∀ v∈news,v.oneCell'=aq) /\
   ∀ (f:Nat) (t:Value) (c:aT) (e:Nat),tm[f]?=aa t->r.ez[f]?=aa c->e<m->news[e*tm.length+f]?=aa (gD t c (e1+e)):=by
 unfold TI at h;split at h
 ·rename_i ha;split at h
  ·rename_i ez Dq;injection h with h
   injection h with h2 h3
   injection h3 with h3 h4
   subst h2;subst h3;subst h4;obtain⟨c1,c2⟩:=yi Dq;have u6:=(ew ht ha).1;simp only[bW] at u6;refine⟨c1,fun f t c g1 g2=>(c2 f t c g1 g2).1,aj,0,u6,[],by simp,(fun w2 _=>by rw[u6];simp[ku]),(fun v hv=>by cases hv),fun f t c e _ _ he=>by omega⟩
  ·cases h
 ·rename_i j I7 q m' c ha;split at h
  ·rename_i r' hr;split at h
   ·rename_i hc;simp only[aL] at hc;have hq:=cR hc.1;injection h with h
    injection h with h2 h3
    injection h3 with h3 h4
    subst h2;subst h3;subst h4;have hlen:=AV hc.2;obtain⟨g1,g2,g3,g4,g5,g6⟩:=Cs hm hr;have HP:=aa3 hm hr;have u6:=(ew ht ha).1;simp only[bW] at u6;have uC:∀ (f:Nat) (t:Value) (c:aT),tm[f]?=aa t->r'.ez[f]?=aa c->jJ t c r'.n:=fun f t c k1 k2=>by
     have wq:f<r'.tm.length:=by rw[hlen];exact(aU.1 k1).1
     have k3:=bj wq;exact(Qq (FV hc.2 k3 k1) c _).1 (g5 f _ c k3 k2)
    refine⟨by rw[g4,hlen],uC,?_⟩
    have Zw:∀ (A:Option Addr) (c':Nat),a.eval y=.slice A m' c'->(m'=0∨A=aa ⟨(ρ j).lB,(ρ j).off+I7*tm.length,aj⟩)->∃ A c',a.eval y=.slice A m' c'/\∃ news:List Value,news.length=m'*tm.length/\(∀ w2:World,w2.heap=w.heap->(ku tm.length m' (a.eval y)).run P w2=.ok news.toArray w2)/\(∀ v∈news,v.oneCell'=aq) /\
      ∀ (f:Nat) (t:Value) (c:aT) (e:Nat),tm[f]?=aa t->r'.ez[f]?=aa c->e<m'->news[e*tm.length+f]?=aa (gD t c (I7+e)):=by
     intro A c' hA akH;refine⟨A,c',hA,?_⟩;rcases akH with X5|hA2
     ·subst X5;refine⟨[],by simp,fun w2 _=>?_,(fun v hv=>by cases hv),fun f t c e _ _ he=>by omega⟩
      rw[hA];cases A<;>simp[ku,loadCells,loadCellsFrom]
     ·subst hA2;refine⟨(List.range (m'*tm.length)).map fun k=>match r'.tm[k%tm.length]?,r'.ez[k%tm.length]? with|some t,aa c=>gD t c (I7+k / tm.length)|_,_=>undef,by simp,?_,?_,?_⟩
      ·intro w2 UM;rw[hA];refine run_firstCells_some w2 tm.length m' _ m' c' _ (by simp) (fun k v hk=>?_)
       have U':k<m'*tm.length:=by have:=(aU.1 hk).1;simpa using this
       simp only[gh,sH U',j_,cu] at hk;have QT:k%tm.length<r'.tm.length:=by rw[hlen];exact P4 _ h0
       have Tv:k%tm.length<r'.ez.length:=by rw[g4];exact QT
       have q1:=bj QT;have q2:=bj Tv;rw[q1,q2] at hk;have hdiv:k / tm.length<m':=Nat.div_lt_of_lt_mul (by rw[Wa];exact U')
       have:=g6 _ _ _ (I7+k / tm.length) q1 q2 (by omega)
       rw[A5 (w:=w) (by rw[UM]),pQ,← hk,← this]
       have hdm:k / tm.length*tm.length+k%tm.length=k:=by rw[Wa];exact Nat.div_add_mod k tm.length
       congr 2
       rw[hlen,ik,jh,jh,hdm]
      ·intro v hv;obtain⟨k,hk,rfl⟩:=o_.1 hv;have QT:k%tm.length<r'.tm.length:=by rw[hlen];exact P4 _ h0
       have Tv:k%tm.length<r'.ez.length:=by rw[g4];exact QT
       rw[bj QT,bj Tv];exact Wr (g5 _ _ _ (bj QT) (bj Tv)) _
      ·intro f t c e k1 k2 he;have wq:f<tm.length:=(aU.1 k1).1;have cl:e*tm.length+f<m'*tm.length:=by
        have:=jo tm.length (show e+1≤m' from he)
        rw[ik,qv] at this;omega
       have d1:(e*tm.length+f)%tm.length=f:=by rw[sC,vX,Fh wq]
       have d2:(e*tm.length+f) / tm.length=e:=by rw[sC,z7 _ _ h0,Fg wq,b5]
       have k3:=bj (show f<r'.tm.length by rw[hlen];exact wq)
       simp only[gh,sH cl,j_,d1,d2,k3,k2];rw[Sr (FV hc.2 k3 k1)]
    have e1:q%1000000 / 1000=tm.length:=by omega
    have e2:q%1000=0:=by omega
    unfold lD at u6;simp only at u6
    by_cases hn:(ρ j).nil=aq
    ·rw[if_pos hn] at u6;exact Zw _ _ u6 (dN (by have:=HP hn;omega))
    ·rw[if_neg hn] at u6
     by_cases hex:q / 1000000≠0/\(ρ j).cap≤I7
     ·rw[if_pos hex] at u6;exact Zw _ _ u6 (dN (by omega))
     ·rw[if_neg hex] at u6;refine Zw _ _ u6 (eY ?_);simp only[iE,cellOf,e1,e2,gV]
   ·cases h
  ·cases h
 ·cases h
section
variable (w:World)
theorem WR {t t2 ty e:TypeId} {i:TypeInfo} {el2:TypeId} (ht:P.underlying t=aa (.slice e)) (ht2:P.underlying t2=aa (.slice el2)) (hi:P.info? e=aa i) {g o sLen sCap m c:Nat} {A:Option Addr} {cur:Array Value} {news:List Value}
  (hg:w.heap[g]?=aa (.cells cur e (0,0))) (hf:(ku i.size m (.slice A m c)).run P w=.ok news.toArray w) (h1:∀ u∈news,u.oneCell'=aq) (Tz:sLen+m≤sCap) (E6:o+sLen*i.size+news.length≤cur.size) :
  (tD #[t,t2] ty #[.slice (aa ⟨g,o,aj⟩) sLen sCap,.slice A m c]).run P w=.ok (.slice (aa ⟨g,o,aj⟩) (sLen+m) sCap) (w.setRow g (nA cur (o+sLen*i.size) news)):=by
 have yp:=yD (P:=P) g (o+sLen*i.size) e news 0 cur w hg (by simpa using E6) h1
 simp only[gV] at yp;simp[tD,run_underlying ht,run_underlying ht2,sizeOf,typeInfo,hi,C8,Tz,hf,pQ,yp]
theorem L3 {t t2 ty e:TypeId} {i:TypeInfo} {z:Value} {el2:TypeId} (ht:P.underlying t=aa (.slice e)) (ht2:P.underlying t2=aa (.slice el2)) (hi:P.info? e=aa i) (hz:i.zero=aa z) {sLen sCap m c:Nat} {A B:Option Addr} {olds news:List Value}
  (hf0:(ku i.size sLen (.slice B sLen sCap)).run P w.drew=.ok olds.toArray w.drew) (hf:(ku i.size m (.slice A m c)).run P w.drew=.ok news.toArray w.drew)
  (hg:sCap<sLen+m) (h63:sLen+m≤140737488355328) (E6:(sLen+m)*i.bytes≤140737488355328) :
  (tD #[t,t2] ty #[.slice B sLen sCap,.slice A m c]).run P w =
   .ok (.slice (aa ⟨w.heap.size,0,aj⟩) (sLen+m) (grownCap w (sLen+m) sCap e)) (w.drew.alloc (.cells (olds++news++(pj z.cells (grownCap w (sLen+m) sCap e-(sLen+m))).toList).toArray e)):=by
 have hn:¬ (sLen+m≤sCap):=by omega
 have amE:¬ (9223372036854775807<((sLen:Int)+(m:Int))):=by omega
 have h48:=growslice_fits (need:=sLen+m) (old:=sCap) (bytes:=i.bytes) hg E6;have amn:¬ (281474976710656<Builtin.nextslicecap (sLen+m) sCap*i.bytes):=by omega
 simp[tD,run_underlying ht,run_underlying ht2,sizeOf,typeInfo,zeroValue,hi,hz,C8,hn,amE,amn,Question.forced,hf,hf0,newRow,grownCap]
 congr 2
 apply qu;simp[rD]
end
theorem HM.Yd {h:Hp R} (hm:HM D C ρ ft h w) (i:Nat) (t:TypeId) (r:Row) (p:Place) (hk:Kept (ft i) w w') (hp:p.nil=ao) (ako:(ft i p.lB∨w.heap.size≤p.lB)/\p.lB<w'.heap.size) (h0:0<r.tm.length) (hn:r.n≤p.cap) (hc:p.cap≤maxLen)
  (arr:Array Value) (Gl:w'.heap[p.lB]?=aa (.cells arr t (0,0))) (hs:arr.size=p.off+p.cap*r.tm.length) (hr:oe r arr p.off) :
  HM D C (qg ρ h.length p) (qg (qg ft i (fun _=>False)) h.length (fun k=>k=p.lB)) (h.set i aj++[aa (.inr (.inl (t,r)))]) w':=by
 have key:∀ l k,h.length≤l->qg (qg ft i (fun _=>False)) h.length (fun k=>k=p.lB) l k->l=h.length/\k=p.lB:=fun l k hl um=>by
  by_cases he:l=h.length
  ·subst he;rw[jg] at um;exact⟨rfl,um⟩
  ·rw[vV _ _ _ he] at um
   by_cases iw:l=i
   ·subst iw;rw[jg] at um;exact um.elim
   ·rw[vV _ _ _ iw] at um;obtain⟨B',jz⟩:=hm.some_ l k um;have:=(aU.1 jz).1;omega
 have aiT:∀ k,i<h.length->¬ qg (qg ft i (fun _=>False)) h.length (fun k=>k=p.lB) i k:=fun k hi hk=>by
  rw[vV _ _ _ (by omega),jg] at hk;exact hk
 refine hm.step (fun j=>j=i) (hk.mono fun k hk=>⟨i,rfl,hk⟩) (fun j hj=>ox _ _ _ hj) (by simp) ?_ ?_ ?_ ?_
 ·intro j B' hj jz;rcases cx j h.length with hl|j6
  ·have:=hj hl;subst this;rw[db (by simpa using hl),jS hl] at jz
   injection jz with jz;cases jz
  ·have:j=h.length:=by
    rcases cx h.length j with cl|hle
    ·rw[dg (by simp;omega)] at jz;cases jz
    ·omega
   subst this;rw[dU (by simp)] at jz
   simp at jz;subst jz;refine⟨?_,trivial⟩;simp only[hold,jg];exact⟨fun k=>by simp[hp],h0,hn,hc,(fun hz=>by rw[hp] at hz;cases hz),arr,fun _=>⟨Gl,hs⟩,hr⟩
 ·intro j hj kt;refine⟨by rw[db (by simpa using hj),kr (fun e=>kt e.symm)],fun k=>by rw[ox _ _ _ hj,vV _ _ _ kt]⟩
 ·intro j k hj nx;rcases cx j h.length with hl|j6
  ·have:=hj hl;subst this;exact absurd nx (aiT k hl)
  ·obtain⟨rfl,rfl⟩:=key j k j6 nx;refine⟨ako.1.imp (fun hh=>⟨i,rfl,hh⟩) id,ako.2,_,dU (by simp) |>.trans (by simp;rfl)⟩
 ·intro a b k ha hb hka hkb;have red:∀ l,(l<h.length->l=i)->qg (qg ft i (fun _=>False)) h.length (fun k=>k=p.lB) l k->l=h.length:=fun l hl um=>by
   rcases cx l h.length with cl|j6
   ·have:=hl cl;subst this;exact absurd um (aiT k cl)
   ·exact(key l k j6 um).1
  rw[red a ha hka,red b hb hkb]
theorem R7 {a b:Value} (h:xD a b=aq):xD a a=aq:=by
 cases a<;>cases b<;>simp[xD] at h ⊢
theorem GU {OG tm:List Value} {H7 Ie:List aT} {e0 n e1 m N0 N1 o:Nat} {arr:Array Value} (hl:xz OG tm=aq) (Df:H7.length=OG.length) (PG:Ie.length=tm.length)
  (h0:∀ (f:Nat) (t:Value) (c:aT),OG[f]?=aa t->H7[f]?=aa c->jJ t c N0) (h1:∀ (f:Nat) (t:Value) (c:aT),tm[f]?=aa t->Ie[f]?=aa c->jJ t c N1) (hn:e0+n≤N0) (hm:e1+m≤N1)
  (g0:∀ (f:Nat) (t:Value) (c:aT) (e:Nat),OG[f]?=aa t->H7[f]?=aa c->e<n->arr[o+(e*tm.length+f)]?=aa (gD t c (e0+e)))
  (g1:∀ (f:Nat) (t:Value) (c:aT) (e:Nat),tm[f]?=aa t->Ie[f]?=aa c->e<m->arr[o+((n+e)*tm.length+f)]?=aa (gD t c (e1+e))) :
  oe ⟨OG,n+m,mF e0 n e1 m OG H7 Ie⟩ arr o:=by
 have hlen:=AV hl;obtain⟨k1,k2⟩:=Mb (e0:=e0) (n:=n) (e1:=e1) (m:=m) (tm:=OG) (l0:=H7) (l1:=Ie) Df.symm (by rw[Df,PG,hlen])
 have main:∀ (f:Nat) (t:Value) (c:aT),OG[f]?=aa t->(mF e0 n e1 m OG H7 Ie)[f]?=aa c->∃ t' c0 c1,tm[f]?=aa t'/\H7[f]?=aa c0/\Ie[f]?=aa c1/\c=D' t c0 e0 n c1 e1 m/\xD t t'=aq:=fun f t c ht hc=>by
  obtain⟨t2,c0,c1,qt,q0,q1,rfl⟩:=k2 f c hc;rw[ht] at qt;injection qt with qt
  subst qt;have wq:f<tm.length:=by rw[← hlen];exact(aU.1 ht).1
  exact⟨_,c0,c1,bj wq,q0,q1,rfl,FV hl ht (bj wq)⟩
 refine⟨by rw[k1,Df],fun f t c ht hc=>?_,fun f t c e ht hc he=>?_⟩
 ·obtain⟨t',c0,c1,q,q0,q1,rfl,hk⟩:=main f t c ht hc;exact(abl (R7 hk) (h0 f t c0 ht q0) ((Qq hk c1 _).2 (h1 f t' c1 q q1)) hn hm).1
 ·obtain⟨t',c0,c1,q,q0,q1,rfl,hk⟩:=main f t c ht hc;simp only at he ⊢;rw[(abl (R7 hk) (h0 f t c0 ht q0) ((Qq hk c1 _).2 (h1 f t' c1 q q1)) hn hm).2 e he,hlen]
  by_cases cl:e<n
  ·rw[if_pos cl];exact g0 f t c0 e ht q0 cl
  ·rw[if_neg cl];have:=g1 f t' c1 (e-n) q q1 (by omega)
   rw[show n+(e-n)=e by omega] at this
   rw[this,Sr hk]
theorem IA {n m s:Nat} {olds news zs:List Value} (h0:olds.length=n*s) (h1:news.length=m*s):∀ (f e:Nat),f<s ->
  (e<n->(olds++news++zs).toArray[0+(e*s+f)]?=olds[e*s+f]?)/\(e<m->(olds++news++zs).toArray[0+((n+e)*s+f)]?=news[e*s+f]?):=by
 intro f e hf;refine⟨fun he=>?_,fun he=>?_⟩
 ·have:=jo s (show e+1≤n from he)
  rw[ik,qv] at this;rw[b5,jA,rD,db (by omega)]
 ·have:=jo s (show e+1≤m from he)
  rw[ik,qv] at this;rw[b5,jA,rD,dU (by rw[h0,ik];omega),db (by rw[h0,ik];omega)]
  congr 1
  rw[h0,ik];omega
def need (tagged:Bool) (m:Nat) (p:Prop):Prop :=
 match tagged with
 |true=>p
 |false=>0<m/\p
theorem adZ {b:Bool} {m:Nat} {p:Prop} (h:need b m p):(b=ao->0<m)/\p:=by
 cases b with
 |true=>exact⟨(fun h=>by cases h),h⟩
 |false=>exact⟨fun _=>h.1,h.2⟩
def yX (P:Program) (σ:SS R) (t t2:TypeId) (y z:Operand):Option (Out R) :=
 match elemOf P t,P.underlying t2 with
 |some (el,tm,De),aa (.slice _) =>
  match TI σ tm z,ev σ.tm y with
  |some (r1,e1,m),aa (.slice aj 0 0) =>
   match tL tm 0 with
   |some zc=>aa ⟨e1+m≤r1.n/\m*De≤140737488355328/\m≤140737488355328,.slice (aa ⟨σ.hp.length,0,aa (1000*tm.length)⟩) (0+m) 0,aj,σ.hp++[aa (.inr (.inl (el,⟨tm,0+m,mF 0 0 e1 m tm zc r1.ez⟩)))],[],[(σ.hp.length,0)]⟩
   |none=>aj
  |some (r1,e1,m),aa (.slice (aa ⟨i,e0,aa q⟩) n _) =>
   match σ.hp[i]? with
   |some (aa (.inr (.inl (t',r)))) =>
    if fo (q%1000000) (1000*tm.length)&&xz r.tm tm&&fo t' el then
     aa ⟨need (gU q 1000000) m (e0+n≤r.n/\e1+m≤r1.n/\(n+m)*De≤140737488355328/\n+m≤140737488355328),.slice (aa ⟨σ.hp.length,0,aa (1000*tm.length)⟩) (n+m) 0,aj,
      σ.hp.set i aj++[aa (.inr (.inl (el,⟨r.tm,n+m,mF e0 n e1 m r.tm r.ez r1.ez⟩)))],[],[(i,0),(σ.hp.length,0)]⟩
    else aj
   |_=>aj
  |_,_=>aj
 |_,_=>aj
theorem I9:∀ {tm:List Value} {n:Nat} {ez:List aT},tL tm n=aa ez->xz tm tm=aq
 |[],_,_,_=>rfl
 |t::tm,n,ez,h=>by
  simp only[tL] at h;split at h
  ·rename_i c r hc hr;simp only[xz,aL];refine⟨?_,I9 hr⟩;cases t<;>simp[Lh,xD] at hc ⊢
  ·cases h
theorem EY (z:Array Value) (n:Nat):(pj z n).toList.length=n*z.size:=by rw[wj,size_zeroCells]
theorem Wu {σ:SS R} {o:Oper} {t t2:TypeId} {y z:Operand} {x:Out R} (ho:o.op=.call { callee:=.builtin .append,args:=#[y,z],argTypes:=#[t,t2] }) (h:yX P σ t t2 y z=aa x):lZ D P o σ x:=by
 unfold yX at h;split at h
 ·rename_i el tm De el2 he hu2;obtain⟨inf,zv,hu,hi,hz,Bk,n9,hby,wq,h0,RJ⟩:=zj he;have Ks:zv.cells.size=tm.length:=by rw[← Bk];simp
  have I7:1000*tm.length / 1000000=0:=by omega
  have e2':1000*tm.length%1000=0:=by omega
  split at h
  ·rename_i r1 e1 m T3 hy;split at h
   ·rename_i zc hzc;injection h with h
    subst h;refine⟨fun C ρ ft a w K Q ht iw hm hv hK=>?_,by simp,fun _ b hb=>by cases hb⟩
    obtain⟨v0,v1,v2⟩:=hv;obtain⟨s1,s2,A,c',s3,news,s4,s5,s6,s7⟩:=R5 T3 ht hm v0 h0 RJ;obtain⟨c1,c2⟩:=yi hzc;have Ar:=(ew ht hy).1;simp only[bW] at Ar;have afh:xz tm tm=aq:=I9 hzc
    by_cases X5:m=0
    ·subst X5;have nR:(execOp a.eval o).run P w=.ok (.value (.slice aj 0 0)) w:=by
      have hf:=s5 w rfl;rw[s3] at hf;simp only[execOp,ho,resolve,invoke,builtin,dz,dX,cA,vp,gC,A9,Ar,s3];have uA:news=[]:=iQ (by omega)
      subst uA;simp[tD,run_underlying hu,run_underlying hu2,sizeOf,typeInfo,hi,C8,n9];rw[hf];rfl
     have wi:oe ⟨tm,0+0,mF 0 0 e1 0 tm zc r1.ez⟩ #[] 0 :=
      GU afh c1 s1 (fun f t c g1 g2=>(c2 f t c g1 g2).1) s2 (bc 0) v0 (fun f t c e _ _ he=>by omega) (fun f t c e _ _ he=>by omega)
     have hp:=hm.Qo el ⟨tm,0+0,mF 0 0 e1 0 tm zc r1.ez⟩ h0 rfl wi.len wi.I_ 0 0;have:=hK _ _ _ (fun i hi=>ox ρ σ.hp.length ⟨0,0,0,aq⟩ hi) hp
     refine rj nR ?_
     simpa [bW,lD,jg] using this
    ·have hf:=s5 w.drew rfl;rw[s3] at hf;have nR:(execOp a.eval o).run P w=.ok (.value (.slice (aa ⟨w.heap.size,0,aj⟩) (0+m) (grownCap w (0+m) 0 el))) (w.drew.alloc (.cells ([]++news++(pj zv.cells (grownCap w (0+m) 0 el-(0+m))).toList).toArray el)):=by
      have hr:=L3 (P:=P) (t:=t) (t2:=t2) (ty:=o.type) w hu hu2 hi hz (sLen:=0) (sCap:=0) (m:=m) (c:=c') (A:=A) (B:=aj) (olds:=[]) (news:=news) (by simp[ku]) (by rw[n9];exact hf) (by omega) (by omega) (by rw[hby,b5];exact v1)
      simp only[execOp,ho,resolve,invoke,builtin,dz,dX,cA,vp,gC,A9,Ar,s3,hr]
     have MX:=grownCap_ge w (0+m) 0 el;have YA:=grownCap_le_maxLen w (0+m) 0 el (by unfold maxLen;omega)
     have wi:oe ⟨tm,0+m,mF 0 0 e1 m tm zc r1.ez⟩ ([]++news++(pj zv.cells (grownCap w (0+m) 0 el-(0+m))).toList).toArray 0:=by
      refine GU afh c1 s1 (fun f t c g1 g2=>(c2 f t c g1 g2).1) s2 (bc 0) v0 (fun f t c e _ _ he=>by omega) (fun f t c e g1 g2 he=>?_)
      have Bt:f<tm.length:=(aU.1 g1).1;rw[(IA (n:=0) (m:=m) (s:=tm.length) (by simp) s4 f e Bt).2 he]
      exact s7 f t c e g1 g2 he
     have hp:=hm.drew.Rq el ⟨tm,0+m,mF 0 0 e1 m tm zc r1.ez⟩ _ (grownCap w (0+m) 0 el) h0 MX YA (by
      simp only[List.nil_append,Di,bJ,s4,EY,Ks,← ik]
      congr 1;omega) wi
     have:=hK _ _ _ (fun i hi=>ox ρ σ.hp.length ⟨w.heap.size,0,grownCap w (0+m) 0 el,ao⟩ hi) hp
     refine rj nR ?_
     simpa [bW,lD,iE,jg,cellOf,I7,e2'] using this
   ·cases h
  ·rename_i r1 e1 m i e0 q n c T3 hy;split at h
   ·rename_i t' r hir;split at h
    ·rename_i hc;simp only[aL] at hc;have hq:=cR hc.1.1;have Tj:=hc.1.2;have hte:=cR hc.2;subst hte;have hlen:=AV Tj;have sr:q%1000000 / 1000=tm.length:=by omega
     have FW:q%1000=0:=by omega
     injection h with h
     subst h;refine⟨fun C ρ ft a w K Q ht iw hm hv hK=>?_,by simp,fun _ b hb=>by cases hb⟩
     obtain⟨v0,v1,v2,v3,v4⟩:=adZ hv;obtain⟨s1,s2,A,c',s3,news,s4,s5,s6,s7⟩:=R5 T3 ht hm v2 h0 RJ;obtain⟨Ar,hy2⟩:=ew ht hy;simp only[bW] at Ar;simp only[fp,aL,fa] at hy2;have Ct:i<σ.hp.length:=hy2.1;obtain⟨g1,g2,g3,g4,g4',arr,g5,g6⟩:=(hm.at_ i _ hir).1;have jQ:¬ gU q 1000000=aq->1≤q / 1000000:=fun hh=>by
      have:¬ q<1000000:=fun cl=>hh (by rw[fa];exact cl)
      omega
     have hqt:q / 1000000≠0->0<m:=fun hh=>v0 (by
      cases hb:gU q 1000000 with
      |false=>rfl
      |true=>rw[fa] at hb;omega)
     have h0':0<r.tm.length:=g2
     have grow:∀ (B:Option Addr) (Bq:Nat) (olds:List Value),a.eval y=.slice B n Bq->olds.length=n*tm.length->(∀ w2:World,w2.heap=w.heap->(ku tm.length n (.slice B n Bq)).run P w2=.ok olds.toArray w2) ->
       (∀ (f:Nat) (t:Value) (c:aT) (e:Nat),r.tm[f]?=aa t->r.ez[f]?=aa c->e<n->olds[e*tm.length+f]?=aa (gD t c (e0+e)))->Bq<n+m->o.wp P a w K Q:=by
      intro B Bq olds hB hol hof hog cl;have hf:=s5 w.drew rfl;rw[s3] at hf;have hr:=L3 (P:=P) (t:=t) (t2:=t2) (ty:=o.type) w hu hu2 hi hz (sLen:=n) (sCap:=Bq) (m:=m) (c:=c') (A:=A) (B:=B) (olds:=olds) (news:=news) (by rw[n9];exact hof w.drew rfl) (by rw[n9];exact hf) cl (by omega) (by rw[hby];exact v3)
      have nR:(execOp a.eval o).run P w=.ok (.value (.slice (aa ⟨w.heap.size,0,aj⟩) (n+m) (grownCap w (n+m) Bq t'))) (w.drew.alloc (.cells (olds++news++(pj zv.cells (grownCap w (n+m) Bq t'-(n+m))).toList).toArray t')):=by
       simp only[execOp,ho,resolve,invoke,builtin,dz,dX,cA,vp,gC,A9,hB,s3,hr]
      have MX:=grownCap_ge w (n+m) Bq t';have YA:=grownCap_le_maxLen w (n+m) Bq t' (by unfold maxLen;omega)
      have wi:oe ⟨r.tm,n+m,mF e0 n e1 m r.tm r.ez r1.ez⟩ (olds++news++(pj zv.cells (grownCap w (n+m) Bq t'-(n+m))).toList).toArray 0:=by
       refine GU Tj g6.len s1 g6.I_ s2 v1 v2 (fun f t c e k1 k2 he=>?_) (fun f t c e k1 k2 he=>?_)
       ·have Bt:f<tm.length:=by rw[← hlen];exact(aU.1 k1).1
        rw[(IA hol s4 f e Bt).1 he];exact hog f t c e k1 k2 he
       ·have Bt:f<tm.length:=(aU.1 k1).1;rw[(IA hol s4 f e Bt).2 he];exact s7 f t c e k1 k2 he
      have hp:=hm.Yd (w':=w.drew.alloc (.cells (olds++news++(pj zv.cells (grownCap w (n+m) Bq t'-(n+m))).toList).toArray t')) i t' ⟨r.tm,n+m,mF e0 n e1 m r.tm r.ez r1.ez⟩ ⟨w.heap.size,0,grownCap w (n+m) Bq t',ao⟩ ((Kept.refl _ _).drew.alloc _) rfl ⟨eY (bc _),by simp⟩ h0' MX YA _ (heap_alloc_new w.drew _) (by
       simp only[Di,bJ,hol,s4,EY,Ks,hlen,← ik,b5]
       congr 1;omega) wi
      have:=hK _ _ _ (fun j hj=>ox ρ σ.hp.length ⟨w.heap.size,0,grownCap w (n+m) Bq t',ao⟩ hj) hp
      refine rj nR ?_
      simpa [bW,lD,iE,jg,cellOf,I7,e2'] using this
     unfold lD at Ar;simp only at Ar
     by_cases hn:(ρ i).nil=aq
     ·rw[if_pos hn] at Ar;have aoD:=g4' hn;have uA:n=0:=by omega
      subst uA
      by_cases X5:m=0
      ·subst X5;have nR:(execOp a.eval o).run P w=.ok (.value (.slice aj 0 0)) w:=by
        have hf:=s5 w rfl;rw[s3] at hf;simp only[execOp,ho,resolve,invoke,builtin,dz,dX,cA,vp,gC,A9,Ar,s3];have uA:news=[]:=iQ (by omega)
        subst uA;simp[tD,run_underlying hu,run_underlying hu2,sizeOf,typeInfo,hi,C8,n9];rw[hf];rfl
       have wi:oe ⟨r.tm,0+0,mF e0 0 e1 0 r.tm r.ez r1.ez⟩ #[] 0 :=
        GU Tj g6.len s1 g6.I_ s2 v1 v2 (fun f t c e _ _ he=>by omega) (fun f t c e _ _ he=>by omega)
       have hp:=(hm.drop i).Qo t' ⟨r.tm,0+0,mF e0 0 e1 0 r.tm r.ez r1.ez⟩ h0' rfl wi.len wi.I_ 0 0;rw[e_] at hp;have:=hK _ _ _ (fun i hi=>ox ρ σ.hp.length ⟨0,0,0,aq⟩ hi) hp
       refine rj nR ?_
       simpa [bW,lD,jg] using this
      ·exact grow aj 0 [] Ar (by simp) (fun w2 _=>by simp[ku]) (fun f t c e _ _ he=>by omega) (by omega)
     ·have Xv:(ρ i).nil=ao:=by simpa using hn
      obtain⟨g7,g8⟩:=g5 Xv;rw[if_neg hn] at Ar
      by_cases hex:q / 1000000≠0/\(ρ i).cap≤e0
      ·rw[if_pos hex] at Ar;have X5:=hqt hex.1;have uA:n=0:=by omega
       subst uA;exact grow _ 0 [] Ar (by simp) (fun w2 _=>by simp[ku,loadCells,loadCellsFrom]) (fun f t c e _ _ he=>by omega) (by omega)
      ·rw[if_neg hex] at Ar;have hA:iE ρ ⟨i,e0,aa q⟩=⟨(ρ i).lB,(ρ i).off+e0*tm.length,aj⟩:=by simp only[iE,cellOf,sr,FW,gV]
       rw[hA] at Ar;rw[hlen] at g8
       by_cases Tz:n+m≤(ρ i).cap-e0
       ·have hf:=s5 w rfl;rw[s3] at hf;have hmul:(e0+n+m)*tm.length≤(ρ i).cap*tm.length:=jo _ (by omega)
        rw[ik,ik] at hmul;have E6:(ρ i).off+e0*tm.length+n*tm.length+news.length≤arr.size:=by rw[s4,g8];omega
        have hr:=WR (P:=P) (t:=t) (t2:=t2) (ty:=o.type) w hu hu2 hi (g:=(ρ i).lB) (o:=(ρ i).off+e0*tm.length) (sLen:=n) (sCap:=(ρ i).cap-e0) (m:=m) (c:=c') (A:=A) (cur:=arr) (news:=news) g7 (by rw[n9];exact hf) s6 Tz (by rw[n9];exact E6)
        rw[n9] at hr;have nR:(execOp a.eval o).run P w=.ok (.value (.slice (aa ⟨(ρ i).lB,(ρ i).off+e0*tm.length,aj⟩) (n+m) ((ρ i).cap-e0))) (w.setRow (ρ i).lB (nA arr ((ρ i).off+e0*tm.length+n*tm.length) news)):=by
         simp only[execOp,ho,resolve,invoke,builtin,dz,dX,cA,vp,gC,A9,Ar,s3,hr]
        have wi:oe ⟨r.tm,n+m,mF e0 n e1 m r.tm r.ez r1.ez⟩ (nA arr ((ρ i).off+e0*tm.length+n*tm.length) news) ((ρ i).off+e0*tm.length):=by
         refine GU Tj g6.len s1 g6.I_ s2 v1 v2 (fun f t c e k1 k2 he=>?_) (fun f t c e k1 k2 he=>?_)
         ·have Bt:f<tm.length:=by rw[← hlen];exact(aU.1 k1).1
          have hle:=jo tm.length (show e+1≤n from he)
          rw[ik,qv] at hle;rw[Gi _ _ _ _ E6,if_neg (by omega)]
          have:=g6.cell f t c (e0+e) k1 k2 (by omega)
          rw[hlen,ik] at this;rw[← this]
          congr 1
          omega
         ·have Bt:f<tm.length:=(aU.1 k1).1;have hle:=jo tm.length (show e+1≤m from he)
          rw[ik,qv] at hle;rw[Gi _ _ _ _ E6,ik,if_pos (by rw[s4];omega)]
          rw[← s7 f t c e k1 k2 he]
          congr 1
          omega
        have hp:=hm.Yd (w':=w.setRow (ρ i).lB (nA arr ((ρ i).off+e0*tm.length+n*tm.length) news)) i t' ⟨r.tm,n+m,mF e0 n e1 m r.tm r.ez r1.ez⟩ ⟨(ρ i).lB,(ρ i).off+e0*tm.length,(ρ i).cap-e0,ao⟩
         (Gf _ _ _ ((g1 _).2 ⟨Xv,rfl⟩)) rfl ⟨dN ((g1 _).2 ⟨Xv,rfl⟩),by
          have:=hm.lt i _ ((g1 _).2 ⟨Xv,rfl⟩)
          simpa [Ff] using this⟩ h0' Tz (by simp only;omega) _ (setRow_heap w _ _ _ _ _ g7) (by
           have hcm:e0*tm.length+((ρ i).cap-e0)*tm.length=(ρ i).cap*tm.length:=by rw[← ik];congr 1;omega
           rw[Ea,g8,hlen];simp only;omega) wi
        have:=hK _ _ _ (fun j hj=>ox ρ σ.hp.length ⟨(ρ i).lB,(ρ i).off+e0*tm.length,(ρ i).cap-e0,ao⟩ hj) hp
        refine rj nR ?_
        simpa [bW,lD,iE,jg,cellOf,I7,e2'] using this
       ·have hmul:(e0+n)*tm.length≤(ρ i).cap*tm.length:=jo _ (by omega)
        rw[ik] at hmul;refine grow _ _ ((arr.toList.drop ((ρ i).off+e0*tm.length)).take (n*tm.length)) Ar (by simp;omega) (fun w2 UM=>?_) (fun f t c e k1 k2 he=>?_) (by omega)
        ·refine run_firstCells_some w2 tm.length n _ n _ _ (by simp;omega) (fun j v hj=>?_)
         rw[A5 (w:=w) (by rw[UM]),pQ,cell_of_row w _ _ arr _ _ g7]
         have TG:j<n*tm.length:=by have:=(aU.1 hj).1;simp at this;omega
         simpa [oJ,TG,oL] using hj
        ·have Bt:f<tm.length:=by rw[← hlen];exact(aU.1 k1).1
         have hle:=jo tm.length (show e+1≤n from he)
         rw[ik,qv] at hle;have:=g6.cell f t c (e0+e) k1 k2 (by omega)
         rw[hlen,ik] at this;rw[oJ,if_pos (by omega),oL,← this]
         simp only[Array.getElem?_toList]
         congr 1
         omega
    ·cases h
   ·cases h
  ·cases h
 ·cases h
end
end Rx
namespace Rx
open Go.RowKit State
abbrev Prim (R:Type):=List Value->Hp R->Option (Out R)
structure je (R:Type) where
 when:List Value->Hp R->Option Bool
 yes:Prim R
 no:Prim R
def je.go {R:Type} (c:je R) (b:Bool):Prim R :=
 match b with
 |true=>c.yes
 |false=>c.no
def a9 {R:Type} (p:Prim R):je R:=⟨fun _ _=>aj,p,fun _ _=>aj⟩
abbrev eK (R:Type):=List (FuncId×je R)
def F4 {R:Type}:eK R->FuncId->Option (je R)
 |[],_=>aj
 |(g,p)::l,f=>if fo g f then aa p else F4 l f
def findF {R:Type} (T:eK R) (f:FuncId):Option (je R):=if fo f 1000000000 then aj else F4 T f
def QB {R:Type} (D:fK R) (c:je R):Prop:=((c.no [] []).isSome=aq->∀ X p F w,D.H X p F w->F p.lB/\∃ ca ta,w.heap[p.lB]?=aa (.cells ca ta (0,0)))/\∀ e X x p F w,c.yes [.pointer (aa ⟨0,e,aj⟩)] [aa (.inr (.inr (.inr X)))]=aa x->D.H X p F w->flat x.v=aq/\w.cell? ⟨p.lB,p.off+e,aj⟩=aa x.v
structure rB {R:Type} (D:fK R) (P:Program) (f:FuncId) (on:List Value->Hp R->Prop) (p:Prim R):Prop where
 known : ∃ fn, P.funcs[f]? = aa fn ∧ (fn.name == "runtime.NumGoroutine") = ao ∧ fn.body.isNone = ao
 run:∀ args h x,on args h->p args h=aa x->∀ C ρ ft w,HM D C ρ ft h w->x.vc->ix h.length args=aq ->
  Calls P f (args.map (bW ρ)).toArray w fun e w'=>∃ gv ks,(∀ i,i<h.length->gv i=ρ i)/\e=.returned (bW gv x.v)/\HM D C gv ks x.hp w'
 len:∀ args h x,p args h=aa x->h.length≤x.hp.length
 lit:∀ args h x,p args h=aa x->∀ b,x.lit=aa b->x.v=.bool b
 still:∀ args h x,p args h=aa x->x.wr=[]->x.hp=h
def rW {R:Type} (c:je R) (b:Bool) (args:List Value) (h:Hp R):Prop:=(c.when args h=aj/\b=aq)∨c.when args h=aa b
def ck {R:Type} (D:fK R) (P:Program) (f:FuncId) (c:je R):Prop:=∀ b,rB D P f (rW c b) (c.go b)
theorem pY {R:Type} {D:fK R} {P:Program} {f:FuncId} {p:Prim R} (h:rB D P f (fun _ _=>True) p):ck D P f (a9 p):=by
 intro b;cases b with
 |true=>exact⟨h.known,fun args hh x _=>h.run args hh x trivial,h.len,h.lit,h.still⟩
 |false=>exact⟨h.known,(fun _ _ _ _ hx=>by cases hx),(fun _ _ _ hx=>by cases hx),(fun _ _ _ hx=>by cases hx),(fun _ _ _ hx=>by cases hx)⟩
def Iy:List (Nat×Nat)->Nat->Bool
 |[],_=>ao
 |p::l,b=>fo p.1 b||Iy l b
def ON (wr:List (Nat×Nat)) (b:Nat):Bool :=
 match wr with
 |(0,1)::l=>!Iy l b
 |_=>ao
structure GA {R:Type} (D:fK R) (P:Program) (f:FuncId) (c:je R):Prop where
 ok:ck D P f c
 H0:∀ b args h x,c.go b args h=aa x->∀ i,i<h.length->ON x.wr i=aq->x.hp[i]?=h[i]?
def cQ {R:Type} (D:fK R) (P:Program):eK R->Prop
 |[]=>True
 |(f,c)::l=>(match fo f 1000000000 with
  |true=>QB D c
  |false=>GA D P f c)/\cQ D P l
section
variable {R:Type} {D:fK R} {P:Program} {T:eK R} {C:Ctx} {ρ:Env} {ft:Nat->Nat->Prop} {w w':World}
theorem Vj (hT:cQ D P T) {f:FuncId} {p:je R} (h:F4 T f=aa p):match fo f 1000000000 with
  |true=>QB D p
  |false=>GA D P f p:=by
 induction T with
 |nil=>cases h
 |cons a l ih =>
  obtain⟨g,q⟩:=a;simp only[F4] at h;split at h
  ·rename_i hb;have:=cR hb;subst this;injection h with h
   subst h;exact hT.1
  ·exact ih hT.2 h
theorem BR (hT:cQ D P T) {f:FuncId} {p:je R} (h:findF T f=aa p):GA D P f p:=by
 unfold findF at h;split at h
 ·cases h
 ·rename_i hb;have:=Vj hT h;rw[show fo f 1000000000=ao by cases qf:fo f 1000000000<;>simp_all] at this
  exact this
theorem Vx (hT:cQ D P T) {p:je R} (h:F4 T 1000000000=aa p):QB D p:=Vj hT h
def LV (tm:List (Option Value)):List Operand->Option (List Value)
 |[]=>aa []
 |y::l =>
  match ev tm y,LV tm l with
  |some v,aa r=>aa (v::r)
  |_,_=>aj
theorem E0 {n:Nat} {tm:List (Option Value)} {a:Act} (ht:TM ρ n tm a):∀ {l:List Operand} {r:List Value},LV tm l=aa r->l.map a.eval=r.map (bW ρ)/\ix n r=aq
 |[],r,h=>by simp only[LV] at h;injection h with h;subst h;exact⟨rfl,rfl⟩
 |y::l,r,h=>by
  simp only[LV] at h;split at h
  ·rename_i v r' hv hr;injection h with h
   subst h;obtain⟨h1,h2⟩:=ew ht hv;obtain⟨h3,h4⟩:=E0 ht hr;exact⟨by simp[h1,h3],by simp[ix,h2,h4]⟩
  ·cases h
theorem LZ {n:Nat} {l r:List Value} (h1:ix n l=aq) (h2:ix n r=aq):ix n (l++r)=aq:=by
 rw[wY] at *
 intro v hv;rcases b9.1 hv with hv|hv
 ·exact h1 v hv
 ·exact h2 v hv
def EO (T:eK R) (σ:SS R) (f:Operand) (args:List Operand) (b:Bool):Option (Out R) :=
 match ev σ.tm f,LV σ.tm args with
 |some (.func (.func g) ⟨fi⟩ ⟨ca⟩),aa vs=>match findF T g with
  |some p=>p.go b ((fi++vs)++ca) σ.hp
  |none=>aj
 |_,_=>aj
def ML (T:eK R) (σ:SS R) (f:Operand) (args:List Operand):Option Bool :=
 match ev σ.tm f,LV σ.tm args with
 |some (.func (.func g) ⟨fi⟩ ⟨ca⟩),aa vs=>match findF T g with
  |some p=>p.when ((fi++vs)++ca) σ.hp
  |none=>aj
 |_,_=>aj
def goes (c:Option Bool) (b:Bool):Prop:=(c=aj/\b=aq)∨c=aa b
theorem abj (hT:cQ D P T) {σ:SS R} {o:Oper} {f:Operand} {args:Array Operand} {ts:Array TypeId} {x:Out R} {b:Bool} (ho:o.op=.call { callee:=.value f,args:=args,argTypes:=ts }) (hb:goes (ML T σ f args.toList) b) (h:EO T σ f args.toList b=aa x):lZ D P o σ x:=by
 unfold EO at h;unfold ML at hb;split at h
 ·rename_i g fi ca vs hf Ed;rw[hf,Ed] at hb;simp only at hb;split at h
  ·rename_i p hp;rw[hp] at hb;simp only at hb;have uC:=(BR hT hp).ok b;refine⟨fun C ρ ft a w K Q ht iw hm hv hK=>?_,uC.len _ _ _ h,fun _=>uC.lit _ _ _ h⟩
   obtain⟨h1,h2⟩:=ew ht hf;obtain⟨h3,h4⟩:=E0 ht Ed;simp only[bW,k_] at h1;simp only[fp,aL] at h2;obtain⟨fn,g1,g2,g3⟩:=uC.known;have hargs:args.map a.eval=(vs.map (bW ρ)).toArray:=by
    apply qu;rw[mj,h3]
   have nR:(execOp a.eval o).run P w=.ok (.enter g (((fi++vs)++ca).map (bW ρ)).toArray) w:=by
    simp only[execOp,ho,resolve,h1,Deferred.ofValue,dz,dX,cA,invoke,hargs];simp only[callFunc,dz,run_program,cA,g1,g2,g3,fu,if_false,dX]
    congr 2
    simp
   have Yt:=uC.run _ _ _ hb h C ρ ft w hm hv (LZ (LZ h2.1 h4) h2.2);unfold RA;rw[nR,P6];refine Yt.mono fun e w' ⟨gv,ks,q1,q2,q3⟩=>?_
   subst q2;exact hK gv ks w' q1 q3
  ·cases h
 ·cases h
def aaH (P:Program) (t:TypeId) (v:Value) (name:String):Option (FuncId×Value) :=
 xO P (W1 fun Q=>method (Q.types.size+P7) t v name)
def yL (P:Program) (T:eK R) (σ:SS R) (r:Operand) (name:String) (args:List Operand) (b:Bool):Option (Out R) :=
 match ev σ.tm r,LV σ.tm args with
 |some (.iface t v),aa vs=>match flat v,aaH P t v name with
  |true,aa (g,u)=>match flat u,findF T g with
   |true,aa p=>p.go b (u::vs) σ.hp
   |_,_=>aj
  |_,_=>aj
 |_,_=>aj
def Ix (P:Program) (T:eK R) (σ:SS R) (r:Operand) (name:String) (args:List Operand):Option Bool :=
 match ev σ.tm r,LV σ.tm args with
 |some (.iface t v),aa vs=>match flat v,aaH P t v name with
  |true,aa (g,u)=>match flat u,findF T g with
   |true,aa p=>p.when (u::vs) σ.hp
   |_,_=>aj
  |_,_=>aj
 |_,_=>aj
theorem Wz (hT:cQ D P T) {σ:SS R} {o:Oper} {r:Operand} {name:String} {args:Array Operand} {ts:Array TypeId} {x:Out R} {b:Bool} (ho:o.op=.call { callee:=.invoke r name,args:=args,argTypes:=ts }) (hb:goes (Ix P T σ r name args.toList) b) (h:yL P T σ r name args.toList b=aa x):lZ D P o σ x:=by
 unfold yL at h;unfold Ix at hb;split at h
 ·rename_i t v vs hf Ed;rw[hf,Ed] at hb;simp only at hb;split at h
  ·rename_i g u wq hme;rw[wq,hme] at hb;simp only at hb;split at h
   ·rename_i p hu hp;rw[hu,hp] at hb;simp only at hb;have uC:=(BR hT hp).ok b;refine⟨fun C ρ ft a w K Q ht iw hm hv hK=>?_,uC.len _ _ _ h,fun _=>uC.lit _ _ _ h⟩
    obtain⟨h1,h2⟩:=ew ht hf;obtain⟨h3,h4⟩:=E0 ht Ed;simp only[bW,nS v wq] at h1;obtain⟨fn,g1,g2,g3⟩:=uC.known;have hargs:args.map a.eval=(vs.map (bW ρ)).toArray:=by
     apply qu;rw[mj,h3]
    have hr:(W1 fun Q=>method (Q.types.size+P7) t v name).run P w=.ok (g,u) w:=Mh _ hme w
    have uX:(method (P.types.size+P7) t v name).run P w=.ok (g,u) w:=hr;have nR:(execOp a.eval o).run P w=.ok (.enter g ((u::vs).map (bW ρ)).toArray) w:=by
     simp only[execOp,ho,resolve,h1,dz,dX,cA,invoke,hargs];have e0:(#[Gt t v]++(vs.map (bW ρ)).toArray)[0]?=aa (Gt t v):=by simp
     have e1:(#[Gt t v]++(vs.map (bW ρ)).toArray).extract 1 (#[Gt t v]++(vs.map (bW ρ)).toArray).size=(vs.map (bW ρ)).toArray:=by
      apply qu;simp only[IJ,Array.toList_append,Array.size_append,Di,List.length_map];simp[List.take_of_length_le]
     simp only[e0,e1,callMethod,dz,run_program,cA,uX,callFunc,g1,g2,g3,fu,if_false,dX]
     congr 2
     simp[nS u hu]
    have Yt:=uC.run _ _ _ hb h C ρ ft w hm hv (by simp only[ix,aL];exact⟨IE u hu,h4⟩)
    unfold RA;rw[nR,P6];refine Yt.mono fun e w' ⟨gv,ks,q1,q2,q3⟩=>?_
    subst q2;exact hK gv ks w' q1 q3
   ·cases h
  ·cases h
 ·cases h
def AA (σ:SS R) (fn:Fn) (fi ca:List Operand):Option (Out R) :=
 match LV σ.tm fi,LV σ.tm ca with
 |some u,aa v=>aa (gq σ True (.func fn ⟨u⟩ ⟨v⟩) aj [])
 |_,_=>aj
theorem SG {σ:SS R} {o:Oper} {fn:Fn} {fi ca:Array Operand} {x:Out R} (ho:o.op=.makeFunc fn fi ca) (h:AA σ fn fi.toList ca.toList=aa x):lZ D P o σ x:=by
 unfold AA at h;split at h
 ·rename_i u v hu hv;injection h with h
  subst h;refine hU (fun C ρ ft a w ht iw hm _=>?_) (fun _ b hb=>by cases hb)
  obtain⟨h1,_⟩:=E0 ht hu;obtain⟨h2,_⟩:=E0 ht hv;have e1:fi.map a.eval=(u.map (bW ρ)).toArray:=by apply qu;rw[mj,h1]
  have e2:ca.map a.eval=(v.map (bW ρ)).toArray:=by apply qu;rw[mj,h2]
  simp only[execOp,ho,Instr.makeFunc,dz,dX,cA,e1,e2,bW,k_]
 ·cases h
def XT (op:BinOp) (u v:Option Value):Nat :=
 match u,v with
 |some (.int .i64 _),aa (.int .i64 _)=>match op with
  |.add|.sub|.mul|.quo|.rem=>1
  |_=>0
 |some (.string _),aa (.string _)=>match op with
  |.add=>2
  |_=>0
 |some (.pointer (aa _)),aa (.pointer (aa _))=>5
 |some (.pointer _),aa (.pointer _)|some (.slice _ _ _),aa (.slice _ _ _)|some (.func _ _ _),aa .nilFunc=>3
 |some (.agg _),aa (.agg _)=>4
 |_,_=>0
def ale (T:eK R):Bool:=match F4 T 1000000000 with
 |some c=>(c.when [] []).isSome
 |none=>ao
def ais:BinOp->Bool
 |.add=>aq
 |.sub=>aq
 |.mul=>aq
 |_=>ao
def Oz (T:eK R):Option (Option (SB R))->Bool
 |some (aa (.inl _))=>aq
 |some (aa (.inr (.inr (.inr _))))=>match F4 T 1000000000 with
  |some c=>(c.no [] []).isSome
  |none=>ao
 |_=>ao
def lJ:je R:=⟨fun _ _=>aa aq,fun _ _=>aj,fun _ _=>aj⟩
theorem iu:QB D (lJ:je R):=⟨(fun h=>by cases h),fun e X x p F w hx=>by cases hx⟩
theorem TZ (hT:cQ D P T) {C:Ctx} {ρ:Env} {ft:Nat->Nat->Prop} {h:Hp R} {w:World} {i:Nat} (hm:HM D C ρ ft h w) (ho:Oz T h[i]?=aq):ft i (ρ i).lB/\∃ ca ta,w.heap[(ρ i).lB]?=aa (.cells ca ta (0,0)):=by
 unfold Oz at ho;split at ho
 ·rename_i x hx;obtain⟨t,cs⟩:=x;obtain⟨_,g2,g3⟩:=(hm.at_ i _ hx).1;exact⟨(g2 _).2 rfl,_,_,g3⟩
 ·rename_i X hx;split at ho
  ·rename_i c hc;exact(Vx hT hc).1 ho _ _ _ _ (hm.at_ i _ hx).1
  ·cases ho
 ·cases ho
def KZ (P:Program) (T:eK R) (σ:SS R) (o:Oper) (op:BinOp) (t:TypeId) (y z:Operand):Option (Out R) :=
 match XT op (ev σ.tm y) (ev σ.tm z) with
 |1=>if ale T&&ais op then uj P σ o else OM σ op y z
 |2=>match op with
  |.add=>Pd σ y z
  |_=>aj
 |3=>match op with
  |.eql=>zt P σ ao t y z
  |.neq=>zt P σ aq t y z
  |_=>aj
 |4=>match op with
  |.eql=>zJ P σ ao t y z
  |.neq=>zJ P σ aq t y z
  |_=>aj
 |5=>match op with
  |.eql=>zX P σ (Oz T) ao t y z
  |.neq=>zX P σ (Oz T) aq t y z
  |_=>aj
 |_=>uj P σ o
theorem ac7 (hT:cQ D P T) {σ:SS R} {o:Oper} {op:BinOp} {t t':TypeId} {y z:Operand} {x:Out R} (ho:o.op=.binOp op t y z t') (h:KZ P T σ o op t y z=aa x):lZ D P o σ x:=by
 unfold KZ at h;split at h
 ·split at h
  ·exact wW h
  ·exact ac1 ho h
 ·split at h
  ·exact adx ho h
  ·cases h
 ·split at h
  ·exact Pm (neg:=ao) ho h
  ·exact Pm (neg:=aq) ho h
  ·cases h
 ·split at h
  ·exact Ol (neg:=ao) ho h
  ·exact Ol (neg:=aq) ho h
  ·cases h
 ·split at h
  ·exact Pq (fun hm ho=>TZ hT hm ho) (neg:=ao) ho h
  ·exact Pq (fun hm ho=>TZ hT hm ho) (neg:=aq) ho h
  ·cases h
 ·exact wW h
def isNil:Option Value->Bool
 |some (.slice aj 0 0)=>aq
 |_=>ao
def wZ (P:Program) (σ:SS R) (t:TypeId) (y:Operand):Option (Out R) :=
 if isNil (ev σ.tm y) then
  match vm P σ t with
  |some x=>aa x
  |none=>vR σ y
 else vR σ y
theorem L9 {σ:SS R} {o:Oper} {t:TypeId} {y:Operand} {x:Out R} (ho:o.op=.move y∨o.op=.assign y) (h:wZ P σ t y=aa x):lZ D P o σ x:=by
 unfold wZ at h;split at h
 ·rename_i hn;have hv:ev σ.tm y=aa (.slice aj 0 0):=by
   unfold isNil at hn;split at hn
   ·assumption
   ·cases hn
  split at h
  ·rename_i x' hx;injection h with h
   subst h;exact SI (n:=0) (c:=0) ho hv hx
  ·exact Sg ho h
 ·exact Sg ho h
def isStr:Option Value->Bool
 |some (.string _)=>aq
 |_=>ao
def ak5:Option Value->Bool
 |some (.pointer (aa _))=>aq
 |_=>ao
def agZ:Option Value->Bool
 |some (.slice (aa ⟨_,_,aj⟩) _ _)=>aq
 |_=>ao
def amj:Option Value->Bool
 |some (.slice (aa _) _ _)=>aq
 |_=>ao
def DL (P:Program) (T:eK R) (σ:SS R) (t:TypeId) (y:Operand):Option (Out R) :=
 match AI P σ t y with
 |some x=>aa x
 |none =>
  match ev σ.tm y with
  |some (.pointer (aa ⟨i,e,aj⟩)) =>
   match σ.hp[i]? with
   |some (aa (.inr (.inr (.inr X)))) =>
    match B9 P t,F4 T 1000000000 with
    |some aj,aa c=>match c.yes [.pointer (aa ⟨0,e,aj⟩)] [aa (.inr (.inr (.inr X)))] with
     |some x=>aa (gq σ True x.v aj [(i,e+1)])
     |none=>aj
    |_,_=>aj
   |_=>aj
  |_=>aj
theorem Zn (hT:cQ D P T) {σ:SS R} {o:Oper} {t:TypeId} {y:Operand} {x:Out R} (ho:o.op=.load t y) (h:DL P T σ t y=aa x):lZ D P o σ x:=by
 unfold DL at h;split at h
 ·rename_i x' hx;injection h with h
  subst h;exact Sq ho hx
 ·split at h
  ·rename_i i e ha;split at h
   ·rename_i X hX;split at h
    ·rename_i c hg hc;split at h
     ·rename_i x' hx;injection h with h
      subst h;refine hU (fun C ρ ft ac w ht iw hm _=>?_) (fun iw c hc=>by cases hc)
      have h1:=(ew ht ha).1;simp only[bW,iE,cellOf] at h1;obtain⟨q1,q2⟩:=(Vx hT hc).2 e X x' _ _ w hx (hm.at_ i _ hX).1;simp[execOp,ho,h1,A6,oH,Cd hg q2,nS _ q1]
     ·cases h
    ·cases h
   ·cases h
  ·cases h
def Mp (P:Program) (T:eK R) (σ:SS R) (o:Oper) (rW:Bool):Option (Out R) :=
 match o with
 |⟨dst,op,ty,pos,after,guard⟩ =>
 match op with
 |.move y=>wZ P σ ty y
 |.assign y=>wZ P σ ty y
 |.pick c y z=>Hm σ c y z
 |.alloc t=>DT P σ t
 |.box t y=>KU σ t y
 |.build t ⟨ps⟩=>DF P σ t ps
 |.buildSlice t n ⟨ps⟩=>match uI P σ t n ps with
  |some x=>aa x
  |none=>uE P σ t n ps
 |.load t y=>DL P T σ t y
 |.store t y z=>match dst with
  |none=>DM P σ t y z
  |some _=>aj
 |.nilCheck y=>Lq σ y
 |.binOp b t y z u=>KZ P T σ ⟨dst,.binOp b t y z u,ty,pos,after,guard⟩ b t y z
 |.unOp u t y=>match u with
  |.not=>Lo σ y
  |_=>uj P σ ⟨dst,.unOp u t y,ty,pos,after,guard⟩
 |.slice t y lo hi mx=>G_ P σ t y lo hi mx
 |.fieldAddr t y k=>v9 P σ t y k
 |.field t y k=>DQ P σ t y k
 |.indexAddr t y z=>if ak5 (ev σ.tm y) then AG P σ t y z else if agZ (ev σ.tm y) then wN P σ t y z else yx P σ t y z
 |.index t y z=>if isStr (ev σ.tm y) then Ak P σ t y z else uj P σ ⟨dst,.index t y z,ty,pos,after,guard⟩
 |.extract y k=>zH σ y k
 |.makeSlice t y z=>yv P σ t y z
 |.call ⟨callee,⟨args⟩,⟨ts⟩⟩ =>
  match callee with
  |.value f=>EO T σ f args rW
  |.builtin b =>
   match b,args,ts with
   |.append,[y,z],[t,t2]=>yX P σ t t2 y z
   |.len,[y],[t]=>if amj (ev σ.tm y) then Lf P σ t y else uj P σ ⟨dst,.call ⟨.builtin .len,⟨[y]⟩,⟨[t]⟩⟩,ty,pos,after,guard⟩
   |b,args,ts=>uj P σ ⟨dst,.call ⟨.builtin b,⟨args⟩,⟨ts⟩⟩,ty,pos,after,guard⟩
  |.invoke r name=>yL P T σ r name args rW
 |.makeFunc fn ⟨fi⟩ ⟨ca⟩=>AA σ fn fi ca
 |op=>uj P σ ⟨dst,op,ty,pos,after,guard⟩
def Hk (P:Program) (T:eK R) (σ:SS R) (o:Oper):Option Bool :=
 match o with
 |⟨_,.call ⟨.value f,⟨args⟩,_⟩,_,_,_,_⟩=>ML T σ f args
 |⟨_,.call ⟨.invoke r name,⟨args⟩,_⟩,_,_,_,_⟩=>Ix P T σ r name args
 |_=>aj
theorem TE (hT:cQ D P T) {σ:SS R} {o:Oper} {x:Out R} {b:Bool} (hb:goes (Hk P T σ o) b) (h:Mp P T σ o b=aa x):lZ D P o σ x:=by
 obtain⟨dst,op,ty,pos,after,guard⟩:=o;unfold Mp at h;simp only at h;split at h
 ·exact L9 (dN rfl) h
 ·exact L9 (eY rfl) h
 ·exact abr rfl h
 ·exact YP rfl h
 ·exact ad5 rfl h
 ·rename_i t ps;exact Y5 (parts:=⟨ps⟩) rfl h
 ·rename_i t n ps;(split at h;{ rename_i x' hx;injection h with h;subst h;exact O' (parts:=⟨ps⟩) rfl hx };{ exact PA (parts:=⟨ps⟩) rfl h })
 ·exact Zn hT rfl h
 ·split at h
  ·exact Yw rfl rfl h
  ·cases h
 ·exact adT rfl h
 ·exact ac7 hT rfl h
 ·split at h
  ·exact ac4 rfl h
  ·exact wW h
 ·exact YO rfl h
 ·exact QM rfl h
 ·exact ZL rfl h
 ·split at h
  ·exact SO rfl h
  ·split at h
   ·exact OB rfl h
   ·exact Rc rfl h
 ·split at h
  ·exact SF rfl h
  ·exact wW h
 ·exact T5 rfl h
 ·exact Rm rfl h
 ·rename_i callee args ts;split at h
  ·exact abj hT (args:=⟨args⟩) rfl hb h
  ·split at h
   ·exact Wu rfl h
   ·split at h
    ·exact adj rfl h
    ·exact wW h
   ·exact wW h
  ·exact Wz hT (args:=⟨args⟩) rfl hb h
 ·exact SG (fi:=⟨_⟩) (ca:=⟨_⟩) rfl h
 ·exact wW h
def xZ (σ:SS R) (d:Option Tmp) (v:Value) (lit:Option Bool) (hp:Hp R):SS R :=
 match d with
 |none=>⟨σ.tm,σ.li,hp⟩
 |some t=>⟨σ.tm.set t (aa v),(match lit with
  |some b=>[(t,b)]
  |none=>[])++σ.li.filter (fun p=>!fo p.1 t),hp⟩
structure M (D:fK R) (C:Ctx) (σ:SS R) (a:Act) (w:World):Prop where
 defers:a.defers=[]
 li:LI σ.li σ.tm
 ex:∃ ρ ft,(∀ i,i<C.n0->ρ i=C.e0 i)/\TM ρ σ.hp.length σ.tm a/\HM D C ρ ft σ.hp w
theorem GX (σ:SS R) (d:Option Tmp) (v:Value) (lit:Option Bool) (hp:Hp R):(xZ σ d v lit hp).hp=hp:=by cases d<;>rfl
theorem Xq {σ:SS R} {d:Option Tmp} {v:Value} {lit:Option Bool} {hp:Hp R} (hl:LI σ.li σ.tm) (hv:∀ b,lit=aa b->v=.bool b) (hd:∀ t,d=aa t->lit≠aj->t<σ.tm.length):LI (xZ σ d v lit hp).li (xZ σ d v lit hp).tm:=by
 cases d with
 |none=>exact hl
 |some t =>
  intro u b hu;simp only[xZ] at hu ⊢;rcases b9.1 hu with hu|hu
  ·cases lit with
   |none=>simp at hu
   |some c =>
    simp only[List.mem_singleton,Prod.mk.injEq] at hu;obtain⟨rfl,rfl⟩:=hu;rw[hv _ rfl,jS (hd _ rfl (by simp))]
  ·obtain⟨h1,h2⟩:=pa.1 hu;have kt:u≠t:=fun e=>by subst e;simp at h2
   rw[kr (fun e=>kt e.symm)]
   exact hl u b h1
theorem XR {σ:SS R} {d:Option Tmp} {v:Value} {lit:Option Bool} {hp:Hp R} {a:Act} {gv:Env} (ht:TM ρ σ.hp.length σ.tm a) (qF:∀ i,i<σ.hp.length->gv i=ρ i) (hlen:σ.hp.length≤hp.length) (hi:fp hp.length v=aq) :
  TM gv (xZ σ d v lit hp).hp.length (xZ σ d v lit hp).tm (a.put d (bW gv v)):=by
 have old:∀ (t:Nat) (u:Value),σ.tm[t]?=aa (aa u)->a.tmps[t]?=aa (bW gv u)/\fp hp.length u=aq:=fun t u hu=>by
  obtain⟨h1,h2⟩:=ht.val t u hu;exact⟨by rw[h1,na (n:=σ.hp.length) (fun i hi=>(qF i hi)) u h2],Bp hlen u h2⟩
 rw[GX];cases d with
 |none=>exact⟨ht.size,old⟩
 |some t =>
  refine⟨by simp[xZ,B3,ht.size],fun u x hx=>?_⟩
  simp only[xZ,B3] at hx ⊢
  by_cases he:t=u
  ·subst he;have hl:t<σ.tm.length:=by have:=(aU.1 hx).1;simpa using this
   rw[jS hl] at hx;injection hx with hx;injection hx with hx
   subst hx;rw[uK];simp[ht.size,hl,hi]
  ·rw[kr he] at hx;rw[Array.getElem?_setIfInBounds_ne he];exact old u x hx
def tidy (σ:SS R) (d:Option Tmp) (x:Out R):Bool :=
 fp x.hp.length x.v&&(match d with
  |some t=>(match x.lit with
   |some _=>gU t σ.tm.length
   |none=>aq)
  |none=>aq)
theorem M.step {σ:SS R} {o:Oper} {x:Out R} {a:Act} {K:Act->World->Prop} {Q:Exit->Act->World->Prop} (hm:M D C σ a w) (ho:lZ D P o σ x) (ht:tidy σ o.dst x=aq) (hv:x.vc)
  (hK:∀ a' w',M D C (xZ σ o.dst x.v x.lit x.hp) a' w'->K a' w') (hn:C.n0≤σ.hp.length):o.wp P a w K Q:=by
 obtain⟨ρ,ft,h0,h1,h2⟩:=hm.ex;simp only[tidy,aL] at ht;refine ho.run C ρ ft a w K Q h1 hm.li h2 hv fun gv ks w' qF mE=>hK _ _ ⟨?_,Xq hm.li (ho.lit hm.li) ?_,gv,ks,fun i hi=>(qF i (by omega)).trans (h0 i hi),XR h1 qF ho.len ht.1,by rw[GX];exact mE⟩
 ·cases o.dst<;>exact hm.defers
 ·intro t hd hl;have h3:=ht.2;rw[hd] at h3;simp only at h3;cases hx:x.lit with
  |none=>exact absurd hx hl
  |some b=>rw[hx] at h3;simpa [fa] using h3
theorem M.undef {σ:SS R} {d:Option Tmp} {a:Act} (hm:M D C σ a w):M D C (xZ σ d undef aj σ.hp) (a.put d undef) w:=by
 obtain⟨ρ,ft,h0,h1,h2⟩:=hm.ex;have hu:bW ρ vq=vq:=by simp[vq,bW,nz]
 refine⟨?_,Xq hm.li (fun b hb=>by cases hb) (fun t _ h=>absurd rfl h),ρ,ft,h0,?_,by rw[GX];exact h2⟩
 ·cases d<;>exact hm.defers
 ·have:=XR (d:=d) (v:=vq) (lit:=aj) (hp:=σ.hp) h1 (fun _ _=>rfl) (bc _) (by simp[vq,fp,ix])
  rw[hu] at this;exact this
def assume (σ:SS R) (t:Nat) (b:Bool):SS R:=⟨σ.tm.set t (aa (.bool b)),(t,b)::σ.li.filter (fun p=>!fo p.1 t),σ.hp⟩
theorem M.assume {σ:SS R} {a:Act} {t:Nat} {b:Bool} (hm:M D C σ a w) (ht:σ.tm[t]?=aa (aa (.bool b))):M D C (Rx.assume σ t b) a w:=by
 have hl:t<σ.tm.length:=(aU.1 ht).1;have hs:σ.tm.set t (aa (.bool b))=σ.tm:=by
  apply nU;intro u
  by_cases he:t=u
  ·subst he;rw[jS hl,ht]
  ·rw[kr he]
 obtain⟨ρ,ft,h0,h1,h2⟩:=hm.ex;refine⟨hm.defers,?_,ρ,ft,h0,?_,h2⟩
 ·intro u c hu;simp only[Rx.assume] at hu ⊢;rw[hs];rcases bR.1 hu with hu|hu
  ·injection hu with e1 e2
   subst e1;subst e2;exact ht
  ·exact hm.li u c (pa.1 hu).1
 ·simp only[Rx.assume];rw[hs];exact h1
end
end Rx
namespace Rx
inductive Tr
 |leaf (i:Nat)
 |node (c:Nat) (l r:Tr)
def fT {β:Sort _}:Tr->Nat->(Nat->β)->β
 |.leaf i,n,k=>match fo n i with
  |true=>k i
  |false=>k n
 |.node c l r,n,k=>match gU n c with
  |true=>fT l n k
  |false=>fT r n k
theorem akL {β:Sort _} (t:Tr) (n:Nat) (k:Nat->β):fT t n k=k n:=by
 induction t with
 |leaf i =>
  simp only[fT];split
  ·rename_i h;rw[cR h]
  ·rfl
 |node c l r hl hr =>
  simp only[fT];split
  ·exact hl
  ·exact hr
def trs:Tr:=(.node 64 (.node 32 (.node 16 (.node 8 (.node 4 (.node 2 (.node 1 (.leaf 0) (.leaf 1)) (.node 3 (.leaf 2) (.leaf 3))) (.node 6 (.node 5 (.leaf 4) (.leaf 5)) (.node 7 (.leaf 6) (.leaf 7)))) (.node 12 (.node 10 (.node 9 (.leaf 8) (.leaf 9)) (.node 11 (.leaf 10) (.leaf 11))) (.node 14 (.node 13 (.leaf 12) (.leaf 13)) (.node 15 (.leaf 14) (.leaf 15))))) (.node 24 (.node 20 (.node 18 (.node 17 (.leaf 16) (.leaf 17)) (.node 19 (.leaf 18) (.leaf 19))) (.node 22 (.node 21 (.leaf 20) (.leaf 21)) (.node 23 (.leaf 22) (.leaf 23)))) (.node 28 (.node 26 (.node 25 (.leaf 24) (.leaf 25)) (.node 27 (.leaf 26) (.leaf 27))) (.node 30 (.node 29 (.leaf 28) (.leaf 29)) (.node 31 (.leaf 30) (.leaf 31)))))) (.node 48 (.node 40 (.node 36 (.node 34 (.node 33 (.leaf 32) (.leaf 33)) (.node 35 (.leaf 34) (.leaf 35))) (.node 38 (.node 37 (.leaf 36) (.leaf 37)) (.node 39 (.leaf 38) (.leaf 39)))) (.node 44 (.node 42 (.node 41 (.leaf 40) (.leaf 41)) (.node 43 (.leaf 42) (.leaf 43))) (.node 46 (.node 45 (.leaf 44) (.leaf 45)) (.node 47 (.leaf 46) (.leaf 47))))) (.node 56 (.node 52 (.node 50 (.node 49 (.leaf 48) (.leaf 49)) (.node 51 (.leaf 50) (.leaf 51))) (.node 54 (.node 53 (.leaf 52) (.leaf 53)) (.node 55 (.leaf 54) (.leaf 55)))) (.node 60 (.node 58 (.node 57 (.leaf 56) (.leaf 57)) (.node 59 (.leaf 58) (.leaf 59))) (.node 62 (.node 61 (.leaf 60) (.leaf 61)) (.node 63 (.leaf 62) (.leaf 63))))))) (.node 96 (.node 80 (.node 72 (.node 68 (.node 66 (.node 65 (.leaf 64) (.leaf 65)) (.node 67 (.leaf 66) (.leaf 67))) (.node 70 (.node 69 (.leaf 68) (.leaf 69)) (.node 71 (.leaf 70) (.leaf 71)))) (.node 76 (.node 74 (.node 73 (.leaf 72) (.leaf 73)) (.node 75 (.leaf 74) (.leaf 75))) (.node 78 (.node 77 (.leaf 76) (.leaf 77)) (.node 79 (.leaf 78) (.leaf 79))))) (.node 88 (.node 84 (.node 82 (.node 81 (.leaf 80) (.leaf 81)) (.node 83 (.leaf 82) (.leaf 83))) (.node 86 (.node 85 (.leaf 84) (.leaf 85)) (.node 87 (.leaf 86) (.leaf 87)))) (.node 92 (.node 90 (.node 89 (.leaf 88) (.leaf 89)) (.node 91 (.leaf 90) (.leaf 91))) (.node 94 (.node 93 (.leaf 92) (.leaf 93)) (.node 95 (.leaf 94) (.leaf 95)))))) (.node 112 (.node 104 (.node 100 (.node 98 (.node 97 (.leaf 96) (.leaf 97)) (.node 99 (.leaf 98) (.leaf 99))) (.node 102 (.node 101 (.leaf 100) (.leaf 101)) (.node 103 (.leaf 102) (.leaf 103)))) (.node 108 (.node 106 (.node 105 (.leaf 104) (.leaf 105)) (.node 107 (.leaf 106) (.leaf 107))) (.node 110 (.node 109 (.leaf 108) (.leaf 109)) (.node 111 (.leaf 110) (.leaf 111))))) (.node 120 (.node 116 (.node 114 (.node 113 (.leaf 112) (.leaf 113)) (.node 115 (.leaf 114) (.leaf 115))) (.node 118 (.node 117 (.leaf 116) (.leaf 117)) (.node 119 (.leaf 118) (.leaf 119)))) (.node 124 (.node 122 (.node 121 (.leaf 120) (.leaf 121)) (.node 123 (.leaf 122) (.leaf 123))) (.node 126 (.node 125 (.leaf 124) (.leaf 125)) (.node 127 (.leaf 126) (.leaf 127))))))))
def fN {β:Sort _} (n:Nat) (k:Nat->β):β:=fT trs n k
theorem Io {β:Sort _} (n:Nat) (k:Nat->β):fN n k=k n:=akL _ _ _
def fB {β:Sort _} (b:Bool) (k:Bool->β):β :=
 match b with
 |true=>k aq
 |false=>k ao
theorem afg {β:Sort _} (b:Bool) (k:Bool->β):fB b k=k b:=by cases b<;>rfl
def fQ {β:Sort _} (q:Nat) (k:Nat->β):β :=
 fN (q%1000) fun f=>fN (q%1000000 / 1000) fun s=>fN (q / 1000000) fun t=>k (f+(1000*s+1000000*t))
theorem akI {β:Sort _} (q:Nat) (k:Nat->β):fQ q k=k q:=by
 unfold fQ;rw[Io,Io,Io]
 congr 1
 omega
def fA {β:Sort _} (a:Addr) (k:Addr->β):β :=
 match a with
 |⟨b,o,aj⟩=>fN b fun b=>k ⟨b,o,aj⟩
 |⟨b,o,aa q⟩=>fN b fun b=>fQ q fun q=>k ⟨b,o,aa q⟩
theorem akX {β:Sort _} (a:Addr) (k:Addr->β):fA a k=k a:=by
 obtain⟨b,o,s⟩:=a;cases s with
 |none=>simp only[fA,Io]
 |some q=>simp only[fA,Io,akI]
def fV0 {β:Sort _} (v:Value) (k:Value->β):β :=
 match v with
 |.pointer (aa a)=>fA a fun a=>k (.pointer (aa a))
 |.slice (aa a) n c=>fA a fun a=>k (.slice (aa a) n c)
 |.slice aj n c=>k (.slice aj n c)
 |.pointer aj=>k (.pointer aj)
 |.int t n=>k (.int t n)
 |.bool b=>k (.bool b)
 |.string s=>k (.string s)
 |v=>k v
theorem aao {β:Sort _} (v:Value) (k:Value->β):fV0 v k=k v:=by
 unfold fV0;split<;>simp only[akX]
def W6 {β:Sort _}:List Value->(List Value->β)->β
 |[],k=>k []
 |v::l,k=>fV0 v fun v=>W6 l fun l=>k (v::l)
theorem VC {β:Sort _} (l:List Value) (k:List Value->β):W6 l k=k l:=by
 induction l generalizing k with
 |nil=>rfl
 |cons v l ih=>simp only[W6,aao,ih]
def fV {β:Sort _} (v:Value) (k:Value->β):β :=
 match v with
 |.agg ⟨l⟩=>W6 l fun l=>k (.agg ⟨l⟩)
 |.tuple ⟨l⟩=>W6 l fun l=>k (.tuple ⟨l⟩)
 |v=>fV0 v k
theorem Y1 {β:Sort _} (v:Value) (k:Value->β):fV v k=k v:=by
 unfold fV;split
 ·rw[VC]
 ·rw[VC]
 ·rw[aao]
def fVl {β:Sort _}:List Value->(List Value->β)->β
 |[],k=>k []
 |v::l,k=>fV v fun v=>fVl l fun l=>k (v::l)
theorem akb {β:Sort _} (l:List Value) (k:List Value->β):fVl l k=k l:=by
 induction l generalizing k with
 |nil=>rfl
 |cons v l ih=>simp only[fVl,Y1,ih]
def XW {β:Sort _}:List (Option Value)->(List (Option Value)->β)->β
 |[],k=>k []
 |none::l,k=>XW l fun l=>k (aj::l)
 |some v::l,k=>fV v fun v=>XW l fun l=>k (aa v::l)
theorem aaj {β:Sort _} (l:List (Option Value)) (k:List (Option Value)->β):XW l k=k l:=by
 induction l generalizing k with
 |nil=>rfl
 |cons v l ih=>cases v<;>simp only[XW,Y1,ih]
def fLi {β:Sort _}:List (Nat×Bool)->(List (Nat×Bool)->β)->β
 |[],k=>k []
 |(t,b)::l,k=>fB b fun b=>fLi l fun l=>k ((t,b)::l)
theorem abS {β:Sort _} (l:List (Nat×Bool)) (k:List (Nat×Bool)->β):fLi l k=k l:=by
 induction l generalizing k with
 |nil=>rfl
 |cons v l ih=>obtain⟨t,b⟩:=v;simp only[fLi,afg,ih]
def UT {β:Sort _}:List Nat->(List Nat->β)->β
 |[],k=>k []
 |n::l,k=>fN n fun n=>UT l fun l=>k (n::l)
theorem VR {β:Sort _} (l:List Nat) (k:List Nat->β):UT l k=k l:=by
 induction l generalizing k with
 |nil=>rfl
 |cons v l ih=>simp only[UT,Io,ih]
def fCs {β:Sort _}:List aT->(List aT->β)->β
 |[],k=>k []
 |⟨i,b,s⟩::l,k=>fCs l fun l=>k (⟨i,b,s⟩::l)
theorem ajh {β:Sort _} (l:List aT) (k:List aT->β):fCs l k=k l:=by
 induction l generalizing k with
 |nil=>rfl
 |cons v l ih=>obtain⟨i,b,s⟩:=v;simp only[fCs,ih]
def Y8 {β:Sort _} (r:Row) (k:Row->β):β :=
 match r with
 |⟨tm,n,cs⟩=>W6 tm fun tm=>fCs cs fun cs=>k ⟨tm,n,cs⟩
theorem ahj {β:Sort _} (r:Row) (k:Row->β):Y8 r k=k r:=by
 obtain⟨tm,n,cs⟩:=r;simp only[Y8,VC,ajh]
section
variable {R:Type}
def fSB {β:Sort _} (b:SB R) (k:SB R->β):β :=
 match b with
 |.inl (t,cs)=>fN t fun t=>fVl cs fun cs=>k (.inl (t,cs))
 |.inr (.inl (t,r))=>fN t fun t=>Y8 r fun r=>k (.inr (.inl (t,r)))
 |.inr (.inr (.inl r))=>Y8 r fun r=>k (.inr (.inr (.inl r)))
 |.inr (.inr (.inr x))=>k (.inr (.inr (.inr x)))
theorem ahN {β:Sort _} (b:SB R) (k:SB R->β):fSB b k=k b:=by
 rcases b with⟨t,cs⟩|⟨t,r⟩|r|x<;>simp only[fSB,akb,ahj,Io]
def L7 {β:Sort _}:Hp R->(Hp R->β)->β
 |[],k=>k []
 |none::l,k=>L7 l fun l=>k (aj::l)
 |some b::l,k=>fSB b fun b=>L7 l fun l=>k (aa b::l)
theorem Kj {β:Sort _} (l:Hp R) (k:Hp R->β):L7 l k=k l:=by
 induction l generalizing k with
 |nil=>rfl
 |cons v l ih=>cases v<;>simp only[L7,ahN,ih]
def I6 {β:Sort _} (σ:SS R) (k:SS R->β):β :=
 match σ with
 |⟨tm,li,hp⟩=>XW tm fun tm=>fLi li fun li=>L7 hp fun hp=>k ⟨tm,li,hp⟩
theorem JP {β:Sort _} (σ:SS R) (k:SS R->β):I6 σ k=k σ:=by
 obtain⟨tm,li,hp⟩:=σ;simp only[I6,aaj,abS,Kj]
end
end Rx
namespace Rx
open Go.RowKit State
section
variable {R:Type} {D:fK R} {P:Program} {T:eK R} {C:Ctx} {w w':World}
def YQ (σ:SS R) (o:Oper):Bool :=
 match o with
 |⟨dst,op,ty,pos,after,guard⟩ =>
 match op with
 |.move _|.assign _|.pick _ _ _|.alloc _|.box _ _|.build _ _|.buildSlice _ _ _|.nilCheck _|.unOp _ _ _|.fieldAddr _ _ _|.field _ _ _|.extract _ _=>aq
 |.load _ y|.store _ y _=>match ev σ.tm y with
  |some (.pointer (aa ⟨_,_,aj⟩))=>aq
  |_=>ao
 |.binOp op _ y z _=>match XT op (ev σ.tm y) (ev σ.tm z) with
  |1=>ao
  |2=>ao
  |_=>aq
 |.call ⟨.builtin b,_,_⟩=>match b with
  |.append=>ao
  |_=>aq
 |_=>ao
theorem F_ {σ:SS R} {o:Oper} {x:Out R} (h:uj P σ o=aa x):x.vc:=by
 unfold uj at h;split at h
 ·split at h
  ·split at h
   ·injection h with h;subst h;trivial
   ·cases h
  ·cases h
 ·cases h
theorem zk {σ:SS R} {y:Operand} {x:Out R} (h:vR σ y=aa x):x.vc:=by
 unfold vR at h;split at h
 ·injection h with h;subst h;trivial
 ·cases h
theorem LP {σ:SS R} {t:TypeId} {cs:List Value} {x:Out R} (h:wL σ t cs=aa x):x.vc:=by
 unfold wL at h;injection h with h;subst h;trivial
theorem Jc {σ:SS R} {t:TypeId} {x:Out R} (h:vm P σ t=aa x):x.vc:=by
 unfold vm at h;split at h
 ·split at h
  ·injection h with h;subst h;trivial
  ·cases h
 ·cases h
theorem XL {σ:SS R} {o:Oper} {x:Out R} {rW:Bool} (h:Mp P T σ o rW=aa x) (he:YQ σ o=aq):x.vc:=by
 obtain⟨dst,op,ty,pos,after,guard⟩:=o;unfold Mp at h;unfold YQ at he;cases op<;>simp only at h he<;>try (cases he)
 case move y =>
  unfold wZ at h;split at h
  ·split at h
   ·rename_i hx;injection h with h;subst h;exact Jc hx
   ·exact zk h
  ·exact zk h
 case assign y =>
  unfold wZ at h;split at h
  ·split at h
   ·rename_i hx;injection h with h;subst h;exact Jc hx
   ·exact zk h
  ·exact zk h
 case pick c y z =>
  unfold Hm at h;split at h
  ·exact zk h
  ·exact zk h
  ·split at h
   ·injection h with h;subst h;trivial
   ·cases h
 case alloc t =>
  unfold DT at h;split at h
  ·split at h
   ·split at h
    ·exact LP h
    ·cases h
   ·cases h
  ·cases h
 case box t y =>
  unfold KU at h;split at h
  ·exact LP h
  ·cases h
 case build t ps =>
  obtain⟨ps⟩:=ps;simp only at h;unfold DF at h;split at h
  ·split at h
   ·split at h
    ·split at h
     ·injection h with h;subst h;trivial
     ·cases h
    ·cases h
   ·cases h
  ·split at h
   ·split at h
    ·split at h
     ·injection h with h;subst h;trivial
     ·cases h
    ·cases h
   ·cases h
  ·cases h
 case buildSlice t n ps =>
  obtain⟨ps⟩:=ps;simp only at h;split at h
  ·rename_i hx;injection h with h
   subst h;unfold uI at hx;split at hx
   ·split at hx
    ·split at hx
     ·split at hx
      ·injection hx with hx;subst hx;trivial
      ·cases hx
     ·cases hx
    ·cases hx
   ·cases hx
  ·unfold uE at h
   repeat' split at h
   all_goals first
    |(injection h with h;subst h;trivial)
    |cases h
 case load t y =>
  split at he
  ·rename_i i e hy;unfold DL at h;rw[hy] at h;simp only at h;split at h
   ·rename_i x' h';injection h with h
    subst h;unfold AI at h';rw[hy] at h';simp only at h';split at h'
    ·split at h'
     ·split at h'
      ·injection h' with h';subst h';trivial
      ·cases h'
     ·split at h'
      ·injection h' with h';subst h';trivial
      ·cases h'
     ·cases h'
    ·cases h'
   ·repeat' split at h
    all_goals first
     |(injection h with h;subst h;trivial)
     |cases h
  ·cases he
 case store t y z =>
  split at he
  ·rename_i i e hy;split at h
   ·unfold DM at h;rw[hy] at h;cases hz:ev σ.tm z with
    |none=>rw[hz] at h;cases h
    |some v =>
     rw[hz] at h;simp only at h;split at h
     ·split at h
      ·injection h with h;subst h;trivial
      ·cases h
     ·cases h
   ·cases h
  ·cases he
 case nilCheck y =>
  unfold Lq at h;split at h
  ·injection h with h;subst h;trivial
  ·injection h with h;subst h;trivial
  ·cases h
 case binOp b t y z u =>
  unfold KZ at h;split at he
  ·cases he
  ·cases he
  ·rename_i n1 n2;split at h
   ·rename_i hk;exact absurd hk n1
   ·rename_i hk;exact absurd hk n2
   ·have key:∀ neg,zt P σ neg t y z=aa x->x.vc:=fun neg h=>by
     unfold zt at h;split at h
     ·split at h
      ·injection h with h;subst h;trivial
      ·cases h
     ·cases h
    split at h
    ·exact key _ h
    ·exact key _ h
    ·cases h
   ·have key:∀ neg,zJ P σ neg t y z=aa x->x.vc:=fun neg h=>by
     unfold zJ at h;split at h
     ·split at h
      ·split at h
       ·split at h
        ·injection h with h;subst h;trivial
        ·cases h
       ·cases h
      ·cases h
     ·cases h
    split at h
    ·exact key _ h
    ·exact key _ h
    ·cases h
   ·have key:∀ neg,zX P σ (Oz T) neg t y z=aa x->x.vc:=fun neg h=>by
     unfold zX at h
     repeat' split at h
     all_goals first
      |(injection h with h;subst h;trivial)
      |cases h
    split at h
    ·exact key _ h
    ·exact key _ h
    ·cases h
   ·exact F_ h
 case unOp u t y =>
  split at h
  ·unfold Lo at h;split at h
   ·injection h with h;subst h;trivial
   ·cases h
  ·exact F_ h
 case fieldAddr t y k =>
  unfold v9 at h;split at h
  ·split at h
   ·split at h
    ·split at h
     ·split at h
      ·cases h
      ·split at h
       ·injection h with h;subst h;trivial
       ·split at h
        ·injection h with h;subst h;trivial
        ·cases h
     ·cases h
    ·cases h
   ·cases h
  ·cases h
 case field t y k =>
  unfold DQ at h;split at h
  ·split at h
   ·split at h
    ·split at h
     ·split at h
      ·injection h with h;subst h;trivial
      ·cases h
     ·injection h with h;subst h;trivial
     ·cases h
    ·cases h
   ·cases h
  ·cases h
 case extract y k =>
  unfold zH at h;split at h
  ·split at h
   ·injection h with h;subst h;trivial
   ·cases h
  ·cases h
 case call c =>
  obtain⟨callee,args,ts⟩:=c;obtain⟨args⟩:=args;obtain⟨ts⟩:=ts;cases callee<;>simp only at h he<;>try (cases he)
  rename_i b;split at h
  ·simp at he
  ·split at h
   ·unfold Lf at h;split at h
    ·injection h with h;subst h;trivial
    ·cases h
   ·exact F_ h
  ·exact F_ h
structure Vc (p:Prop):Prop where
 out:p
structure aY (p:Prop):Prop where
 out:p
def ZX (e:Bool) (p q:Prop):Prop :=
 match e with
 |true=>q
 |false=>Vc p/\q
structure od (why:Nat):Prop where
 out:False
theorem od.elim {n:Nat} {p:Prop} (h:od n):p:=h.out.elim
def Lc (v:Value):Bool :=
 match v with
 |.tuple ⟨[]⟩=>aq
 |_=>ao
theorem Pr {v:Value} (h:Lc v=aq):v=vq:=by
 unfold Lc at h;split at h
 ·rfl
 ·cases h
def Of (P:Program) (T:eK R) (σ:SS R) (o:Oper) (k:SS R->Prop) (rW:Bool):Prop :=
 match Mp P T σ o rW with
 |some x=>if tidy σ o.dst x then ZX (YQ σ o) x.vc (I6 (xZ σ o.dst x.v x.lit x.hp) k) else od 1
 |none=>od 2
def Ry (P:Program) (T:eK R) (σ:SS R) (o:Oper) (k:SS R->Prop):Prop :=
 match Hk P T σ o with
 |none=>Of P T σ o k aq
 |some b=>(b=aq->Of P T σ o k aq)/\(b=ao->Of P T σ o k ao)
def Lg (ops:List Oper) (j:Nat):Option Tmp :=
 match ops[j]? with
 |some o=>o.dst
 |none=>aj
def vL (P:Program) (T:eK R) (ops:List Oper):List Oper->SS R->(SS R->Prop)->Prop
 |[],σ,k=>k σ
 |o::r,σ,k =>
  match o.guard with
  |none=>Ry P T σ o fun nJ=>vL P T ops r nJ k
  |some (j,want) =>
   match Lg ops j with
   |none=>od 3
   |some t =>
    match look σ.li t with
    |some b=>if(b==want)=aq then Ry P T σ o fun nJ=>vL P T ops r nJ k else I6 (xZ σ o.dst undef aj σ.hp) fun σ=>vL P T ops r σ k
    |none =>
     match σ.tm[t]? with
     |some (aa (.bool b)) =>
      (b=want->I6 (assume σ t want) fun σ=>Ry P T σ o fun nJ=>vL P T ops r nJ k) /\
      (b = !want->I6 (xZ (assume σ t (!want)) o.dst undef aj σ.hp) fun σ=>vL P T ops r σ k)
     |some (aa v) =>
      match Lc v with
      |true=>I6 (xZ σ o.dst undef aj σ.hp) fun σ=>vL P T ops r σ k
      |false=>od 4
     |_=>od 4
theorem Zi {σ:SS R} {a:Act} {t:Nat} {b:Bool} (hm:M D C σ a w) (h:σ.tm[t]?=aa (aa (.bool b))):a.tmps[t]?=aa (.bool b):=by
 obtain⟨ρ,ft,_,h1,_⟩:=hm.ex;have:=(h1.val t _ h).1
 simpa using this
theorem HY {ops:List Oper} {j t:Nat} {a:Act} {b:Bool} (h:Lg ops j=aa t) (ha:a.tmps[t]?=aa (.bool b)):yielded ops.toArray a.tmps j=aa b:=by
 unfold Lg at h;unfold yielded;split at h
 ·rename_i o ho;simp[ho,h,ha]
 ·cases h
theorem YX {ops:List Oper} {σ:SS R} {j t:Nat} {a:Act} (hm:M D C σ a w) (h:Lg ops j=aa t) (ht:σ.tm[t]?=aa (aa undef)):yielded ops.toArray a.tmps j=aj:=by
 have ha:a.tmps[t]?=aa undef:=by
  obtain⟨ρ,ft,_,h1,_⟩:=hm.ex;have:=(h1.val t _ ht).1
  simpa [undef,bW,nz] using this
 unfold Lg at h;unfold yielded;split at h
 ·rename_i o ho;simp[ho,h,ha,undef]
 ·cases h
theorem afU (hT:cQ D P T) {σ:SS R} {o:Oper} {k:SS R->Prop} {a:Act} {K:Act->World->Prop} {Q:Exit->Act->World->Prop} (h:Ry P T σ o k) (hm:M D C σ a w) (hn:C.n0≤σ.hp.length)
  (hK:∀ nJ a' w',k nJ->σ.hp.length≤nJ.hp.length->M D C nJ a' w'->K a' w'):o.wp P a w K Q:=by
 have one:∀ b,goes (Hk P T σ o) b->Of P T σ o k b->o.wp P a w K Q:=by
  intro b hb h;unfold Of at h;split at h
  ·rename_i x hx;split at h
   ·rename_i ht;have uC:=TE hT hb hx;have:x.vc/\k (xZ σ o.dst x.v x.lit x.hp):=by
     rw[JP] at h;unfold ZX at h;split at h
     ·rename_i he;exact⟨XL hx he,h⟩
     ·exact⟨h.1.out,h.2⟩
    exact hm.step uC ht this.1 (fun a' w' mE=>hK _ a' w' this.2 (by rw[GX];exact uC.len) mE) hn
   ·exact h.elim
  ·exact h.elim
 unfold Ry at h;split at h
 ·rename_i hf;exact one aq (dN ⟨hf,rfl⟩) h
 ·rename_i b hf;cases b with
  |true=>exact one aq (eY hf) (h.1 rfl)
  |false=>exact one ao (eY hf) (h.2 rfl)
theorem FL (hT:cQ D P T) {ops:List Oper} {Q:Exit->Act->World->Prop}:∀ (rest:List Oper) {σ:SS R} {k:SS R->Prop} {a:Act} {w:World},vL P T ops rest σ k->M D C σ a w->C.n0≤σ.hp.length ->
  (∀ nJ a' w',k nJ->C.n0≤nJ.hp.length->M D C nJ a' w'->Q .normal a' w')->wpList P ops.toArray Q rest a w
 |[],σ,k,a,w,h,hm,hn,hK=>hK σ a w h hn hm
 |o::r,σ,k,a,w,h,hm,hn,hK=>by
  simp only[vL,JP] at h;have run:∀ {σ:SS R},kz o (yielded ops.toArray a.tmps)=aq->M D C σ a w->C.n0≤σ.hp.length->(Ry P T σ o fun nJ=>vL P T ops r nJ k)->wpList P ops.toArray Q (o::r) a w:=by
   intro σ hw hm hn h;unfold wpList;rw[if_pos hw];exact dN (afU hT h hm hn fun nJ a' w' h' Bf mE=>FL hT r h' mE (iY hn Bf) hK)
  have skip:∀ {σ:SS R},kz o (yielded ops.toArray a.tmps)=ao->M D C σ a w->C.n0≤σ.hp.length->vL P T ops r (xZ σ o.dst undef aj σ.hp) k->wpList P ops.toArray Q (o::r) a w:=by
   intro σ hw hm hn h;unfold wpList;rw[if_neg (by simp[hw])]
   exact FL hT r h hm.undef (by rw[GX];exact hn) hK
  split at h
  ·rename_i hg;exact run (by simp[kz,hg]) hm hn h
  ·rename_i j want hg;split at h
   ·exact h.elim
   ·rename_i t hd;split at h
    ·rename_i b hl;have hy:=HY hd (Zi hm (hm.li t b (Nv hl)));split at h
     ·rename_i hb;exact run (by simp[kz,hg,hy];simpa using hb) hm hn h
     ·rename_i hb;exact skip (by simp[kz,hg,hy];simpa using hb) hm hn h
    ·split at h
     ·rename_i b hb;have hy:=HY hd (Zi hm hb)
      by_cases he:b=want
      ·subst he;exact run (by simp[kz,hg,hy]) (hm.assume hb) (by simpa [assume] using hn) (h.1 rfl)
      ·have he2:b = !want:=by cases b<;>cases want<;>simp_all
       have h2:=h.2 he2;rw[he2] at hb;exact skip (by simp[kz,hg,hy];exact he) (hm.assume hb) (by simpa [assume] using hn) h2
     ·rename_i v xU hb;split at h
      ·rename_i hu;rw[Pr hu] at hb;have hy:=YX hm hd hb;have e:kz o (yielded ops.toArray a.tmps)=((aj:Option Bool)==aa want):=by simp only[kz,hg,hy]
       exact skip (by rw[e];cases want<;>rfl) hm hn h
      ·exact h.elim
     ·exact h.elim
def iW:Code->List Nat->Option Code
 |c,[]=>aa c
 |.seq a _,0::p=>iW a p
 |.seq _ b,1::p=>iW b p
 |.cond _ a _,0::p=>iW a p
 |.cond _ _ b,1::p=>iW b p
 |.block _ c,0::p=>iW c p
 |.loop c,0::p=>iW c p
 |_,_=>aj
theorem oc:∀ (p:List Nat) (c d:Code) (q:List Nat),iW c p=aa d->iW c (p++q)=iW d q
 |[],c,d,q,h=>by
  cases c<;>simp only[iW] at h<;>(injection h with h;subst h;rfl)
 |i::p,c,d,q,h=>by
  cases c<;>simp only[List.cons_append]<;>(try (cases i<;>simp only[iW] at h<;>cases h))
  ·rename_i a b;rcases i with _|_|i
   ·exact oc p a d q h
   ·exact oc p b d q h
   ·simp[iW] at h
  ·rename_i x a b;rcases i with _|_|i
   ·exact oc p a d q h
   ·exact oc p b d q h
   ·simp[iW] at h
  ·rename_i id a;rcases i with _|i
   ·exact oc p a d q h
   ·simp[iW] at h
  ·rename_i a;rcases i with _|i
   ·exact oc p a d q h
   ·simp[iW] at h
abbrev It (R:Type):=(List Nat) ⊕ Nat ⊕ (SS R->Prop)
def py (D:fK R) (P:Program) (C:Ctx) (root:Code) (k:Exit->SS R->Prop):List (It R)->Exit->Act->World->Prop
 |[],e,a,w=>∃ σ,k e σ/\M D C σ a w
 |.inl p::r,e,a,w=>match e with
  |.normal=>match iW root p with
   |some c=>c.wp P (py D P C root k r) a w
   |none=>False
  |e=>py D P C root k r e a w
 |.inr (.inl id)::r,e,a,w=>KI id (py D P C root k r) e a w
 |.inr (.inr J)::r,e,a,w=>match e with
  |.normal=>∃ σ,J σ/\C.n0≤σ.hp.length/\M D C σ a w
  |e=>py D P C root k r e a w
structure At (D:fK R) (P:Program) (root:Code) (n0:Nat) (k:Exit->SS R->Prop) (todo:List (It R)) (σ:SS R):Prop where
 run:∀ C a w,C.n0=n0->n0≤σ.hp.length->M D C σ a w->py D P C root k todo .normal a w
def Dv (id:Nat):List (It R)->Option (List (It R))
 |[]=>aj
 |.inr (.inl i)::r=>if fo i id then aa r else Dv id r
 |.inl _::r=>Dv id r
 |.inr (.inr _)::r=>Dv id r
theorem Fb {root:Code} {k:Exit->SS R->Prop} {id:Nat} {a:Act}:∀ {todo:List (It R)},
  (match Dv id todo with|some r=>py D P C root k r .normal a w|none=>∃ σ,k (.exit id) σ/\M D C σ a w)->py D P C root k todo (.exit id) a w
 |[],h=>h
 |.inl _::r,h=>by simp only[Dv] at h;simp only[py];exact Fb h
 |.inr (.inr _)::r,h=>by simp only[Dv] at h;simp only[py];exact Fb h
 |.inr (.inl i)::r,h=>by
  simp only[Dv] at h;simp only[py,KI]
  by_cases he:i=id
  ·subst he;rw[if_pos rfl];rw[if_pos (by simp)] at h
   exact h
  ·rw[if_neg (fun e=>he e.symm)]
   rw[if_neg (by simp[he])] at h
   exact Fb h
theorem Hv {root:Code} {k:Exit->SS R->Prop} {a:Act}:∀ {todo:List (It R)},(∃ σ,k .ret σ/\M D C σ a w)->py D P C root k todo .ret a w
 |[],h=>h
 |.inl _::r,h=>by simp only[py];exact Hv h
 |.inr (.inr _)::r,h=>by simp only[py];exact Hv h
 |.inr (.inl i)::r,h=>by simp only[py,KI];exact Hv h
end
end Rx
namespace Rx
open Go.RowKit State
def HJ (tm:List (Option Value)):List Nat->List (Option Value)
 |[]=>[]
 |t::ts=>(match tm[t]? with
  |some (aa v)=>aa v
  |_=>aj)::HJ tm ts
def vn:List Value->List (Option Value)
 |[]=>[]
 |v::l=>aa v::vn l
def slot (ts:List Nat) (vs:List Value) (i:Nat):Option Value :=
 match ts,vs with
 |t::ts,v::vs=>if fo t i then aa v else slot ts vs i
 |_,_=>aj
def frame (ts:List Nat) (vs:List Value):Nat->Nat->List (Option Value)
 |_,0=>[]
 |i,n+1=>slot ts vs i::frame ts vs (i+1) n
section
variable {R:Type} {D:fK R} {P:Program} {T:eK R} {C:Ctx} {ρ:Env} {ft:Nat->Nat->Prop} {w w':World}
def sZ (n:Nat):Hp R->Bool
 |[]=>aq
 |some (.inl (_,cs))::h=>ix n cs&&sZ n h
 |_::h=>sZ n h
theorem BN:∀ {r:Hp R} {n i:Nat} {B:SB R},sZ n r=aq->r[i]?=aa (aa B)->inside n B
 |[],n,i,B,_,hB=>by simp at hB
 |x::r,n,i,B,h,hB=>by
  have hr:sZ n r=aq/\(i=0->inside n B):=by
   rcases x with _|⟨t,cs⟩|⟨t,ro⟩|ro|x
   ·exact⟨h,fun e=>by subst e;simp at hB⟩
   ·simp only[sZ,aL] at h;exact⟨h.2,fun e=>by subst e;simp only[cf,cu] at hB;subst hB;exact h.1⟩
   ·exact⟨h,fun e=>by subst e;simp only[cf,cu] at hB;subst hB;trivial⟩
   ·exact⟨h,fun e=>by subst e;simp only[cf,cu] at hB;subst hB;trivial⟩
   ·exact⟨h,fun e=>by subst e;simp only[cf,cu] at hB;subst hB;trivial⟩
  cases i with
  |zero=>exact hr.2 rfl
  |succ i=>simp only[bH] at hB;exact BN hr.1 hB
theorem FG (ts:List Nat) (vs:List Value):∀ (n i j:Nat),(frame ts vs i n).length=n/\(j<n->(frame ts vs i n)[j]?=aa (slot ts vs (i+j)))
 |0,i,j=>⟨rfl,fun h=>by omega⟩
 |n+1,i,j=>by
  obtain⟨h1,h2⟩:=FG ts vs n (i+1) (j-1);refine⟨by simp[frame,h1],fun h=>?_⟩
  cases j with
  |zero=>simp[frame]
  |succ j =>
   simp only[frame,bH];have:=h2 (by omega)
   simp only[mb] at this;rw[this]
   congr 2
   omega
def OA (P:Program) (σ:SS R):ResultVar->Option Value
 |.tmp t=>ev σ.tm (.tmp t)
 |.cell p t =>
  match ev σ.tm (.tmp p) with
  |some (.pointer (aa ⟨i,e,aj⟩))=>match AI P σ t (.tmp p) with
   |some x=>aa x.v
   |none=>aj
  |_=>aj
def EP (P:Program) (σ:SS R):List ResultVar->Option (List Value)
 |[]=>aa []
 |r::l =>
  match OA P σ r,EP P σ l with
  |some v,aa vs=>aa (v::vs)
  |_,_=>aj
def pack:List Value->Value
 |[v]=>v
 |vs=>.tuple ⟨vs⟩
def iD (P:Program) (rs:List ResultVar) (G:Value->Hp R->Prop) (e:Exit) (σ:SS R):Prop :=
 match e with
 |.ret|.normal=>match EP P σ rs with
  |some vs=>aY (G (pack vs) σ.hp)
  |none=>od 8
 |_=>od 9
def SZ (a:Act):ResultVar->Sem Value
 |.tmp t=>pure (a.tmps.getD t undef)
 |.cell p t=>do loadVar t (← asAddr (a.tmps.getD p undef))
theorem aaP {σ:SS R} {r:ResultVar} {v:Value} {a:Act} (ht:TM ρ σ.hp.length σ.tm a) (hm:HM D C ρ ft σ.hp w) (hl:LI σ.li σ.tm) (h:OA P σ r=aa v) :
  (SZ a r).run P w=.ok (bW ρ v) w:=by
 unfold SZ;cases r with
 |tmp t =>
  simp only[OA] at h;have:=(ew ht h).1;simp only[B2] at this;simp[← this]
 |cell p t =>
  simp only[OA] at h;split at h
  ·rename_i i e hp;split at h
   ·rename_i x hx;injection h with h
    subst h;have hev:=(ew ht hp).1;simp only[B2,bW] at hev;have uC := Sq (D := D) (o := ⟨aj, .load t (.tmp p), 0, "", #[], aj⟩) rfl hx
    have P0:x.vc:=by
     unfold AI at hx;rw[hp] at hx;simp only at hx;split at hx
     ·split at hx
      ·split at hx
       ·injection hx with hx;subst hx;trivial
       ·cases hx
      ·split at hx
       ·injection hx with hx;subst hx;trivial
       ·cases hx
      ·cases hx
     ·cases hx
    have nR:∃ v',(loadVar t (iE ρ ⟨i,e,aj⟩)).run P w=.ok v' w/\v'=bW ρ x.v:=by
     unfold AI at hx;rw[hp] at hx;simp only at hx;split at hx
     ·rename_i t' cs hi;split at hx
      ·rename_i hg;split at hx
       ·rename_i v hv;cases hx;have hc:=Ca hm hi e;rw[hv] at hc;exact⟨_,Cd hg (by simpa [iE,cellOf,gq] using hc),rfl⟩
       ·cases hx
      ·rename_i n hg;split at hx
       ·rename_i hle;have hle:=jB hle;cases hx;have hl:(((cs.drop e).take n).map (bW ρ)).length=n:=by simp;omega
        refine⟨_,Gp (cs:=((cs.drop e).take n).map (bW ρ)) (by rw[hl];exact hg) (fun j v hv=>?_),?_⟩
        ·simp only[iE,cellOf];rw[pQ,jh,Ca hm hi];have hj:j<n:=by have:=(aU.1 hv).1;omega
         simp only[gh,oJ,hj,if_true,oL] at hv;exact hv
        ·show _=bW ρ (.agg _)
         rw[zw];simp
       ·cases hx
      ·cases hx
     ·cases hx
    obtain⟨v',h1,rfl⟩:=nR;simp only[dz,hev,asAddr,dX,cA,h1]
   ·cases h
  ·cases h
theorem So {σ:SS R} {a:Act} (ht:TM ρ σ.hp.length σ.tm a) (hm:HM D C ρ ft σ.hp w) (hl:LI σ.li σ.tm):∀ {rs:List ResultVar} {vs:List Value},EP P σ rs=aa vs ->
  (rs.mapM (m:=Sem) (SZ a)).run P w=.ok (vs.map (bW ρ)) w
 |[],vs,h=>by
  simp only[EP] at h;injection h with h
  subst h;simp
 |r::rs,vs,h=>by
  simp only[EP] at h;split at h
  ·rename_i v vs' hv Ed;injection h with h
   subst h;have h1:=aaP ht hm hl hv;have h2:=So ht hm hl Ed;rw[List.mapM_cons,dz,h1,cA,dz,h2];simp
  ·cases h
theorem Zu {σ:SS R} {a:Act} {fn:Func} {vs:List Value} (ht:TM ρ σ.hp.length σ.tm a) (hm:HM D C ρ ft σ.hp w) (hl:LI σ.li σ.tm) (h:EP P σ fn.results.toList=aa vs) :
  (results fn a.tmps).run P w=.ok (bW ρ (pack vs)) w:=by
 have h1:=So ht hm hl h;have e:results fn a.tmps=(do let vs ← fn.results.mapM (SZ a);pure (if h:vs.size=1 then vs[0] else .tuple vs)):=by
  unfold results
  congr 1
 rw[e,dz,Dy,WY,h1];simp only[cA,dX]
 congr 1
 cases vs with
 |nil=>simp[pack,bW,nz]
 |cons v l =>
  cases l with
  |nil=>simp[pack]
  |cons u l=>simp[pack,bW,nz,k_]
theorem HM.ctx {C':Ctx} {h:Hp R} (hm:HM D C ρ ft h w) (h1:C'.w0=C.w0) (h2:C'.U=C.U):HM D C' ρ ft h w where
 at_ i B hi:=by
  obtain⟨g1,g2⟩:=hm.at_ i B hi;refine⟨?_,g2⟩;rcases B with⟨t,cs⟩|⟨t,r⟩|r|x
  ·exact g1
  ·exact g1
  ·simp only[hold,h1,h2] at g1 ⊢;exact g1
  ·exact g1
 lt:=hm.lt
 fresh i k hk:=by rw[h1,h2];exact hm.fresh i k hk
 apart:=hm.apart
 some_:=hm.some_
 kept:=by rw[h1,h2];exact hm.kept
theorem MH {f:FuncId} {fn:Func} {root:Code} {args:List Value} {hp:Hp R} {G:Value->Hp R->Prop} (hf:P.funcs[f]?=aa fn) (hb:fn.body=aa root)
  (h:At D P root hp.length (iD P fn.results.toList G) [.inl []] ⟨vn args++ld (fn.ntmps-args.length) aj,[],hp⟩) (hm:HM D C ρ ft hp w) (hi:ix hp.length args=aq) :
  Calls P f (args.map (bW ρ)).toArray w fun e w'=>∃ gv ks v w_,(∀ i,i<hp.length->gv i=ρ i)/\e=.returned (bW gv v)/\G v w_/\HM D C gv ks w_ w':=by
 have F0:∀ (l:List Value),vn l=l.map aa:=fun l=>by induction l with
  |nil=>rfl
  |cons v l ih=>simp[vn,ih]
 refine calls_of_wp hf hb ?_;have hM:M D ⟨C.w0,C.U,ρ,hp.length⟩ ⟨vn args++ld (fn.ntmps-args.length) aj,[],hp⟩ { tmps:=(args.map (bW ρ)).toArray++Array.replicate (fn.ntmps-(args.map (bW ρ)).toArray.size) undef,defers:=[] } w:=by
  refine⟨rfl,fun t b hb=>(by cases hb),ρ,ft,fun i _=>rfl,⟨by simp[F0],fun t v ht=>?_⟩,hm.ctx rfl rfl⟩
  rw[F0] at ht;have cl:t<args.length:=by
   rcases cx t args.length with cl|j6
   ·exact cl
   ·rw[dU (by simpa using j6),List.getElem?_replicate] at ht
    split at ht
    ·injection ht with ht;cases ht
    ·cases ht
  rw[db (by simpa using cl),gh] at ht
  cases hv:args[t]? with
  |none=>rw[hv] at ht;cases ht
  |some u =>
   rw[hv] at ht;simp only[j_,cu] at ht;subst ht;refine⟨?_,wY.1 hi u (lu hv)⟩;rw[Array.getElem?_append_left (by simpa using cl)]
   simp[hv]
 have hs:=h.run ⟨C.w0,C.U,ρ,hp.length⟩ _ w rfl (bc _) hM;simp only[py,iW] at hs;refine wp_mono hs fun e a' w' ⟨σ,hk,XQ⟩=>?_
 obtain⟨gv,ks,g0,g1,g2⟩:=XQ.ex;have key:∀ (e:Exit),iD P fn.results.toList G e σ->(e=.ret∨e=.normal)->∃ v,(results fn a'.tmps).run P w'=.ok v w'/\∃ gv ks v2 w_,(∀ i,i<hp.length->gv i=ρ i)/\Ending.returned v=.returned (bW gv v2)/\G v2 w_/\HM D C gv ks w_ w':=by
  intro e hk he;have:∃ vs,EP P σ fn.results.toList=aa vs/\G (pack vs) σ.hp:=by
   rcases he with rfl|rfl
   ·simp only[iD] at hk;split at hk
    ·exact⟨_,by assumption,hk.out⟩
    ·exact hk.elim
   ·simp only[iD] at hk;split at hk
    ·exact⟨_,by assumption,hk.out⟩
    ·exact hk.elim
  obtain⟨vs,h1,h2⟩:=this;exact⟨_,Zu g1 g2 XQ.li h1,gv,ks,pack vs,σ.hp,g0,rfl,h2,g2.ctx rfl rfl⟩
 cases e with
 |ret=>exact⟨XQ.defers,key _ hk (dN rfl)⟩
 |normal=>exact⟨XQ.defers,key _ hk (eY rfl)⟩
 |_=>exact od.elim hk
end
end Rx
namespace Rx
open Go.RowKit State
section
variable {R:Type} {D:fK R} {C:Ctx} {ρ gv:Env} {ft ks:Nat->Nat->Prop} {w w':World} {h hr hx h':Hp R}
def h9:SB R->Bool
 |.inr (.inr (.inl _))=>aq
 |_=>ao
theorem yR {C':Ctx} {i:Nat} {F:Nat->Prop} {B:SB R} (hB:h9 B=ao) (hh:hold D C ρ i F w B):hold D C' ρ i F w B:=by
 rcases B with⟨t,cs⟩|⟨t,r⟩|r|x
 ·exact hh
 ·exact hh
 ·cases hB
 ·exact hh
def Seen (hr:Hp R) (b:Nat):Prop:=∃ X,hr[b]?=aa (aa X)
def Om (w:World) (hr:Hp R) (ft:Nat->Nat->Prop) (ρ:Env) (n:Nat):Ctx:=⟨w,fun k=>∃ b,Seen hr b/\ft b k,ρ,n⟩
theorem HM.sub (hm:HM D C ρ ft h w) (m_:∀ (b:Nat) (X:SB R),hr[b]?=aa (aa X)->h[b]?=aa (aa X)) (j5:sZ hr.length hr=aq) (n:Nat) :
  HM D (Om w hr ft ρ n) ρ (fun b k=>Seen hr b/\ft b k) hr w where
 at_ i B hB:=by
  obtain⟨h1,h2⟩:=hm.at_ i B (m_ i B hB);refine⟨?_,BN j5 hB⟩;have LY:(fun k=>Seen hr i/\ft i k)=ft i:=funext fun k=>propext ⟨fun h=>h.2,fun h=>⟨⟨B,hB⟩,h⟩⟩
  rw[LY];rcases B with⟨t,cs⟩|⟨t,r⟩|r|x
  ·exact h1
  ·exact h1
  ·obtain⟨g1,g2,g3,g4,g5,arr,g6,g7⟩:=h1;refine⟨g1,g2,g3,g4,g5,arr,fun hn h0=>?_,g7⟩
   obtain⟨q1,q2,t,fz,q3⟩:=g6 hn h0;refine⟨ls q1 hm.kept.size,fun⟨b,_,hb⟩=>?_,t,fz,by rw[← q3];exact hm.kept.block _ q1 q2⟩
   rcases hm.fresh b _ hb with hu|j6
   ·exact q2 hu
   ·omega
  ·exact h1
 lt i k hk:=hm.lt i k hk.2
 fresh i k hk:=dN ⟨i,hk.1,hk.2⟩
 apart i j k hi hj:=hm.apart i j k hi.2 hj.2
 some_ i k hk:=hk.1
 kept:=Kept.refl _ _
theorem HM.back (hm:HM D C ρ ft h w) (m_:∀ (b:Nat) (X:SB R),hr[b]?=aa (aa X)->h[b]?=aa (aa X)) (hle:hr.length≤h.length) {n:Nat}
  (mE:HM D (Om w hr ft ρ n) gv ks hx w') (qF:∀ b,b<hr.length->gv b=ρ b) (hlx:hr.length≤hx.length) (hal:hr.length<hx.length->hr.length=h.length)
  (hv:∀ (b:Nat) (X:SB R),hx[b]?=aa (aa X)->(b<hr.length->∃ Y,hr[b]?=aa (aa Y))/\(h9 X=ao∨∃ Y,hr[b]?=aa (aa Y)/\h9 Y=aq))
  (hlen:h'.length=if hr.length<hx.length then hx.length else h.length)
  (uB:∀ (b:Nat),(∃ Y,hr[b]?=aa (aa Y)/\h9 Y=ao)∨h.length≤b->h'[b]?=if b<hx.length then hx[b]? else aj)
  (Ot:∀ (b:Nat),b<h.length->¬ (∃ Y,hr[b]?=aa (aa Y)/\h9 Y=ao)->h'[b]?=h[b]?) :
  HM D C (fun b=>if b<h.length then ρ b else gv b) (fun b k=>(((∃ Y,hr[b]?=aa (aa Y)/\h9 Y=ao)∨h.length≤b)/\ks b k)∨(¬ ((∃ Y,hr[b]?=aa (aa Y)/\h9 Y=ao)∨h.length≤b)/\ft b k)) h' w':=by
 have An:h'.length≤hx.length∨h'.length=h.length:=by
  rw[hlen];split
  ·exact dN (bc _)
  ·exact eY rfl
 have j6:h.length≤h'.length:=by
  rw[hlen];split
  ·rename_i cl;have:=hal cl;omega
  ·exact bc _
 let T:Nat->Prop:=fun b=>∃ Y,hr[b]?=aa (aa Y)/\h9 Y=ao
 have aoK:∀ b,T b->b<hr.length:=fun b ⟨Y,hY,_⟩=>(aU.1 hY).1
 have QP:∀ j,j<hx.length->(if j<h.length then ρ j else gv j)=gv j:=fun j hj=>by
  split
  ·rename_i cl;rcases cx j hr.length with h1|h1
   ·exact(qF j h1).symm
   ·have:=hal (by omega);omega
  ·rfl
 refine hm.step T ?_ (fun i hi=>by simp[hi]) j6 ?_ ?_ ?_ ?_
 ·-- aml may have ape written
  refine⟨mE.kept.os,mE.kept.tape,mE.kept.output,mE.kept.size,fun k hk hn=>mE.kept.block k hk fun⟨b,⟨X,hX⟩,hb⟩=>hn ⟨b,⟨X,hX,?_⟩,hb⟩⟩
  cases hX2:h9 X with
  |false=>rfl
  |true =>
   have:=(hm.at_ b X (m_ b X hX)).1;rcases X with⟨t,cs⟩|⟨t,r⟩|r|x<;>simp[h9] at hX2
   exact absurd hb (this.1 k)
 ·intro i B hi hB;have E4:T i∨h.length≤i:=by
   rcases cx i h.length with cl|rI
   ·exact dN (hi cl)
   ·exact eY rI
  rw[uB i E4] at hB;split at hB
  ·rename_i cl;obtain⟨g1,g2⟩:=mE.at_ i B hB;have RN:h9 B=ao:=by
    rcases(hv i B hB).2 with h1|⟨Y,hY,X2⟩
    ·exact h1
    ·rcases E4 with⟨Y',R8,Kq⟩|rI
     ·rw[hY] at R8;injection R8 with e;injection e with e;subst e;rw[X2] at Kq;cases Kq
     ·have:=(aU.1 hY).1;omega
   refine⟨?_,Cf ?_ g2⟩
   ·have e:(fun k=>((T i∨h.length≤i)/\ks i k)∨(¬ (T i∨h.length≤i)/\ft i k))=ks i:=funext fun k=>propext ⟨fun h=>h.elim (fun h=>h.2) (fun h=>absurd E4 h.1),fun h=>dN ⟨E4,h⟩⟩
    show hold D C _ i (fun k=>((T i∨h.length≤i)/\ks i k)∨(¬ (T i∨h.length≤i)/\ft i k)) w' B
    rw[e];exact yR RN (Ib g1 QP cl g2)
   ·rw[hlen];split
    ·exact bc _
    ·have:hx.length=hr.length:=by omega
     omega
  ·cases hB
 ·intro i hi hn;refine⟨Ot i hi hn,fun k=>?_⟩
  have:¬ (T i∨h.length≤i):=fun hh=>hh.elim hn (fun h=>by omega)
  exact⟨fun h=>h.elim (fun h=>absurd h.1 this) (fun h=>h.2),fun h=>eY ⟨this,h⟩⟩
 ·intro i k hi hk;have E4:T i∨h.length≤i:=by
   rcases cx i h.length with cl|rI
   ·exact dN (hi cl)
   ·exact eY rI
  have nx:ks i k:=hk.elim (fun h=>h.2) (fun h=>absurd E4 h.1)
  refine⟨?_,mE.lt i k nx,?_⟩
  ·rcases mE.fresh i k nx with⟨b,⟨X,hX⟩,hb⟩|rI
   ·refine dN ⟨b,⟨X,hX,?_⟩,hb⟩;cases hX2:h9 X with
    |false=>rfl
    |true =>
     have:=(hm.at_ b X (m_ b X hX)).1;rcases X with⟨t,cs⟩|⟨t,r⟩|r|x<;>simp[h9] at hX2
     exact absurd hb (this.1 k)
   ·exact eY rI
  ·obtain⟨B,hB⟩:=mE.some_ i k nx;refine⟨B,?_⟩;rw[uB i E4,if_pos (aU.1 hB).1];exact hB
 ·intro i j k hi hj GQ GG;have Mc:T i∨h.length≤i:=by
   rcases cx i h.length with cl|rI
   ·exact dN (hi cl)
   ·exact eY rI
  have hTj:T j∨h.length≤j:=by
   rcases cx j h.length with cl|rI
   ·exact dN (hj cl)
   ·exact eY rI
  exact mE.apart i j k (GQ.elim (fun h=>h.2) (fun h=>absurd Mc h.1)) (GG.elim (fun h=>h.2) (fun h=>absurd hTj h.1))
end
end Rx
namespace Rx
open Go.RowKit State
section
variable {R:Type} {D:fK R} {P:Program} {T:eK R} {σ:SS R} {x:Out R}
def jy (σ:SS R) (x:Out R):Prop:=x.wr=[]->x.hp=σ.hp
theorem iK (vc:Prop) (v:Value) (lit:Option Bool) (rd:List (Nat×Nat)):jy σ (gq σ vc v lit rd):=fun _=>rfl
theorem sA {o:Oper} (h:uj P σ o=aa x):jy σ x:=by
 unfold uj at h
 repeat' split at h
 all_goals first
  |(injection h with h;subst h;exact iK _ _ _ _)
  |cases h
theorem Aj {y:Operand} (h:vR σ y=aa x):jy σ x:=by
 unfold vR at h
 repeat' split at h
 all_goals first
  |(injection h with h;subst h;exact iK _ _ _ _)
  |cases h
theorem M6 {t:TypeId} (h:vm P σ t=aa x):jy σ x:=by
 unfold vm at h
 repeat' split at h
 all_goals first
  |(injection h with h;subst h;intro hw;cases hw)
  |cases h
theorem GM {t:TypeId} {y:Operand} (h:wZ P σ t y=aa x):jy σ x:=by
 unfold wZ at h;split at h
 ·split at h
  ·rename_i hx;injection h with h;subst h;exact M6 hx
  ·exact Aj h
 ·exact Aj h
theorem VV {c y z:Operand} (h:Hm σ c y z=aa x):jy σ x:=by
 unfold Hm at h;split at h
 ·exact Aj h
 ·exact Aj h
 ·split at h
  ·injection h with h;subst h;exact iK _ _ _ _
  ·cases h
theorem G6 {t:TypeId} {cs:List Value} (h:wL σ t cs=aa x):jy σ x:=by
 unfold wL at h;injection h with h;subst h;intro hw;cases hw
theorem Sx {t:TypeId} (h:DT P σ t=aa x):jy σ x:=by
 unfold DT at h
 repeat' split at h
 all_goals first
  |exact G6 h
  |cases h
theorem Ww {t:TypeId} {y:Operand} (h:KU σ t y=aa x):jy σ x:=by
 unfold KU at h
 repeat' split at h
 all_goals first
  |exact G6 h
  |cases h
theorem SE {t:TypeId} {ps:List (Nat×Operand)} (h:DF P σ t ps=aa x):jy σ x:=by
 unfold DF at h
 repeat' split at h
 all_goals first
  |(injection h with h;subst h;exact iK _ _ _ _)
  |cases h
theorem JR {t:TypeId} {n:Nat} {ps:List (Nat×Operand)} (h:uI P σ t n ps=aa x):jy σ x:=by
 unfold uI at h
 repeat' split at h
 all_goals first
  |(injection h with h;subst h;intro hw;cases hw)
  |cases h
theorem Ui {t:TypeId} {y:Operand} (h:AI P σ t y=aa x):jy σ x:=by
 unfold AI at h
 repeat' split at h
 all_goals first
  |(injection h with h;subst h;exact iK _ _ _ _)
  |cases h
theorem Xt {i e n:Nat} (h:MU i e n=[]):n=0:=by
 cases n with
 |zero=>rfl
 |succ n=>simp[MU] at h
theorem ade {α:Type} {l:List α} {i:Nat} {a:α} (h:l[i]?=aa a):l.set i a=l:=by
 have hl:i<l.length:=(aU.1 h).1;apply nU;intro u
 by_cases he:i=u
 ·subst he;rw[jS hl,h]
 ·rw[kr he]
theorem SN {t:TypeId} {y z:Operand} (h:DM P σ t y z=aa x):jy σ x:=by
 unfold DM at h;split at h
 ·rename_i i e v _ _;split at h
  ·rename_i ty cs inf hi _;split at h
   ·rename_i hc;simp only[aL] at hc;injection h with h
    subst h;intro hw;have h0:=Xt hw;have h1:=cR hc.1.1;rw[h0] at h1;have h2:v.cells.toList=[]:=iQ h1;simp only[h2];exact ade (by rw[hi];rfl)
   ·cases h
  ·cases h
 ·rename_i i e q v _ _;split at h
  ·rename_i ty r inf hi _;split at h
   ·rename_i hc;simp only[aL,fa] at hc;split at h
    ·injection h with h
     subst h;intro hw;have h0:=Xt hw;omega
    ·cases h
   ·cases h
  ·cases h
 ·cases h
theorem WK {y:Operand} (h:Lq σ y=aa x):jy σ x:=by
 unfold Lq at h
 repeat' split at h
 all_goals first
  |(injection h with h;subst h;exact iK _ _ _ _)
  |cases h
theorem Jf {neg:Bool} {t:TypeId} {y z:Operand} (h:zt P σ neg t y z=aa x):jy σ x:=by
 unfold zt at h
 repeat' split at h
 all_goals first
  |(injection h with h;subst h;exact iK _ _ _ _)
  |cases h
theorem I2 {neg:Bool} {t:TypeId} {y z:Operand} (h:zJ P σ neg t y z=aa x):jy σ x:=by
 unfold zJ at h;split at h
 ·split at h
  ·split at h
   ·split at h
    ·injection h with h;subst h;exact iK _ _ _ _
    ·cases h
   ·cases h
  ·cases h
 ·cases h
theorem Wn {op:BinOp} {y z:Operand} (h:OM σ op y z=aa x):jy σ x:=by
 unfold OM at h
 repeat' split at h
 all_goals first
  |(injection h with h;subst h;exact iK _ _ _ _)
  |cases h
theorem WM {y z:Operand} (h:Pd σ y z=aa x):jy σ x:=by
 unfold Pd at h
 repeat' split at h
 all_goals first
  |(injection h with h;subst h;exact iK _ _ _ _)
  |cases h
theorem Jh {own:Option (Option (SB R))->Bool} {neg:Bool} {t:TypeId} {y z:Operand} (h:zX P σ own neg t y z=aa x):jy σ x:=by
 unfold zX at h
 repeat' split at h
 all_goals first
  |(injection h with h;subst h;exact iK _ _ _ _)
  |cases h
theorem JY {t:TypeId} {n:Nat} {ps:List (Nat×Operand)} (h:uE P σ t n ps=aa x):jy σ x:=by
 unfold uE at h
 repeat' split at h
 all_goals first
  |(injection h with h;subst h;intro hw;cases hw)
  |cases h
theorem KG {t:TypeId} {y z:Operand} (h:wN P σ t y z=aa x):jy σ x:=by
 unfold wN at h
 repeat' split at h
 all_goals first
  |(injection h with h;subst h;exact iK _ _ _ _)
  |cases h
theorem WB {o:Oper} {op:BinOp} {t:TypeId} {y z:Operand} (h:KZ P T σ o op t y z=aa x):jy σ x:=by
 unfold KZ at h;split at h
 ·split at h
  ·exact sA h
  ·exact Wn h
 ·split at h
  ·exact WM h
  ·cases h
 ·split at h
  ·exact Jf h
  ·exact Jf h
  ·cases h
 ·split at h
  ·exact I2 h
  ·exact I2 h
  ·cases h
 ·split at h
  ·exact Jh h
  ·exact Jh h
  ·cases h
 ·exact sA h
theorem WT {y:Operand} (h:Lo σ y=aa x):jy σ x:=by
 unfold Lo at h
 repeat' split at h
 all_goals first
  |(injection h with h;subst h;exact iK _ _ _ _)
  |cases h
theorem Sy {t:TypeId} {y:Operand} {lo hi mx:Option Operand} (h:G_ P σ t y lo hi mx=aa x):jy σ x:=by
 unfold G_ at h
 repeat' split at h
 all_goals first
  |(injection h with h;subst h;exact iK _ _ _ _)
  |(injection h with h;subst h;intro hw;cases hw)
  |cases h
theorem LF {t:TypeId} {y:Operand} {k:Nat} (h:v9 P σ t y k=aa x):jy σ x:=by
 unfold v9 at h
 repeat' split at h
 all_goals first
  |(injection h with h;subst h;exact iK _ _ _ _)
  |cases h
theorem SJ {t:TypeId} {y:Operand} {k:Nat} (h:DQ P σ t y k=aa x):jy σ x:=by
 unfold DQ at h
 repeat' split at h
 all_goals first
  |(injection h with h;subst h;exact iK _ _ _ _)
  |cases h
theorem LC {t:TypeId} {y z:Operand} (h:yx P σ t y z=aa x):jy σ x:=by
 unfold yx at h
 repeat' split at h
 all_goals first
  |(injection h with h;subst h;exact iK _ _ _ _)
  |cases h
theorem MK {t:TypeId} {y z:Operand} (h:AG P σ t y z=aa x):jy σ x:=by
 unfold AG at h
 repeat' split at h
 all_goals first
  |(injection h with h;subst h;exact iK _ _ _ _)
  |cases h
theorem NH {t:TypeId} {y z:Operand} (h:Ak P σ t y z=aa x):jy σ x:=by
 unfold Ak at h
 repeat' split at h
 all_goals first
  |(injection h with h;subst h;exact iK _ _ _ _)
  |cases h
theorem Ps {y:Operand} {k:Nat} (h:zH σ y k=aa x):jy σ x:=by
 unfold zH at h
 repeat' split at h
 all_goals first
  |(injection h with h;subst h;exact iK _ _ _ _)
  |cases h
theorem Ly {t:TypeId} {y z:Operand} (h:yv P σ t y z=aa x):jy σ x:=by
 unfold yv at h
 repeat' split at h
 all_goals first
  |(injection h with h;subst h;intro hw;cases hw)
  |cases h
theorem WQ {t:TypeId} {y:Operand} (h:Lf P σ t y=aa x):jy σ x:=by
 unfold Lf at h
 repeat' split at h
 all_goals first
  |(injection h with h;subst h;exact iK _ _ _ _)
  |cases h
theorem QV {t t2:TypeId} {y z:Operand} (h:yX P σ t t2 y z=aa x):jy σ x:=by
 unfold yX at h;split at h
 ·split at h
  ·split at h
   ·injection h with h;subst h;intro hw;cases hw
   ·cases h
  ·split at h
   ·split at h
    ·injection h with h;subst h;intro hw;cases hw
    ·cases h
   ·cases h
  ·cases h
 ·cases h
theorem Vw (hT:cQ D P T) {f:Operand} {args:List Operand} {b:Bool} (h:EO T σ f args b=aa x):jy σ x:=by
 unfold EO at h;split at h
 ·split at h
  ·rename_i p hp;exact((BR hT hp).ok b).still _ _ _ h
  ·cases h
 ·cases h
theorem QF (hT:cQ D P T) {r:Operand} {name:String} {args:List Operand} {b:Bool} (h:yL P T σ r name args b=aa x):jy σ x:=by
 unfold yL at h;split at h
 ·split at h
  ·split at h
   ·rename_i p _ hp;exact((BR hT hp).ok b).still _ _ _ h
   ·cases h
  ·cases h
 ·cases h
theorem WJ (hT:cQ D P T) {f:Operand} {args:List Operand} {b:Bool} (h:EO T σ f args b=aa x):∀ i,i<σ.hp.length->ON x.wr i=aq->x.hp[i]?=σ.hp[i]?:=by
 unfold EO at h;split at h
 ·split at h
  ·rename_i p hp;exact(BR hT hp).H0 b _ _ _ h
  ·cases h
 ·cases h
theorem SC (hT:cQ D P T) {r:Operand} {name:String} {args:List Operand} {b:Bool} (h:yL P T σ r name args b=aa x):∀ i,i<σ.hp.length->ON x.wr i=aq->x.hp[i]?=σ.hp[i]?:=by
 unfold yL at h;split at h
 ·split at h
  ·split at h
   ·rename_i p _ hp;exact(BR hT hp).H0 b _ _ _ h
   ·cases h
  ·cases h
 ·cases h
theorem MC {fn:Fn} {fi ca:List Operand} (h:AA σ fn fi ca=aa x):jy σ x:=by
 unfold AA at h;split at h
 ·injection h with h;subst h;exact iK _ _ _ _
 ·cases h
theorem SK {t:TypeId} {y:Operand} (h:DL P T σ t y=aa x):jy σ x:=by
 unfold DL at h;split at h
 ·rename_i hx;injection h with h;subst h;exact Ui hx
 ·repeat' split at h
  all_goals first
   |(injection h with h;subst h;exact iK _ _ _ _)
   |cases h
theorem abD (hT:cQ D P T) {o:Oper} {b:Bool} (h:Mp P T σ o b=aa x):jy σ x:=by
 obtain⟨dst,op,ty,pos,after,guard⟩:=o;unfold Mp at h;simp only at h;split at h
 ·exact GM h
 ·exact GM h
 ·exact VV h
 ·exact Sx h
 ·exact Ww h
 ·exact SE h
 ·split at h
  ·rename_i hx;injection h with h;subst h;exact JR hx
  ·exact JY h
 ·exact SK h
 ·split at h
  ·exact SN h
  ·cases h
 ·exact WK h
 ·exact WB h
 ·split at h
  ·exact WT h
  ·exact sA h
 ·exact Sy h
 ·exact LF h
 ·exact SJ h
 ·split at h
  ·exact MK h
  ·split at h
   ·exact KG h
   ·exact LC h
 ·split at h
  ·exact NH h
  ·exact sA h
 ·exact Ps h
 ·exact Ly h
 ·rename_i callee args ts;split at h
  ·exact Vw hT h
  ·split at h
   ·exact QV h
   ·split at h
    ·exact WQ h
    ·exact sA h
   ·exact sA h
  ·exact QF hT h
 ·exact MC h
 ·exact sA h
def aaM (o:Oper):Bool :=
 match o with
 |⟨_,.call ⟨.value _,_,_⟩,_,_,_,_⟩=>aq
 |⟨_,.call ⟨.invoke _ _,_,_⟩,_,_,_,_⟩=>aq
 |_=>ao
def V9 (o:Oper):Bool :=
 match o with
 |⟨_,.call ⟨.builtin .append,⟨[_,_]⟩,⟨[_,_]⟩⟩,_,_,_,_⟩=>aq
 |_=>ao
theorem SL {t t2:TypeId} {y z:Operand} (h:yX P σ t t2 y z=aa x):∀ i,i<σ.hp.length->Iy x.wr i=ao->x.hp[i]?=σ.hp[i]?:=by
 unfold yX at h;split at h
 ·split at h
  ·split at h
   ·injection h with h;subst h;intro i hi _;exact db hi
   ·cases h
  ·split at h
   ·split at h
    ·injection h with h
     subst h;intro j hj hm;simp only[Iy,Bool.or_eq_false_iff] at hm;simp only;rw[db (by simpa using hj),kr]
     intro e;rw[e] at hm;simp at hm
    ·cases h
   ·cases h
  ·cases h
 ·cases h
def Lm (o:Oper) (wr:List (Nat×Nat)) (b:Nat):Bool:=(aaM o&&ON wr b)||(V9 o && !Iy wr b)
theorem adX (hT:cQ D P T) {o:Oper} {b:Bool} (h:Mp P T σ o b=aa x):∀ i,i<σ.hp.length->Lm o x.wr i=aq->x.hp[i]?=σ.hp[i]?:=by
 intro i hi hk;simp only[Lm,Bool.or_eq_true,aL] at hk;rcases hk with⟨hc,hk⟩|⟨hc,hk⟩
 ·unfold aaM at hc;split at hc
  ·exact WJ hT h i hi hk
  ·exact SC hT h i hi hk
  ·cases hc
 ·unfold V9 at hc;split at hc
  ·exact SL h i hi (by simpa using hk)
  ·cases hc
end
end Rx
end Go.Proofs.YtjlomlgdgpoepaaGreat
