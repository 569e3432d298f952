import Derived.LaidEql
import Derived.Below
import Derived.WalkKit
import Derived.Laws.OwnMore
import Derived.Deep.Draws
import Derived.Orders
import Derived.IntWalk
import Derived.Laws.Append
import Derived.Scope
import Derived.Still
set_option linter.unusedVariables false
set_option linter.unusedSimpArgs false
namespace Go.Proofs.YtjlomlgdgpoepaaGreat
open _root_.Array renaming ext'→qz,getElem?_eq_none→GA,getElem?_setIfInBounds→uN,length_toList→wq,mapM_eq_mapM_toList→DG,range→GB,toArray_toList→IQ,toList_extract→IP,toList_map→mv
open _root_.Bool renaming and_eq_true→aL,false_eq_true→fO,false→an,true→ao,xor→xg
open _root_.Classical renaming byContradiction→iy
open _root_.Eq renaming symm→re
open _root_.Go renaming undef→vy
open _root_.Go.Act renaming eval→B6,put→B7
open _root_.Go.BinOp renaming eql→Ss,neq→z6
open _root_.Go.Builtin renaming append_→tI,firstCells→kx,lenOf→De,zeroCells→pq
open _root_.Go.Exit renaming inBlock→KP
open _root_.Go.Instr renaming buildSlice→N9,build→W9,field→W6,fill→aaf,indexAt→Jm,loadAt→A_,sliceAt→Jn,sliceBounds→ud,sliceBound→Fm,slice→W_,storeAt→SU,sureAddr→oL
open _root_.Go.IntKind renaming i64→ar
open _root_.Go.Made renaming depth→Qb
open _root_.Go.Op renaming eqFields→Ck,equalIn→mu,equal→Wi,intArith→My
open _root_.Go.Oper renaming upon_enter→Qa,upon→acR,wp→RB
open _root_.Go.Program renaming fieldsOf→N8
open _root_.Go.Region renaming wanted→kB
open _root_.Go.Result renaming andThen_ok→cz
open _root_.Go.RowKit.Below renaming heap_alloc→N7,heap_setCell→KO
open _root_.Go.Sem renaming program→Xa,run_bind→dy,run_ite→Mz,run_map→W8,run_pure→dS
open _root_.Go.Value renaming cells→nx,iface→GC,oneCell'→qe
open _root_.Go.World renaming cell?_of_block→A9,frozen?→SR,setRow→Fj
open _root_.Iff renaming rfl→sk
open _root_.Int renaming eq_ofNat_of_zero_le→tn,le_refl→ny,toNat_natCast→iF
open _root_.List renaming append_assoc→rN,eq_nil_of_length_eq_zero→iN,ext_getElem?→nV,getD_eq_getElem?_getD→av,getElem?_append_left→c_,getElem?_append_right→dQ,getElem?_cons_succ→bH,getElem?_cons_zero→cd,getElem?_drop→oQ,getElem?_eq_getElem→bd,getElem?_eq_none→dc,getElem?_eq_some_iff→aU,getElem?_map→fh,getElem?_of_mem→A',getElem?_range→sP,getElem?_set_ne→kt,getElem?_set_self→jX,getElem?_set→Dp,getElem?_take→oN,getElem?_toArray→jE,length_append→bA,length_cons→cy,length_nil→jN,length_set→fa,map_congr_left→n3,map_cons→gr,map_id→W7,map_nil→uP,map_toArray→vx,mem_append→b5,mem_cons→bP,mem_filter→pc,mem_map→pb,mem_of_getElem?→lz,replicate→lj,size_toArray→Dq
open _root_.Nat renaming add_assoc→jd,add_comm→sK,add_mul_div_right→z7,add_mul_mod_self_right→v9,add_mul→ig,add_sub_cancel→mg,add_zero→gT,beq→fb,ble_eq→vw,ble→uM,blt_eq→fe,blt→gR,div_eq_of_lt→Fk,eq_of_beq_eq_true→cP,le_of_ble_eq_true→jF,le_of_not_lt→nw,le_refl→a_,le_succ→kO,le_trans→jq,lt_of_lt_of_le→ly,lt_or_ge→cr,mod_eq_of_lt→Fl,mod_lt→P9,mul_comm→Wk,mul_eq_zero→Gj,mul_le_mul_right→jr,one_mul→qA,sub_self→Wj,zero_add→bV,zero_mul→Ba
open _root_.Ne renaming symm→YC
open _root_.Option renaming map_none→P_,map_some→kc,none→aj,some→aa
open _root_.Option.some renaming injEq→ct,inj→pa
open _root_.Or renaming inl→dK,inr→eV
namespace State
open Go.RowKit
structure Kept (F:Nat->Prop) (w w':World):Prop where
 os:w'.os=w.os
 tape:w'.tape=w.tape
 output:w'.output=w.output
 size:w.heap.size≤w'.heap.size
 block:∀ k,k<w.heap.size->¬ F k->w'.heap[k]?=w.heap[k]?
section
variable {F G:Nat->Prop} {a b c w w':World}
theorem Kept.refl (F:Nat->Prop) (w:World):Kept F w w:=⟨rfl,rfl,rfl,a_ _,fun _ _ _=>rfl⟩
theorem Kept.trans (h:Kept F a b) (k:Kept G b c) (hFG:∀ i,i<a.heap.size->G i->F i):Kept F a c :=
 ⟨k.os.trans h.os,k.tape.trans h.tape,k.output.trans h.output,jq h.size k.size,fun i hi hn=>(k.block i (ly hi h.size) (fun hg=>hn (hFG i hi hg))).trans (h.block i hi hn)⟩
theorem Kept.mono (h:Kept F a b) (hFG:∀ i,F i->G i):Kept G a b:=⟨h.os,h.tape,h.output,h.size,fun i hi hn=>h.block i hi (fun hf=>hn (hFG i hf))⟩
theorem Kept.drew (h:Kept F a b):Kept F a b.drew:=⟨h.os,h.tape,h.output,h.size,h.block⟩
theorem Kept.alloc (h:Kept F a b) (o:Obj):Kept F a (b.alloc o) :=
 ⟨h.os,h.tape,h.output,jq h.size (by simp),fun i hi hn=>(N7 b o i (ly hi h.size)).trans (h.block i hi hn)⟩
theorem Kept.setCell (h:Kept F a b) {p:Addr} (hp:F p.block∨a.heap.size≤p.block) (u:Value):Kept F a (b.setCell p u) :=
 ⟨h.os,h.tape,h.output,by simpa [World.setCell] using h.size,fun i hi hn=>(KO b p u i (fun e=>by
  rcases hp with hp|hp
  ·exact hn (by rw[e];exact hp)
  ·omega)).trans (h.block i hi hn)⟩
theorem Kept.below {B:Nat} (h:Kept F a b) (hB:∀ k,k<B->k<a.heap.size/\¬ F k):Below B a b:=⟨h.os,h.tape,h.output,h.size,fun k hk=>h.block k (hB k hk).1 (hB k hk).2⟩
theorem Kept.cell (h:Kept F a b) {p:Addr} (hp:p.block<a.heap.size) (hn:¬ F p.block):b.cell? p=a.cell? p:=A9 (h.block p.block hp hn)
theorem Kept.frozen (h:Kept F a b) {p:Addr} (hp:p.block<a.heap.size) (hn:¬ F p.block):b.frozen? p=a.frozen? p:=World.frozen?_of_block (h.block p.block hp hn)
end
def Whole (w:World) (g:Nat) (t:TypeId) (cs:Array Value):Prop:=w.heap[g]?=aa (.cells cs t (0,0))
section
variable {F:Nat->Prop} {w w':World} {g:Nat} {t:TypeId} {cs:Array Value}
theorem Whole.lt (h:Whole w g t cs):g<w.heap.size:=by
 rcases cr g w.heap.size with cj|j7
 ·exact cj
 ·unfold Whole at h;rw[GA j7] at h;cases h
theorem Whole.cell (h:Whole w g t cs) (i:Nat):w.cell? ⟨g,i,aj⟩=cs[i]?:=cell_of_row w g i cs t (0,0) h
theorem Whole.frozen (h:Whole w g t cs) (i:Nat):w.frozen? ⟨g,i,aj⟩=an:=by
 unfold Whole at h;unfold SR;simp only[h];simp
theorem Whole.new (w:World) (t:TypeId) (cs:Array Value):Whole (w.alloc (.cells cs t)) w.heap.size t cs:=heap_alloc_new w _
theorem Whole.kept (h:Whole w g t cs) (hk:Kept F w w') (hn:¬ F g):Whole w' g t cs:=(hk.block g h.lt hn).trans h
theorem Whole.alloc (h:Whole w g t cs) (o:Obj):Whole (w.alloc o) g t cs:=(N7 w o g h.lt).trans h
theorem Whole.far (h:Whole w g t cs) {p:Addr} (hp:g≠p.block) (u:Value):Whole (w.setCell p u) g t cs:=(KO w p u g hp).trans h
end
def Uj (w:World) (base:Nat) (e:TypeId) (v:Value) (xs:List Value):Prop:=w.ownsRow base e 1 v xs.length xs
section
variable {F:Nat->Prop} {w w':World} {base:Nat} {e:TypeId} {v:Value} {xs:List Value}
theorem Uj.nil (w:World) (base:Nat) (e:TypeId):Uj w base e (.slice aj 0 0) []:=World.ownsRow_nil _ _ _ _
theorem Uj.kept (h:Uj w base e v xs) (hk:Kept F w w') (hn:∀ k,v.ownBlock=aa k->¬ F k):Uj w' base e v xs:=by
 refine⟨h.1,?_⟩;rcases h.2 with h'|⟨g,cap,cur,hv,hba,hh,hr⟩
 ·exact dK h'
 ·refine eV ⟨g,cap,cur,hv,hba,?_,hr⟩;have cj:g<w.heap.size:=by
   rcases cr g w.heap.size with h|h
   ·exact h
   ·rw[GA h] at hh;cases hh
  rw[hk.block g cj (hn g (by rw[hv];rfl))]
  exact hh
end
end State
namespace Rx
structure Place where
 lD:Nat
 off:Nat
 cap:Nat
 nil:Bool
abbrev Env:=Nat->Place
def cellOf (e:Nat):Option Nat->Nat
 |none=>e
 |some q=>e*(q%1000000 / 1000)+q%1000
def iD (ρ:Env) (a:Addr):Addr:=⟨(ρ a.block).lD,(ρ a.block).off+cellOf a.off a.spot,aj⟩
def lF (ρ:Env) (a:Addr) (n c:Nat):Value :=
 match a.spot with
 |none=>.slice (aa (iD ρ a)) n c
 |some q =>
  if(ρ a.block).nil=ao then .slice aj n 0
  else if q / 1000000≠0/\(ρ a.block).cap≤a.off then .slice (aa ⟨(ρ (q / 1000000-1)).lD,(ρ (q / 1000000-1)).off,aj⟩) n 0
  else .slice (aa (iD ρ a)) n ((ρ a.block).cap-a.off)
mutual
def bT (ρ:Env):Value->Value
 |.pointer (aa a)=>.pointer (aa (iD ρ a))
 |.slice (aa a) n c=>lF ρ a n c
 |.map (aa r)=>.map (aa (ρ r).lD)
 |.chan (aa r)=>.chan (aa (ρ r).lD)
 |.agg ⟨l⟩=>.agg ⟨nC ρ l⟩
 |.tuple ⟨l⟩=>.tuple ⟨nC ρ l⟩
 |.func fn ⟨f⟩ ⟨c⟩=>.func fn ⟨nC ρ f⟩ ⟨nC ρ c⟩
 |.iface t v=>.iface t (bT ρ v)
 |v=>v
def nC (ρ:Env):List Value->List Value
 |[]=>[]
 |v::l=>bT ρ v::nC ρ l
end
section
variable {ρ gv:Env}
theorem lh (l:List Value):nC ρ l=l.map (bT ρ):=by
 induction l with
 |nil=>simp[nC]
 |cons v l ih=>simp[nC,ih]
theorem zA (cs:Array Value):bT ρ (.agg cs)=.agg (cs.map (bT ρ)):=by
 obtain⟨l⟩:=cs;simp[bT,lh]
theorem aba (cs:Array Value):bT ρ (.tuple cs)=.tuple (cs.map (bT ρ)):=by
 obtain⟨l⟩:=cs;simp[bT,lh]
@[simp] theorem xQ (k:IntKind) (n:Int):bT ρ (.int k n)=.int k n:=by simp[bT]
@[simp] theorem V2 (b:Bool):bT ρ (.bool b)=.bool b:=by simp[bT]
@[simp] theorem Du (s:ByteArray):bT ρ (.string s)=.string s:=by simp[bT]
end
mutual
def flat:Value->Bool
 |.pointer (aa _)|.slice (aa _) _ _|.map (aa _)|.chan (aa _)=>an
 |.agg ⟨l⟩=>pM l
 |.tuple ⟨l⟩=>pM l
 |.func _ ⟨f⟩ ⟨c⟩=>pM f&&pM c
 |.iface _ v=>flat v
 |_=>ao
def pM:List Value->Bool
 |[]=>ao
 |v::l=>flat v&&pM l
end
def Ej:Option Nat->Nat
 |none=>0
 |some q=>q / 1000000
mutual
def fp (n:Nat):Value->Bool
 |.pointer (aa a)=>gR a.block n
 |.slice (aa a) _ _=>gR a.block n&&uM (Ej a.spot) n
 |.map (aa r)|.chan (aa r)=>gR r n
 |.agg ⟨l⟩=>ix n l
 |.tuple ⟨l⟩=>ix n l
 |.func _ ⟨f⟩ ⟨c⟩=>ix n f&&ix n c
 |.iface _ v=>fp n v
 |_=>ao
def ix (n:Nat):List Value->Bool
 |[]=>ao
 |v::l=>fp n v&&ix n l
end
section
variable {ρ gv:Env} {n m:Nat}
theorem O_ {a:Addr} (h:∀ i,i<n->ρ i=gv i) (ha:a.block<n):iD ρ a=iD gv a:=by
 unfold iD;rw[h _ ha]
theorem Zh {a:Addr} {k c:Nat} (h:∀ i,i<n->ρ i=gv i) (ha:a.block<n) (ht:Ej a.spot≤n):lF ρ a k c=lF gv a k c:=by
 unfold lF;rw[O_ h ha,h _ ha];cases hs:a.spot with
 |none=>rfl
 |some q =>
  rw[hs] at ht;simp only[Ej] at ht;simp only;split
  ·rfl
  ·split
   ·rename_i hq;rw[h (q / 1000000-1) (by omega)]
   ·rfl
mutual
theorem nh (h:∀ i,i<n->ρ i=gv i):∀ v,fp n v=ao->bT ρ v=bT gv v
 |.pointer (aa a),hv=>by
  simp only[fp,fe] at hv;simp only[bT,O_ h hv]
 |.pointer aj,_=>by simp[bT]
 |.slice (aa a) k c,hv=>by
  simp only[fp,aL,fe,vw] at hv;simp only[bT];exact Zh h hv.1 hv.2
 |.slice aj _ _,_=>by simp[bT]
 |.map (aa r),hv=>by simp only[fp,fe] at hv;simp[bT,h _ hv]
 |.map aj,_=>by simp[bT]
 |.chan (aa r),hv=>by simp only[fp,fe] at hv;simp[bT,h _ hv]
 |.chan aj,_=>by simp[bT]
 |.agg ⟨l⟩,hv=>by simp only[fp] at hv;simp only[bT,qq h l hv]
 |.tuple ⟨l⟩,hv=>by simp only[fp] at hv;simp only[bT,qq h l hv]
 |.func fn ⟨f⟩ ⟨c⟩,hv=>by
  simp only[fp,aL] at hv;simp only[bT,qq h f hv.1,qq h c hv.2]
 |.iface t v,hv=>by simp only[fp] at hv;simp only[bT,nh h v hv]
 |.int _ _,_=>by simp
 |.bool _,_=>by simp
 |.string _,_=>by simp
 |.float _ _,_=>by simp[bT]
 |.complex _ _ _,_=>by simp[bT]
 |.nilFunc,_=>by simp[bT]
 |.nilIface,_=>by simp[bT]
theorem qq (h:∀ i,i<n->ρ i=gv i):∀ l,ix n l=ao->nC ρ l=nC gv l
 |[],_=>rfl
 |v::l,hv=>by
  simp only[ix,aL] at hv;simp only[nC,nh h v hv.1,qq h l hv.2]
end
mutual
theorem nQ:∀ v,flat v=ao->bT ρ v=v
 |.pointer (aa a),hv=>by simp[flat] at hv
 |.pointer aj,_=>by simp[bT]
 |.slice (aa a) k c,hv=>by simp[flat] at hv
 |.slice aj _ _,_=>by simp[bT]
 |.map (aa r),hv=>by simp[flat] at hv
 |.map aj,_=>by simp[bT]
 |.chan (aa r),hv=>by simp[flat] at hv
 |.chan aj,_=>by simp[bT]
 |.agg ⟨l⟩,hv=>by simp only[flat] at hv;simp only[bT,Cn l hv]
 |.tuple ⟨l⟩,hv=>by simp only[flat] at hv;simp only[bT,Cn l hv]
 |.func fn ⟨f⟩ ⟨c⟩,hv=>by
  simp only[flat,aL] at hv;simp only[bT,Cn f hv.1,Cn c hv.2]
 |.iface t v,hv=>by simp only[flat] at hv;simp only[bT,nQ v hv]
 |.int _ _,_=>by simp
 |.bool _,_=>by simp
 |.string _,_=>by simp
 |.float _ _,_=>by simp[bT]
 |.complex _ _ _,_=>by simp[bT]
 |.nilFunc,_=>by simp[bT]
 |.nilIface,_=>by simp[bT]
theorem Cn:∀ l,pM l=ao->nC ρ l=l
 |[],_=>rfl
 |v::l,hv=>by
  simp only[pM,aL] at hv;simp only[nC,nQ v hv.1,Cn l hv.2]
end
mutual
theorem HZ:∀ v,flat v=ao->fp n v=ao
 |.pointer (aa a),hv=>by simp[flat] at hv
 |.pointer aj,_=>by simp[fp]
 |.slice (aa a) k c,hv=>by simp[flat] at hv
 |.slice aj _ _,_=>by simp[fp]
 |.map (aa r),hv=>by simp[flat] at hv
 |.map aj,_=>by simp[fp]
 |.chan (aa r),hv=>by simp[flat] at hv
 |.chan aj,_=>by simp[fp]
 |.agg ⟨l⟩,hv=>by simp only[flat] at hv;simp only[fp];exact zC l hv
 |.tuple ⟨l⟩,hv=>by simp only[flat] at hv;simp only[fp];exact zC l hv
 |.func fn ⟨f⟩ ⟨c⟩,hv=>by
  simp only[flat,aL] at hv;simp only[fp,aL];exact⟨zC f hv.1,zC c hv.2⟩
 |.iface t v,hv=>by simp only[flat] at hv;simp only[fp];exact HZ v hv
 |.int _ _,_=>by simp[fp]
 |.bool _,_=>by simp[fp]
 |.string _,_=>by simp[fp]
 |.float _ _,_=>by simp[fp]
 |.complex _ _ _,_=>by simp[fp]
 |.nilFunc,_=>by simp[fp]
 |.nilIface,_=>by simp[fp]
theorem zC:∀ l,pM l=ao->ix n l=ao
 |[],_=>rfl
 |v::l,hv=>by
  simp only[pM,aL] at hv;simp only[ix,aL];exact⟨HZ v hv.1,zC l hv.2⟩
end
mutual
theorem BF (hm:n≤m):∀ v,fp n v=ao->fp m v=ao
 |.pointer (aa a),hv=>by simp only[fp,fe] at *;omega
 |.pointer aj,_=>by simp[fp]
 |.slice (aa a) k c,hv=>by simp only[fp,aL,fe,vw] at *;omega
 |.slice aj _ _,_=>by simp[fp]
 |.map (aa r),hv=>by simp only[fp,fe] at *;omega
 |.map aj,_=>by simp[fp]
 |.chan (aa r),hv=>by simp only[fp,fe] at *;omega
 |.chan aj,_=>by simp[fp]
 |.agg ⟨l⟩,hv=>by simp only[fp] at *;exact uZ hm l hv
 |.tuple ⟨l⟩,hv=>by simp only[fp] at *;exact uZ hm l hv
 |.func fn ⟨f⟩ ⟨c⟩,hv=>by
  simp only[fp,aL] at *
  exact⟨uZ hm f hv.1,uZ hm c hv.2⟩
 |.iface t v,hv=>by simp only[fp] at *;exact BF hm v hv
 |.int _ _,_=>by simp[fp]
 |.bool _,_=>by simp[fp]
 |.string _,_=>by simp[fp]
 |.float _ _,_=>by simp[fp]
 |.complex _ _ _,_=>by simp[fp]
 |.nilFunc,_=>by simp[fp]
 |.nilIface,_=>by simp[fp]
theorem uZ (hm:n≤m):∀ l,ix n l=ao->ix m l=ao
 |[],_=>rfl
 |v::l,hv=>by
  simp only[ix,aL] at *
  exact⟨BF hm v hv.1,uZ hm l hv.2⟩
end
theorem wR {l:List Value}:ix n l=ao↔∀ v∈l,fp n v=ao:=by
 induction l with
 |nil=>simp[ix]
 |cons v l ih=>simp[ix,ih]
theorem z5 {l:List Value}:pM l=ao↔∀ v∈l,flat v=ao:=by
 induction l with
 |nil=>simp[pM]
 |cons v l ih=>simp[pM,ih]
theorem WL:∀ v:Value,(bT ρ v).oneCell'=v.oneCell'
 |.pointer (aa a)=>by simp[bT,qe]
 |.pointer aj=>by simp[bT]
 |.slice (aa a) k c=>by
  simp only[bT,lF];cases a.spot with
  |none=>rfl
  |some q=>simp only;split<;>first|rfl|(split<;>rfl)
 |.slice aj _ _=>by simp[bT]
 |.map (aa r)=>by simp[bT,qe]
 |.map aj=>by simp[bT]
 |.chan (aa r)=>by simp[bT,qe]
 |.chan aj=>by simp[bT]
 |.agg ⟨l⟩=>by simp[bT,qe]
 |.tuple ⟨l⟩=>by simp[bT,qe]
 |.func fn ⟨f⟩ ⟨c⟩=>by simp[bT,qe]
 |.iface t v=>by simp[bT,qe]
 |.int _ _=>by simp
 |.bool _=>by simp
 |.string _=>by simp
 |.float _ _=>by simp[bT]
 |.complex _ _ _=>by simp[bT]
 |.nilFunc=>by simp[bT]
 |.nilIface=>by simp[bT]
theorem Se (a:Addr) (k c:Nat):∃ A c',lF ρ a k c=.slice A k c':=by
 unfold lF;cases a.spot with
 |none=>exact⟨_,_,rfl⟩
 |some q=>simp only;split<;>first|exact⟨_,_,rfl⟩|(split<;>exact⟨_,_,rfl⟩)
theorem Cp (v:Value):(bT ρ v).cells=v.cells.map (bT ρ):=by
 cases v with
 |agg cs=>rw[zA];rfl
 |slice a k c =>
  cases a with
  |none=>simp[bT,nx]
  |some a =>
   obtain⟨A,c',h⟩:=Se (ρ:=ρ) a k c;simp[bT,h,nx]
 |pointer a=>cases a<;>simp[bT,nx]
 |map a=>cases a<;>simp[bT,nx]
 |chan a=>cases a<;>simp[bT,nx]
 |tuple cs=>obtain⟨l⟩:=cs;simp[bT,nx]
 |func fn f c=>obtain⟨f⟩:=f;obtain⟨c⟩:=c;simp[bT,nx]
 |iface t v=>simp[bT,nx]
 |_=>simp[bT,nx]
end
end Rx
namespace Rx
open Go.RowKit State
structure aX where
 i:List Int
 b:List Bool
 s:List ByteArray
def yQ (l:List Int):aX:=⟨l,[],[]⟩
def AM (l:List Bool):aX:=⟨[],l,[]⟩
def El (l:List ByteArray):aX:=⟨[],[],l⟩
def KZ:aX:=⟨[],[],[]⟩
def gD:Value->aX->Nat->Value
 |.int k _,c,e=>.int k (c.i.getD e 0)
 |.bool _,c,e=>.bool (c.b.getD e an)
 |.string _,c,e=>.string (c.s.getD e ⟨#[]⟩)
 |v,_,_=>v
def jK:Value->aX->Nat->Prop
 |.int _ _,c,n=>c.i.length=n
 |.bool _,c,n=>c.b.length=n
 |.string _,c,n=>c.s.length=n
 |v,_,_=>flat v=ao/\v.oneCell'=ao
structure Row where
 tm:List Value
 n:Nat
 eu:List aX
structure oc (r:Row) (arr:Array Value) (o:Nat):Prop where
 len:r.eu.length=r.tm.length
 I9:∀ (f:Nat) (t:Value) (c:aX),r.tm[f]?=aa t->r.eu[f]?=aa c->jK t c r.n
 cell:∀ (f:Nat) (t:Value) (c:aX) (e:Nat),r.tm[f]?=aa t->r.eu[f]?=aa c->e<r.n->arr[o+(e*r.tm.length+f)]?=aa (gD t c e)
abbrev SB (R:Type):=(TypeId×List Value) ⊕ (TypeId×Row) ⊕ Row ⊕ R
abbrev Hp (R:Type):=List (Option (SB R))
structure fH (R:Type) where
 H:R->Place->(Nat->Prop)->World->Prop
 HT:∀ x p F w w',H x p F w->(∀ k,F k->w'.heap[k]?=w.heap[k]?)->H x p F w'
 lt:∀ x p F w k,H x p F w->F k->k<w.heap.size
structure Ctx where
 w0:World
 U:Nat->Prop
 e0:Env
 n0:Nat
section
variable {R:Type} {D:fH R} {C:Ctx} {ρ gv:Env} {i n:Nat} {F:Nat->Prop} {w w':World} {B:SB R}
def hold (D:fH R) (C:Ctx) (ρ:Env) (i:Nat) (F:Nat->Prop) (w:World):SB R->Prop
 |.inl (t,cs)=>(ρ i).off=0/\(∀ k,F k↔k=(ρ i).lD)/\w.heap[(ρ i).lD]?=aa (.cells (cs.map (bT ρ)).toArray t (0,0))
 |.inr (.inl (t,r))=>(∀ k,F k↔((ρ i).nil=an/\k=(ρ i).lD))/\0<r.tm.length/\r.n≤(ρ i).cap/\(ρ i).cap≤maxLen/\((ρ i).nil=ao->(ρ i).cap=0) /\
   ∃ arr,((ρ i).nil=an->w.heap[(ρ i).lD]?=aa (.cells arr t (0,0))/\arr.size=(ρ i).off+(ρ i).cap*r.tm.length)/\oc r arr (ρ i).off
 |.inr (.inr (.inl r))=>(∀ k,¬ F k)/\0<r.tm.length/\r.n≤(ρ i).cap/\(ρ i).cap≤maxLen/\((ρ i).nil=ao->(ρ i).cap=0) /\
   ∃ arr,((ρ i).nil=an->0<r.n->(ρ i).lD<C.w0.heap.size/\¬ C.U (ρ i).lD/\∃ t fz,C.w0.heap[(ρ i).lD]?=aa (.cells arr t fz))/\oc r arr (ρ i).off
 |.inr (.inr (.inr x))=>D.H x (ρ i) F w
def inside (n:Nat):SB R->Prop
 |.inl (_,cs)=>ix n cs=ao
 |_=>True
theorem Cf {m:Nat} (hm:n≤m) (h:inside n B):inside m B:=by
 rcases B with⟨t,cs⟩|⟨t,r⟩|r|x<;>first|exact trivial|skip
 exact uZ hm _ h
theorem JO (h:hold D C ρ i F w B) (hk:∀ k,F k->w'.heap[k]?=w.heap[k]?):hold D C ρ i F w' B:=by
 rcases B with⟨t,cs⟩|⟨t,r⟩|r|x
 ·obtain⟨h1,h2,h3⟩:=h;exact⟨h1,h2,by rw[hk _ ((h2 _).2 rfl)];exact h3⟩
 ·obtain⟨h1,h2,h3,h4,Jw,arr,h5,h6⟩:=h;exact⟨h1,h2,h3,h4,Jw,arr,fun hn=>by rw[hk _ ((h1 _).2 ⟨hn,rfl⟩)];exact h5 hn,h6⟩
 ·exact h
 ·exact D.HT _ _ _ _ _ h hk
theorem IF (h:hold D C ρ i F w B) (qD:∀ j,j<n->gv j=ρ j) (hi:i<n) (hs:inside n B):hold D C gv i F w B:=by
 have e:=qD i hi;rcases B with⟨t,cs⟩|⟨t,r⟩|r|x
 ·simp only[hold,e] at *
  have:cs.map (bT gv)=cs.map (bT ρ):=n3 fun v hv=>(nh (fun j hj=>(qD j hj)) v (wR.1 hs v hv))
  rw[this];exact h
 ·simp only[hold,e] at *;exact h
 ·simp only[hold,e] at *;exact h
 ·simp only[hold,e] at *;exact h
structure HM (D:fH R) (C:Ctx) (ρ:Env) (ft:Nat->Nat->Prop) (h:Hp R) (w:World):Prop where
 at_:∀ i B,h[i]?=aa (aa B)->hold D C ρ i (ft i) w B/\inside h.length B
 lt:∀ i k,ft i k->k<w.heap.size
 fresh:∀ i k,ft i k->C.U k∨C.w0.heap.size≤k
 apart:∀ i j k,ft i k->ft j k->i=j
 some_:∀ i k,ft i k->∃ B,h[i]?=aa (aa B)
 kept:Kept C.U C.w0 w
variable {ft ku:Nat->Nat->Prop} {h h':Hp R}
theorem HM.same (hm:HM D C ρ ft h w) (hh:w'.heap=w.heap) (ho:w'.os=w.os) (ht:w'.tape=w.tape) (hu:w'.output=w.output):HM D C ρ ft h w' where
 at_ i B hi:=⟨JO (hm.at_ i B hi).1 (fun k _=>by rw[hh]),(hm.at_ i B hi).2⟩
 lt i k hk:=by rw[hh];exact hm.lt i k hk
 fresh:=hm.fresh
 apart:=hm.apart
 some_:=hm.some_
 kept:=⟨ho.trans hm.kept.os,ht.trans hm.kept.tape,hu.trans hm.kept.output,by rw[hh];exact hm.kept.size,fun k hk hn=>by rw[hh];exact hm.kept.block k hk hn⟩
theorem HM.drew (hm:HM D C ρ ft h w):HM D C ρ ft h w.drew:=hm.same rfl rfl rfl rfl
theorem HM.step (hm:HM D C ρ ft h w) (S:Nat->Prop) (hk:Kept (fun k=>∃ i,S i/\ft i k) w w') (qD:∀ i,i<h.length->gv i=ρ i) (hlen:h.length≤h'.length)
  (uo:∀ i B,(i<h.length->S i)->h'[i]?=aa (aa B)->hold D C gv i (ku i) w' B/\inside h'.length B)
  (Ga:∀ i,i<h.length->¬ S i->h'[i]?=h[i]?/\∀ k,ku i k↔ft i k)
  (j8:∀ i k,(i<h.length->S i)->ku i k->((∃ j,S j/\ft j k)∨w.heap.size≤k)/\k<w'.heap.size/\∃ B,h'[i]?=aa (aa B))
  (hap:∀ i j k,(i<h.length->S i)->(j<h.length->S j)->ku i k->ku j k->i=j):HM D C gv ku h' w' where
 at_ i B hi:=by
  by_cases hs:i<h.length/\¬ S i
  ·obtain⟨hl,hn⟩:=hs;obtain⟨e,hf⟩:=Ga i hl hn;rw[e] at hi;obtain⟨h1,h2⟩:=hm.at_ i B hi;refine⟨?_,Cf hlen h2⟩;have h3:=IF h1 qD hl h2;have h4:hold D C gv i (ft i) w' B:=JO h3 fun k nB=>hk.block k (hm.lt i k nB) (fun⟨j,hj,hjk⟩=>hn (by rw[hm.apart i j k nB hjk];exact hj))
   have:ku i=ft i:=funext fun k=>propext (hf k)
   rw[this];exact h4
  ·exact uo i B (fun hl=>iy fun hn=>hs ⟨hl,hn⟩) hi
 lt i k hi:=by
  by_cases hs:i<h.length/\¬ S i
  ·exact ly (hm.lt i k (((Ga i hs.1 hs.2).2 k).1 hi)) hk.size
  ·exact(j8 i k (fun hl=>iy fun hn=>hs ⟨hl,hn⟩) hi).2.1
 fresh i k hi:=by
  by_cases hs:i<h.length/\¬ S i
  ·exact hm.fresh i k (((Ga i hs.1 hs.2).2 k).1 hi)
  ·rcases(j8 i k (fun hl=>iy fun hn=>hs ⟨hl,hn⟩) hi).1 with⟨j,_,hj⟩|j7
   ·exact hm.fresh j k hj
   ·exact eV (jq hm.kept.size j7)
 apart i j k hi hj:=by
  by_cases hs:i<h.length/\¬ S i<;>by_cases UL:j<h.length/\¬ S j
  ·exact hm.apart i j k (((Ga i hs.1 hs.2).2 k).1 hi) (((Ga j UL.1 UL.2).2 k).1 hj)
  ·have lP:=((Ga i hs.1 hs.2).2 k).1 hi;rcases(j8 j k (fun hl=>iy fun hn=>UL ⟨hl,hn⟩) hj).1 with⟨l,hl,uh⟩|j7
   ·exact absurd hl (by rw[← hm.apart i l k lP uh];exact hs.2)
   ·have:=hm.lt i k lP;omega
  ·have Mh:=((Ga j UL.1 UL.2).2 k).1 hj;rcases(j8 i k (fun hl=>iy fun hn=>hs ⟨hl,hn⟩) hi).1 with⟨l,hl,uh⟩|j7
   ·exact absurd hl (by rw[← hm.apart j l k Mh uh];exact UL.2)
   ·have:=hm.lt j k Mh;omega
  ·exact hap i j k (fun hl=>iy fun hn=>hs ⟨hl,hn⟩) (fun hl=>iy fun hn=>UL ⟨hl,hn⟩) hi hj
 some_ i k hi:=by
  by_cases hs:i<h.length/\¬ S i
  ·obtain⟨e,hf⟩:=Ga i hs.1 hs.2;rw[e];exact hm.some_ i k ((hf k).1 hi)
  ·exact(j8 i k (fun hl=>iy fun hn=>hs ⟨hl,hn⟩) hi).2.2
 kept:=hm.kept.trans hk fun k nB ⟨j,_,hj⟩=>by
  rcases hm.fresh j k hj with hu|j7
  ·exact hu
  ·omega
def qn {α:Type} (f:Nat->α) (n:Nat) (a:α):Nat->α:=fun i=>if i=n then a else f i
theorem jc {α:Type} (f:Nat->α) (n:Nat) (a:α):qn f n a n=a:=by simp[qn]
theorem oA {α:Type} (f:Nat->α) (n:Nat) (a:α) {i:Nat} (hi:i<n):qn f n a i=f i:=by simp[qn,Nat.ne_of_lt hi]
theorem vM {α:Type} (f:Nat->α) (n:Nat) (a:α) {i:Nat} (hi:i≠n):qn f n a i=f i:=by simp[qn,hi]
theorem HM.push (hm:HM D C ρ ft h w) (p:Place) (o:Obj) (hp:p.lD=w.heap.size) (B:SB R) (hB:hold D C (qn ρ h.length p) h.length (fun k=>k=w.heap.size) (w.alloc o) B) (hs:inside (h.length+1) B) :
  HM D C (qn ρ h.length p) (qn ft h.length (fun k=>k=w.heap.size)) (h++[aa B]) (w.alloc o):=by
 refine hm.step (fun _=>False) ((Kept.refl _ _).alloc _) (fun i hi=>oA _ _ _ hi) (by simp) ?_ ?_ ?_ ?_
 ·intro i B' hi jD;have j7:h.length≤i:=nw hi;rw[dQ j7] at jD;have:i=h.length:=by
   rcases cr h.length i with cj|hle
   ·rw[dc (by simp;omega)] at jD;cases jD
   ·omega
  subst this;simp at jD;subst jD;rw[jc]
  simpa using⟨hB,hs⟩
 ·intro i hi _;exact⟨c_ hi,fun k=>by rw[oA _ _ _ hi]⟩
 ·intro i k hi hk;have j7:h.length≤i:=nw hi
  by_cases he:i=h.length
  ·subst he;rw[jc] at hk;subst hk;exact⟨eV (a_ _),by simp,B,by simp⟩
  ·rw[vM _ _ _ he] at hk;obtain⟨B',jD⟩:=hm.some_ i k hk;rw[dc j7] at jD;cases jD
 ·intro i j k hi hj GY He;have hgi:h.length≤i:=nw hi;have hgj:h.length≤j:=nw hj;have key:∀ l,h.length≤l->qn ft h.length (fun k=>k=w.heap.size) l k->l=h.length:=fun l hl uh=>by
   refine iy fun he=>?_
   rw[vM _ _ _ he] at uh;obtain⟨B',jD⟩:=hm.some_ l k uh;rw[dc hl] at jD;cases jD
  rw[key i hgi GY,key j hgj He]
theorem HM.pushNone (hm:HM D C ρ ft h w) (p:Place):HM D C (qn ρ h.length p) ft (h++[aj]) w:=by
 refine hm.step (fun _=>False) (Kept.refl _ _) (fun i hi=>oA _ _ _ hi) (by simp) ?_ ?_ ?_ ?_
 ·intro i B' hi jD;have j7:h.length≤i:=nw hi;rw[dQ j7] at jD;rcases cr h.length i with cj|hle
  ·rw[dc (by simp;omega)] at jD;cases jD
  ·rw[show i-h.length=0 by omega] at jD;simp at jD
 ·intro i hi _;exact⟨c_ hi,fun k=>sk⟩
 ·intro i k hi hk;obtain⟨B',jD⟩:=hm.some_ i k hk;have cj:=(aU.1 jD).1;exact absurd cj hi
 ·intro i j k hi hj GY He;exact hm.apart i j k GY He
theorem HM.put (hm:HM D C ρ ft h w) {i:Nat} {B0:SB R} (hi:h[i]?=aa (aa B0)) (hk:Kept (ft i) w w') (B:SB R) (F:Nat->Prop) (hB:hold D C ρ i F w' B) (hs:inside h.length B)
  (hF:∀ k,F k->(ft i k∨w.heap.size≤k)/\k<w'.heap.size):HM D C ρ (qn ft i F) (h.set i (aa B)) w':=by
 have hl:i<h.length:=(aU.1 hi).1;refine hm.step (fun j=>j=i) (hk.mono fun k hk=>⟨i,rfl,hk⟩) (fun _ _=>rfl) (by simp) ?_ ?_ ?_ ?_
 ·intro j B' hj jD
  by_cases he:j=i
  ·subst he;rw[jX hl] at jD;injection jD with jD;injection jD with jD
   subst jD;rw[jc];exact⟨hB,by rw[fa];exact hs⟩
  ·have cj:¬ j<h.length:=fun cj=>he (hj cj)
   rw[dc (by rw[fa];omega)] at jD
   cases jD
 ·intro j hj hn;refine⟨kt (fun e=>hn e.symm),fun k=>by rw[vM _ _ _ hn]⟩
 ·intro j k hj nB
  by_cases he:j=i
  ·subst he;rw[jc] at nB;obtain⟨h1,h2⟩:=hF k nB;exact⟨h1.imp (fun h=>⟨j,rfl,h⟩) id,h2,B,jX hl⟩
  ·rw[vM _ _ _ he] at nB;obtain⟨B',jD⟩:=hm.some_ j k nB;have cj:=(aU.1 jD).1;exact absurd (hj cj) he
 ·intro a b k ha hb hka hkb;have key:∀ l,(l<h.length->l=i)->qn ft i F l k->l=i:=fun l Bo uh=>by
   refine iy fun he=>?_
   rw[vM _ _ _ he] at uh;obtain⟨B',jD⟩:=hm.some_ l k uh;exact he (Bo (aU.1 jD).1)
  rw[key a ha hka,key b hb hkb]
theorem HM.drop (hm:HM D C ρ ft h w) (i:Nat):HM D C ρ (qn ft i (fun _=>False)) (h.set i aj) w:=by
 refine hm.step (fun j=>j=i) (Kept.refl _ _) (fun _ _=>rfl) (by simp) ?_ ?_ ?_ ?_
 ·intro j B' hj jD
  by_cases he:j=i
  ·subst he
   by_cases hl:j<h.length
   ·rw[jX hl] at jD;injection jD with jD
    cases jD
   ·rw[dc (by rw[fa];omega)] at jD
    cases jD
  ·have cj:¬ j<h.length:=fun cj=>he (hj cj)
   rw[dc (by rw[fa];omega)] at jD
   cases jD
 ·intro j hj hn;refine⟨kt (fun e=>hn e.symm),fun k=>by rw[vM _ _ _ hn]⟩
 ·intro j k hj nB
  by_cases he:j=i
  ·subst he;rw[jc] at nB;exact nB.elim
  ·rw[vM _ _ _ he] at nB;obtain⟨B',jD⟩:=hm.some_ j k nB;have cj:=(aU.1 jD).1;exact absurd (hj cj) he
 ·intro a b k ha hb hka hkb;have key:∀ l,qn ft i (fun _=>False) l k->ft l k:=fun l uh=>by
   by_cases he:l=i
   ·subst he;rw[jc] at uh;exact uh.elim
   ·rw[vM _ _ _ he] at uh;exact uh
  exact hm.apart a b k (key a hka) (key b hkb)
end
end Rx
namespace Rx
open Go.RowKit State
structure SS (R:Type) where
 tm:List (Option Value)
 li:List (Nat×Bool)
 hp:Hp R
structure Out (R:Type) where
 vc:Prop
 v:Value
 lit:Option Bool
 hp:Hp R
 rd:List (Nat×Nat)
 wr:List (Nat×Nat)
structure TM (ρ:Env) (n:Nat) (tm:List (Option Value)) (a:Act):Prop where
 size:a.tmps.size=tm.length
 val:∀ (t:Nat) (v:Value),tm[t]?=aa (aa v)->a.tmps[t]?=aa (bT ρ v)/\fp n v=ao
def LI (li:List (Nat×Bool)) (tm:List (Option Value)):Prop:=∀ (t:Nat) (b:Bool),(t,b)∈li->tm[t]?=aa (aa (.bool b))
def ev (tm:List (Option Value)):Operand->Option Value
 |.tmp t=>match tm[t]? with
  |some (aa v)=>aa v
  |_=>aj
 |.const v=>if flat v then aa v else aj
 |.func f=>aa (.func (.func f) #[] #[])
 |.global _=>aj
def look (li:List (Nat×Bool)) (t:Nat):Option Bool :=
 match li with
 |[]=>aj
 |(u,b)::l=>if fb u t then aa b else look l t
def Gb (li:List (Nat×Bool)):Operand->Option Bool
 |.tmp t=>look li t
 |.const (.bool b)=>aa b
 |_=>aj
section
variable {R:Type} {D:fH R} {P:Program}
theorem M3 {li:List (Nat×Bool)} {t:Nat} {b:Bool} (h:look li t=aa b):(t,b)∈li:=by
 induction li with
 |nil=>cases h
 |cons p l ih =>
  obtain⟨u,c⟩:=p;simp only[look] at h;split at h
  ·rename_i e;have e:=cP e;injection h with h
   subst h;subst e;exact List.mem_cons_self
  ·exact List.mem_cons_of_mem _ (ih h)
theorem ek {ρ:Env} {n:Nat} {tm:List (Option Value)} {a:Act} {x:Operand} {v:Value} (ht:TM ρ n tm a) (h:ev tm x=aa v):a.eval x=bT ρ v/\fp n v=ao:=by
 cases x with
 |tmp t =>
  simp only[ev] at h;split at h
  ·rename_i u hu;injection h with h
   subst h;obtain⟨h1,h2⟩:=ht.val t u hu;exact⟨by simp[B6,h1],h2⟩
  ·cases h
 |const u =>
  simp only[ev] at h;split at h
  ·rename_i hf;injection h with h
   subst h;exact⟨by simp[B6,nQ u hf],HZ u hf⟩
  ·cases h
 |func f =>
  simp only[ev] at h;injection h with h
  subst h;exact⟨by simp[B6,bT,nC],by simp[fp,ix]⟩
 |global g=>cases h
theorem yB {li:List (Nat×Bool)} {tm:List (Option Value)} {x:Operand} {b:Bool} (hl:LI li tm) (h:Gb li x=aa b):ev tm x=aa (.bool b):=by
 cases x with
 |tmp t =>
  have:=hl t b (M3 h);simp[ev,this]
 |const u =>
  cases u<;>simp only[Gb] at h<;>try cases h
  simp[ev,flat]
 |func f=>cases h
 |global g=>cases h
structure mb (D:fH R) (P:Program) (o:Oper) (σ:SS R) (x:Out R):Prop where
 run:∀ C ρ ft a w K Q,TM ρ σ.hp.length σ.tm a->LI σ.li σ.tm->HM D C ρ ft σ.hp w->x.vc ->
  (∀ gv ku w',(∀ i,i<σ.hp.length->gv i=ρ i)->HM D C gv ku x.hp w'->K (a.put o.dst (bT gv x.v)) w')->o.wp P a w K Q
 len:σ.hp.length≤x.hp.length
 lit:LI σ.li σ.tm->∀ b,x.lit=aa b->x.v=.bool b
theorem rC {o:Oper} {a:Act} {w w':World} {v:Value} {K:Act->World->Prop} {Q:Exit->Act->World->Prop} (h:(execOp a.eval o).run P w=.ok (.value v) w') (hk:K (a.put o.dst v) w'):o.wp P a w K Q:=by
 simp only[RB,h,acR];exact hk
theorem Vm {o:Oper} {a:Act} {w w':World} {K:Act->World->Prop} {Q:Exit->Act->World->Prop} (h:(execOp a.eval o).run P w=.ok .skip w') (hk:K (a.put o.dst undef) w'):o.wp P a w K Q:=by
 simp only[RB,h,acR];exact hk
def gp (σ:SS R) (vc:Prop) (v:Value) (lit:Option Bool) (rd:List (Nat×Nat)):Out R:=⟨vc,v,lit,σ.hp,rd,[]⟩
theorem g9 {o:Oper} {σ:SS R} {vc:Prop} {v:Value} {lit:Option Bool} {rd:List (Nat×Nat)}
  (h:∀ C ρ ft a w,TM ρ σ.hp.length σ.tm a->LI σ.li σ.tm->HM D C ρ ft σ.hp w->vc->(execOp a.eval o).run P w=.ok (.value (bT ρ v)) w)
  (hl:LI σ.li σ.tm->∀ b,lit=aa b->v=.bool b):mb D P o σ (gp σ vc v lit rd) where
 run C ρ ft a w K Q ht iv hm hv hk:=rC (h C ρ ft a w ht iv hm hv) (hk ρ ft w (fun _ _=>rfl) hm)
 len:=a_ _
 lit:=hl
def xq {α:Type} (P:Program):Sem α->Option α
 |.pure a=>aa a
 |.program k=>xq P (k P)
 |.mark _ k=>xq P k
 |_=>aj
theorem L7 {α:Type} {P:Program} (s:Sem α) {a:α} (h:xq P s=aa a) (w:World):s.run P w=.ok a w:=by
 induction s generalizing w with
 |pure b=>simp only[xq] at h;injection h with h;subst h;rfl
 |program k ih=>simp only[xq] at h;simp only[Sem.run];exact ih P h w
 |mark m k ih=>simp only[xq] at h;simp only[Sem.run];exact ih h w
 |_=>simp only[xq] at h;cases h
def evf (tm:List (Option Value)) (x:Operand):Value:=(ev tm x).getD undef
def acA (tm:List (Option Value)) (x:Operand):Bool :=
 match ev tm x with
 |some v=>flat v
 |none=>an
def flatAll (tm:List (Option Value)):List Operand->Bool
 |[]=>ao
 |x::l=>acA tm x&&flatAll tm l
theorem W4 {tm:List (Option Value)} {l:List Operand} (h:flatAll tm l=ao) {x:Operand} (hx:x∈l):∃ v,ev tm x=aa v/\flat v=ao:=by
 induction l with
 |nil=>cases hx
 |cons y l ih =>
  simp only[flatAll,aL] at h;rcases bP.1 hx with rfl|hx
  ·have h1:=h.1;unfold acA at h1;split at h1
   ·exact⟨_,by assumption,h1⟩
   ·cases h1
  ·exact ih h.2 hx
def noSelect:Op->Bool
 |.select _ _=>an
 |_=>ao
def uB (P:Program) (σ:SS R) (o:Oper):Option (Out R) :=
 if noSelect o.op&&flatAll σ.tm o.op.operands.toList then
  match xq P (execOp (evf σ.tm) o) with
  |some (.value v)=>if flat v then aa (gp σ True v aj []) else aj
  |_=>aj
 else aj
theorem w5 {σ:SS R} {o:Oper} {x:Out R} (h:uB P σ o=aa x):mb D P o σ x:=by
 unfold uB at h;split at h
 ·rename_i hc;simp only[aL] at hc;split at h
  ·rename_i v hp;split at h
   ·rename_i hf;injection h with h
    subst h;refine g9 (fun C ρ ft a w ht iv hm _=>?_) (fun _ b hb=>by cases hb)
    have e:execOp a.eval o=execOp (evf σ.tm) o:=by
     refine execOp_congr o (fun cs b hs=>?_) (fun y hy=>?_)
     ·rw[hs] at hc;simp[noSelect] at hc
     ·obtain⟨u,hu,hfu⟩:=W4 hc.2 (Array.mem_toList_iff.2 hy);rw[(ek ht hu).1,nQ u hfu];simp[evf,hu]
    rw[e,L7 _ hp w,nQ v hf]
   ·cases h
  ·cases h
 ·cases h
def vU (σ:SS R) (x:Operand):Option (Out R) :=
 match ev σ.tm x with
 |some v=>aa (gp σ True v (Gb σ.li x) [])
 |none=>aj
theorem R' {σ:SS R} {o:Oper} {y:Operand} {x:Out R} (ho:o.op=.move y∨o.op=.assign y) (h:vU σ y=aa x):mb D P o σ x:=by
 unfold vU at h;split at h
 ·rename_i v hv;injection h with h
  subst h;refine g9 (fun C ρ ft a w ht iv hm _=>?_) (fun iv b hb=>?_)
  ·rw[← (ek ht hv).1];rcases ho with ho|ho<;>simp[execOp,ho]
  ·have:=yB iv hb;rw[hv] at this;exact pa this
 ·cases h
def GW (σ:SS R) (c y z:Operand):Option (Out R) :=
 match Gb σ.li c with
 |some ao=>vU σ y
 |some an=>vU σ z
 |none =>
  match ev σ.tm c,ev σ.tm y,ev σ.tm z with
  |some (.bool c),aa (.bool y),aa (.bool z)=>aa (gp σ True (.bool (if c then y else z)) aj [])
  |_,_,_=>aj
theorem aap {σ:SS R} {o:Oper} {c y z:Operand} {x:Out R} (ho:o.op=.pick c y z) (h:GW σ c y z=aa x):mb D P o σ x:=by
 unfold GW at h;split at h
 ·rename_i hl;unfold vU at h;split at h
  ·rename_i v hv;injection h with h
   subst h;refine g9 (fun C ρ ft a w ht iv hm _=>?_) (fun iv b hb=>?_)
   ·have h1:=(ek ht (yB iv hl)).1;rw[← (ek ht hv).1];simp[execOp,ho,h1,asBool]
   ·have:=yB iv hb;rw[hv] at this;exact pa this
  ·cases h
 ·rename_i hl;unfold vU at h;split at h
  ·rename_i v hv;injection h with h
   subst h;refine g9 (fun C ρ ft a w ht iv hm _=>?_) (fun iv b hb=>?_)
   ·have h1:=(ek ht (yB iv hl)).1;rw[← (ek ht hv).1];simp[execOp,ho,h1,asBool]
   ·have:=yB iv hb;rw[hv] at this;exact pa this
  ·cases h
 ·split at h
  ·rename_i c' y' z' hc hy hz;injection h with h
   subst h;refine g9 (fun C ρ ft a w ht iv hm _=>?_) (fun iv b hb=>by cases hb)
   have h1:=(ek ht hc).1;have h2:=(ek ht hy).1;have h3:=(ek ht hz).1;simp[execOp,ho,h1,h2,h3,asBool]
  ·cases h
def Lz (σ:SS R) (y:Operand):Option (Out R) :=
 match ev σ.tm y with
 |some (.bool b)=>aa (gp σ True (.bool (!b)) ((Gb σ.li y).map (!·)) [])
 |_=>aj
theorem ad' {σ:SS R} {o:Oper} {t:TypeId} {y:Operand} {x:Out R} (ho:o.op=.unOp .not t y) (h:Lz σ y=aa x):mb D P o σ x:=by
 unfold Lz at h;split at h
 ·rename_i b hb;injection h with h
  subst h;refine g9 (fun C ρ ft a w ht iv hm _=>?_) (fun iv c hc=>?_)
  ·have h1:=(ek ht hb).1;simp[execOp,ho,h1,Op.unary]
  ·cases hl:Gb σ.li y with
   |none=>rw[hl] at hc;cases hc
   |some d =>
    have:=yB iv hl;rw[hb] at this;injection this with this;injection this with this
    subst this;rw[hl] at hc;injection hc with hc
    subst hc
    rfl
 ·cases h
def LB (σ:SS R) (y:Operand):Option (Out R) :=
 match ev σ.tm y with
 |some (.pointer (aa p))=>aa (gp σ True (.pointer (aa p)) aj [])
 |some (.func (.func f) xs ys)=>aa (gp σ True (.func (.func f) xs ys) aj [])
 |_=>aj
theorem adL {σ:SS R} {o:Oper} {y:Operand} {x:Out R} (ho:o.op=.nilCheck y) (h:LB σ y=aa x):mb D P o σ x:=by
 unfold LB at h;split at h
 ·rename_i p hp;injection h with h
  subst h;refine g9 (fun C ρ ft a w ht iv hm _=>?_) (fun iv c hc=>by cases hc)
  have h1:=(ek ht hp).1;simp only[bT] at h1;simp[execOp,ho,h1,bT]
 ·rename_i f xs ys hp;injection h with h
  subst h;refine g9 (fun C ρ ft a w ht iv hm _=>?_) (fun iv c hc=>by cases hc)
  have h1:=(ek ht hp).1;obtain⟨xs⟩:=xs;obtain⟨ys⟩:=ys;simp only[bT] at h1;simp[execOp,ho,h1,bT]
 ·cases h
def zI (σ:SS R) (y:Operand) (k:Nat):Option (Out R) :=
 match ev σ.tm y with
 |some (.tuple ⟨l⟩)=>match l[k]? with
  |some v=>aa (gp σ True v aj [])
  |none=>aj
 |_=>aj
theorem UW {σ:SS R} {o:Oper} {y:Operand} {k:Nat} {x:Out R} (ho:o.op=.extract y k) (h:zI σ y k=aa x):mb D P o σ x:=by
 unfold zI at h;split at h
 ·rename_i l hl;split at h
  ·rename_i v hv;injection h with h
   subst h;refine g9 (fun C ρ ft a w ht iv hm _=>?_) (fun iv c hc=>by cases hc)
   have h1:=(ek ht hl).1;rw[aba] at h1;simp[execOp,ho,h1,Instr.extract,hv]
  ·cases h
 ·cases h
def Ha (P:Program) (t:TypeId):Value->Value->Option Bool
 |.pointer p,.pointer aj|.pointer aj,.pointer p =>
  match P.underlying t with
  |some (.pointer _)=>aa (match p with|none=>ao|some _=>an)
  |_=>aj
 |.slice aj _ _,.slice aj _ _ =>
  match P.underlying t with
  |some (.slice _)=>aa ao
  |_=>aj
 |.slice (aa ⟨_,_,aj⟩) _ _,.slice aj _ _ =>
  match P.underlying t with
  |some (.slice _)=>aa an
  |_=>aj
 |.func _ _ _,.nilFunc =>
  match P.underlying t with
  |some (.func _ _ _)=>aa an
  |_=>aj
 |.nilFunc,.nilFunc =>
  match P.underlying t with
  |some (.func _ _ _)=>aa ao
  |_=>aj
 |_,_=>aj
def zO (P:Program) (σ:SS R) (neg:Bool) (t:TypeId) (y z:Operand):Option (Out R) :=
 match ev σ.tm y,ev σ.tm z with
 |some u,aa v=>match Ha P t u v with
  |some b=>aa (gp σ True (.bool (xg b neg)) (aa (xg b neg)) [])
  |none=>aj
 |_,_=>aj
theorem WV {t:TypeId} {u v:Value} {b:Bool} (h:Ha P t u v=aa b) (ρ:Env) (w:World):(Wi t (bT ρ u) (bT ρ v)).run P w=.ok b w:=by
 have key:∀ (d:Nat),(mu (d+1) t (bT ρ u) (bT ρ v)).run P w=.ok b w:=by
  intro d;unfold Ha at h;split at h
  ·rename_i p;split at h
   ·rename_i hu;injection h with h
    subst h;cases p<;>simp[mu,run_underlying hu,bT]
   ·cases h
  ·rename_i p _;split at h
   ·rename_i hu;injection h with h
    subst h;cases p<;>simp[mu,run_underlying hu,bT]
   ·cases h
  ·split at h
   ·rename_i hu;injection h with h
    subst h;simp[mu,run_underlying hu,bT]
   ·cases h
  ·split at h
   ·rename_i hu;injection h with h
    subst h;simp[mu,run_underlying hu,bT,lF]
   ·cases h
  ·rename_i fn f c;split at h
   ·rename_i hu;injection h with h
    subst h;obtain⟨f⟩:=f;obtain⟨c⟩:=c;simp[mu,run_underlying hu,bT]
   ·cases h
  ·split at h
   ·rename_i hu;injection h with h
    subst h;simp[mu,run_underlying hu,bT]
   ·cases h
  ·cases h
 unfold Wi;exact key 9999
theorem PT {σ:SS R} {o:Oper} {neg:Bool} {t t':TypeId} {y z:Operand} {x:Out R} (ho:o.op=.binOp (if neg then .neq else .eql) t y z t') (h:zO P σ neg t y z=aa x):mb D P o σ x:=by
 unfold zO at h;split at h
 ·rename_i u v hu hv;split at h
  ·rename_i b hb;injection h with h
   subst h;refine g9 (fun C ρ ft a w ht iv hm _=>?_) (fun iv c hc=>by injection hc with hc;rw[hc])
   have h1:=(ek ht hu).1;have h2:=(ek ht hv).1;have hr:=WV hb ρ w;have hg:∀ op,(eqGuard op t y z (bT ρ u) (bT ρ v)).run P w=.ok () w:=by
    intro op;unfold Ha at hb;split at hb
    all_goals first
     |cases hb
     |skip
    ·rename_i p;cases p<;>cases op<;>simp[eqGuard,bT]
    ·rename_i p _;cases p<;>cases op<;>simp[eqGuard,bT]
    ·cases op<;>simp[eqGuard,bT]
    ·cases op<;>simp[eqGuard,bT,lF]
    ·rename_i fn f c;obtain⟨f⟩:=f;obtain⟨c⟩:=c;cases op<;>simp[eqGuard,bT]
    ·cases op<;>simp[eqGuard,bT]
   have LX:∀ op,(op=.eql∨op=.neq)->(binOp op t (bT ρ u) (bT ρ v)).run P w=.ok (.bool (xg b (op==.neq))) w:=by
    intro op hop;have q1:(Ss==z6)=an:=by decide
    have q2:(z6==z6)=ao:=by decide
    unfold Ha at hb;rcases hop with rfl|rfl
    all_goals
     split at hb
     all_goals first
      |cases hb
      |skip
     ·rename_i p;cases p<;>simp[binOp,bT] at hr ⊢<;>simp[hr,q1,q2]
     ·rename_i p _;cases p<;>simp[binOp,bT] at hr ⊢<;>simp[hr,q1,q2]
     ·simp[binOp,bT] at hr ⊢;simp[hr,q1,q2]
     ·simp[binOp,bT,lF] at hr ⊢;simp[hr,q1,q2]
     ·rename_i fn f c;obtain⟨f⟩:=f;obtain⟨c⟩:=c;simp[binOp,bT] at hr ⊢;simp[hr,q1,q2]
     ·simp[binOp,bT] at hr ⊢;simp[hr,q1,q2]
   cases neg with
   |false =>
    have h3:=LX .eql (dK rfl);have h4:=hg .eql;simp only[fO,if_false] at ho;have q1:(Ss==z6)=an:=by decide
    simp[execOp,ho,h1,h2,h3,h4,q1]
   |true =>
    have h3:=LX .neq (eV rfl);have h4:=hg .neq;simp only[if_true] at ho;simp[execOp,ho,h1,h2,h3,h4]
  ·cases h
 ·cases h
def zB (P:Program) (σ:SS R) (own:Option (Option (SB R))->Bool) (neg:Bool) (t:TypeId) (y z:Operand):Option (Out R) :=
 match ev σ.tm y,ev σ.tm z with
 |some (.pointer (aa ⟨i,0,aj⟩)),aa (.pointer (aa ⟨j,0,aj⟩)) =>
  match P.underlying t with
  |some (.pointer el)=>match P.info? el with
   |some inf =>
    if gR 0 inf.size then
     match fb i j with
     |true=>aa (gp σ True (.bool (xg ao neg)) (aa (xg ao neg)) [])
     |false=>if own σ.hp[i]?&&own σ.hp[j]? then aa (gp σ True (.bool (xg an neg)) (aa (xg an neg)) []) else aj
    else aj
   |none=>aj
  |_=>aj
 |_,_=>aj
theorem OV {own:Option (Option (SB R))->Bool} (TL:∀ {C:Ctx} {ρ:Env} {ft:Nat->Nat->Prop} {h:Hp R} {w:World} {i:Nat},HM D C ρ ft h w->own h[i]?=ao->ft i (ρ i).lD/\∃ ca ta,w.heap[(ρ i).lD]?=aa (.cells ca ta (0,0)))
  {σ:SS R} {o:Oper} {neg:Bool} {t t':TypeId} {y z:Operand} {x:Out R} (ho:o.op=.binOp (if neg then .neq else .eql) t y z t') (h:zB P σ own neg t y z=aa x):mb D P o σ x:=by
 unfold zB at h;split at h
 ·rename_i i j hu hv;split at h
  ·rename_i el ht;split at h
   ·rename_i inf yg;split at h
    ·rename_i n7
     have am' : ¬ inf.size = 0 := by have : 0 < inf.size := by simpa using n7
                                     omega
     have key:∀ (b:Bool),aa (gp σ True (.bool (xg b neg)) (aa (xg b neg)) [])=aa x ->
       (∀ {C:Ctx} {ρ:Env} {ft:Nat->Nat->Prop} {w:World},HM D C ρ ft σ.hp w->(sameAddr (iD ρ ⟨i,0,aj⟩) (iD ρ ⟨j,0,aj⟩)).run P w=.ok b w)->mb D P o σ x:=by
      intro b h hb;injection h with h
      subst h;refine g9 (fun C ρ ft a w ht' iv hm _=>?_) (fun iv c hc=>by injection hc with hc;rw[hc])
      have h1:=(ek ht' hu).1;have h2:=(ek ht' hv).1;have h5:=hb hm;simp only[bT] at h1 h2;have hr:(Wi t (.pointer (aa (iD ρ ⟨i,0,aj⟩))) (.pointer (aa (iD ρ ⟨j,0,aj⟩)))).run P w=.ok b w:=by
       have q:∀ d,(mu (d+1) t (.pointer (aa (iD ρ ⟨i,0,aj⟩))) (.pointer (aa (iD ρ ⟨j,0,aj⟩)))).run P w=.ok b w:=fun d=>by
        simp[mu,run_underlying ht,sizeOf,typeInfo,yg,am',h5]
       exact q 9999
      cases neg with
      |false =>
       simp only[fO,if_false] at ho;have q1:(Ss==z6)=an:=by decide
       simp[execOp,ho,h1,h2,eqGuard,binOp,hr,q1,bT]
      |true =>
       simp only[if_true] at ho;have q2:(z6==z6)=ao:=by decide
       simp[execOp,ho,h1,h2,eqGuard,binOp,hr,q2,bT]
     split at h
     ·rename_i hb;have:=cP hb;subst this;exact key ao h (fun _=>run_sameAddr_same _ _)
     ·rename_i hb;split at h
      ·rename_i hc;simp only[aL] at hc;refine key an h (fun {C ρ ft w} hm=>?_)
       obtain⟨g1,c1,t1,e1⟩:=TL hm hc.1;obtain⟨g2,c2,t2,e2⟩:=TL hm hc.2;refine run_sameAddr_other (ca:=c1) (cb:=c2) (ta:=t1) (tb:=t2) _ (fun e=>?_) e1 e2
       simp only[iD,Addr.mk.injEq] at e;rw[e.1] at g1;have:=hm.apart _ _ _ g1 g2;subst this;simp at hb
      ·cases h
    ·cases h
   ·cases h
  ·cases h
 ·cases h
end
end Rx
namespace Rx
open Go.RowKit State
structure fits (n:Int):Prop where
 lo:-9223372036854775808≤n
 hi:n≤9223372036854775807
theorem oJ {n:Int} (h:fits n):ar.wrap n=n:=by rw[IntKind.wrap_i64];have:=h.lo;have:=h.hi;omega
section
variable {R:Type} {D:fH R} {P:Program} {C:Ctx} {ρ:Env} {ft:Nat->Nat->Prop} {w w':World}
def PX (σ:SS R) (op:BinOp) (y z:Operand):Option (Out R) :=
 match ev σ.tm y,ev σ.tm z with
 |some (.int .i64 a),aa (.int .i64 b) =>
  match op with
  |.add=>aa (gp σ (fits (a+b)) (.int .i64 (a+b)) aj [])
  |.sub=>aa (gp σ (fits (a-b)) (.int .i64 (a-b)) aj [])
  |.mul=>aa (gp σ (fits (a*b)) (.int .i64 (a*b)) aj [])
  |.quo=>aa (gp σ (b≠0/\fits (a.tdiv b)) (.int .i64 (a.tdiv b)) aj [])
  |.rem=>aa (gp σ (b≠0) (.int .i64 (a.tmod b)) aj [])
  |_=>aj
 |_,_=>aj
theorem aej {σ:SS R} {o:Oper} {op:BinOp} {t t':TypeId} {y z:Operand} {x:Out R} (ho:o.op=.binOp op t y z t') (h:PX σ op y z=aa x):mb D P o σ x:=by
 unfold PX at h;split at h
 ·rename_i a b ha hb;cases op<;>simp only at h<;>try cases h
  all_goals
   refine g9 (fun C ρ ft ac w ht iv hm hv=>?_) (fun iv c hc=>by cases hc)
   have h1:=(ek ht ha).1;have h2:=(ek ht hb).1;simp only[xQ] at h1 h2;simp only[execOp,ho,h1,h2,xQ]
  ·simp[eqGuard,binOp,My,oJ hv]
  ·simp[eqGuard,binOp,My,oJ hv]
  ·simp[eqGuard,binOp,My,oJ hv]
  ·simp[eqGuard,binOp,Op.intDiv,oJ hv.2,hv.1]
  ·simp[eqGuard,binOp,Op.intDiv,hv]
 ·cases h
def Py (σ:SS R) (y z:Operand):Option (Out R) :=
 match ev σ.tm y,ev σ.tm z with
 |some (.string a),aa (.string b)=>aa (gp σ (a.size+b.size≤9223372036854775807) (.string (a++b)) aj [])
 |_,_=>aj
theorem adW {σ:SS R} {o:Oper} {t t':TypeId} {y z:Operand} {x:Out R} (ho:o.op=.binOp .add t y z t') (h:Py σ y z=aa x):mb D P o σ x:=by
 unfold Py at h;split at h
 ·rename_i a b ha hb;injection h with h
  subst h;refine g9 (fun C ρ ft ac w ht iv hm hv=>?_) (fun iv c hc=>by cases hc)
  have h1:=(ek ht ha).1;have h2:=(ek ht hb).1;simp only[Du] at h1 h2;have hm:¬ ((a.size+b.size:Nat):Int)>ar.max:=by
   have:ar.max=9223372036854775807:=by decide
   rw[this];omega
  simp only[execOp,ho,h1,h2,Du];simp only[eqGuard,binOp,Op.stringOp,if_neg hm];simp
 ·cases h
def Hb (P:Program) (sub:TypeId->List Value->List Value->Option Bool) (xs ys:List Value):List Field->Option Bool
 |[]=>aa ao
 |f::fs =>
  if f.name ≠ "_" then
   match P.underlying f.type with
   |some (.struct _) =>
    match P.info? f.type with
    |some i =>
     match sub f.type ((xs.drop f.offset).take i.size) ((ys.drop f.offset).take i.size) with
     |some b=>(Hb P sub xs ys fs).map fun r=>b&&r
     |none=>aj
    |none=>aj
   |u =>
    match u,xs[f.offset]?,ys[f.offset]? with
    |some (.int _),aa (.int k a),aa (.int k' b)=>if k=k' then(Hb P sub xs ys fs).map fun r=>(a==b)&&r else aj
    |some .bool,aa (.bool a),aa (.bool b)=>(Hb P sub xs ys fs).map fun r=>(a==b)&&r
    |some .string,aa (.string a),aa (.string b)=>(Hb P sub xs ys fs).map fun r=>(a==b)&&r
    |_,_,_=>aj
  else Hb P sub xs ys fs
def eqD (P:Program):Nat->TypeId->List Value->List Value->Option Bool
 |0,_,_,_=>aj
 |n+1,t,xs,ys =>
  match P.underlying t with
  |some (.struct ⟨fs⟩)=>if P.stoodInHeld t then aj else Hb P (eqD P n) xs ys fs
  |_=>aj
theorem Vs {t:TypeId} {fs:Array Field} {i:TypeInfo} {xs:List Value} {off:Nat} (hu:P.underlying t=aa (.struct fs)) (hi:P.info? t=aa i) (w:World):(part t ⟨xs⟩ off).run P w=.ok (.agg ⟨(xs.drop off).take i.size⟩) w:=by
 have h1:(isAgg t).run P w=.ok ao w:=by simp[isAgg,run_underlying hu]
 have h2:(sizeOf t).run P w=.ok i.size w:=by simp[sizeOf,typeInfo,hi]
 have h3:((⟨xs⟩:Array Value).extract off (off+i.size))=⟨(xs.drop off).take i.size⟩:=by
  apply qz;simp
 simp only[part,dy,h1,cz,if_true,h2,dS,h3]
theorem Lt {sub:TypeId->List Value->List Value->Option Bool} {xs ys:List Value} (d:Nat) (w:World) (nj:∀ t a c b,sub t a c=aa b->(mu (d+1) t (.agg ⟨a⟩) (.agg ⟨c⟩)).run P w=.ok b w):∀ (fs:List Field) (r:Bool),Hb P sub xs ys fs=aa r->(Ck (d+1) ⟨xs⟩ ⟨ys⟩ fs).run P w=.ok r w
 |[],r,h=>by
  simp only[Hb] at h;injection h with h
  subst h;simp[Ck]
 |f::fs,r,h=>by
  simp only[Hb] at h;simp only[Ck]
  have aeX:∀ (b:Bool) (x y:Value),((part f.type ⟨xs⟩ f.offset).run P w=.ok x w)->((part f.type ⟨ys⟩ f.offset).run P w=.ok y w)->(mu (d+1) f.type x y).run P w=.ok b w->(Hb P sub xs ys fs).map (fun r=>b&&r)=aa r ->
    (do
     let a ← part f.type ⟨xs⟩ f.offset
     let b ← part f.type ⟨ys⟩ f.offset
     let r ← mu (d+1) f.type a b
     if(!r)=ao then pure an else Ck (d+1) ⟨xs⟩ ⟨ys⟩ fs:Sem Bool).run P w=.ok r w:=by
   intro b x y hx hy he hr;cases hq:Hb P sub xs ys fs with
   |none=>rw[hq] at hr;cases hr
   |some r' =>
    rw[hq] at hr;simp only[kc,ct] at hr;have ih:=Lt d w nj fs r' hq;simp only[dy,hx,hy,cz,he];cases b with
    |true =>
     simp only[Bool.true_and] at hr;subst hr;simp[ih]
    |false =>
     simp only[Bool.false_and] at hr;subst hr;simp
  have step:∀ (b:Bool) (x y:Value),((isAgg f.type).run P w=.ok an w)->xs[f.offset]?=aa x->ys[f.offset]?=aa y->(mu (d+1) f.type x y).run P w=.ok b w->(Hb P sub xs ys fs).map (fun r=>b&&r)=aa r ->
    (do
     let a ← part f.type ⟨xs⟩ f.offset
     let b ← part f.type ⟨ys⟩ f.offset
     let r ← mu (d+1) f.type a b
     if(!r)=ao then pure an else Ck (d+1) ⟨xs⟩ ⟨ys⟩ fs:Sem Bool).run P w=.ok r w:=by
   intro b x y aju hx hy he hr;refine aeX b x y ?_ ?_ he hr
   ·simp only[part,dy,aju,cz,fO,if_false,jE,hx,dS]
   ·simp only[part,dy,aju,cz,fO,if_false,jE,hy,dS]
  split at h
  ·rename_i hn;rw[if_pos hn];split at h
   ·rename_i gs hu;split at h
    ·rename_i i hi;split at h
     ·rename_i b hb;exact aeX b _ _ (Vs hu hi w) (Vs hu hi w) (nj _ _ _ _ hb) h
     ·cases h
    ·cases h
   ·split at h
    ·rename_i k0 k a k' b hu hx hy;split at h
     ·rename_i hk;subst hk;exact step _ _ _ (by simp[isAgg,run_underlying hu]) hx hy (run_equalIn_int w d f.type k k0 a b hu) h
     ·cases h
    ·rename_i a b hu hx hy;exact step _ _ _ (by simp[isAgg,run_underlying hu]) hx hy (run_equalIn_bool' w d f.type a b hu) h
    ·rename_i a b hu hx hy;refine step _ _ _ (by simp[isAgg,run_underlying hu]) hx hy ?_ h
     rw[beq_toListBytes];exact run_equalIn_string w d f.type a b hu
    ·cases h
  ·rename_i hn;rw[if_neg hn];exact Lt d w nj fs r h
theorem XE (w:World):∀ (n d:Nat),n≤d->∀ (t:TypeId) (a c:List Value) (b:Bool),eqD P n t a c=aa b->(mu (d+1) t (.agg ⟨a⟩) (.agg ⟨c⟩)).run P w=.ok b w
 |0,d,_,t,a,c,b,h=>by cases h
 |n+1,0,hd,t,a,c,b,h=>by omega
 |n+1,d+1,hd,t,a,c,b,h=>by
  simp only[eqD] at h;split at h
  ·rename_i fs hu;split at h
   ·cases h
   ·rename_i hs;have hs:P.stoodInHeld t=an:=by simpa using hs
    have hfo:P.fieldsOf t=⟨fs⟩:=by simp[N8,hu]
    have yD:=run_equalIn_struct (P:=P) w (d+1) t ⟨a⟩ ⟨c⟩ (by rw[hfo];exact hu) hs
    rw[hfo] at yD;exact yD.trans (Lt d w (fun t' a' c' b' h'=>XE w n d (by omega) t' a' c' b' h') fs b h)
  ·cases h
def zp (P:Program) (σ:SS R) (neg:Bool) (t:TypeId) (y z:Operand):Option (Out R) :=
 match ev σ.tm y,ev σ.tm z with
 |some (.agg ⟨xs⟩),aa (.agg ⟨ys⟩) =>
  match P.underlying t with
  |some (.struct ⟨fs⟩) =>
   if pM xs&&pM ys && !P.stoodInHeld t && !P.eqGuardType P.depth t then
    match Hb P (eqD P 4) xs ys fs with
    |some b=>aa (gp σ True (.bool (if neg then !b else b)) aj [])
    |none=>aj
   else aj
  |_=>aj
 |_,_=>aj
theorem ON {σ:SS R} {o:Oper} {neg:Bool} {t t':TypeId} {y z:Operand} {x:Out R} (ho:o.op=.binOp (if neg then .neq else .eql) t y z t') (h:zp P σ neg t y z=aa x):mb D P o σ x:=by
 unfold zp at h;split at h
 ·rename_i xs ys ha hb;split at h
  ·rename_i fs hu;split at h
   ·rename_i hc;simp only[aL,Bool.not_eq_true'] at hc;obtain⟨⟨⟨f1,f2⟩,hs⟩,hg⟩:=hc;split at h
    ·rename_i b hq;injection h with h
     subst h;refine g9 (fun C ρ ft ac w ht iv hm hv=>?_) (fun iv c hc=>by cases hc)
     have h1:=(ek ht ha).1;have h2:=(ek ht hb).1;rw[nQ _ (by simpa [flat] using f1)] at h1
     rw[nQ _ (by simpa [flat] using f2)] at h2
     have hfo:P.fieldsOf t=⟨fs⟩:=by simp[N8,hu]
     have he:=Lt (P:=P) (xs:=xs) (ys:=ys) 9998 w (fun t' a' c' b' h'=>XE w 4 9998 (by omega) t' a' c' b' h') fs b hq
     have yD:=run_equalIn_struct (P:=P) w 9999 t ⟨xs⟩ ⟨ys⟩ (by rw[hfo];exact hu) hs
     rw[hfo] at yD;have Zq:(mu 10000 t (.agg ⟨xs⟩) (.agg ⟨ys⟩)).run P w=.ok b w:=yD.trans he;simp only[execOp,ho,h1,h2,V2];cases neg with
     |false =>
      simp only[fO,if_false,dy,run_eqGuard_agg w _ t y z _ _ hg,cz,run_eql_struct,Zq,dS]
     |true =>
      simp only[if_true,dy,run_eqGuard_agg w _ t y z _ _ hg,cz,run_neq_struct,Zq,dS]
    ·cases h
   ·cases h
  ·cases h
 ·cases h
def Cb (P:Program) (t:TypeId):Option (Option Nat) :=
 match P.underlying t with
 |some (.struct _)|some (.array _ _) =>
  match P.info? t with
  |some i=>aa (aa i.size)
  |none=>aj
 |some _=>aa aj
 |none=>aj
theorem P7 {t:TypeId} {n:Nat} (h:Cb P t=aa (aa n)) (w:World):(isAgg t).run P w=.ok ao w/\(sizeOf t).run P w=.ok n w:=by
 unfold Cb at h;split at h
 ·rename_i fs hu;split at h
  ·rename_i i hi;injection h with h;injection h with h
   subst h;exact⟨by simp[isAgg,run_underlying hu],by simp[sizeOf,typeInfo,hi]⟩
  ·cases h
 ·rename_i n' e hu;split at h
  ·rename_i i hi;injection h with h;injection h with h
   subst h;exact⟨by simp[isAgg,run_underlying hu],by simp[sizeOf,typeInfo,hi]⟩
  ·cases h
 ·injection h with h;cases h
 ·cases h
theorem PB {t:TypeId} (h:Cb P t=aa aj) (w:World):(isAgg t).run P w=.ok an w:=by
 unfold Cb at h;split at h
 ·split at h
  ·injection h with h;cases h
  ·cases h
 ·split at h
  ·injection h with h;cases h
  ·cases h
 ·rename_i d h1 h2 hu;unfold isAgg;rw[dy,run_underlying hu w];simp only[cz]
  first
   |rfl
   |(split
      · rename_i fs; exact absurd hu (h1 fs)
      · rename_i n e; exact absurd hu (h2 n e)
      · rfl)
 ·cases h
def DX (P:Program) (σ:SS R) (t:TypeId) (y:Operand) (k:Nat):Option (Out R) :=
 match ev σ.tm y with
 |some (.agg ⟨l⟩) =>
  match P.underlying t with
  |some (.struct ⟨fs⟩) =>
   match fs[k]? with
   |some f =>
    match Cb P f.type with
    |some aj=>match l[f.offset]? with
     |some v=>aa (gp σ True v aj [])
     |none=>aj
    |some (aa n)=>aa (gp σ True (.agg ⟨(l.drop f.offset).take n⟩) aj [])
    |none=>aj
   |none=>aj
  |_=>aj
 |_=>aj
theorem YH {σ:SS R} {o:Oper} {t:TypeId} {y:Operand} {k:Nat} {x:Out R} (ho:o.op=.field t y k) (h:DX P σ t y k=aa x):mb D P o σ x:=by
 unfold DX at h;split at h
 ·rename_i l ha;split at h
  ·rename_i fs hu;split at h
   ·rename_i f hf;split at h
    ·rename_i hg;split at h
     ·rename_i v hv;injection h with h
      subst h;refine g9 (fun C ρ ft ac w ht iv hm _=>?_) (fun iv c hc=>by cases hc)
      have h1:=(ek ht ha).1;rw[zA] at h1;simp[execOp,ho,h1,W6,run_underlying hu,hf,asAgg,part,PB hg w,hv]
     ·cases h
    ·rename_i n hg;injection h with h
     subst h;refine g9 (fun C ρ ft ac w ht iv hm _=>?_) (fun iv c hc=>by cases hc)
     have h1:=(ek ht ha).1;rw[zA] at h1;obtain⟨g1,g2⟩:=P7 hg w;simp only[execOp,ho,h1,W6,dy,run_underlying hu,cz,jE,hf,asAgg,dS,part,g1,if_true,g2,zA]
     congr 3
     apply qz;simp[IP,List.extract_eq_take_drop,List.map_drop,List.map_take]
    ·cases h
   ·cases h
  ·cases h
 ·cases h
def we (P:Program) (σ:SS R) (t:TypeId) (y:Operand) (k:Nat):Option (Out R) :=
 match ev σ.tm y with
 |some (.pointer (aa ⟨i,e,sp⟩)) =>
  match P.underlying t with
  |some (.struct ⟨fs⟩) =>
   match fs[k]? with
   |some f =>
    match P.info? f.type with
    |some inf =>
     if fb inf.size 0 then aj else
     match sp with
     |none=>aa (gp σ True (.pointer (aa ⟨i,e+f.offset,aj⟩)) aj [])
     |some q=>if gR q 1000000&&gR (q%1000+f.offset) 1000 then aa (gp σ True (.pointer (aa ⟨i,e,aa (q+f.offset)⟩)) aj []) else aj
    |none=>aj
   |none=>aj
  |_=>aj
 |_=>aj
theorem pN (b o j:Nat):(⟨b,o,aj⟩:Addr).add j=⟨b,o+j,aj⟩:=by
 unfold Addr.add;split
 ·rename_i h;subst h;rfl
 ·rfl
theorem Qq {σ:SS R} {o:Oper} {t:TypeId} {y:Operand} {k:Nat} {x:Out R} (ho:o.op=.fieldAddr t y k) (h:we P σ t y k=aa x):mb D P o σ x:=by
 unfold we at h;split at h
 ·rename_i i e sp ha;split at h
  ·rename_i fs hu;split at h
   ·rename_i f hf;split at h
    ·rename_i inf hi;split at h
     ·cases h
     ·rename_i hz;have Hv:inf.size≠0:=fun e=>hz (by rw[e];rfl)
      have key:∀ (C:Ctx) (ρ:Env) (ft:Nat->Nat->Prop) (ac:Act) (w:World),TM ρ σ.hp.length σ.tm ac ->
        (execOp ac.eval o).run P w=.ok (.value (.pointer (aa ((iD ρ ⟨i,e,sp⟩).add f.offset)))) w:=by
       intro C ρ ft ac w ht;have h1:=(ek ht ha).1;simp only[bT] at h1;simp[execOp,ho,h1,Instr.fieldAt,run_underlying hu,hf,oL,fieldPlace,sizeOf,typeInfo,hi,Hv]
      split at h
      ·injection h with h
       subst h;refine g9 (fun C ρ ft ac w ht iv hm _=>?_) (fun iv c hc=>by cases hc)
       rw[key C ρ ft ac w ht];simp only[bT,iD,pN,cellOf,jd]
      ·rename_i q;split at h
       ·rename_i hq;simp only[aL,fe] at hq;injection h with h
        subst h;refine g9 (fun C ρ ft ac w ht iv hm _=>?_) (fun iv c hc=>by cases hc)
        rw[key C ρ ft ac w ht];simp only[bT,iD,pN,cellOf];have e1:q%1000000 / 1000=(q+f.offset)%1000000 / 1000:=by omega
        have e2:q%1000+f.offset=(q+f.offset)%1000:=by omega
        rw[e1,← e2,jd,jd]
       ·cases h
    ·cases h
   ·cases h
  ·cases h
 ·cases h
end
end Rx
namespace Rx
open Go.RowKit State
section
variable {R:Type} {D:fH R} {P:Program} {C:Ctx} {ρ:Env} {ft:Nat->Nat->Prop} {w w':World}
def yo (P:Program) (σ:SS R) (t:TypeId) (y z:Operand):Option (Out R) :=
 match ev σ.tm y,ev σ.tm z with
 |some (.slice (aa ⟨i,e0,aa q⟩) n _),aa (.int _ j) =>
  match P.underlying t with
  |some (.slice el) =>
   match P.info? el,σ.hp[i]? with
   |some inf,aa (aa (.inr (.inl (_,r)))) =>
    if fb (q%1000000) (1000*inf.size)&&fb inf.size r.tm.length then
     aa (gp σ (0≤j/\j<n/\e0+n≤r.n) (.pointer (aa ⟨i,e0+j.toNat,aa (1000*inf.size)⟩)) aj [])
    else aj
   |some inf,aa (aa (.inr (.inr (.inl r)))) =>
    if fb (q%1000000) (1000*inf.size)&&fb inf.size r.tm.length then
     aa (gp σ (0≤j/\j<n/\e0+n≤r.n) (.pointer (aa ⟨i,e0+j.toNat,aa (1000*inf.size)⟩)) aj [])
    else aj
   |_,_=>aj
  |_=>aj
 |_,_=>aj
theorem agZ {i:Nat} {h:Hp R} {t:TypeId} {r:Row} (hm:HM D C ρ ft h w) (hi:h[i]?=aa (aa (.inr (.inl (t,r))))):r.n≤(ρ i).cap:=(hm.at_ i _ hi).1.2.2.1
theorem aev {i:Nat} {h:Hp R} {r:Row} (hm:HM D C ρ ft h w) (hi:h[i]?=aa (aa (.inr (.inr (.inl r))))):r.n≤(ρ i).cap:=(hm.at_ i _ hi).1.2.2.1
theorem I8 {σ:SS R} {o:Oper} {t el:TypeId} {y z:Operand} {i e0 q n c:Nat} {k:IntKind} {j:Int} {inf:TypeInfo} {N:Nat} (ho:o.op=.indexAddr t y z)
  (ha:ev σ.tm y=aa (.slice (aa ⟨i,e0,aa q⟩) n c)) (hb:ev σ.tm z=aa (.int k j)) (hu:P.underlying t=aa (.slice el)) (hi:P.info? el=aa inf)
  (hq:q%1000000=1000*inf.size) {ac:Act} (ht:TM ρ σ.hp.length σ.tm ac) (hv:0≤j/\j<n/\e0+n≤N) (NP:N≤(ρ i).cap) (H7:(ρ i).nil=ao->(ρ i).cap=0) :
  (execOp ac.eval o).run P w=.ok (.value (bT ρ (.pointer (aa ⟨i,e0+j.toNat,aa (1000*inf.size)⟩)))) w:=by
 have h1:=(ek ht ha).1;have h2:=(ek ht hb).1;obtain⟨v0,v1,v2⟩:=hv;have kv:¬ (q / 1000000≠0/\(ρ i).cap≤e0):=fun h=>by omega
 have hnn:¬ (ρ i).nil=ao:=fun h=>by have:=H7 h;omega
 simp only[bT,lF,if_neg kv,if_neg hnn] at h1;simp only[xQ] at h2;have n7:1000*inf.size%1000000=1000*inf.size:=by rw[← hq];omega
 simp only[execOp,ho,h1,h2,Jm,asIntOf,dy,dS,cz,run_underlying hu,Mz];have hc:(0≤j/\j<(n:Int)):=⟨v0,v1⟩;have Vi:q%1000000 / 1000=inf.size:=by omega
 have wX:q%1000=0:=by omega
 have hd3:1000*inf.size%1000000 / 1000=inf.size:=by omega
 have hd4:1000*inf.size%1000=0:=by omega
 simp only[hc,and_self,if_true,sizeOf,typeInfo,dy,run_program,cz,hi,dS,bT,iD,pN,cellOf,Vi,wX,hd3,hd4,gT];simp[ig,jd]
theorem Rm {σ:SS R} {o:Oper} {t:TypeId} {y z:Operand} {x:Out R} (ho:o.op=.indexAddr t y z) (h:yo P σ t y z=aa x):mb D P o σ x:=by
 unfold yo at h;split at h
 ·rename_i i e0 q n c k j ha hb;split at h
  ·rename_i el hu;split at h
   ·rename_i inf t' r hi hr;split at h
    ·rename_i hc;simp only[aL] at hc;have hq:=cP hc.1;injection h with h
     subst h;exact g9 (fun C ρ ft ac w ht iv hm hv=>I8 ho ha hb hu hi hq ht hv (agZ hm hr) (hm.at_ i _ hr).1.2.2.2.2.1) (fun iv c hc=>by cases hc)
    ·cases h
   ·rename_i inf r hi hr;split at h
    ·rename_i hc;simp only[aL] at hc;have hq:=cP hc.1;injection h with h
     subst h;exact g9 (fun C ρ ft ac w ht iv hm hv=>I8 ho ha hb hu hi hq ht hv (aev hm hr) (hm.at_ i _ hr).1.2.2.2.2.1) (fun iv c hc=>by cases hc)
    ·cases h
   ·cases h
  ·cases h
 ·cases h
def wJ (P:Program) (σ:SS R) (t:TypeId) (y z:Operand):Option (Out R) :=
 match ev σ.tm y,ev σ.tm z with
 |some (.slice (aa ⟨i,e,aj⟩) n _),aa (.int _ j) =>
  match P.underlying t with
  |some (.slice el) =>
   match P.info? el with
   |some inf=>aa (gp σ (0≤j/\j<n) (.pointer (aa ⟨i,e+j.toNat*inf.size,aj⟩)) aj [])
   |none=>aj
  |_=>aj
 |_,_=>aj
theorem Oq {σ:SS R} {o:Oper} {t:TypeId} {y z:Operand} {x:Out R} (ho:o.op=.indexAddr t y z) (h:wJ P σ t y z=aa x):mb D P o σ x:=by
 unfold wJ at h;split at h
 ·rename_i i e n c k j ha hb;split at h
  ·rename_i el hu;split at h
   ·rename_i inf hi;injection h with h
    subst h;refine g9 (fun C ρ ft ac w ht iv hm hv=>?_) (fun iv c hc=>by cases hc)
    have h1:=(ek ht ha).1;have h2:=(ek ht hb).1;simp only[bT,lF] at h1;simp only[xQ] at h2;have hc:(0≤j/\j<(n:Int)):=hv;simp only[execOp,ho,h1,h2,Jm,asIntOf,dy,dS,cz,run_underlying hu,Mz];simp only[hc,and_self,if_true,sizeOf,typeInfo,dy,run_program,cz,hi,dS,bT,iD,pN,cellOf,jd]
   ·cases h
  ·cases h
 ·cases h
def AU (P:Program) (σ:SS R) (t:TypeId) (y z:Operand):Option (Out R) :=
 match ev σ.tm y,ev σ.tm z with
 |some (.pointer (aa ⟨i,e,sp⟩)),aa (.int _ j) =>
  match P.underlying t with
  |some (.array n el) =>
   match P.info? el with
   |some inf =>
    match sp with
    |none=>aa (gp σ (0≤j/\j<n) (.pointer (aa ⟨i,e+j.toNat*inf.size,aj⟩)) aj [])
    |some q=>if gR q 1000000&&gR (q%1000+n*inf.size) 1000 then aa (gp σ (0≤j/\j<n) (.pointer (aa ⟨i,e,aa (q+j.toNat*inf.size)⟩)) aj []) else aj
   |none=>aj
  |_=>aj
 |_,_=>aj
theorem SG {σ:SS R} {o:Oper} {t:TypeId} {y z:Operand} {x:Out R} (ho:o.op=.indexAddr t y z) (h:AU P σ t y z=aa x):mb D P o σ x:=by
 unfold AU at h;split at h
 ·rename_i i e sp k j ha hb;split at h
  ·rename_i n el hu;split at h
   ·rename_i inf hi
    have key:∀ (ρ:Env) (ac:Act) (w:World),TM ρ σ.hp.length σ.tm ac->(0≤j/\j<(n:Int)) ->
      (execOp ac.eval o).run P w=.ok (.value (.pointer (aa ((iD ρ ⟨i,e,sp⟩).add (j.toNat*inf.size))))) w:=by
     intro ρ ac w ht hj;have h1:=(ek ht ha).1;have h2:=(ek ht hb).1;simp only[bT] at h1;simp only[xQ] at h2;simp only[execOp,ho,h1,h2,Jm,oL,asIntOf,dy,dS,cz,run_underlying hu,Mz];simp only[hj,and_self,if_true,sizeOf,typeInfo,dy,run_program,cz,hi,dS]
    split at h
    ·injection h with h
     subst h;refine g9 (fun C ρ ft ac w ht iv hm hv=>?_) (fun iv c hc=>by cases hc)
     rw[key ρ ac w ht hv];simp only[bT,iD,pN,cellOf,jd]
    ·rename_i q;split at h
     ·rename_i hq;simp only[aL,fe] at hq;injection h with h
      subst h;refine g9 (fun C ρ ft ac w ht iv hm hv=>?_) (fun iv c hc=>by cases hc)
      rw[key ρ ac w ht hv];have hv':0≤j/\j<(n:Int):=hv;have hs:j.toNat*inf.size≤n*inf.size:=jr _ (by omega)
      simp only[bT,iD,pN,cellOf];have e1:q%1000000 / 1000=(q+j.toNat*inf.size)%1000000 / 1000:=by omega
      have e2:q%1000+j.toNat*inf.size=(q+j.toNat*inf.size)%1000:=by omega
      rw[e1,← e2,jd,jd]
     ·cases h
   ·cases h
  ·cases h
 ·cases h
def wM (tm:List Value) (eu:List aX) (e:Nat):Nat->Nat->Option (List Value)
 |_,0=>aa []
 |f,m+1 =>
  match tm[f]?,eu[f]? with
  |some t,aa c=>(wM tm eu e (f+1) m).map (gD t c e::·)
  |_,_=>aj
theorem Ey {tm:List Value} {eu:List aX} {e:Nat}:∀ {m f:Nat} {l:List Value},wM tm eu e f m=aa l->l.length=m/\∀ (j:Nat) (v:Value),l[j]?=aa v->∃ t c,tm[f+j]?=aa t/\eu[f+j]?=aa c/\v=gD t c e
 |0,f,l,h=>by
  simp only[wM] at h;injection h with h
  subst h;exact⟨rfl,fun j v hv=>by simp at hv⟩
 |m+1,f,l,h=>by
  simp only[wM] at h;split at h
  ·rename_i t c ht hc;cases hr:wM tm eu e (f+1) m with
   |none=>rw[hr] at h;cases h
   |some l' =>
    rw[hr] at h;simp only[kc,ct] at h;subst h;obtain⟨h1,h2⟩:=Ey hr;refine⟨by simp[h1],fun j v hv=>?_⟩
    cases j with
    |zero =>
     simp only[cd,ct] at hv;exact⟨t,c,ht,hc,hv.symm⟩
    |succ j =>
     simp only[bH] at hv;obtain⟨t',c',g1,g2,g3⟩:=h2 j v hv;exact⟨t',c',by rw[show f+(j+1)=f+1+j by omega];exact g1,by rw[show f+(j+1)=f+1+j by omega];exact g2,g3⟩
  ·cases h
theorem Kw {t:Value} {c:aX} {n:Nat} (h:jK t c n) (e:Nat):flat (gD t c e)=ao:=by
 cases t<;>simp only[gD,flat]<;>exact h.1
theorem WN {t:Value} {c:aX} {n:Nat} (h:jK t c n) (e:Nat):(gD t c e).oneCell'=ao:=by
 cases t<;>simp only[gD,qe]<;>exact h.2
def rowOf (x:Option (Option (SB R))):Option Row :=
 match x with
 |some (aa (.inr (.inl (_,r))))=>aa r
 |some (aa (.inr (.inr (.inl r))))=>aa r
 |_=>aj
theorem C2 {h:Hp R} {i:Nat} {r:Row} (hm:HM D C ρ ft h w) (hr:rowOf h[i]?=aa r) :
  r.n≤(ρ i).cap/\(ρ i).cap≤maxLen/\0<r.tm.length/\r.eu.length=r.tm.length/\(∀ (f:Nat) (t:Value) (c:aX),r.tm[f]?=aa t->r.eu[f]?=aa c->jK t c r.n) /\
   ∀ (f:Nat) (t:Value) (c:aX) (e:Nat),r.tm[f]?=aa t->r.eu[f]?=aa c->e<r.n->w.cell? ⟨(ρ i).lD,(ρ i).off+(e*r.tm.length+f),aj⟩=aa (gD t c e):=by
 unfold rowOf at hr;split at hr
 ·rename_i t0 r0 hi;injection hr with hr
  subst hr;obtain⟨h1,h2,h3,h4,Jw,arr,h5,h7⟩:=(hm.at_ i _ hi).1;refine⟨h3,h4,h2,h7.len,h7.I9,fun f t c e g1 g2 g3=>?_⟩
  have hn:(ρ i).nil=an:=by
   cases hq:(ρ i).nil with
   |false=>rfl
   |true=>have:=Jw hq;omega
  rw[cell_of_row w _ _ arr _ _ (h5 hn).1];exact h7.cell f t c e g1 g2 g3
 ·rename_i r0 hi;injection hr with hr
  subst hr;obtain⟨h1,h2,h3,h4,Jw,arr,h5,h8⟩:=(hm.at_ i _ hi).1;refine⟨h3,h4,h2,h8.len,h8.I9,fun f t c e g1 g2 g3=>?_⟩
  have hn:(ρ i).nil=an:=by
   cases hq:(ρ i).nil with
   |false=>rfl
   |true=>have:=Jw hq;omega
  obtain⟨h5,h6,t0,fz,h7⟩:=h5 hn (by omega)
  rw[cell_of_row w _ _ arr t0 fz (by rw[hm.kept.block _ h5 h6];exact h7)]
  exact h8.cell f t c e g1 g2 g3
 ·cases hr
theorem Cd {h:Hp R} {i:Nat} {t:TypeId} {cs:List Value} (hm:HM D C ρ ft h w) (hi:h[i]?=aa (aa (.inl (t,cs)))) (j:Nat) :
  w.cell? ⟨(ρ i).lD,(ρ i).off+j,aj⟩=cs[j]?.map (bT ρ):=by
 obtain⟨h1,h2,h3⟩:=(hm.at_ i _ hi).1;rw[cell_of_row w _ _ _ _ _ h3,h1,bV];simp
def NF (i f:Nat):Nat->List (Nat×Nat)
 |0=>[]
 |m+1=>(i,f+1)::NF i (f+1) m
def As (P:Program) (σ:SS R) (t:TypeId) (y:Operand):Option (Out R) :=
 match ev σ.tm y with
 |some (.pointer (aa ⟨i,e,aj⟩)) =>
  match σ.hp[i]? with
  |some (aa (.inl (_,cs))) =>
   match Cb P t with
   |some aj=>match cs[e]? with
    |some v=>aa (gp σ True v aj [(i,e+1)])
    |none=>aj
   |some (aa n)=>if uM (e+n) cs.length then aa (gp σ True (.agg ⟨(cs.drop e).take n⟩) aj (NF i e n)) else aj
   |none=>aj
  |_=>aj
 |some (.pointer (aa ⟨i,e,aa q⟩)) =>
  match rowOf σ.hp[i]? with
  |some r =>
   if fb (q / 1000) r.tm.length&&gR q 1000000 then
    match Cb P t with
    |some aj=>match wM r.tm r.eu e (q%1000) 1 with
     |some [v]=>aa (gp σ (e<r.n) v aj [(i,q%1000+1)])
     |_=>aj
    |some (aa n)=>match wM r.tm r.eu e (q%1000) n with
     |some l=>aa (gp σ (e<r.n) (.agg ⟨l⟩) aj (NF i (q%1000) n))
     |none=>aj
    |none=>aj
   else aj
  |none=>aj
 |_=>aj
theorem Gq {t:TypeId} {a:Addr} {cs:List Value} (ha:Cb P t=aa (aa cs.length)) (h:∀ (j:Nat) (v:Value),cs[j]?=aa v->w.cell? (a.add j)=aa v):(loadVar t a).run P w=.ok (.agg ⟨cs⟩) w:=by
 obtain⟨g1,g2⟩:=P7 ha w;have hl:=run_loadCells_list (P:=P) w a cs h;simp only[loadVar,dy,g1,cz,if_true,g2,hl,dS]
theorem Ce {t:TypeId} {a:Addr} {v:Value} (ha:Cb P t=aa aj) (h:w.cell? a=aa v):(loadVar t a).run P w=.ok v w:=by
 have g1:=PB ha w;simp only[loadVar,dy,g1,cz,fO,if_false,run_load,h]
theorem RW {σ:SS R} {o:Oper} {t:TypeId} {y:Operand} {x:Out R} (ho:o.op=.load t y) (h:As P σ t y=aa x):mb D P o σ x:=by
 unfold As at h;split at h
 ·rename_i i e ha;split at h
  ·rename_i t' cs hi;split at h
   ·rename_i hg;split at h
    ·rename_i v hv;injection h with h
     subst h;refine g9 (fun C ρ ft ac w ht iv hm _=>?_) (fun iv c hc=>by cases hc)
     have h1:=(ek ht ha).1;simp only[bT,iD,cellOf] at h1;have hc:=Cd hm hi e;rw[hv] at hc;simp[execOp,ho,h1,A_,oL,Ce hg hc]
    ·cases h
   ·rename_i n hg;split at h
    ·rename_i hle;have hle:=jF hle;injection h with h
     subst h;refine g9 (fun C ρ ft ac w ht iv hm _=>?_) (fun iv c hc=>by cases hc)
     have h1:=(ek ht ha).1;simp only[bT,iD,cellOf] at h1;have hl:(((cs.drop e).take n).map (bT ρ)).length=n:=by simp;omega
     have Sj:(loadVar t ⟨(ρ i).lD,(ρ i).off+e,aj⟩).run P w=.ok (.agg ⟨((cs.drop e).take n).map (bT ρ)⟩) w:=by
      refine Gq (by rw[hl];exact hg) (fun j v hv=>?_)
      rw[pN,jd,Cd hm hi];have hj:j<n:=by have:=(aU.1 hv).1;omega
      simp only[fh,oN,hj,if_true,oQ] at hv;exact hv
     simp only[execOp,ho,h1,A_,oL,dy,dS,cz,Sj,zA]
     congr 3
     simp
    ·cases h
   ·cases h
  ·cases h
 ·rename_i i e q ha;split at h
  ·rename_i r hr;split at h
   ·rename_i hc;simp only[aL,fe] at hc;have hq:=cP hc.1;have FW:=hc.2
    have key:∀ (C:Ctx) (ρ:Env) (ft:Nat->Nat->Prop) (ac:Act) (w:World),TM ρ σ.hp.length σ.tm ac->HM D C ρ ft σ.hp w->e<r.n ->
      ac.eval y=.pointer (aa ⟨(ρ i).lD,(ρ i).off+(e*r.tm.length+q%1000),aj⟩) /\
      ∀ (m:Nat) (l:List Value),wM r.tm r.eu e (q%1000) m=aa l->(∀ (j:Nat) (v:Value),l[j]?=aa v->w.cell? ((⟨(ρ i).lD,(ρ i).off+(e*r.tm.length+q%1000),aj⟩:Addr).add j)=aa v)/\∀ v∈l,flat v=ao:=by
     intro C ρ ft ac w ht hm he;have h1:=(ek ht ha).1;have e1:q%1000000 / 1000=r.tm.length:=by omega
     simp only[bT,iD,cellOf,e1] at h1;obtain⟨_,_,_,_,g4,g5⟩:=C2 hm hr;refine⟨h1,fun m l hl=>?_⟩
     obtain⟨k1,k2⟩:=Ey hl;refine⟨fun j v hv=>?_,fun v hv=>?_⟩
     ·obtain⟨t,c,q1,q2,rfl⟩:=k2 j v hv;rw[pN,jd,jd];exact g5 _ _ _ _ q1 q2 he
     ·obtain⟨j,hj⟩:=A' hv;obtain⟨t,c,q1,q2,rfl⟩:=k2 j v hj;exact Kw (g4 _ _ _ q1 q2) e
    split at h
    ·rename_i hg;split at h
     ·rename_i v hv;injection h with h
      subst h;refine g9 (fun C ρ ft ac w ht iv hm he=>?_) (fun iv c hc=>by cases hc)
      obtain⟨h1,h2⟩:=key C ρ ft ac w ht hm he;obtain⟨h3,h4⟩:=h2 _ _ hv;have h5:=h3 0 v (by simp)
      rw[pN,gT] at h5;rw[nQ v (h4 v (by simp))]
      simp[execOp,ho,h1,A_,oL,Ce hg h5]
     ·cases h
    ·rename_i n hg;split at h
     ·rename_i l hl;injection h with h
      subst h;refine g9 (fun C ρ ft ac w ht iv hm he=>?_) (fun iv c hc=>by cases hc)
      obtain⟨h1,h2⟩:=key C ρ ft ac w ht hm he;obtain⟨h3,h4⟩:=h2 _ _ hl;have hn:=(Ey hl).1;have Sj:=Gq (P:=P) (t:=t) (by rw[hn];exact hg) h3
      rw[nQ (.agg ⟨l⟩) (by simpa [flat] using z5.2 h4)]
      simp only[execOp,ho,h1,A_,oL,dy,dS,cz,Sj]
     ·cases h
    ·cases h
   ·cases h
  ·cases h
 ·cases h
def nE (cur:Array Value):Nat->List Value->Array Value
 |_,[]=>cur
 |k,v::l=>nE (cur.setIfInBounds k v) (k+1) l
def Ig (cs:List Value):Nat->List Value->List Value
 |_,[]=>cs
 |k,v::l=>Ig (cs.set k v) (k+1) l
theorem Gz (cs:List Value):∀ (k:Nat) (l:List Value),nE (cs.map (bT ρ)).toArray k (l.map (bT ρ))=((Ig cs k l).map (bT ρ)).toArray
 |_,[]=>rfl
 |k,v::l=>by
  simp only[gr,nE,Ig];have:(cs.map (bT ρ)).toArray.setIfInBounds k (bT ρ v)=((cs.set k v).map (bT ρ)).toArray:=by simp
  rw[this];exact Gz (cs.set k v) (k+1) l
theorem Ep (cur:Array Value):∀ (k:Nat) (l:List Value),(nE cur k l).size=cur.size
 |_,[]=>rfl
 |k,v::l=>by rw[nE,Ep];simp
theorem Mf (cs:List Value):∀ (k:Nat) (l:List Value),(Ig cs k l).length=cs.length
 |_,[]=>rfl
 |k,v::l=>by rw[Ig,Mf];simp
theorem Vu {n:Nat} {cs:List Value}:∀ (k:Nat) (l:List Value),ix n cs=ao->ix n l=ao->ix n (Ig cs k l)=ao
 |_,[],h,_=>h
 |k,v::l,h,hl=>by
  simp only[ix,aL] at hl;refine Vu (k+1) l ?_ hl.2;rw[wR] at h ⊢;intro u hu;rcases List.mem_or_eq_of_mem_set hu with hu|rfl
  ·exact h u hu
  ·exact hl.1
theorem yH (g o:Nat) (t:TypeId):∀ (vs:List Value) (i:Nat) (cur:Array Value) (w:World),w.heap[g]?=aa (.cells cur t (0,0))->o+i+vs.length≤cur.size->(∀ v∈vs,v.oneCell'=ao) ->
  (storeCells ⟨g,o,aj⟩ vs i).run P w=.ok () (w.setRow g (nE cur (o+i) vs))
 |[],i,cur,w,hg,_,_=>by
  simp only[storeCells,nE];rw[setRow_self w g cur t (0,0) hg]
  rfl
 |v::rest,i,cur,w,hg,hl,h1=>by
  have hi:o+i<cur.size:=by simp at hl;omega
  have alz:w.cell? ⟨g,o+i,aj⟩=aa cur[o+i]:=by simp[World.cell?,hg,hi]
  have anw:w.frozen? ⟨g,o+i,aj⟩=an:=by simp[SR,hg]
  have yD:(store ((⟨g,o,aj⟩:Addr).add i) v).run P w=.ok () (w.setRow g (cur.setIfInBounds (o+i) v)):=by
   rw[pN,run_store P w _ v _ (h1 v (by simp)),alz]
   simp[anw,setCell_eq_setRow w g (o+i) cur t (0,0) v hg]
  have ih:=yH g o t rest (i+1) (cur.setIfInBounds (o+i) v) (w.setRow g (cur.setIfInBounds (o+i) v)) (setRow_heap w g cur _ t _ hg) (by simp at hl ⊢;omega) (fun x hx=>h1 x (by simp[hx]))
  simp only[storeCells,dy,yD,cz,ih,setRow_setRow,nE,jd]
theorem Gs (w:World) (g:Nat) (cs:Array Value) {F:Nat->Prop} (hF:F g):Kept F w (w.setRow g cs) :=
 ⟨rfl,rfl,rfl,by simp[Fj],fun k _ hn=>setRow_other w g k cs (fun e=>hn (e▸hF))⟩
def Y4:List Value->Bool
 |[]=>ao
 |v::l=>v.oneCell'&&Y4 l
theorem adF {l:List Value} (h:Y4 l=ao):∀ v∈l,v.oneCell'=ao:=by
 induction l with
 |nil=>intro v hv;cases hv
 |cons u l ih =>
  simp only[Y4,aL] at h;intro v hv;rcases bP.1 hv with rfl|hv
  ·exact h.1
  ·exact ih h.2 v hv
def P3 (t:Value) (c:aX) (e:Nat) (v:Value):Option aX :=
 match t,v with
 |.int k _,.int k' x=>if k=k' then aa { c with i:=c.i.set e x } else aj
 |.bool _,.bool x=>aa { c with b:=c.b.set e x }
 |.string _,.string x=>aa { c with s:=c.s.set e x }
 |_,_=>aj
def GK (tm:List Value) (eu:List aX) (e:Nat):Nat->List Value->Option (List aX)
 |_,[]=>aa eu
 |f,v::l =>
  match tm[f]?,eu[f]? with
  |some t,aa c=>match P3 t c e v with
   |some c'=>GK tm (eu.set f c') e (f+1) l
   |none=>aj
  |_,_=>aj
theorem RJ {t:Value} {c c':aX} {e n:Nat} {v:Value} (h:P3 t c e v=aa c') (hc:jK t c n) (he:e<n) :
  jK t c' n/\flat v=ao/\v.oneCell'=ao/\∀ e',e'<n->gD t c' e'=if e'=e then v else gD t c e':=by
 unfold P3 at h;split at h
 ·split at h
  ·rename_i k _ k' x hk;subst hk;injection h with h
   subst h;refine⟨by simpa [jK] using hc,rfl,rfl,fun e' vN=>?_⟩
   simp only[jK] at hc;simp only[gD,av,Dp]
   by_cases heq:e=e'
   ·subst heq;simp[hc,he]
   ·simp[heq,YC heq,fun h=>heq (re h)]
  ·cases h
 ·injection h with h
  subst h;refine⟨by simpa [jK] using hc,rfl,rfl,fun e' vN=>?_⟩
  simp only[jK] at hc;simp only[gD,av,Dp]
  by_cases heq:e=e'
  ·subst heq;simp[hc,he]
  ·simp[heq,YC heq,fun h=>heq (re h)]
 ·injection h with h
  subst h;refine⟨by simpa [jK] using hc,rfl,rfl,fun e' vN=>?_⟩
  simp only[jK] at hc;simp only[gD,av,Dp]
  by_cases heq:e=e'
  ·subst heq;simp[hc,he]
  ·simp[heq,YC heq,fun h=>heq (re h)]
 ·cases h
theorem TX {s e e' f f':Nat} (hf:f<s) (hf':f'<s) (h:e*s+f=e'*s+f'):e=e'/\f=f':=by
 have h1:(e*s+f) / s=e:=by rw[sK,z7 _ _ (by omega),Fk hf,bV]
 have h2:(e'*s+f') / s=e':=by rw[sK,z7 _ _ (by omega),Fk hf',bV]
 have:e=e':=by rw[← h1,← h2,h]
 subst this;exact⟨rfl,by omega⟩
theorem aae {r:Row} {arr:Array Value} {o e f:Nat} {t:Value} {c c':aX} {v:Value} (hr:oc r arr o) (ht:r.tm[f]?=aa t) (hc:r.eu[f]?=aa c) (he:e<r.n)
  (hs:P3 t c e v=aa c'):oc { r with eu:=r.eu.set f c' } (arr.setIfInBounds (o+(e*r.tm.length+f)) v) o:=by
 obtain⟨k1,k2,k3,k4⟩:=RJ hs (hr.I9 f t c ht hc) he;have wz:f<r.tm.length:=(aU.1 ht).1;have R6:f<r.eu.length:=(aU.1 hc).1;refine⟨by simpa using hr.len,fun f' t' c1 h1 h2=>?_,fun f' t' c1 e' h1 h2 h3=>?_⟩
 ·simp only at h1 h2
  by_cases Ml:f=f'
  ·subst Ml;rw[ht] at h1;injection h1 with h1;subst h1
   rw[jX R6] at h2;injection h2 with h2;subst h2
   exact k1
  ·rw[kt Ml] at h2;exact hr.I9 f' t' c1 h1 h2
 ·simp only at h1 h2 h3 ⊢;have BN:f'<r.tm.length:=(aU.1 h1).1;rw[uN];have hold:=hr.cell f' t'
  by_cases Ml:f=f'
  ·subst Ml;rw[ht] at h1;injection h1 with h1;subst h1
   rw[jX R6] at h2;injection h2 with h2;subst h2
   rw[k4 e' h3];have h5:=hr.cell f t c e' ht hc h3;have cj:o+(e'*r.tm.length+f)<arr.size:=(Array.getElem?_eq_some_iff.1 h5).1
   by_cases hee:e'=e
   ·subst hee;simp[cj]
   ·rw[if_neg hee,if_neg (fun hh=>hee (TX wz wz (by omega:e'*r.tm.length+f=e*r.tm.length+f)).1)]
    exact h5
  ·rw[kt Ml] at h2;rw[if_neg (fun hh=>Ml (TX wz BN (by omega:e*r.tm.length+f=e'*r.tm.length+f')).2)]
   exact hr.cell f' t' c1 e' h1 h2 h3
theorem Md {tm:List Value} {n o e:Nat} (he:e<n):∀ {vs:List Value} {f:Nat} {eu Tu:List aX} {arr:Array Value},oc ⟨tm,n,eu⟩ arr o->GK tm eu e f vs=aa Tu ->
  oc ⟨tm,n,Tu⟩ (nE arr (o+(e*tm.length+f)) vs) o/\(∀ v∈vs,flat v=ao/\v.oneCell'=ao)/\(vs=[]∨f+vs.length≤tm.length)
 |[],f,eu,Tu,arr,hr,h=>by
  simp only[GK] at h;injection h with h
  subst h;exact⟨hr,(fun v hv=>by cases hv),dK rfl⟩
 |v::l,f,eu,Tu,arr,hr,h=>by
  simp only[GK] at h;split at h
  ·rename_i t c ht hc;split at h
   ·rename_i c' hs;obtain⟨h1,h2,h3⟩:=Md (tm:=tm) (n:=n) (o:=o) (e:=e) he (f:=f+1) (aae hr ht hc he hs) h;obtain⟨_,k2,k3,_⟩:=RJ hs (hr.I9 f t c ht hc) he;have wz:f<tm.length:=(aU.1 ht).1;refine⟨h1,fun u hu=>?_,eV ?_⟩
    ·rcases bP.1 hu with rfl|hu
     ·exact⟨k2,k3⟩
     ·exact h2 u hu
    ·rcases h3 with rfl|h3
     ·simp only[cy,jN];omega
     ·simp only[cy];omega
   ·cases h
  ·cases h
def DO (P:Program) (σ:SS R) (t:TypeId) (y z:Operand):Option (Out R) :=
 match ev σ.tm y,ev σ.tm z with
 |some (.pointer (aa ⟨i,e,aj⟩)),aa v =>
  match σ.hp[i]?,P.info? t with
  |some (aa (.inl (ty,cs))),aa inf =>
   if fb v.cells.toList.length inf.size&&uM (e+inf.size) cs.length&&Y4 v.cells.toList then
    aa ⟨True,undef,aj,σ.hp.set i (aa (.inl (ty,Ig cs e v.cells.toList))),[],NF i e inf.size⟩
   else aj
  |_,_=>aj
 |some (.pointer (aa ⟨i,e,aa q⟩)),aa v =>
  match σ.hp[i]?,P.info? t with
  |some (aa (.inr (.inl (ty,r)))),aa inf =>
   if fb v.cells.toList.length inf.size&&fb (q / 1000) r.tm.length&&gR q 1000000&&gR 0 inf.size then
    match GK r.tm r.eu e (q%1000) v.cells.toList with
    |some eu=>aa ⟨e<r.n,undef,aj,σ.hp.set i (aa (.inr (.inl (ty,{ r with eu:=eu })))),[],NF i (q%1000) inf.size⟩
    |none=>aj
   else aj
  |_,_=>aj
 |_,_=>aj
theorem Sf {n:Nat} {v:Value} (h:fp n v=ao):ix n v.cells.toList=ao:=by
 cases v with
 |agg cs=>obtain⟨l⟩:=cs;simpa [fp,nx] using h
 |_=>simp only[nx,ix,h];rfl
theorem Zm {σ:SS R} {o:Oper} {t:TypeId} {y z:Operand} {x:Out R} (ho:o.op=.store t y z) (hd:o.dst=aj) (h:DO P σ t y z=aa x):mb D P o σ x:=by
 unfold DO at h;split at h
 ·rename_i i e v ha hb;split at h
  ·rename_i ty cs inf hi yg;split at h
   ·rename_i hc;simp only[aL] at hc;have n7:=cP hc.1.1;have hle:=jF hc.1.2;have aec:=adF hc.2;injection h with h
    subst h;refine⟨fun C ρ ft ac w K Q ht iv hm _ hK=>?_,by simp,fun _ b hb=>by cases hb⟩
    have h1:=(ek ht ha).1;obtain⟨h2,h2'⟩:=ek ht hb;simp only[bT,iD,cellOf] at h1;obtain⟨g1,g2,g3⟩:=(hm.at_ i _ hi).1;have hvl:((bT ρ v).cells.toList)=v.cells.toList.map (bT ρ):=by rw[Cp];simp
    have yD:=yH (P:=P) (ρ i).lD e ty (v.cells.toList.map (bT ρ)) 0 _ w g3 (by have:=n7;simp only[wq] at this;simp;omega) (fun u hu=>by
     obtain⟨u',hu',rfl⟩:=pb.1 hu;rw[WL];exact aec u' hu')
    simp only[gT] at yD;rw[Gz] at yD;have nP:(execOp ac.eval o).run P w=.ok .skip (w.setRow (ρ i).lD ((Ig cs e v.cells.toList).map (bT ρ)).toArray):=by
     have U8:(bT ρ v).cells.size=inf.size:=by rw[← wq,hvl];simpa using n7
     simp only[execOp,ho,h1,h2,SU,oL,storeVar,dy,dS,cz,sizeOf,typeInfo,run_program,yg,U8,ne_eq,not_true_eq_false,if_false,g1,bV,hvl,yD]
    refine Vm nP (hK ρ (qn ft i (ft i)) _ (fun _ _=>rfl) ?_)
    refine hm.put hi (Gs _ _ _ ((g2 _).2 rfl)) _ _ ⟨g1,g2,setRow_heap w _ _ _ _ _ g3⟩ (Vu _ _ (hm.at_ i _ hi).2 (Sf h2')) (fun k hk=>⟨dK hk,by simpa [Fj] using hm.lt i k hk⟩)
   ·cases h
  ·cases h
 ·rename_i i e q v ha hb;split at h
  ·rename_i ty r inf hi yg;split at h
   ·rename_i hc;simp only[aL,fe] at hc;have n7:=cP hc.1.1.1;have hq:=cP hc.1.1.2;have FW:=hc.1.2;have Yb:=hc.2;split at h
    ·rename_i eu DF;injection h with h
     subst h;refine⟨fun C ρ ft ac w K Q ht iv hm he hK=>?_,by simp,fun _ b hb=>by cases hb⟩
     have h1:=(ek ht ha).1;obtain⟨h2,h2'⟩:=ek ht hb;have e1:q%1000000 / 1000=r.tm.length:=by omega
     simp only[bT,iD,cellOf,e1] at h1;obtain⟨g1,g2,g3,g4,g4',arr,g56,g7⟩:=(hm.at_ i _ hi).1;have hnn:(ρ i).nil=an:=by
      cases hqq:(ρ i).nil with
      |false=>rfl
      |true=>have:=g4' hqq;have:e<r.n:=he;omega
     obtain⟨g5,g6⟩:=g56 hnn;obtain⟨k1,k2,k3⟩:=Md (tm:=r.tm) (n:=r.n) he (arr:=arr) g7 DF;have hvl:((bT ρ v).cells.toList)=v.cells.toList:=by
      rw[Cp];rw[mv]
      conv=>rhs;rw[← W7 v.cells.toList]
      exact n3 fun u hu=>nQ u (k2 u hu).1
     have EP:(ρ i).off+(e*r.tm.length+q%1000)+0+v.cells.toList.length≤arr.size:=by
      have hmul:(e+1)*r.tm.length≤(ρ i).cap*r.tm.length:=jr _ (by have:e<r.n:=he;omega)
      rw[ig,qA] at hmul;rw[g6];rcases k3 with k3|k3
      ·rw[k3] at n7;simp at n7;omega
      ·omega
     have yD:=yH (P:=P) (ρ i).lD ((ρ i).off+(e*r.tm.length+q%1000)) ty v.cells.toList 0 arr w g5 EP (fun u hu=>(k2 u hu).2)
     simp only[gT] at yD;have nP:(execOp ac.eval o).run P w=.ok .skip (w.setRow (ρ i).lD (nE arr ((ρ i).off+(e*r.tm.length+q%1000)) v.cells.toList)):=by
      have U8:(bT ρ v).cells.size=inf.size:=by rw[← wq,hvl];exact n7
      simp only[execOp,ho,h1,h2,SU,oL,storeVar,dy,dS,cz,sizeOf,typeInfo,run_program,yg,U8,ne_eq,not_true_eq_false,if_false,hvl,yD]
     refine Vm nP (hK ρ (qn ft i (ft i)) _ (fun _ _=>rfl) ?_)
     exact hm.put hi (Gs _ _ _ ((g1 _).2 ⟨hnn,rfl⟩)) _ _ ⟨g1,g2,g3,g4,g4',_,fun _=>⟨setRow_heap w _ _ _ _ _ g5,by rw[Ep];exact g6⟩,k1⟩ trivial (fun k hk=>⟨dK hk,by simpa [Fj] using hm.lt i k hk⟩)
    ·cases h
   ·cases h
  ·cases h
 ·cases h
end
end Rx
namespace Rx
open Go.RowKit State
section
variable {R:Type} {D:fH R} {P:Program} {C:Ctx} {ρ:Env} {ft:Nat->Nat->Prop} {w w':World}
def wF (σ:SS R) (t:TypeId) (cs:List Value):Option (Out R) :=
 aa ⟨True,.pointer (aa ⟨σ.hp.length,0,aj⟩),aj,σ.hp++[aa (.inl (t,cs))],[],[(σ.hp.length,0)]⟩
theorem Mt {σ:SS R} {o:Oper} {t:TypeId} {cs:List Value} {x:Out R}
  (nP:∀ (ρ:Env) (a:Act) (w:World),TM ρ σ.hp.length σ.tm a->(execOp a.eval o).run P w=.ok (.value (.pointer (aa ⟨w.heap.size,0,aj⟩))) (w.alloc (.cells (cs.map (bT ρ)).toArray t))/\ix σ.hp.length cs=ao)
  (h:wF σ t cs=aa x):mb D P o σ x:=by
 unfold wF at h;injection h with h
 subst h;refine⟨fun C ρ ft a w K Q ht iv hm _ hK=>?_,by simp,fun _ b hb=>by cases hb⟩
 obtain⟨h1,h2⟩:=nP ρ a w ht;have Vo:cs.map (bT (qn ρ σ.hp.length ⟨w.heap.size,0,0,an⟩))=cs.map (bT ρ) :=
  n3 fun v hv=>nh (n:=σ.hp.length) (fun i hi=>oA _ _ _ hi) v (wR.1 h2 v hv)
 have hp:=hm.push (D:=D) ⟨w.heap.size,0,0,an⟩ (.cells (cs.map (bT ρ)).toArray t) rfl (.inl (t,cs)) (by
  refine⟨by rw[jc],fun k=>by rw[jc],?_⟩
  rw[jc,Vo];exact heap_alloc_new w _) (uZ (kO _) _ h2)
 refine rC h1 ?_;have:=hK _ _ _ (fun i hi=>oA ρ σ.hp.length ⟨w.heap.size,0,0,an⟩ hi) hp
 simpa [bT,iD,jc,cellOf] using this
def DW (P:Program) (σ:SS R) (t:TypeId):Option (Out R) :=
 match P.info? t with
 |some i=>match i.zero with
  |some z=>if pM z.cells.toList then wF σ t z.cells.toList else aj
  |none=>aj
 |none=>aj
theorem EM {l:List Value} (h:pM l=ao):l.map (bT ρ)=l:=by
 conv=>rhs;rw[← W7 l]
 exact n3 fun v hv=>nQ v (z5.1 h v hv)
theorem Zn {σ:SS R} {o:Oper} {t:TypeId} {x:Out R} (ho:o.op=.alloc t) (h:DW P σ t=aa x):mb D P o σ x:=by
 unfold DW at h;split at h
 ·rename_i i hi;split at h
  ·rename_i z hz;split at h
   ·rename_i hf;refine Mt (fun ρ a w ht=>⟨?_,zC _ hf⟩) h
    rw[EM hf];simp[execOp,ho,Instr.alloc,zeroValue,typeInfo,hi,hz,newVar,newRow]
   ·cases h
  ·cases h
 ·cases h
def Ly (σ:SS R) (t:TypeId) (y:Operand):Option (Out R) :=
 match ev σ.tm y with
 |some v=>wF σ t v.cells.toList
 |none=>aj
theorem adl {σ:SS R} {o:Oper} {t:TypeId} {y:Operand} {x:Out R} (ho:o.op=.box t y) (h:Ly σ t y=aa x):mb D P o σ x:=by
 unfold Ly at h;split at h
 ·rename_i v hv;refine Mt (fun ρ a w ht=>?_) h
  obtain⟨h1,h2⟩:=ek ht hv;refine⟨?_,Sf h2⟩;have:(bT ρ v).cells=(v.cells.toList.map (bT ρ)).toArray:=by rw[Cp];apply qz;simp
  simp[execOp,ho,Instr.box,newVar,newRow,h1,this]
 ·cases h
def Bz (tm:List (Option Value)):List (Nat×Operand)->Option (List (Nat×Value))
 |[]=>aa []
 |(i,y)::l =>
  match ev tm y,Bz tm l with
  |some v,aa r=>aa ((i,v)::r)
  |_,_=>aj
theorem yt {tm:List (Option Value)} {n:Nat} {a:Act} (ht:TM ρ n tm a):∀ {l:List (Nat×Operand)} {r:List (Nat×Value)},Bz tm l=aa r ->
  l.map (fun(i,y)=>(i,a.eval y))=r.map (fun(i,v)=>(i,bT ρ v))/\∀ p∈r,fp n p.2=ao
 |[],r,h=>by
  simp only[Bz] at h;injection h with h
  subst h;exact⟨rfl,fun p hp=>by cases hp⟩
 |(i,y)::l,r,h=>by
  simp only[Bz] at h;split at h
  ·rename_i v r' hv hr;injection h with h
   subst h;obtain⟨h1,h2⟩:=ek ht hv;obtain⟨h3,h4⟩:=yt ht hr;refine⟨by simp only[gr,h1,h3],fun p hp=>?_⟩
   rcases bP.1 hp with rfl|hp
   ·exact h2
   ·exact h4 p hp
  ·cases h
def FO (place:Nat->Option (Nat×Nat)) (cs:List Value):List (Nat×Value)->Option (List Value)
 |[]=>aa cs
 |(i,v)::rest =>
  match place i with
  |none=>aj
  |some (off,size) =>
   if fb v.cells.toList.length size&&uM (off+size) cs.length then FO place (Ig cs off v.cells.toList) rest else aj
theorem SJ (vs:List Value):∀ (k:Nat) (cur:Array Value) (off:Nat),(vs.zipIdx k).foldl (fun cs (x:Value×Nat)=>cs.setIfInBounds (off+x.2) x.1) cur=nE cur (off+k) vs:=by
 induction vs with
 |nil=>intro k cur off;rfl
 |cons v l ih=>intro k cur off;simp only[List.zipIdx_cons,List.foldl_cons,nE];rw[ih];simp[jd]
theorem AJ {place:Nat->Option (Nat×Nat)}:∀ {rest:List (Nat×Value)} {cs r:List Value},FO place cs rest=aa r ->
  aaf place (cs.map (bT ρ)).toArray (rest.map fun(i,v)=>(i,bT ρ v))=aa (r.map (bT ρ)).toArray/\r.length=cs.length
 |[],cs,r,h=>by
  simp only[FO] at h;injection h with h
  subst h;exact⟨rfl,rfl⟩
 |(i,v)::rest,cs,r,h=>by
  simp only[FO] at h;split at h
  ·cases h
  ·rename_i off size hp;split at h
   ·rename_i hc;simp only[aL] at hc;have h1:=cP hc.1;have h2:=jF hc.2;obtain⟨h3,h4⟩:=AJ h;refine⟨?_,by rw[h4,Mf]⟩
    simp only[gr,aaf,hp];have n7:(bT ρ v).cells.size=size:=by rw[Cp];simpa using h1
    rw[if_neg (by simp[n7];omega)]
    rw[← h3]
    congr 1
    have:(bT ρ v).cells=(v.cells.toList.map (bT ρ)).toArray:=by rw[Cp];apply qz;simp
    rw[this];have e:=SJ (v.cells.toList.map (bT ρ)) 0 (cs.map (bT ρ)).toArray off;rw[gT,Gz] at e;rw[← e];simp[← Array.foldl_toList]
   ·cases h
def Hf (P:Program):List Field->Option (List (Nat×Nat))
 |[]=>aa []
 |f::fs =>
  match P.info? f.type,Hf P fs with
  |some i,aa r=>aa ((f.offset,i.size)::r)
  |_,_=>aj
theorem JF (w:World):∀ {fs:List Field} {r:List (Nat×Nat)},Hf P fs=aa r->(fs.mapM (m:=Sem) fun f=>do pure (f.offset,← sizeOf f.type)).run P w=.ok r w
 |[],r,h=>by
  simp only[Hf] at h;injection h with h
  subst h;simp
 |f::fs,r,h=>by
  simp only[Hf] at h;split at h
  ·rename_i i r' hi hr;injection h with h
   subst h;have ih:=JF w hr;simp[sizeOf,typeInfo,hi] at ih ⊢;simp[ih]
  ·cases h
def DY (P:Program) (σ:SS R) (t:TypeId) (parts:List (Nat×Operand)):Option (Out R) :=
 match P.info? t,P.underlying t,Bz σ.tm parts with
 |some i,aa (.struct ⟨fs⟩),aa ps =>
  match i.zero,Hf P fs with
  |some z,aa sz =>
   if pM z.cells.toList then
    match FO (fun k=>sz[k]?) z.cells.toList ps with
    |some cs=>aa (gp σ True (.agg ⟨cs⟩) aj [])
    |none=>aj
   else aj
  |_,_=>aj
 |some i,aa (.array _ elem),aa ps =>
  match i.zero,P.info? elem with
  |some z,aa ie =>
   if pM z.cells.toList then
    match FO (fun k=>aa (k*ie.size,ie.size)) z.cells.toList ps with
    |some cs=>aa (gp σ True (.agg ⟨cs⟩) aj [])
    |none=>aj
   else aj
  |_,_=>aj
 |_,_,_=>aj
theorem ZO {σ:SS R} {o:Oper} {t:TypeId} {parts:Array (Nat×Operand)} {x:Out R} (ho:o.op=.build t parts) (h:DY P σ t parts.toList=aa x):mb D P o σ x:=by
 unfold DY at h;split at h
 ·rename_i i fs ps hi hu T0;split at h
  ·rename_i z sz hz n7;split at h
   ·rename_i hf;split at h
    ·rename_i cs HG;injection h with h
     subst h;refine g9 (fun C ρ ft a w ht iv hm _=>?_) (fun iv c hc=>by cases hc)
     obtain⟨h1,h2⟩:=yt ht T0;obtain⟨h3,h4⟩:=AJ (ρ:=ρ) HG;rw[EM hf] at h3;have Jk:(parts.map fun(i,y)=>(i,a.eval y)).toList=ps.map fun(i,v)=>(i,bT ρ v):=by
      rw[mv];exact h1
     have JH:=JF w n7;have hm3:((⟨fs⟩:Array Field).mapM (m:=Sem) fun f=>do pure (f.offset,← sizeOf f.type)).run P w=.ok ⟨sz⟩ w:=by
      rw[DG,W8,JH];simp
     have aj4:(fun(k:Nat)=>(⟨sz⟩:Array (Nat×Nat))[k]?)=fun(k:Nat)=>sz[k]?:=by funext k;simp
     simp only[execOp,ho,W9,zeroValue,typeInfo,dy,run_program,cz,hi,dS,hz,run_underlying hu,hm3,Jk,aj4];simp only[IQ] at h3;rw[h3,zA];simp
    ·cases h
   ·cases h
  ·cases h
 ·rename_i i q elem ps hi hu T0;split at h
  ·rename_i z ie hz hie;split at h
   ·rename_i hf;split at h
    ·rename_i cs HG;injection h with h
     subst h;refine g9 (fun C ρ ft a w ht iv hm _=>?_) (fun iv c hc=>by cases hc)
     obtain⟨h1,h2⟩:=yt ht T0;obtain⟨h3,h4⟩:=AJ (ρ:=ρ) HG;rw[EM hf] at h3;have Jk:(parts.map fun(i,y)=>(i,a.eval y)).toList=ps.map fun(i,v)=>(i,bT ρ v):=by
      rw[mv];exact h1
     simp only[execOp,ho,W9,zeroValue,typeInfo,sizeOf,dy,run_program,cz,hi,hie,dS,hz,run_underlying hu,Jk];simp only[IQ] at h3;rw[h3,zA];simp
    ·cases h
   ·cases h
  ·cases h
 ·cases h
end
end Rx
namespace Rx
open Go.RowKit State
section
variable {R:Type} {D:fH R} {P:Program} {C:Ctx} {ρ:Env} {ft:Nat->Nat->Prop} {w w':World}
def Hx (t:Value):List Value->Option aX
 |[]=>match t with
  |.int _ _|.bool _|.string _=>aa KZ
  |_=>aj
 |v::l =>
  match t,v,Hx t l with
  |.int k _,.int k' x,aa c=>if k=k' then aa { c with i:=x::c.i } else aj
  |.bool _,.bool x,aa c=>aa { c with b:=x::c.b }
  |.string _,.string x,aa c=>aa { c with s:=x::c.s }
  |_,_,_=>aj
theorem DE {t:Value}:∀ {l:List Value} {c:aX},Hx t l=aa c->jK t c l.length/\∀ (e:Nat),e<l.length->l[e]?=aa (gD t c e)
 |[],c,h=>by
  simp only[Hx] at h;split at h
  ·injection h with h;subst h;exact⟨rfl,fun e he=>by simp at he⟩
  ·injection h with h;subst h;exact⟨rfl,fun e he=>by simp at he⟩
  ·injection h with h;subst h;exact⟨rfl,fun e he=>by simp at he⟩
  ·cases h
 |v::l,c,h=>by
  simp only[Hx] at h;split at h
  ·rename_i k _ k' x c' hc;split at h
   ·rename_i hk;subst hk;injection h with h
    subst h;obtain⟨h1,h2⟩:=DE hc;refine⟨by simpa [jK] using h1,fun e he=>?_⟩
    cases e with
    |zero=>simp[gD]
    |succ e =>
     have:=h2 e (by simpa using he)
     simpa [gD] using this
   ·cases h
  ·rename_i x c' hc;injection h with h
   subst h;obtain⟨h1,h2⟩:=DE hc;refine⟨by simpa [jK] using h1,fun e he=>?_⟩
   cases e with
   |zero=>simp[gD]
   |succ e =>
    have:=h2 e (by simpa using he)
    simpa [gD] using this
  ·rename_i x c' hc;injection h with h
   subst h;obtain⟨h1,h2⟩:=DE hc;refine⟨by simpa [jK] using h1,fun e he=>?_⟩
   cases e with
   |zero=>simp[gD]
   |succ e =>
    have:=h2 e (by simpa using he)
    simpa [gD] using this
  ·cases h
def HD (cells:List Value) (s f:Nat):Nat->List Value
 |0=>[]
 |n+1=>HD cells s f n++[(cells[n*s+f]?).getD undef]
theorem PC (cells:List Value) (s f:Nat):∀ (n:Nat),(HD cells s f n).length=n/\∀ e,e<n->(HD cells s f n)[e]?=aa ((cells[e*s+f]?).getD undef)
 |0=>⟨rfl,fun e he=>by omega⟩
 |n+1=>by
  obtain⟨h1,h2⟩:=PC cells s f n;refine⟨by simp[HD,h1],fun e he=>?_⟩
  simp only[HD];rcases cr e n with cj|j7
  ·rw[c_ (by omega)]
   exact h2 e cj
  ·have:e=n:=by omega
   subst this;rw[dQ (by omega),h1]
   simp
def EX (cells:List Value) (s n:Nat):Nat->List Value->Option (List aX)
 |_,[]=>aa []
 |f,t::tm =>
  match Hx t (HD cells s f n),EX cells s n (f+1) tm with
  |some c,aa r=>aa (c::r)
  |_,_=>aj
theorem Ma {cells:List Value} {s n:Nat}:∀ {tm:List Value} {f0:Nat} {eu:List aX},EX cells s n f0 tm=aa eu ->
  eu.length=tm.length/\∀ (f:Nat) (t:Value) (c:aX),tm[f]?=aa t->eu[f]?=aa c->jK t c n/\∀ e,e<n->(cells[e*s+(f0+f)]?).getD undef=gD t c e
 |[],f0,eu,h=>by
  simp only[EX] at h;injection h with h
  subst h;exact⟨rfl,fun f t c h1 h2=>by simp at h1⟩
 |t0::tm,f0,eu,h=>by
  simp only[EX] at h;split at h
  ·rename_i c r hc hr;injection h with h
   subst h;obtain⟨h1,h2⟩:=Ma hr;refine⟨by simp[h1],fun f t c' g1 g2=>?_⟩
   cases f with
   |zero =>
    simp only[cd,ct] at g1 g2;subst g1;subst g2;obtain⟨k1,k2⟩:=DE hc;obtain⟨s1,s2⟩:=PC cells s f0 n;rw[s1] at k1 k2;refine⟨k1,fun e he=>?_⟩
    have:=k2 e he;rw[s2 e he] at this;exact pa this
   |succ f =>
    simp only[bH] at g1 g2;have:=h2 f t c' g1 g2;rw[show f0+(f+1)=f0+1+f by omega]
    exact this
  ·cases h
theorem HM.Rj {h:Hp R} (hm:HM D C ρ ft h w) (t:TypeId) (r:Row) (arr:Array Value) (cap:Nat) (h0:0<r.tm.length) (hn:r.n≤cap) (hc:cap≤maxLen) (hs:arr.size=cap*r.tm.length) (hr:oc r arr 0) :
  HM D C (qn ρ h.length ⟨w.heap.size,0,cap,an⟩) (qn ft h.length (fun k=>k=w.heap.size)) (h++[aa (.inr (.inl (t,r)))]) (w.alloc (.cells arr t)):=by
 refine hm.push ⟨w.heap.size,0,cap,an⟩ (.cells arr t) rfl (.inr (.inl (t,r))) ?_ trivial;simp only[hold,jc];exact⟨fun k=>by simp,h0,hn,hc,(fun h=>by cases h),arr,fun _=>⟨heap_alloc_new w _,by omega⟩,hr⟩
theorem HM.Rz {h:Hp R} (hm:HM D C ρ ft h w) (t:TypeId) (r:Row) (h0:0<r.tm.length) (hn:r.n=0) (hl:r.eu.length=r.tm.length) (hc:∀ (f:Nat) (t:Value) (c:aX),r.tm[f]?=aa t->r.eu[f]?=aa c->jK t c r.n) (b o:Nat) :
  HM D C (qn ρ h.length ⟨b,o,0,ao⟩) ft (h++[aa (.inr (.inl (t,r)))]) w:=by
 have CM:∀ k,¬ ft h.length k:=fun k hk=>by
  obtain⟨B,hB⟩:=hm.some_ _ _ hk;have:=(aU.1 hB).1;omega
 refine hm.step (fun _=>False) (Kept.refl _ _) (fun i hi=>oA _ _ _ hi) (by simp) ?_ ?_ ?_ ?_
 ·intro i B' hi jD;have j7:h.length≤i:=nw hi;rw[dQ j7] at jD;have:i=h.length:=by
   rcases cr h.length i with cj|hle
   ·rw[dc (by simp;omega)] at jD;cases jD
   ·omega
  subst this;simp at jD;subst jD;refine⟨?_,trivial⟩;simp only[hold,jc];exact⟨fun k=>by simp[CM k],h0,by omega,by unfold maxLen;omega,fun _=>trivial,#[],(fun h=>by cases h),hl,hc,fun f t c e _ _ he=>by omega⟩
 ·intro i hi _;exact⟨c_ hi,fun k=>sk⟩
 ·intro i k hi hk;obtain⟨B',jD⟩:=hm.some_ i k hk;exact absurd (aU.1 jD).1 hi
 ·intro i j k hi hj GY He;exact hm.apart i j k GY He
def vd (tm:List Value):Nat->List Value
 |0=>[]
 |n+1=>vd tm n++tm
theorem qu (tm:List Value):∀ n,(vd tm n).length=n*tm.length
 |0=>by simp[vd]
 |n+1=>by simp[vd,qu tm n,ig]
theorem ES (tm:List Value) (h0:0<tm.length):∀ (n j:Nat),j<n*tm.length->(vd tm n)[j]?=tm[j%tm.length]?
 |0,j,hj=>by omega
 |n+1,j,hj=>by
  simp only[vd];rcases cr j (n*tm.length) with cj|j7
  ·rw[c_ (by rw[qu];exact cj)]
   exact ES tm h0 n j cj
  ·rw[dQ (by rw[qu];exact j7),qu]
   have:j%tm.length=j-n*tm.length:=by
    rw[ig,qA] at hj;obtain⟨d,rfl⟩:∃ d,j=n*tm.length+d:=⟨j-n*tm.length,by omega⟩
    rw[sK,v9,Fl (by omega)]
    omega
   rw[this]
theorem Uf (z:Array Value) (h0:0<z.size) (n:Nat):((GB (n*z.size)).map (z[·%z.size]!))=(vd z.toList n).toArray:=by
 apply qz;apply nV;intro j;simp only[mv,Array.toList_range,fh]
 by_cases hj:j<n*z.size
 ·rw[ES z.toList (by simpa using h0) n j (by simpa using hj)]
  have hm:j%z.size<z.size:=P9 _ h0;simp[hj,hm]
 ·rw[dc (by simpa using hj),dc (by rw[qu];simpa using hj)]
  simp
def FL:List (Nat×Value)->Bool
 |[]=>ao
 |(_,v)::l=>flat v&&FL l
theorem I6 {l:List (Nat×Value)} (h:FL l=ao):l.map (fun(i,v)=>(i,bT ρ v))=l:=by
 induction l with
 |nil=>rfl
 |cons p l ih =>
  obtain⟨i,v⟩:=p;simp only[FL,aL] at h;simp[ih h.2,nQ v h.1]
def elemOf (P:Program) (t:TypeId):Option (TypeId×List Value×Nat) :=
 match P.underlying t with
 |some (.slice el) =>
  match P.info? el with
  |some inf=>match inf.zero with
   |some z=>if pM z.cells.toList&&fb inf.size z.cells.toList.length&&gR 0 inf.size&&gR inf.size 1000 then aa (el,z.cells.toList,inf.bytes) else aj
   |none=>aj
  |none=>aj
 |_=>aj
theorem zU {t el:TypeId} {tm:List Value} {Di:Nat} (h:elemOf P t=aa (el,tm,Di)) :
  ∃ inf z,P.underlying t=aa (.slice el)/\P.info? el=aa inf/\inf.zero=aa z/\z.cells.toList=tm/\inf.size=tm.length/\inf.bytes=Di/\pM tm=ao/\0<tm.length/\tm.length<1000:=by
 unfold elemOf at h;split at h
 ·rename_i el' hu;split at h
  ·rename_i inf hi;split at h
   ·rename_i z hz;split at h
    ·rename_i hc;simp only[aL,fe] at hc;have h1:=cP hc.1.1.2;injection h with h
     injection h with h2 h3
     injection h3 with h3 h4
     subst h2;subst h3;subst h4;exact⟨inf,z,hu,hi,hz,rfl,h1,rfl,hc.1.1.1,by omega,by omega⟩
    ·cases h
   ·cases h
  ·cases h
 ·cases h
def ug (P:Program) (σ:SS R) (t:TypeId) (len:Nat) (parts:List (Nat×Operand)):Option (Out R) :=
 match elemOf P t,Bz σ.tm parts with
 |some (el,tm,_),aa ps =>
  if FL ps&&uM (len*tm.length) 1000000 then
   match FO (fun i=>aa (i*tm.length,tm.length)) (vd tm len) ps with
   |some cells=>match EX cells tm.length len 0 tm with
    |some eu=>aa ⟨True,.slice (aa ⟨σ.hp.length,0,aa (1000*tm.length)⟩) len len,aj,σ.hp++[aa (.inr (.inl (el,⟨tm,len,eu⟩)))],[],[(σ.hp.length,0)]⟩
    |none=>aj
   |none=>aj
  else aj
 |_,_=>aj
theorem PA {σ:SS R} {o:Oper} {t:TypeId} {len:Nat} {parts:Array (Nat×Operand)} {x:Out R} (ho:o.op=.buildSlice t len parts) (h:ug P σ t len parts.toList=aa x):mb D P o σ x:=by
 unfold ug at h;split at h
 ·rename_i el tm Di ps he T0;obtain⟨inf,z,hu,hi,hz,Bk,n7,_,wz,h0,Sk⟩:=zU he;split at h
  ·rename_i hc;simp only[aL] at hc;have hle:=jF hc.2;split at h
   ·rename_i cells UM;split at h
    ·rename_i eu DF;injection h with h
     subst h;refine⟨fun C ρ ft a w K Q ht iv hm _ hK=>?_,by simp,fun _ b hb=>by cases hb⟩
     obtain⟨h1,h2⟩:=yt ht T0;rw[I6 hc.1] at h1;obtain⟨h3,h4⟩:=AJ (ρ:=ρ) UM;rw[I6 hc.1] at h3;have Zs:pM (vd tm len)=ao:=by
      rw[z5];intro v hv;obtain⟨j,hj⟩:=A' hv;have U9:=(aU.1 hj).1;rw[qu] at U9;rw[ES tm h0 len j U9] at hj;exact z5.1 wz v (lz hj)
     rw[EM Zs] at h3;have Jk:(parts.map fun(i,y)=>(i,a.eval y)).toList=ps:=by
      rw[mv];exact h1
     have J2:z.cells.size=tm.length:=by rw[← Bk];simp
     have Gx:(if len*inf.size=0 then #[] else z.cells:Array Value)=if len*tm.length=0 then #[] else z.cells:=by rw[n7]
     have hzero:(GB (len*tm.length)).map ((if len*tm.length=0 then(#[]:Array Value) else z.cells)[·%(if len*tm.length=0 then(#[]:Array Value) else z.cells).size]!)=(vd tm len).toArray:=by
      by_cases yr:len*tm.length=0
      ·have:len=0:=by
        rcases Gj.1 yr with h|h
        ·exact h
        ·omega
       subst this;simp[vd]
      ·rw[if_neg yr];have:=Uf z.cells (by omega) len
       rw[J2,Bk] at this;rw[J2];exact this
     have aeW:cells.length=len*tm.length:=by rw[h4,qu]
     obtain⟨c1,c2⟩:=Ma DF;have hcm:cells.map (bT ρ)=cells.map (bT ρ):=rfl;have wo:oc ⟨tm,len,eu⟩ (cells.map (bT ρ)).toArray 0:=by
      refine⟨c1,fun f t c g1 g2=>(c2 f t c g1 g2).1,fun f t c e g1 g2 g3=>?_⟩
      have BN:f<tm.length:=(aU.1 g1).1;have cj:e*tm.length+f<cells.length:=by
       rw[aeW];have:=jr tm.length (show e+1≤len from g3)
       rw[ig,qA] at this;omega
      obtain⟨k1,k2⟩:=c2 f t c g1 g2;have:=k2 e g3;rw[bV,bd cj,Option.getD_some] at this;rw[bV,jE,fh,bd cj,this];simp[nQ _ (Kw k1 e)]
     have nP:(execOp a.eval o).run P w=.ok (.value (.slice (aa ⟨w.heap.size,0,aj⟩) len len)) (w.alloc (.cells (cells.map (bT ρ)).toArray el)):=by
      have ada:¬ len*tm.length>2 ^ 24:=by omega
      simp only[execOp,ho,N9,dy,run_underlying hu,cz,sizeOf,typeInfo,run_program,hi,dS,n7,if_neg ada,Jk]
      by_cases yr:len*tm.length=0
      ·rw[if_pos yr] at hzero;rw[yr] at hzero;simp only[yr,if_true,dy,dS,cz];rw[hzero,h3];simp[newRow]
      ·rw[if_neg yr] at hzero;simp only[yr,if_false,dy,zeroValue,typeInfo,run_program,cz,hi,hz,dS];rw[hzero,h3];simp[newRow]
     refine rC nP ?_;have hp:=hm.Rj el ⟨tm,len,eu⟩ (cells.map (bT ρ)).toArray len h0 (a_ _) (by
      have:len≤len*tm.length:=Nat.le_mul_of_pos_right _ h0;unfold maxLen;omega) (by simp[aeW]) wo
     have:=hK _ _ _ (fun i hi=>oA ρ σ.hp.length ⟨w.heap.size,0,len,an⟩ hi) hp
     have e1:1000*tm.length / 1000000=0:=by omega
     have e2:1000*tm.length%1000=0:=by omega
     simpa [bT,lF,iD,jc,cellOf,e1,e2] using this
    ·cases h
   ·cases h
  ·cases h
 ·cases h
def uE (P:Program) (σ:SS R) (t:TypeId) (len:Nat) (parts:List (Nat×Operand)):Option (Out R) :=
 match elemOf P t,Bz σ.tm parts with
 |some (el,tm,_),aa ps =>
  if uM (len*tm.length) 1000000&&gR 0 len then
   match FO (fun i=>aa (i*tm.length,tm.length)) (vd tm len) ps with
   |some cells=>if ix σ.hp.length cells then aa ⟨True,.slice (aa ⟨σ.hp.length,0,aj⟩) len len,aj,σ.hp++[aa (.inl (el,cells))],[],[(σ.hp.length,0)]⟩ else aj
   |none=>aj
  else aj
 |_,_=>aj
theorem O6 {σ:SS R} {o:Oper} {t:TypeId} {len:Nat} {parts:Array (Nat×Operand)} {x:Out R} (ho:o.op=.buildSlice t len parts) (h:uE P σ t len parts.toList=aa x):mb D P o σ x:=by
 unfold uE at h;split at h
 ·rename_i el tm Di ps he T0;obtain⟨inf,z,hu,hi,hz,Bk,n7,_,wz,h0,Sk⟩:=zU he;split at h
  ·rename_i hc;simp only[aL,fe] at hc;have hle:=jF hc.1;have adn:=hc.2;split at h
   ·rename_i cells UM;split at h
    ·rename_i j8;injection h with h
     subst h;refine⟨fun C ρ ft a w K Q ht iv hm _ hK=>?_,by simp,fun _ b hb=>by cases hb⟩
     obtain⟨h1,h2⟩:=yt ht T0;obtain⟨h3,h4⟩:=AJ (ρ:=ρ) UM;have Zs:pM (vd tm len)=ao:=by
      rw[z5];intro v hv;obtain⟨j,hj⟩:=A' hv;have U9:=(aU.1 hj).1;rw[qu] at U9;rw[ES tm h0 len j U9] at hj;exact z5.1 wz v (lz hj)
     rw[EM Zs] at h3;have Jk:(parts.map fun(i,y)=>(i,a.eval y)).toList=ps.map fun(i,v)=>(i,bT ρ v):=by
      rw[mv];exact h1
     have J2:z.cells.size=tm.length:=by rw[← Bk];simp
     have kv:¬ len*tm.length=0:=by
      intro yr;rcases Gj.1 yr with h|h<;>omega
     have hzero:(GB (len*tm.length)).map (z.cells[·%z.cells.size]!)=(vd tm len).toArray:=by
      have:=Uf z.cells (by omega) len
      rw[J2,Bk] at this;rw[J2];exact this
     have nP:(execOp a.eval o).run P w=.ok (.value (.slice (aa ⟨w.heap.size,0,aj⟩) len len)) (w.alloc (.cells (cells.map (bT ρ)).toArray el)):=by
      have ada:¬ len*tm.length>2 ^ 24:=by omega
      simp only[execOp,ho,N9,dy,run_underlying hu,cz,sizeOf,typeInfo,run_program,hi,dS,n7,if_neg ada,Jk];simp only[kv,if_false,dy,zeroValue,typeInfo,run_program,cz,hi,hz,dS];rw[hzero,h3];simp[newRow]
     have Vo:cells.map (bT (qn ρ σ.hp.length ⟨w.heap.size,0,0,an⟩))=cells.map (bT ρ) :=
      n3 fun v hv=>nh (n:=σ.hp.length) (fun i hi=>oA _ _ _ hi) v (wR.1 j8 v hv)
     have hp:=hm.push (D:=D) ⟨w.heap.size,0,0,an⟩ (.cells (cells.map (bT ρ)).toArray el) rfl (.inl (el,cells)) (by
      refine⟨by rw[jc],fun k=>by rw[jc],?_⟩
      rw[jc,Vo];exact heap_alloc_new w _) (uZ (kO _) _ j8)
     refine rC nP ?_;have:=hK _ _ _ (fun i hi=>oA ρ σ.hp.length ⟨w.heap.size,0,0,an⟩ hi) hp
     simpa [bT,lF,iD,jc,cellOf] using this
    ·cases h
   ·cases h
  ·cases h
 ·cases h
def K_ (t:Value) (n:Nat):Option aX :=
 match t with
 |.int _ x=>aa { KZ with i:=lj n x }
 |.bool x=>aa { KZ with b:=lj n x }
 |.string x=>aa { KZ with s:=lj n x }
 |_=>aj
def tR:List Value->Nat->Option (List aX)
 |[],_=>aa []
 |t::tm,n =>
  match K_ t n,tR tm n with
  |some c,aa r=>aa (c::r)
  |_,_=>aj
theorem Z0 {t:Value} {n:Nat} {c:aX} (h:K_ t n=aa c):jK t c n/\∀ e,e<n->gD t c e=t:=by
 unfold K_ at h;split at h
 ·injection h with h;subst h
  exact⟨by simp[jK],fun e he=>by simp[gD,av,he]⟩
 ·injection h with h;subst h
  exact⟨by simp[jK],fun e he=>by simp[gD,av,he]⟩
 ·injection h with h;subst h
  exact⟨by simp[jK],fun e he=>by simp[gD,av,he]⟩
 ·cases h
theorem yi:∀ {tm:List Value} {n:Nat} {eu:List aX},tR tm n=aa eu->eu.length=tm.length/\∀ (f:Nat) (t:Value) (c:aX),tm[f]?=aa t->eu[f]?=aa c->jK t c n/\∀ e,e<n->gD t c e=t
 |[],n,eu,h=>by
  simp only[tR] at h;injection h with h
  subst h;exact⟨rfl,fun f t c h1 _=>by simp at h1⟩
 |t0::tm,n,eu,h=>by
  simp only[tR] at h;split at h
  ·rename_i c r hc hr;injection h with h
   subst h;obtain⟨h1,h2⟩:=yi hr;refine⟨by simp[h1],fun f t c' g1 g2=>?_⟩
   cases f with
   |zero =>
    simp only[cd,ct] at g1 g2;subst g1;subst g2;exact Z0 hc
   |succ f =>
    simp only[bH] at g1 g2;exact h2 f t c' g1 g2
  ·cases h
def vp (P:Program) (σ:SS R) (t:TypeId):Option (Out R) :=
 match elemOf P t with
 |some (el,tm,_)=>match tR tm 0 with
  |some eu=>aa ⟨True,.slice (aa ⟨σ.hp.length,0,aa (1000*tm.length)⟩) 0 0,aj,σ.hp++[aa (.inr (.inl (el,⟨tm,0,eu⟩)))],[],[(σ.hp.length,0)]⟩
  |none=>aj
 |none=>aj
theorem SH {σ:SS R} {o:Oper} {t:TypeId} {n c:Nat} {y:Operand} {x:Out R} (ho:o.op=.move y∨o.op=.assign y) (hy:ev σ.tm y=aa (.slice aj 0 0)) (h:vp P σ t=aa x):mb D P o σ x:=by
 unfold vp at h;split at h
 ·rename_i el tm Di he;obtain⟨inf,z,hu,hi,hz,Bk,n7,_,wz,h0,Sk⟩:=zU he;split at h
  ·rename_i eu DF;injection h with h
   subst h;refine⟨fun C ρ ft a w K Q ht iv hm _ hK=>?_,by simp,fun _ b hb=>by cases hb⟩
   obtain⟨c1,c2⟩:=yi DF;have hv:=(ek ht hy).1;have nP:(execOp a.eval o).run P w=.ok (.value (.slice aj 0 0)) w:=by
    simp only[bT] at hv;rcases ho with ho|ho<;>simp[execOp,ho,hv]
   refine rC nP ?_;have hp:=hm.Rz el ⟨tm,0,eu⟩ h0 rfl c1 (fun f t c g1 g2=>(c2 f t c g1 g2).1) 0 0
   have:=hK _ _ _ (fun i hi=>oA ρ σ.hp.length ⟨0,0,0,ao⟩ hi) hp
   simpa [bT,lF,jc] using this
  ·cases h
 ·cases h
def yk (P:Program) (σ:SS R) (t:TypeId) (y z:Operand):Option (Out R) :=
 match elemOf P t,ev σ.tm y,ev σ.tm z with
 |some (el,tm,Di),aa (.int _ l),aa (.int _ c) =>
  match tR tm l.toNat with
  |some eu=>aa ⟨0≤l/\l≤c/\c*Di≤140737488355328/\c≤140737488355328,.slice (aa ⟨σ.hp.length,0,aa (1000*tm.length)⟩) l.toNat c.toNat,aj,σ.hp++[aa (.inr (.inl (el,⟨tm,l.toNat,eu⟩)))],[],[(σ.hp.length,0)]⟩
  |none=>aj
 |_,_,_=>aj
theorem Q' {σ:SS R} {o:Oper} {t:TypeId} {y z:Operand} {x:Out R} (ho:o.op=.makeSlice t y z) (h:yk P σ t y z=aa x):mb D P o σ x:=by
 unfold yk at h;split at h
 ·rename_i el tm Di k l k' c he hl Wf;obtain⟨inf,zv,hu,hi,hz,Bk,n7,hby,wz,h0,Sk⟩:=zU he;split at h
  ·rename_i eu DF;injection h with h
   subst h;refine⟨fun C ρ ft a w K Q ht iv hm hv hK=>?_,by simp,fun _ b hb=>by cases hb⟩
   obtain⟨v0,v1,v2,v3⟩:=hv;obtain⟨c1,c2⟩:=yi DF;have h1:=(ek ht hl).1;have h2:=(ek ht Wf).1;simp only[xQ] at h1 h2;obtain⟨ln,rfl⟩:=tn v0;obtain⟨cn,rfl⟩:=tn (Int.le_trans v0 v1);simp only[iF] at *
   have J2:zv.cells.size=tm.length:=by rw[← Bk];simp
   have hw1:ar.wrap (ln:Int)=ln:=oJ ⟨by omega,by omega⟩
   have TK:ar.wrap (cn:Int)=cn:=oJ ⟨by omega,by omega⟩
   have Gx:(GB (cn*tm.length)).map ((if cn*tm.length=0 then(#[]:Array Value) else zv.cells)[·%(if cn*tm.length=0 then(#[]:Array Value) else zv.cells).size]!)=(vd tm cn).toArray:=by
    by_cases yr:cn*tm.length=0
    ·have:cn=0:=by
      rcases Gj.1 yr with h|h
      ·exact h
      ·omega
     subst this;simp[vd]
    ·rw[if_neg yr];have:=Uf zv.cells (by omega) cn
     rw[J2,Bk] at this;rw[J2];exact this
   have LX:(Di:Int)*(cn:Int)≤281474976710656:=by rw[Int.mul_comm];omega
   have nP:(execOp a.eval o).run P w=.ok (.value (.slice (aa ⟨w.heap.size,0,aj⟩) ln cn)) (w.alloc (.cells (vd tm cn).toArray el)):=by
    simp only[execOp,ho,h1,h2,Instr.makeSlice,dy,run_underlying hu,cz,asInt,asIntOf,dS,typeInfo,run_program,hi,hw1,TK,hby];have ala:(decide ((cn:Int)<0)||decide ((Di:Int)*(cn:Int)>2 ^ 48)||decide ((ln:Int)<0)||decide ((ln:Int)>(cn:Int)))=an:=by
     have e1:decide ((cn:Int)<0)=an:=decide_eq_false (by omega)
     have e2:decide ((Di:Int)*(cn:Int)>2 ^ 48)=an:=decide_eq_false (by omega)
     have e3:decide ((ln:Int)<0)=an:=decide_eq_false (by omega)
     have e4:decide ((ln:Int)>(cn:Int))=an:=decide_eq_false (by omega)
     rw[e1,e2,e3,e4];rfl
    simp only[ala,fO,if_false,dS,cz,run_askRoom,sizeOf,typeInfo,dy,run_program,hi,n7,iF]
    by_cases yr:cn*tm.length=0
    ·rw[if_pos yr] at Gx;rw[yr] at Gx;simp only[yr,if_true,dy,dS,cz];rw[Gx];simp[newRow]
    ·rw[if_neg yr] at Gx;simp only[yr,if_false,dy,zeroValue,typeInfo,run_program,cz,hi,hz,dS];rw[Gx];simp[newRow]
   refine rC nP ?_;have wo:oc ⟨tm,ln,eu⟩ (vd tm cn).toArray 0:=by
    refine⟨c1,fun f t c g1 g2=>(c2 f t c g1 g2).1,fun f t c e g1 g2 g3=>?_⟩
    have BN:f<tm.length:=(aU.1 g1).1;have cj:e*tm.length+f<cn*tm.length:=by
     have:=jr tm.length (show e+1≤cn by have:e<ln:=g3;omega)
     rw[ig,qA] at this;omega
    rw[bV,jE,ES tm h0 cn _ cj,(c2 f t c g1 g2).2 e g3];have:(e*tm.length+f)%tm.length=f:=by rw[sK,v9,Fl BN]
    rw[this,g1]
   have hp:=hm.Rj el ⟨tm,ln,eu⟩ (vd tm cn).toArray cn h0 (by simp only;omega) (by unfold maxLen;omega) (by simp[qu]) wo
   have:=hK _ _ _ (fun i hi=>oA ρ σ.hp.length ⟨w.heap.size,0,cn,an⟩ hi) hp
   have e1:1000*tm.length / 1000000=0:=by omega
   have e2:1000*tm.length%1000=0:=by omega
   simpa [bT,lF,iD,jc,cellOf,e1,e2] using this
  ·cases h
 ·cases h
end
end Rx
namespace Rx
open Go.RowKit State
section
variable {R:Type} {D:fH R} {P:Program} {C:Ctx} {ρ:Env} {ft:Nat->Nat->Prop} {w w':World}
def Lf (P:Program) (σ:SS R) (t:TypeId) (y:Operand):Option (Out R) :=
 match ev σ.tm y,P.underlying t with
 |some (.slice (aa _) n _),aa (.slice _)=>aa (gp σ True (.int .i64 n) aj [])
 |_,_=>aj
theorem aeo {σ:SS R} {o:Oper} {t:TypeId} {y:Operand} {x:Out R} (ho:o.op=.call { callee:=.builtin .len,args:=#[y],argTypes:=#[t] }) (h:Lf P σ t y=aa x):mb D P o σ x:=by
 unfold Lf at h;split at h
 ·rename_i ad n c el ha hu;injection h with h
  subst h;refine g9 (fun C ρ ft a w ht iv hm _=>?_) (fun iv c hc=>by cases hc)
  have h1:=(ek ht ha).1;simp only[bT] at h1;obtain⟨A,c',e⟩:=Se (ρ:=ρ) ad n c;rw[e] at h1;simp[execOp,ho,resolve,invoke,builtin,h1,Builtin.len_,run_underlying hu,goInt]
 ·cases h
def Ue (s:ByteArray) (i:Nat):Int:=((s.data.toList[i]?).getD 0).toNat
def AQ (P:Program) (σ:SS R) (t:TypeId) (y z:Operand):Option (Out R) :=
 match ev σ.tm y,ev σ.tm z,P.underlying t with
 |some (.string s),aa (.int _ j),aa .string=>aa (gp σ (0≤j/\j<s.size) (.int .u8 (Ue s j.toNat)) aj [])
 |_,_,_=>aj
theorem SM {σ:SS R} {o:Oper} {t:TypeId} {y z:Operand} {x:Out R} (ho:o.op=.index t y z) (h:AQ P σ t y z=aa x):mb D P o σ x:=by
 unfold AQ at h;split at h
 ·rename_i s k j ha hb hu;injection h with h
  subst h;refine g9 (fun C ρ ft a w ht iv hm hv=>?_) (fun iv c hc=>by cases hc)
  obtain⟨v0,v1⟩:=hv;have h1:=(ek ht ha).1;have h2:=(ek ht hb).1;simp only[Du] at h1;simp only[xQ] at h2;have cj:j.toNat<s.size:=by omega
  have Z':j.toNat<s.data.toList.length:=by simpa using cj
  have J':s[j.toNat]?=aa (s[j.toNat]):=by simp[cj]
  have hb:(s[j.toNat].toNat:Int)=Ue s j.toNat:=by
   unfold Ue;rw[bd Z'];simp
   rfl
  simp only[execOp,ho,h1,h2,Instr.index,asIntOf,dy,dS,cz,run_underlying hu,v0,if_true,J',xQ,← hb]
 ·cases h
def evB (tm:List (Option Value)):Option Operand->Option (Option Int)
 |none=>aa aj
 |some y=>match ev tm y with
  |some (.int _ j)=>aa (aa j)
  |_=>aj
theorem xc {n:Nat} {tm:List (Option Value)} {a:Act} {y:Option Operand} {b:Option Int} (ht:TM ρ n tm a) (h:evB tm y=aa b) :
  (∃ (k:IntKind),∃ j,b=aa j/\y.map a.eval=aa (.int k j))∨(b=aj/\y.map a.eval=aj):=by
 cases y with
 |none=>simp only[evB] at h;injection h with h;subst h;exact eV ⟨rfl,rfl⟩
 |some y =>
  simp only[evB] at h;split at h
  ·rename_i k j hj;injection h with h
   subst h;have:=(ek ht hj).1;simp only[xQ] at this;exact dK ⟨k,j,rfl,by simp[this]⟩
  ·cases h
theorem Gf {isS:Bool} {len cap:Nat} {lo hi:Option Value} {l h:Int} (w:World)
  (hl:(∃ k,lo=aa (.int k l))∨(lo=aj/\l=0)) (hh:(∃ k,hi=aa (.int k h))∨(hi=aj/\h=len)) (h0:0≤l) (h1:l≤h) (h2:h≤cap) :
  (ud isS len cap lo hi aj).run P w=.ok (l.toNat,h.toNat,cap) w:=by
 have hh0:0≤h:=by omega
 obtain⟨lN,rfl⟩:=tn h0;obtain⟨hN,rfl⟩:=tn hh0;have hA:hN≤cap:=by omega
 have hB:lN≤hN:=by omega
 rcases hl with⟨k,rfl⟩|⟨rfl,n9⟩<;>rcases hh with⟨k',rfl⟩|⟨rfl,hhl⟩
 ·simp[ud,Fm,asIntOf,hA,hB]
 ·obtain rfl:hN=len:=by omega
  simp[ud,Fm,asIntOf,hA,hB]
 ·obtain rfl:lN=0:=by omega
  simp[ud,Fm,asIntOf,hA,hB]
 ·obtain rfl:hN=len:=by omega
  obtain rfl:lN=0:=by omega
  simp[ud]
def Hg (P:Program) (σ:SS R) (t:TypeId) (y:Operand) (lo hi mx:Option Operand):Option (Out R) :=
 match mx with
 |some _=>aj
 |none =>
  match ev σ.tm y,evB σ.tm lo,evB σ.tm hi with
  |some (.string s),aa l,aa h =>
   match P.underlying t with
   |some .string=>aa (gp σ (0≤l.getD 0/\l.getD 0≤h.getD s.size/\h.getD s.size≤s.size) (.string (s.extract (l.getD 0).toNat (h.getD s.size).toNat)) aj [])
   |_=>aj
  |some (.slice (aa ⟨i,e0,aa q⟩) n c),aa l,aa h =>
   match elemOf P t,rowOf σ.hp[i]? with
   |some (el,tm,_),aa r =>
    if fb (q%1000000) (1000*tm.length)&&fb tm.length r.tm.length then
     match l with
     |none=>aa (gp σ (0≤h.getD n/\h.getD n≤n/\e0+n≤r.n) (.slice (aa ⟨i,e0,aa q⟩) (h.getD n).toNat c) aj [])
     |some l=>match gR q 1000000 with
      |true=>aa (gp σ (e0=0/\0≤l/\l≤h.getD n/\h.getD n≤n/\e0+n≤r.n) (.slice (aa ⟨i,e0+l.toNat,aa (1000*tm.length+1000000*(i+1))⟩) (h.getD n-l).toNat c) aj [])
      |false=>aa ⟨0≤l/\l≤h.getD n/\h.getD n≤n/\e0+n≤r.n,.slice (aa ⟨i,e0+l.toNat,aa (1000*tm.length+1000000*(σ.hp.length+1))⟩) (h.getD n-l).toNat c,aj,σ.hp++[aj],[],[(σ.hp.length,0)]⟩
    else aj
   |_,_=>aj
  |_,_,_=>aj
theorem PY {hi:Option Operand} {h:Option Int} {a:Act} {n:Nat} (hx:(∃ (k:IntKind),∃ j,h=aa j/\hi.map a.eval=aa (.int k j))∨(h=aj/\hi.map a.eval=aj)) :
  (∃ k,hi.map a.eval=aa (.int k (h.getD n)))∨(hi.map a.eval=aj/\h.getD n=n):=by
 rcases hx with⟨k,j,rfl,e⟩|⟨rfl,e⟩
 ·exact dK ⟨k,by simpa using e⟩
 ·exact eV ⟨e,rfl⟩
theorem aix {lo:Option Operand} {l:Option Int} {a:Act} (hx:(∃ (k:IntKind),∃ j,l=aa j/\lo.map a.eval=aa (.int k j))∨(l=aj/\lo.map a.eval=aj)) :
  (∃ k,lo.map a.eval=aa (.int k (l.getD 0)))∨(lo.map a.eval=aj/\l.getD 0=0):=by
 rcases hx with⟨k,j,rfl,e⟩|⟨rfl,e⟩
 ·exact dK ⟨k,by simpa using e⟩
 ·exact eV ⟨e,rfl⟩
theorem u7 {t el:TypeId} {A:Option Addr} {n cap:Nat} {lo hi:Option Value} {l h:Int} {inf:TypeInfo} (w:World) (hu:P.underlying t=aa (.slice el)) (yg:P.info? el=aa inf)
  (hl:(∃ k,lo=aa (.int k l))∨(lo=aj/\l=0)) (hh:(∃ k,hi=aa (.int k h))∨(hi=aj/\h=n)) (h0:0≤l) (h1:l≤h) (h2:h≤cap) :
  (Jn t (.slice A n cap) lo hi aj).run P w=.ok (.slice (if cap=l.toNat then A else A.map (·.add (l.toNat*inf.size))) (h.toNat-l.toNat) (cap-l.toNat)) w:=by
 have hb:=Gf (P:=P) (isS:=ao) (len:=n) (cap:=cap) w hl hh h0 h1 h2;simp[Jn,run_underlying hu,W_,hb,sizeOf,typeInfo,yg]
theorem YN {σ:SS R} {o:Oper} {t:TypeId} {y:Operand} {lo hi mx:Option Operand} {x:Out R} (ho:o.op=.slice t y lo hi mx) (h:Hg P σ t y lo hi mx=aa x):mb D P o σ x:=by
 unfold Hg at h;split at h
 ·cases h
 ·split at h
  ·rename_i s l hh ha hl Kf;split at h
   ·rename_i hu;injection h with h
    subst h;refine g9 (fun C ρ ft a w ht iv hm hv=>?_) (fun iv c hc=>by cases hc)
    obtain⟨v0,v1,v2⟩:=hv;have h1:=(ek ht ha).1;simp only[Du] at h1;have hb:=Gf (P:=P) (isS:=an) (len:=s.size) (cap:=s.size) w (aix (xc ht hl)) (PY (n:=s.size) (xc ht Kf)) v0 v1 v2;simp[execOp,ho,h1,Jn,run_underlying hu,W_,hb]
   ·cases h
  ·rename_i i e0 q n c l hh ha hl Kf;split at h
   ·rename_i el tm Di r he hr;obtain⟨inf,z,hu,yg,hz,Bk,n7,_,wz,h0,Sk⟩:=zU he;split at h
    ·rename_i hc;simp only[aL] at hc;have hq:=cP hc.1;have ss:q%1000000 / 1000=tm.length:=by omega
     have FW:q%1000=0:=by omega
     split at h
     ·injection h with h
      subst h;refine g9 (fun C ρ ft a w ht iv hm hv=>?_) (fun iv c hc=>by cases hc)
      obtain⟨v0,v1,v2⟩:=hv;have h1:=(ek ht ha).1;obtain⟨g1,g2,_⟩:=C2 hm hr;have Ag:(∃ k,lo.map a.eval=aa (.int k 0))∨(lo.map a.eval=aj/\(0:Int)=0):=by
       rcases xc ht hl with⟨k,j,e,_⟩|⟨_,e⟩
       ·cases e
       ·exact eV ⟨e,rfl⟩
      have A3:=PY (n:=n) (xc ht Kf);have anu:∀ A:Option Addr,(A.map fun x=>x.add 0)=A:=fun A=>by cases A<;>simp[Addr.add]
      have H7:=(fun(hz:(ρ i).nil=ao)=>(show(ρ i).cap=0 from by
       unfold rowOf at hr;split at hr
       ·rename_i t0 r0 hi;exact(hm.at_ i _ hi).1.2.2.2.2.1 hz
       ·rename_i r0 hi;exact(hm.at_ i _ hi).1.2.2.2.2.1 hz
       ·cases hr))
      simp only[bT,lF] at h1 ⊢
      by_cases hn:(ρ i).nil=ao
      ·rw[if_pos hn] at h1 ⊢;have NP:=H7 hn;have uu:n=0:=by omega
       subst uu;have mW:=u7 (P:=P) (A:=aj) (n:=0) (cap:=0) w hu yg Ag A3 (ny 0) v0 (by simpa using v1)
       simp[execOp,ho,h1,mW]
      ·rw[if_neg hn] at h1 ⊢
       by_cases hex:q / 1000000≠0/\(ρ i).cap≤e0
       ·rw[if_pos hex] at h1 ⊢;have uu:n=0:=by omega
        subst uu;have mW:=u7 (P:=P) (A:=aa ⟨(ρ (q / 1000000-1)).lD,(ρ (q / 1000000-1)).off,aj⟩) (n:=0) (cap:=0) w hu yg Ag A3 (ny 0) v0 (by simpa using v1)
        simp[execOp,ho,h1,mW]
       ·rw[if_neg hex] at h1 ⊢;have mW:=u7 (P:=P) (A:=aa (iD ρ ⟨i,e0,aa q⟩)) (n:=n) (cap:=(ρ i).cap-e0) w hu yg Ag A3 (ny 0) v0 (by omega)
        simp[execOp,ho,h1,mW,anu]
     ·rename_i l;split at h
      ·rename_i Mj;have jU:q<1000000:=by simpa [fe] using Mj
       injection h with h
       subst h;refine g9 (fun C ρ ft a w ht iv hm hv=>?_) (fun iv c hc=>by cases hc)
       obtain⟨yr,v0,v1,v2,v3⟩:=hv;subst yr;have h1:=(ek ht ha).1;obtain⟨g1,g2,_⟩:=C2 hm hr;have Ag:(∃ k,lo.map a.eval=aa (.int k l))∨(lo.map a.eval=aj/\l=0):=by
        rcases xc ht hl with⟨k,j,e,e2⟩|⟨e,_⟩
        ·injection e with e;subst e;exact dK ⟨k,e2⟩
        ·cases e
       have A3:=PY (n:=n) (xc ht Kf);have H7:=(fun(hz:(ρ i).nil=ao)=>(show(ρ i).cap=0 from by
        unfold rowOf at hr;split at hr
        ·rename_i t0 r0 hi;exact(hm.at_ i _ hi).1.2.2.2.2.1 hz
        ·rename_i r0 hi;exact(hm.at_ i _ hi).1.2.2.2.2.1 hz
        ·cases hr))
       have e1:(1000*tm.length+1000000*(i+1)) / 1000000=i+1:=by omega
       have e2:(1000*tm.length+1000000*(i+1))%1000000 / 1000=tm.length:=by omega
       have e3:(1000*tm.length+1000000*(i+1))%1000=0:=by omega
       have hex:¬ (q / 1000000≠0/\(ρ i).cap≤0):=fun h=>h.1 (by omega)
       simp only[bT,lF] at h1 ⊢
       by_cases hn:(ρ i).nil=ao
       ·rw[if_pos hn] at h1 ⊢;have NP:=H7 hn;have uu:n=0:=by omega
        subst uu;have n9:l=0:=by omega
        subst n9;have mW:=u7 (P:=P) (A:=aj) (n:=0) (cap:=0) w hu yg Ag A3 v0 v1 (by simpa using v2)
        simp[execOp,ho,h1,mW]
       ·rw[if_neg hn,if_neg hex,Nat.sub_zero] at h1;rw[if_neg hn];have mW:=u7 (P:=P) (A:=aa (iD ρ ⟨i,0,aa q⟩)) (n:=n) (cap:=(ρ i).cap) w hu yg Ag A3 v0 v1 (by omega)
        have hx:(execOp a.eval o).run P w=.ok (.value (.slice (if(ρ i).cap=l.toNat then aa (iD ρ ⟨i,0,aa q⟩) else(aa (iD ρ ⟨i,0,aa q⟩)).map (·.add (l.toNat*inf.size))) ((hh.getD ↑n).toNat-l.toNat) ((ρ i).cap-l.toNat))) w:=by
         simp only[execOp,ho,h1,P_,mW,dy,cz,dS]
        rw[hx];have nj:(hh.getD ↑n-l).toNat=(hh.getD ↑n).toNat-l.toNat:=by omega
        have U8:inf.size=tm.length:=by rw[n7]
        rw[nj]
        by_cases pS:(ρ i).cap=l.toNat
        ·rw[if_pos pS,if_pos ⟨by omega,by omega⟩,e1,mg]
         simp only[iD,cellOf,FW,Ba,bV,gT,pS,Wj]
        ·rw[if_neg pS,if_neg (fun h=>pS (by omega))]
         simp only[iD,cellOf,FW,e2,e3,Ba,bV,gT,kc,pN,U8]
      ·injection h with h
       subst h;refine⟨fun C ρ ft a w K Q ht iv hm hv hK=>?_,by simp,fun _ b hb=>by cases hb⟩
       obtain⟨v0,v1,v2,v3⟩:=hv;have h1:=(ek ht ha).1;obtain⟨Ov,LX⟩:=ek ht ha;simp only[fp,aL,fe] at LX;have CD:i<σ.hp.length:=LX.1;obtain⟨g1,g2,_⟩:=C2 hm hr;have Ag:(∃ k,lo.map a.eval=aa (.int k l))∨(lo.map a.eval=aj/\l=0):=by
        rcases xc ht hl with⟨k,j,e,e2⟩|⟨e,_⟩
        ·injection e with e;subst e;exact dK ⟨k,e2⟩
        ·cases e
       have A3:=PY (n:=n) (xc ht Kf);have H7:=(fun(hz:(ρ i).nil=ao)=>(show(ρ i).cap=0 from by
        unfold rowOf at hr;split at hr
        ·rename_i t0 r0 hi;exact(hm.at_ i _ hi).1.2.2.2.2.1 hz
        ·rename_i r0 hi;exact(hm.at_ i _ hi).1.2.2.2.2.1 hz
        ·cases hr))
       generalize hN:σ.hp.length=N at *
       have e1:(1000*tm.length+1000000*(N+1)) / 1000000=N+1:=by omega
       have e2:(1000*tm.length+1000000*(N+1))%1000000 / 1000=tm.length:=by omega
       have e3:(1000*tm.length+1000000*(N+1))%1000=0:=by omega
       have adh:∀ (A:Addr) (v:Value),(execOp a.eval o).run P w=.ok (.value v) w ->
         bT (qn ρ N ⟨A.block,A.off,0,an⟩) (.slice (aa ⟨i,e0+l.toNat,aa (1000*tm.length+1000000*(N+1))⟩) (hh.getD ↑n-l).toNat c)=v->o.wp P a w K Q:=by
        intro A v nP hv;have hp:=hm.pushNone ⟨A.block,A.off,0,an⟩;rw[hN] at hp;have:=hK _ _ _ (fun i hi=>oA ρ N ⟨A.block,A.off,0,an⟩ hi) hp
        rw[hv] at this;exact rC nP this
       have Zb:∀ p:Place,qn ρ N p i=ρ i:=fun p=>oA _ _ _ CD
       simp only[bT,lF] at h1
       by_cases hn:(ρ i).nil=ao
       ·rw[if_pos hn] at h1;have NP:=H7 hn;have uu:n=0:=by omega
        subst uu;have n9:l=0:=by omega
        subst n9;have mW:=u7 (P:=P) (A:=aj) (n:=0) (cap:=0) w hu yg Ag A3 v0 v1 (by simpa using v2)
        refine adh ⟨0,0,aj⟩ (.slice aj (hh.getD 0).toNat 0) (by simp[execOp,ho,h1,mW]) ?_
        simp only[bT,lF,Zb,hn,if_true];simp
       ·rw[if_neg hn] at h1
        by_cases hex:q / 1000000≠0/\(ρ i).cap≤e0
        ·rw[if_pos hex] at h1;have uu:n=0:=by omega
         subst uu;have n9:l=0:=by omega
         subst n9;have mW:=u7 (P:=P) (A:=aa ⟨(ρ (q / 1000000-1)).lD,(ρ (q / 1000000-1)).off,aj⟩) (n:=0) (cap:=0) w hu yg Ag A3 v0 v1 (by simpa using v2)
         refine adh ⟨(ρ (q / 1000000-1)).lD,(ρ (q / 1000000-1)).off,aj⟩ (.slice (aa ⟨(ρ (q / 1000000-1)).lD,(ρ (q / 1000000-1)).off,aj⟩) (hh.getD 0).toNat 0) (by simp[execOp,ho,h1,mW]) ?_
         simp only[bT,lF,Zb,hn,if_false,e1,mg,jc];have pS:N+1≠0/\(ρ i).cap≤e0+(0:Int).toNat:=⟨by omega,by simpa using hex.2⟩
         simp[hn,pS.2];exact fun h=>absurd h (by simpa using hex.2)
        ·rw[if_neg hex] at h1;have mW:=u7 (P:=P) (A:=aa (iD ρ ⟨i,e0,aa q⟩)) (n:=n) (cap:=(ρ i).cap-e0) w hu yg Ag A3 v0 v1 (by omega)
         refine adh (iD ρ ⟨i,e0,aa q⟩) _ (by simp only[execOp,ho,h1,P_,mW,dy,dS,cz];rfl) ?_
         simp only[bT,lF];rw[Zb,if_neg hn,e1];have XI:(hh.getD (n:Int)-l).toNat=(hh.getD (n:Int)).toNat-l.toNat:=by omega
         by_cases pS:(ρ i).cap-e0=l.toNat
         ·rw[if_pos pS,if_pos ⟨by omega,by omega⟩,XI,pS,Wj]
          simp[jc,iD]
         ·rw[if_neg pS,if_neg (by omega),XI]
          simp only[iD,Zb,cellOf,e2,e3,ss,FW,kc,pN,n7];simp[ig,jd,Nat.sub_add_eq]
    ·cases h
   ·cases h
  ·cases h
end
end Rx
namespace Rx
open Go.RowKit State
def cut {α:Type} (l:List α) (e n:Nat):List α:=(l.drop e).take n
theorem AX {α:Type} {l:List α} {e n:Nat} (h:e+n≤l.length):(cut l e n).length=n:=by simp[cut];omega
theorem Xw {α:Type} {l:List α} {e n i:Nat} (h:i<n):(cut l e n)[i]?=l[e+i]?:=by simp[cut,oN,h]
@[simp] theorem agO {α:Type} (l:List α):cut l 0 l.length=l:=by simp[cut]
def ED (t:Value) (c0:aX) (e0 n:Nat) (c1:aX) (e1 m:Nat):aX :=
 match t with
 |.int _ _=>⟨cut c0.i e0 n++cut c1.i e1 m,[],[]⟩
 |.bool _=>⟨[],cut c0.b e0 n++cut c1.b e1 m,[]⟩
 |_=>⟨[],[],cut c0.s e0 n++cut c1.s e1 m⟩
def xC:Value->Value->Bool
 |.int k _,.int k' _=>decide (k=k')
 |.bool _,.bool _=>ao
 |.string _,.string _=>ao
 |_,_=>an
def xT:List Value->List Value->Bool
 |[],[]=>ao
 |a::l,b::r=>xC a b&&xT l r
 |_,_=>an
theorem Ao:∀ {l r:List Value},xT l r=ao->l.length=r.length
 |[],[],_=>rfl
 |[],_::_,h=>by simp[xT] at h
 |_::_,[],h=>by simp[xT] at h
 |a::l,b::r,h=>by
  simp only[xT,aL] at h;simp[Ao h.2]
theorem F9:∀ {l r:List Value} {f:Nat} {a b:Value},xT l r=ao->l[f]?=aa a->r[f]?=aa b->xC a b=ao
 |[],r,f,a,b,_,h1,_=>by simp at h1
 |_::_,[],f,a,b,h,_,h2=>by simp at h2
 |a0::l,b0::r,f,a,b,h,h1,h2=>by
  simp only[xT,aL] at h;cases f with
  |zero=>simp only[cd,ct] at h1 h2;subst h1;subst h2;exact h.1
  |succ f=>simp only[bH] at h1 h2;exact F9 h.2 h1 h2
theorem Sc {a b:Value} (h:xC a b=ao) (c:aX) (e:Nat):gD a c e=gD b c e:=by
 cases a<;>cases b<;>simp[xC,gD] at h ⊢
 exact h
theorem QO {a b:Value} (h:xC a b=ao) (c:aX) (n:Nat):jK a c n↔jK b c n:=by
 cases a<;>cases b<;>simp[xC,jK] at h ⊢
theorem ab5 {a:Value} {c0 c1:aX} {e0 n e1 m N0 N1:Nat} (hk:xC a a=ao) (h0:jK a c0 N0) (h1:jK a c1 N1) (hn:e0+n≤N0) (hm:e1+m≤N1) :
  jK a (ED a c0 e0 n c1 e1 m) (n+m)/\∀ e,e<n+m->gD a (ED a c0 e0 n c1 e1 m) e=if e<n then gD a c0 (e0+e) else gD a c1 (e1+(e-n)):=by
 cases a<;>simp only[xC] at hk<;>try (cases hk)
 all_goals
  simp only[jK] at h0 h1;refine⟨by simp only[jK,ED,bA];rw[AX (by omega),AX (by omega)],fun e he=>?_⟩
  simp only[gD,ED,av]
  by_cases cj:e<n
  ·rw[if_pos cj,c_ (by rw[AX (by omega)];exact cj),Xw cj]
  ·rw[if_neg cj,dQ (by rw[AX (by omega)];omega),AX (by omega),Xw (by omega)]
def mJ (e0 n e1 m:Nat):List Value->List aX->List aX->List aX
 |t::tm,c0::l0,c1::l1=>ED t c0 e0 n c1 e1 m::mJ e0 n e1 m tm l0 l1
 |_,_,_=>[]
theorem L4 {e0 n e1 m:Nat}:∀ {tm:List Value} {l0 l1:List aX},tm.length=l0.length->l0.length=l1.length->(mJ e0 n e1 m tm l0 l1).length=l0.length /\
  ∀ (f:Nat) (c:aX),(mJ e0 n e1 m tm l0 l1)[f]?=aa c->∃ t c0 c1,tm[f]?=aa t/\l0[f]?=aa c0/\l1[f]?=aa c1/\c=ED t c0 e0 n c1 e1 m
 |[],[],[],_,_=>⟨rfl,fun f c h=>by simp[mJ] at h⟩
 |[],_::_,_,h,_=>by simp at h
 |_::_,[],_,h,_=>by simp at h
 |_,[],_::_,_,h=>by simp at h
 |_,_::_,[],_,h=>by simp at h
 |t::tm,c0::l0,c1::l1,h0,h=>by
  obtain⟨h1,h2⟩:=L4 (e0:=e0) (n:=n) (e1:=e1) (m:=m) (tm:=tm) (l0:=l0) (l1:=l1) (by simpa using h0) (by simpa using h)
  refine⟨by simp[mJ,h1],fun f c hc=>?_⟩
  cases f with
  |zero =>
   simp only[mJ,cd,ct] at hc;exact⟨t,c0,c1,rfl,rfl,rfl,hc.symm⟩
  |succ f =>
   simp only[mJ,bH] at hc ⊢;exact h2 f c hc
theorem Gn:∀ (l:List Value) (cur:Array Value) (k j:Nat),k+l.length≤cur.size->(nE cur k l)[j]?=if k≤j/\j<k+l.length then l[j-k]? else cur[j]?
 |[],cur,k,j,h=>by
  simp only[nE,jN];rw[if_neg (by omega)]
 |v::l,cur,k,j,h=>by
  simp only[nE];rw[Gn l _ (k+1) j (by simp at h ⊢;omega),uN]
  simp only[cy] at h ⊢
  by_cases h1:k+1≤j/\j<k+1+l.length
  ·rw[if_pos h1,if_pos (by omega)]
   rw[show j-k=(j-(k+1))+1 by omega,bH]
  ·rw[if_neg h1]
   by_cases h2:k=j
   ·subst h2;rw[if_pos rfl,if_pos (by omega),if_pos (by omega)]
    simp
   ·rw[if_neg h2,if_neg (by omega)]
section
variable {R:Type} {D:fH R} {P:Program} {C:Ctx} {ρ:Env} {ft:Nat->Nat->Prop} {w w':World}
def VH (σ:SS R) (tm:List Value) (y:Operand):Option (Row×Nat×Nat) :=
 match ev σ.tm y with
 |some (.slice aj 0 0)=>match tR tm 0 with
  |some eu=>aa (⟨tm,0,eu⟩,0,0)
  |none=>aj
 |some (.slice (aa ⟨j,e1,aa q⟩) m _) =>
  match rowOf σ.hp[j]? with
  |some r=>if fb (q%1000000) (1000*tm.length)&&xT r.tm tm then aa (r,e1,m) else aj
  |none=>aj
 |_=>aj
theorem aaR {h:Hp R} {i:Nat} {r:Row} (hm:HM D C ρ ft h w) (hr:rowOf h[i]?=aa r):(ρ i).nil=ao->(ρ i).cap=0:=by
 intro hz;unfold rowOf at hr;split at hr
 ·rename_i t0 r0 hi;exact(hm.at_ i _ hi).1.2.2.2.2.1 hz
 ·rename_i r0 hi;exact(hm.at_ i _ hi).1.2.2.2.2.1 hz
 ·cases hr
theorem Si {σ:SS R} {tm:List Value} {y:Operand} {r:Row} {e1 m:Nat} {a:Act} (h:VH σ tm y=aa (r,e1,m)) (ht:TM ρ σ.hp.length σ.tm a) (hm:HM D C ρ ft σ.hp w) (hv:e1+m≤r.n) (h0:0<tm.length) (Sk:tm.length<1000) :
  r.eu.length=tm.length/\(∀ (f:Nat) (t:Value) (c:aX),tm[f]?=aa t->r.eu[f]?=aa c->jK t c r.n) /\
  ∃ A c',a.eval y=.slice A m c'/\∃ news:List Value,news.length=m*tm.length/\(∀ w2:World,w2.heap=w.heap->(kx tm.length m (a.eval y)).run P w2=.ok news.toArray w2)/\(∀ v∈news,v.oneCell'=ao) /\
   ∀ (f:Nat) (t:Value) (c:aX) (e:Nat),tm[f]?=aa t->r.eu[f]?=aa c->e<m->news[e*tm.length+f]?=aa (gD t c (e1+e)):=by
 unfold VH at h;split at h
 ·rename_i ha;split at h
  ·rename_i eu DF;injection h with h
   injection h with h2 h3
   injection h3 with h3 h4
   subst h2;subst h3;subst h4;obtain⟨c1,c2⟩:=yi DF;have u_:=(ek ht ha).1;simp only[bT] at u_;refine⟨c1,fun f t c g1 g2=>(c2 f t c g1 g2).1,aj,0,u_,[],by simp,(fun w2 _=>by rw[u_];simp[kx]),(fun v hv=>by cases hv),fun f t c e _ _ he=>by omega⟩
  ·cases h
 ·rename_i j Ja q m' c ha;split at h
  ·rename_i r' hr;split at h
   ·rename_i hc;simp only[aL] at hc;have hq:=cP hc.1;injection h with h
    injection h with h2 h3
    injection h3 with h3 h4
    subst h2;subst h3;subst h4;have hlen:=Ao hc.2;obtain⟨g1,g2,g3,g4,g5,g6⟩:=C2 hm hr;have H7:=aaR hm hr;have u_:=(ek ht ha).1;simp only[bT] at u_;have um:∀ (f:Nat) (t:Value) (c:aX),tm[f]?=aa t->r'.eu[f]?=aa c->jK t c r'.n:=fun f t c k1 k2=>by
     have wz:f<r'.tm.length:=by rw[hlen];exact(aU.1 k1).1
     have k3:=bd wz;exact(QO (F9 hc.2 k3 k1) c _).1 (g5 f _ c k3 k2)
    refine⟨by rw[g4,hlen],um,?_⟩
    have ZN:∀ (A:Option Addr) (c':Nat),a.eval y=.slice A m' c'->(m'=0∨A=aa ⟨(ρ j).lD,(ρ j).off+Ja*tm.length,aj⟩)->∃ A c',a.eval y=.slice A m' c'/\∃ news:List Value,news.length=m'*tm.length/\(∀ w2:World,w2.heap=w.heap->(kx tm.length m' (a.eval y)).run P w2=.ok news.toArray w2)/\(∀ v∈news,v.oneCell'=ao) /\
      ∀ (f:Nat) (t:Value) (c:aX) (e:Nat),tm[f]?=aa t->r'.eu[f]?=aa c->e<m'->news[e*tm.length+f]?=aa (gD t c (Ja+e)):=by
     intro A c' hA alF;refine⟨A,c',hA,?_⟩;rcases alF with X1|hA2
     ·subst X1;refine⟨[],by simp,fun w2 _=>?_,(fun v hv=>by cases hv),fun f t c e _ _ he=>by omega⟩
      rw[hA];cases A<;>simp[kx,loadCells,loadCellsFrom]
     ·subst hA2;refine⟨(List.range (m'*tm.length)).map fun k=>match r'.tm[k%tm.length]?,r'.eu[k%tm.length]? with|some t,aa c=>gD t c (Ja+k / tm.length)|_,_=>undef,by simp,?_,?_,?_⟩
      ·intro w2 TK;rw[hA];refine run_firstCells_some w2 tm.length m' _ m' c' _ (by simp) (fun k v hk=>?_)
       have Vn:k<m'*tm.length:=by have:=(aU.1 hk).1;simpa using this
       simp only[fh,sP Vn,kc,ct] at hk;have Q5:k%tm.length<r'.tm.length:=by rw[hlen];exact P9 _ h0
       have S7:k%tm.length<r'.eu.length:=by rw[g4];exact Q5
       have q1:=bd Q5;have q2:=bd S7;rw[q1,q2] at hk;have hdiv:k / tm.length<m':=Nat.div_lt_of_lt_mul (by rw[Wk];exact Vn)
       have:=g6 _ _ _ (Ja+k / tm.length) q1 q2 (by omega)
       rw[A9 (w:=w) (by rw[TK]),pN,← hk,← this]
       have hdm:k / tm.length*tm.length+k%tm.length=k:=by rw[Wk];exact Nat.div_add_mod k tm.length
       congr 2
       rw[hlen,ig,jd,jd,hdm]
      ·intro v hv;obtain⟨k,hk,rfl⟩:=pb.1 hv;have Q5:k%tm.length<r'.tm.length:=by rw[hlen];exact P9 _ h0
       have S7:k%tm.length<r'.eu.length:=by rw[g4];exact Q5
       rw[bd Q5,bd S7];exact WN (g5 _ _ _ (bd Q5) (bd S7)) _
      ·intro f t c e k1 k2 he;have wz:f<tm.length:=(aU.1 k1).1;have cj:e*tm.length+f<m'*tm.length:=by
        have:=jr tm.length (show e+1≤m' from he)
        rw[ig,qA] at this;omega
       have d1:(e*tm.length+f)%tm.length=f:=by rw[sK,v9,Fl wz]
       have d2:(e*tm.length+f) / tm.length=e:=by rw[sK,z7 _ _ h0,Fk wz,bV]
       have k3:=bd (show f<r'.tm.length by rw[hlen];exact wz)
       simp only[fh,sP cj,kc,d1,d2,k3,k2];rw[Sc (F9 hc.2 k3 k1)]
    have e1:q%1000000 / 1000=tm.length:=by omega
    have e2:q%1000=0:=by omega
    unfold lF at u_;simp only at u_
    by_cases hn:(ρ j).nil=ao
    ·rw[if_pos hn] at u_;exact ZN _ _ u_ (dK (by have:=H7 hn;omega))
    ·rw[if_neg hn] at u_
     by_cases hex:q / 1000000≠0/\(ρ j).cap≤Ja
     ·rw[if_pos hex] at u_;exact ZN _ _ u_ (dK (by omega))
     ·rw[if_neg hex] at u_;refine ZN _ _ u_ (eV ?_);simp only[iD,cellOf,e1,e2,gT]
   ·cases h
  ·cases h
 ·cases h
section
variable (w:World)
theorem W2 {t t2 ty e:TypeId} {i:TypeInfo} {el2:TypeId} (ht:P.underlying t=aa (.slice e)) (ht2:P.underlying t2=aa (.slice el2)) (hi:P.info? e=aa i) {g o sLen sCap m c:Nat} {A:Option Addr} {cur:Array Value} {news:List Value}
  (hg:w.heap[g]?=aa (.cells cur e (0,0))) (hf:(kx i.size m (.slice A m c)).run P w=.ok news.toArray w) (h1:∀ u∈news,u.oneCell'=ao) (TE:sLen+m≤sCap) (EP:o+sLen*i.size+news.length≤cur.size) :
  (tI #[t,t2] ty #[.slice (aa ⟨g,o,aj⟩) sLen sCap,.slice A m c]).run P w=.ok (.slice (aa ⟨g,o,aj⟩) (sLen+m) sCap) (w.setRow g (nE cur (o+sLen*i.size) news)):=by
 have yD:=yH (P:=P) g (o+sLen*i.size) e news 0 cur w hg (by simpa using EP) h1
 simp only[gT] at yD;simp[tI,run_underlying ht,run_underlying ht2,sizeOf,typeInfo,hi,De,TE,hf,pN,yD]
theorem LY {t t2 ty e:TypeId} {i:TypeInfo} {z:Value} {el2:TypeId} (ht:P.underlying t=aa (.slice e)) (ht2:P.underlying t2=aa (.slice el2)) (hi:P.info? e=aa i) (hz:i.zero=aa z) {sLen sCap m c:Nat} {A B:Option Addr} {olds news:List Value}
  (hf0:(kx i.size sLen (.slice B sLen sCap)).run P w.drew=.ok olds.toArray w.drew) (hf:(kx i.size m (.slice A m c)).run P w.drew=.ok news.toArray w.drew)
  (hg:sCap<sLen+m) (h63:sLen+m≤140737488355328) (EP:(sLen+m)*i.bytes≤140737488355328) :
  (tI #[t,t2] ty #[.slice B sLen sCap,.slice A m c]).run P w =
   .ok (.slice (aa ⟨w.heap.size,0,aj⟩) (sLen+m) (grownCap w (sLen+m) sCap e)) (w.drew.alloc (.cells (olds++news++(pq z.cells (grownCap w (sLen+m) sCap e-(sLen+m))).toList).toArray e)):=by
 have hn:¬ (sLen+m≤sCap):=by omega
 have anj:¬ (9223372036854775807<((sLen:Int)+(m:Int))):=by omega
 have h48:=growslice_fits (need:=sLen+m) (old:=sCap) (bytes:=i.bytes) hg EP;have anB:¬ (281474976710656<Builtin.nextslicecap (sLen+m) sCap*i.bytes):=by omega
 simp[tI,run_underlying ht,run_underlying ht2,sizeOf,typeInfo,zeroValue,hi,hz,De,hn,anj,anB,Question.forced,hf,hf0,newRow,grownCap]
 congr 2
 apply qz;simp[rN]
end
theorem HM.XC {h:Hp R} (hm:HM D C ρ ft h w) (i:Nat) (t:TypeId) (r:Row) (p:Place) (hk:Kept (ft i) w w') (hp:p.nil=an) (ajL:(ft i p.lD∨w.heap.size≤p.lD)/\p.lD<w'.heap.size) (h0:0<r.tm.length) (hn:r.n≤p.cap) (hc:p.cap≤maxLen)
  (arr:Array Value) (Gx:w'.heap[p.lD]?=aa (.cells arr t (0,0))) (hs:arr.size=p.off+p.cap*r.tm.length) (hr:oc r arr p.off) :
  HM D C (qn ρ h.length p) (qn (qn ft i (fun _=>False)) h.length (fun k=>k=p.lD)) (h.set i aj++[aa (.inr (.inl (t,r)))]) w':=by
 have key:∀ l k,h.length≤l->qn (qn ft i (fun _=>False)) h.length (fun k=>k=p.lD) l k->l=h.length/\k=p.lD:=fun l k hl uh=>by
  by_cases he:l=h.length
  ·subst he;rw[jc] at uh;exact⟨rfl,uh⟩
  ·rw[vM _ _ _ he] at uh
   by_cases iv:l=i
   ·subst iv;rw[jc] at uh;exact uh.elim
   ·rw[vM _ _ _ iv] at uh;obtain⟨B',jD⟩:=hm.some_ l k uh;have:=(aU.1 jD).1;omega
 have ajm:∀ k,i<h.length->¬ qn (qn ft i (fun _=>False)) h.length (fun k=>k=p.lD) i k:=fun k hi hk=>by
  rw[vM _ _ _ (by omega),jc] at hk;exact hk
 refine hm.step (fun j=>j=i) (hk.mono fun k hk=>⟨i,rfl,hk⟩) (fun j hj=>oA _ _ _ hj) (by simp) ?_ ?_ ?_ ?_
 ·intro j B' hj jD;rcases cr j h.length with hl|j7
  ·have:=hj hl;subst this;rw[c_ (by simpa using hl),jX hl] at jD
   injection jD with jD;cases jD
  ·have:j=h.length:=by
    rcases cr h.length j with cj|hle
    ·rw[dc (by simp;omega)] at jD;cases jD
    ·omega
   subst this;rw[dQ (by simp)] at jD
   simp at jD;subst jD;refine⟨?_,trivial⟩;simp only[hold,jc];exact⟨fun k=>by simp[hp],h0,hn,hc,(fun hz=>by rw[hp] at hz;cases hz),arr,fun _=>⟨Gx,hs⟩,hr⟩
 ·intro j hj kv;refine⟨by rw[c_ (by simpa using hj),kt (fun e=>kv e.symm)],fun k=>by rw[oA _ _ _ hj,vM _ _ _ kv]⟩
 ·intro j k hj nB;rcases cr j h.length with hl|j7
  ·have:=hj hl;subst this;exact absurd nB (ajm k hl)
  ·obtain⟨rfl,rfl⟩:=key j k j7 nB;refine⟨ajL.1.imp (fun hh=>⟨i,rfl,hh⟩) id,ajL.2,_,dQ (by simp) |>.trans (by simp;rfl)⟩
 ·intro a b k ha hb hka hkb;have red:∀ l,(l<h.length->l=i)->qn (qn ft i (fun _=>False)) h.length (fun k=>k=p.lD) l k->l=h.length:=fun l hl uh=>by
   rcases cr l h.length with cj|j7
   ·have:=hl cj;subst this;exact absurd uh (ajm k cj)
   ·exact(key l k j7 uh).1
  rw[red a ha hka,red b hb hkb]
theorem RS {a b:Value} (h:xC a b=ao):xC a a=ao:=by
 cases a<;>cases b<;>simp[xC] at h ⊢
theorem Hn {OE tm:List Value} {IH IL:List aX} {e0 n e1 m N0 N1 o:Nat} {arr:Array Value} (hl:xT OE tm=ao) (Dl:IH.length=OE.length) (Of:IL.length=tm.length)
  (h0:∀ (f:Nat) (t:Value) (c:aX),OE[f]?=aa t->IH[f]?=aa c->jK t c N0) (h1:∀ (f:Nat) (t:Value) (c:aX),tm[f]?=aa t->IL[f]?=aa c->jK t c N1) (hn:e0+n≤N0) (hm:e1+m≤N1)
  (g0:∀ (f:Nat) (t:Value) (c:aX) (e:Nat),OE[f]?=aa t->IH[f]?=aa c->e<n->arr[o+(e*tm.length+f)]?=aa (gD t c (e0+e)))
  (g1:∀ (f:Nat) (t:Value) (c:aX) (e:Nat),tm[f]?=aa t->IL[f]?=aa c->e<m->arr[o+((n+e)*tm.length+f)]?=aa (gD t c (e1+e))) :
  oc ⟨OE,n+m,mJ e0 n e1 m OE IH IL⟩ arr o:=by
 have hlen:=Ao hl;obtain⟨k1,k2⟩:=L4 (e0:=e0) (n:=n) (e1:=e1) (m:=m) (tm:=OE) (l0:=IH) (l1:=IL) Dl.symm (by rw[Dl,Of,hlen])
 have main:∀ (f:Nat) (t:Value) (c:aX),OE[f]?=aa t->(mJ e0 n e1 m OE IH IL)[f]?=aa c->∃ t' c0 c1,tm[f]?=aa t'/\IH[f]?=aa c0/\IL[f]?=aa c1/\c=ED t c0 e0 n c1 e1 m/\xC t t'=ao:=fun f t c ht hc=>by
  obtain⟨t2,c0,c1,qt,q0,q1,rfl⟩:=k2 f c hc;rw[ht] at qt;injection qt with qt
  subst qt;have wz:f<tm.length:=by rw[← hlen];exact(aU.1 ht).1
  exact⟨_,c0,c1,bd wz,q0,q1,rfl,F9 hl ht (bd wz)⟩
 refine⟨by rw[k1,Dl],fun f t c ht hc=>?_,fun f t c e ht hc he=>?_⟩
 ·obtain⟨t',c0,c1,q,q0,q1,rfl,hk⟩:=main f t c ht hc;exact(ab5 (RS hk) (h0 f t c0 ht q0) ((QO hk c1 _).2 (h1 f t' c1 q q1)) hn hm).1
 ·obtain⟨t',c0,c1,q,q0,q1,rfl,hk⟩:=main f t c ht hc;simp only at he ⊢;rw[(ab5 (RS hk) (h0 f t c0 ht q0) ((QO hk c1 _).2 (h1 f t' c1 q q1)) hn hm).2 e he,hlen]
  by_cases cj:e<n
  ·rw[if_pos cj];exact g0 f t c0 e ht q0 cj
  ·rw[if_neg cj];have:=g1 f t' c1 (e-n) q q1 (by omega)
   rw[show n+(e-n)=e by omega] at this
   rw[this,Sc hk]
theorem HS {n m s:Nat} {olds news zs:List Value} (h0:olds.length=n*s) (h1:news.length=m*s):∀ (f e:Nat),f<s ->
  (e<n->(olds++news++zs).toArray[0+(e*s+f)]?=olds[e*s+f]?)/\(e<m->(olds++news++zs).toArray[0+((n+e)*s+f)]?=news[e*s+f]?):=by
 intro f e hf;refine⟨fun he=>?_,fun he=>?_⟩
 ·have:=jr s (show e+1≤n from he)
  rw[ig,qA] at this;rw[bV,jE,rN,c_ (by omega)]
 ·have:=jr s (show e+1≤m from he)
  rw[ig,qA] at this;rw[bV,jE,rN,dQ (by rw[h0,ig];omega),c_ (by rw[h0,ig];omega)]
  congr 1
  rw[h0,ig];omega
def need (tagged:Bool) (m:Nat) (p:Prop):Prop :=
 match tagged with
 |true=>p
 |false=>0<m/\p
theorem aed {b:Bool} {m:Nat} {p:Prop} (h:need b m p):(b=an->0<m)/\p:=by
 cases b with
 |true=>exact⟨(fun h=>by cases h),h⟩
 |false=>exact⟨fun _=>h.1,h.2⟩
def yM (P:Program) (σ:SS R) (t t2:TypeId) (y z:Operand):Option (Out R) :=
 match elemOf P t,P.underlying t2 with
 |some (el,tm,Di),aa (.slice _) =>
  match VH σ tm z,ev σ.tm y with
  |some (r1,e1,m),aa (.slice aj 0 0) =>
   match tR tm 0 with
   |some zc=>aa ⟨e1+m≤r1.n/\m*Di≤140737488355328/\m≤140737488355328,.slice (aa ⟨σ.hp.length,0,aa (1000*tm.length)⟩) (0+m) 0,aj,σ.hp++[aa (.inr (.inl (el,⟨tm,0+m,mJ 0 0 e1 m tm zc r1.eu⟩)))],[],[(σ.hp.length,0)]⟩
   |none=>aj
  |some (r1,e1,m),aa (.slice (aa ⟨i,e0,aa q⟩) n _) =>
   match σ.hp[i]? with
   |some (aa (.inr (.inl (t',r)))) =>
    if fb (q%1000000) (1000*tm.length)&&xT r.tm tm&&fb t' el then
     aa ⟨need (gR q 1000000) m (e0+n≤r.n/\e1+m≤r1.n/\(n+m)*Di≤140737488355328/\n+m≤140737488355328),.slice (aa ⟨σ.hp.length,0,aa (1000*tm.length)⟩) (n+m) 0,aj,
      σ.hp.set i aj++[aa (.inr (.inl (el,⟨r.tm,n+m,mJ e0 n e1 m r.tm r.eu r1.eu⟩)))],[],[(i,0),(σ.hp.length,0)]⟩
    else aj
   |_=>aj
  |_,_=>aj
 |_,_=>aj
theorem I5:∀ {tm:List Value} {n:Nat} {eu:List aX},tR tm n=aa eu->xT tm tm=ao
 |[],_,_,_=>rfl
 |t::tm,n,eu,h=>by
  simp only[tR] at h;split at h
  ·rename_i c r hc hr;simp only[xT,aL];refine⟨?_,I5 hr⟩;cases t<;>simp[K_,xC] at hc ⊢
  ·cases h
theorem EF (z:Array Value) (n:Nat):(pq z n).toList.length=n*z.size:=by rw[wq,size_zeroCells]
theorem WC {σ:SS R} {o:Oper} {t t2:TypeId} {y z:Operand} {x:Out R} (ho:o.op=.call { callee:=.builtin .append,args:=#[y,z],argTypes:=#[t,t2] }) (h:yM P σ t t2 y z=aa x):mb D P o σ x:=by
 unfold yM at h;split at h
 ·rename_i el tm Di el2 he hu2;obtain⟨inf,zv,hu,hi,hz,Bk,n7,hby,wz,h0,Sk⟩:=zU he;have J2:zv.cells.size=tm.length:=by rw[← Bk];simp
  have Ja:1000*tm.length / 1000000=0:=by omega
  have e2':1000*tm.length%1000=0:=by omega
  split at h
  ·rename_i r1 e1 m Wb hy;split at h
   ·rename_i zc hzc;injection h with h
    subst h;refine⟨fun C ρ ft a w K Q ht iv hm hv hK=>?_,by simp,fun _ b hb=>by cases hb⟩
    obtain⟨v0,v1,v2⟩:=hv;obtain⟨s1,s2,A,c',s3,news,s4,s5,s6,s7⟩:=Si Wb ht hm v0 h0 Sk;obtain⟨c1,c2⟩:=yi hzc;have Ar:=(ek ht hy).1;simp only[bT] at Ar;have aeS:xT tm tm=ao:=I5 hzc
    by_cases X1:m=0
    ·subst X1;have nP:(execOp a.eval o).run P w=.ok (.value (.slice aj 0 0)) w:=by
      have hf:=s5 w rfl;rw[s3] at hf;simp only[execOp,ho,resolve,invoke,builtin,dy,dS,cz,vx,gr,uP,Ar,s3];have uu:news=[]:=iN (by omega)
      subst uu;simp[tI,run_underlying hu,run_underlying hu2,sizeOf,typeInfo,hi,De,n7];rw[hf];rfl
     have wo:oc ⟨tm,0+0,mJ 0 0 e1 0 tm zc r1.eu⟩ #[] 0 :=
      Hn aeS c1 s1 (fun f t c g1 g2=>(c2 f t c g1 g2).1) s2 (a_ 0) v0 (fun f t c e _ _ he=>by omega) (fun f t c e _ _ he=>by omega)
     have hp:=hm.Rz el ⟨tm,0+0,mJ 0 0 e1 0 tm zc r1.eu⟩ h0 rfl wo.len wo.I9 0 0;have:=hK _ _ _ (fun i hi=>oA ρ σ.hp.length ⟨0,0,0,ao⟩ hi) hp
     refine rC nP ?_
     simpa [bT,lF,jc] using this
    ·have hf:=s5 w.drew rfl;rw[s3] at hf;have nP:(execOp a.eval o).run P w=.ok (.value (.slice (aa ⟨w.heap.size,0,aj⟩) (0+m) (grownCap w (0+m) 0 el))) (w.drew.alloc (.cells ([]++news++(pq zv.cells (grownCap w (0+m) 0 el-(0+m))).toList).toArray el)):=by
      have hr:=LY (P:=P) (t:=t) (t2:=t2) (ty:=o.type) w hu hu2 hi hz (sLen:=0) (sCap:=0) (m:=m) (c:=c') (A:=A) (B:=aj) (olds:=[]) (news:=news) (by simp[kx]) (by rw[n7];exact hf) (by omega) (by omega) (by rw[hby,bV];exact v1)
      simp only[execOp,ho,resolve,invoke,builtin,dy,dS,cz,vx,gr,uP,Ar,s3,hr]
     have NP:=grownCap_ge w (0+m) 0 el;have Ze:=grownCap_le_maxLen w (0+m) 0 el (by unfold maxLen;omega)
     have wo:oc ⟨tm,0+m,mJ 0 0 e1 m tm zc r1.eu⟩ ([]++news++(pq zv.cells (grownCap w (0+m) 0 el-(0+m))).toList).toArray 0:=by
      refine Hn aeS c1 s1 (fun f t c g1 g2=>(c2 f t c g1 g2).1) s2 (a_ 0) v0 (fun f t c e _ _ he=>by omega) (fun f t c e g1 g2 he=>?_)
      have BN:f<tm.length:=(aU.1 g1).1;rw[(HS (n:=0) (m:=m) (s:=tm.length) (by simp) s4 f e BN).2 he]
      exact s7 f t c e g1 g2 he
     have hp:=hm.drew.Rj el ⟨tm,0+m,mJ 0 0 e1 m tm zc r1.eu⟩ _ (grownCap w (0+m) 0 el) h0 NP Ze (by
      simp only[List.nil_append,Dq,bA,s4,EF,J2,← ig]
      congr 1;omega) wo
     have:=hK _ _ _ (fun i hi=>oA ρ σ.hp.length ⟨w.heap.size,0,grownCap w (0+m) 0 el,an⟩ hi) hp
     refine rC nP ?_
     simpa [bT,lF,iD,jc,cellOf,Ja,e2'] using this
   ·cases h
  ·rename_i r1 e1 m i e0 q n c Wb hy;split at h
   ·rename_i t' r hir;split at h
    ·rename_i hc;simp only[aL] at hc;have hq:=cP hc.1.1;have Ta:=hc.1.2;have hte:=cP hc.2;subst hte;have hlen:=Ao Ta;have ss:q%1000000 / 1000=tm.length:=by omega
     have FW:q%1000=0:=by omega
     injection h with h
     subst h;refine⟨fun C ρ ft a w K Q ht iv hm hv hK=>?_,by simp,fun _ b hb=>by cases hb⟩
     obtain⟨v0,v1,v2,v3,v4⟩:=aed hv;obtain⟨s1,s2,A,c',s3,news,s4,s5,s6,s7⟩:=Si Wb ht hm v2 h0 Sk;obtain⟨Ar,hy2⟩:=ek ht hy;simp only[bT] at Ar;simp only[fp,aL,fe] at hy2;have CD:i<σ.hp.length:=hy2.1;obtain⟨g1,g2,g3,g4,g4',arr,g5,g6⟩:=(hm.at_ i _ hir).1;have jU:¬ gR q 1000000=ao->1≤q / 1000000:=fun hh=>by
      have:¬ q<1000000:=fun cj=>hh (by rw[fe];exact cj)
      omega
     have hqt:q / 1000000≠0->0<m:=fun hh=>v0 (by
      cases hb:gR q 1000000 with
      |false=>rfl
      |true=>rw[fe] at hb;omega)
     have h0':0<r.tm.length:=g2
     have grow:∀ (B:Option Addr) (Bv:Nat) (olds:List Value),a.eval y=.slice B n Bv->olds.length=n*tm.length->(∀ w2:World,w2.heap=w.heap->(kx tm.length n (.slice B n Bv)).run P w2=.ok olds.toArray w2) ->
       (∀ (f:Nat) (t:Value) (c:aX) (e:Nat),r.tm[f]?=aa t->r.eu[f]?=aa c->e<n->olds[e*tm.length+f]?=aa (gD t c (e0+e)))->Bv<n+m->o.wp P a w K Q:=by
      intro B Bv olds hB hol hof hog cj;have hf:=s5 w.drew rfl;rw[s3] at hf;have hr:=LY (P:=P) (t:=t) (t2:=t2) (ty:=o.type) w hu hu2 hi hz (sLen:=n) (sCap:=Bv) (m:=m) (c:=c') (A:=A) (B:=B) (olds:=olds) (news:=news) (by rw[n7];exact hof w.drew rfl) (by rw[n7];exact hf) cj (by omega) (by rw[hby];exact v3)
      have nP:(execOp a.eval o).run P w=.ok (.value (.slice (aa ⟨w.heap.size,0,aj⟩) (n+m) (grownCap w (n+m) Bv t'))) (w.drew.alloc (.cells (olds++news++(pq zv.cells (grownCap w (n+m) Bv t'-(n+m))).toList).toArray t')):=by
       simp only[execOp,ho,resolve,invoke,builtin,dy,dS,cz,vx,gr,uP,hB,s3,hr]
      have NP:=grownCap_ge w (n+m) Bv t';have Ze:=grownCap_le_maxLen w (n+m) Bv t' (by unfold maxLen;omega)
      have wo:oc ⟨r.tm,n+m,mJ e0 n e1 m r.tm r.eu r1.eu⟩ (olds++news++(pq zv.cells (grownCap w (n+m) Bv t'-(n+m))).toList).toArray 0:=by
       refine Hn Ta g6.len s1 g6.I9 s2 v1 v2 (fun f t c e k1 k2 he=>?_) (fun f t c e k1 k2 he=>?_)
       ·have BN:f<tm.length:=by rw[← hlen];exact(aU.1 k1).1
        rw[(HS hol s4 f e BN).1 he];exact hog f t c e k1 k2 he
       ·have BN:f<tm.length:=(aU.1 k1).1;rw[(HS hol s4 f e BN).2 he];exact s7 f t c e k1 k2 he
      have hp:=hm.XC (w':=w.drew.alloc (.cells (olds++news++(pq zv.cells (grownCap w (n+m) Bv t'-(n+m))).toList).toArray t')) i t' ⟨r.tm,n+m,mJ e0 n e1 m r.tm r.eu r1.eu⟩ ⟨w.heap.size,0,grownCap w (n+m) Bv t',an⟩ ((Kept.refl _ _).drew.alloc _) rfl ⟨eV (a_ _),by simp⟩ h0' NP Ze _ (heap_alloc_new w.drew _) (by
       simp only[Dq,bA,hol,s4,EF,J2,hlen,← ig,bV]
       congr 1;omega) wo
      have:=hK _ _ _ (fun j hj=>oA ρ σ.hp.length ⟨w.heap.size,0,grownCap w (n+m) Bv t',an⟩ hj) hp
      refine rC nP ?_
      simpa [bT,lF,iD,jc,cellOf,Ja,e2'] using this
     unfold lF at Ar;simp only at Ar
     by_cases hn:(ρ i).nil=ao
     ·rw[if_pos hn] at Ar;have apa:=g4' hn;have uu:n=0:=by omega
      subst uu
      by_cases X1:m=0
      ·subst X1;have nP:(execOp a.eval o).run P w=.ok (.value (.slice aj 0 0)) w:=by
        have hf:=s5 w rfl;rw[s3] at hf;simp only[execOp,ho,resolve,invoke,builtin,dy,dS,cz,vx,gr,uP,Ar,s3];have uu:news=[]:=iN (by omega)
        subst uu;simp[tI,run_underlying hu,run_underlying hu2,sizeOf,typeInfo,hi,De,n7];rw[hf];rfl
       have wo:oc ⟨r.tm,0+0,mJ e0 0 e1 0 r.tm r.eu r1.eu⟩ #[] 0 :=
        Hn Ta g6.len s1 g6.I9 s2 v1 v2 (fun f t c e _ _ he=>by omega) (fun f t c e _ _ he=>by omega)
       have hp:=(hm.drop i).Rz t' ⟨r.tm,0+0,mJ e0 0 e1 0 r.tm r.eu r1.eu⟩ h0' rfl wo.len wo.I9 0 0;rw[fa] at hp;have:=hK _ _ _ (fun i hi=>oA ρ σ.hp.length ⟨0,0,0,ao⟩ hi) hp
       refine rC nP ?_
       simpa [bT,lF,jc] using this
      ·exact grow aj 0 [] Ar (by simp) (fun w2 _=>by simp[kx]) (fun f t c e _ _ he=>by omega) (by omega)
     ·have Yf:(ρ i).nil=an:=by simpa using hn
      obtain⟨g7,g8⟩:=g5 Yf;rw[if_neg hn] at Ar
      by_cases hex:q / 1000000≠0/\(ρ i).cap≤e0
      ·rw[if_pos hex] at Ar;have X1:=hqt hex.1;have uu:n=0:=by omega
       subst uu;exact grow _ 0 [] Ar (by simp) (fun w2 _=>by simp[kx,loadCells,loadCellsFrom]) (fun f t c e _ _ he=>by omega) (by omega)
      ·rw[if_neg hex] at Ar;have hA:iD ρ ⟨i,e0,aa q⟩=⟨(ρ i).lD,(ρ i).off+e0*tm.length,aj⟩:=by simp only[iD,cellOf,ss,FW,gT]
       rw[hA] at Ar;rw[hlen] at g8
       by_cases TE:n+m≤(ρ i).cap-e0
       ·have hf:=s5 w rfl;rw[s3] at hf;have hmul:(e0+n+m)*tm.length≤(ρ i).cap*tm.length:=jr _ (by omega)
        rw[ig,ig] at hmul;have EP:(ρ i).off+e0*tm.length+n*tm.length+news.length≤arr.size:=by rw[s4,g8];omega
        have hr:=W2 (P:=P) (t:=t) (t2:=t2) (ty:=o.type) w hu hu2 hi (g:=(ρ i).lD) (o:=(ρ i).off+e0*tm.length) (sLen:=n) (sCap:=(ρ i).cap-e0) (m:=m) (c:=c') (A:=A) (cur:=arr) (news:=news) g7 (by rw[n7];exact hf) s6 TE (by rw[n7];exact EP)
        rw[n7] at hr;have nP:(execOp a.eval o).run P w=.ok (.value (.slice (aa ⟨(ρ i).lD,(ρ i).off+e0*tm.length,aj⟩) (n+m) ((ρ i).cap-e0))) (w.setRow (ρ i).lD (nE arr ((ρ i).off+e0*tm.length+n*tm.length) news)):=by
         simp only[execOp,ho,resolve,invoke,builtin,dy,dS,cz,vx,gr,uP,Ar,s3,hr]
        have wo:oc ⟨r.tm,n+m,mJ e0 n e1 m r.tm r.eu r1.eu⟩ (nE arr ((ρ i).off+e0*tm.length+n*tm.length) news) ((ρ i).off+e0*tm.length):=by
         refine Hn Ta g6.len s1 g6.I9 s2 v1 v2 (fun f t c e k1 k2 he=>?_) (fun f t c e k1 k2 he=>?_)
         ·have BN:f<tm.length:=by rw[← hlen];exact(aU.1 k1).1
          have hle:=jr tm.length (show e+1≤n from he)
          rw[ig,qA] at hle;rw[Gn _ _ _ _ EP,if_neg (by omega)]
          have:=g6.cell f t c (e0+e) k1 k2 (by omega)
          rw[hlen,ig] at this;rw[← this]
          congr 1
          omega
         ·have BN:f<tm.length:=(aU.1 k1).1;have hle:=jr tm.length (show e+1≤m from he)
          rw[ig,qA] at hle;rw[Gn _ _ _ _ EP,ig,if_pos (by rw[s4];omega)]
          rw[← s7 f t c e k1 k2 he]
          congr 1
          omega
        have hp:=hm.XC (w':=w.setRow (ρ i).lD (nE arr ((ρ i).off+e0*tm.length+n*tm.length) news)) i t' ⟨r.tm,n+m,mJ e0 n e1 m r.tm r.eu r1.eu⟩ ⟨(ρ i).lD,(ρ i).off+e0*tm.length,(ρ i).cap-e0,an⟩
         (Gs _ _ _ ((g1 _).2 ⟨Yf,rfl⟩)) rfl ⟨dK ((g1 _).2 ⟨Yf,rfl⟩),by
          have:=hm.lt i _ ((g1 _).2 ⟨Yf,rfl⟩)
          simpa [Fj] using this⟩ h0' TE (by simp only;omega) _ (setRow_heap w _ _ _ _ _ g7) (by
           have hcm:e0*tm.length+((ρ i).cap-e0)*tm.length=(ρ i).cap*tm.length:=by rw[← ig];congr 1;omega
           rw[Ep,g8,hlen];simp only;omega) wo
        have:=hK _ _ _ (fun j hj=>oA ρ σ.hp.length ⟨(ρ i).lD,(ρ i).off+e0*tm.length,(ρ i).cap-e0,an⟩ hj) hp
        refine rC nP ?_
        simpa [bT,lF,iD,jc,cellOf,Ja,e2'] using this
       ·have hmul:(e0+n)*tm.length≤(ρ i).cap*tm.length:=jr _ (by omega)
        rw[ig] at hmul;refine grow _ _ ((arr.toList.drop ((ρ i).off+e0*tm.length)).take (n*tm.length)) Ar (by simp;omega) (fun w2 TK=>?_) (fun f t c e k1 k2 he=>?_) (by omega)
        ·refine run_firstCells_some w2 tm.length n _ n _ _ (by simp;omega) (fun j v hj=>?_)
         rw[A9 (w:=w) (by rw[TK]),pN,cell_of_row w _ _ arr _ _ g7]
         have U9:j<n*tm.length:=by have:=(aU.1 hj).1;simp at this;omega
         simpa [oN,U9,oQ] using hj
        ·have BN:f<tm.length:=by rw[← hlen];exact(aU.1 k1).1
         have hle:=jr tm.length (show e+1≤n from he)
         rw[ig,qA] at hle;have:=g6.cell f t c (e0+e) k1 k2 (by omega)
         rw[hlen,ig] at this;rw[oN,if_pos (by omega),oQ,← this]
         simp only[Array.getElem?_toList]
         congr 1
         omega
    ·cases h
   ·cases h
  ·cases h
 ·cases h
end
end Rx
namespace Rx
open Go.RowKit State
abbrev Prim (R:Type):=List Value->Hp R->Option (Out R)
structure jb (R:Type) where
 when:List Value->Hp R->Option Bool
 yes:Prim R
 no:Prim R
def jb.go {R:Type} (c:jb R) (b:Bool):Prim R :=
 match b with
 |true=>c.yes
 |false=>c.no
def a9 {R:Type} (p:Prim R):jb R:=⟨fun _ _=>aj,p,fun _ _=>aj⟩
abbrev ez (R:Type):=List (FuncId×jb R)
def F6 {R:Type}:ez R->FuncId->Option (jb R)
 |[],_=>aj
 |(g,p)::l,f=>if fb g f then aa p else F6 l f
def findF {R:Type} (T:ez R) (f:FuncId):Option (jb R):=if fb f 1000000000 then aj else F6 T f
def QP {R:Type} (D:fH R) (c:jb R):Prop:=((c.no [] []).isSome=ao->∀ X p F w,D.H X p F w->F p.lD/\∃ ca ta,w.heap[p.lD]?=aa (.cells ca ta (0,0)))/\∀ e X x p F w,c.yes [.pointer (aa ⟨0,e,aj⟩)] [aa (.inr (.inr (.inr X)))]=aa x->D.H X p F w->flat x.v=ao/\w.cell? ⟨p.lD,p.off+e,aj⟩=aa x.v
structure rK {R:Type} (D:fH R) (P:Program) (f:FuncId) (on:List Value->Hp R->Prop) (p:Prim R):Prop where
 known : ∃ fn, P.funcs[f]? = aa fn ∧ (fn.name == "runtime.NumGoroutine") = an ∧ fn.body.isNone = an
 run:∀ args h x,on args h->p args h=aa x->∀ C ρ ft w,HM D C ρ ft h w->x.vc->ix h.length args=ao ->
  Calls P f (args.map (bT ρ)).toArray w fun e w'=>∃ gv ku,(∀ i,i<h.length->gv i=ρ i)/\e=.returned (bT gv x.v)/\HM D C gv ku x.hp w'
 len:∀ args h x,p args h=aa x->h.length≤x.hp.length
 lit:∀ args h x,p args h=aa x->∀ b,x.lit=aa b->x.v=.bool b
 still:∀ args h x,p args h=aa x->x.wr=[]->x.hp=h
def rZ {R:Type} (c:jb R) (b:Bool) (args:List Value) (h:Hp R):Prop:=(c.when args h=aj/\b=ao)∨c.when args h=aa b
def b6 {R:Type} (D:fH R) (P:Program) (f:FuncId) (c:jb R):Prop:=∀ b,rK D P f (rZ c b) (c.go b)
theorem qa {R:Type} {D:fH R} {P:Program} {f:FuncId} {p:Prim R} (h:rK D P f (fun _ _=>True) p):b6 D P f (a9 p):=by
 intro b;cases b with
 |true=>exact⟨h.known,fun args hh x _=>h.run args hh x trivial,h.len,h.lit,h.still⟩
 |false=>exact⟨h.known,(fun _ _ _ _ hx=>by cases hx),(fun _ _ _ hx=>by cases hx),(fun _ _ _ hx=>by cases hx),(fun _ _ _ hx=>by cases hx)⟩
def ID:List (Nat×Nat)->Nat->Bool
 |[],_=>an
 |p::l,b=>fb p.1 b||ID l b
def OU (wr:List (Nat×Nat)) (b:Nat):Bool :=
 match wr with
 |(0,1)::l=>!ID l b
 |_=>an
structure HF {R:Type} (D:fH R) (P:Program) (f:FuncId) (c:jb R):Prop where
 ok:b6 D P f c
 HT:∀ b args h x,c.go b args h=aa x->∀ i,i<h.length->OU x.wr i=ao->x.hp[i]?=h[i]?
def cL {R:Type} (D:fH R) (P:Program):ez R->Prop
 |[]=>True
 |(f,c)::l=>(match fb f 1000000000 with
  |true=>QP D c
  |false=>HF D P f c)/\cL D P l
section
variable {R:Type} {D:fH R} {P:Program} {T:ez R} {C:Ctx} {ρ:Env} {ft:Nat->Nat->Prop} {w w':World}
theorem U6 (hT:cL D P T) {f:FuncId} {p:jb R} (h:F6 T f=aa p):match fb f 1000000000 with
  |true=>QP D p
  |false=>HF D P f p:=by
 induction T with
 |nil=>cases h
 |cons a l ih =>
  obtain⟨g,q⟩:=a;simp only[F6] at h;split at h
  ·rename_i hb;have:=cP hb;subst this;injection h with h
   subst h;exact hT.1
  ·exact ih hT.2 h
theorem BB (hT:cL D P T) {f:FuncId} {p:jb R} (h:findF T f=aa p):HF D P f p:=by
 unfold findF at h;split at h
 ·cases h
 ·rename_i hb;have:=U6 hT h;rw[show fb f 1000000000=an by cases qm:fb f 1000000000<;>simp_all] at this
  exact this
theorem US (hT:cL D P T) {p:jb R} (h:F6 T 1000000000=aa p):QP D p:=U6 hT h
def Mv (tm:List (Option Value)):List Operand->Option (List Value)
 |[]=>aa []
 |y::l =>
  match ev tm y,Mv tm l with
  |some v,aa r=>aa (v::r)
  |_,_=>aj
theorem EA {n:Nat} {tm:List (Option Value)} {a:Act} (ht:TM ρ n tm a):∀ {l:List Operand} {r:List Value},Mv tm l=aa r->l.map a.eval=r.map (bT ρ)/\ix n r=ao
 |[],r,h=>by simp only[Mv] at h;injection h with h;subst h;exact⟨rfl,rfl⟩
 |y::l,r,h=>by
  simp only[Mv] at h;split at h
  ·rename_i v r' hv hr;injection h with h
   subst h;obtain⟨h1,h2⟩:=ek ht hv;obtain⟨h3,h4⟩:=EA ht hr;exact⟨by simp[h1,h3],by simp[ix,h2,h4]⟩
  ·cases h
theorem Ms {n:Nat} {l r:List Value} (h1:ix n l=ao) (h2:ix n r=ao):ix n (l++r)=ao:=by
 rw[wR] at *
 intro v hv;rcases b5.1 hv with hv|hv
 ·exact h1 v hv
 ·exact h2 v hv
def Fa (T:ez R) (σ:SS R) (f:Operand) (args:List Operand) (b:Bool):Option (Out R) :=
 match ev σ.tm f,Mv σ.tm args with
 |some (.func (.func g) ⟨fi⟩ ⟨ca⟩),aa vs=>match findF T g with
  |some p=>p.go b ((fi++vs)++ca) σ.hp
  |none=>aj
 |_,_=>aj
def NB (T:ez R) (σ:SS R) (f:Operand) (args:List Operand):Option Bool :=
 match ev σ.tm f,Mv σ.tm args with
 |some (.func (.func g) ⟨fi⟩ ⟨ca⟩),aa vs=>match findF T g with
  |some p=>p.when ((fi++vs)++ca) σ.hp
  |none=>aj
 |_,_=>aj
def goes (c:Option Bool) (b:Bool):Prop:=(c=aj/\b=ao)∨c=aa b
theorem acu (hT:cL D P T) {σ:SS R} {o:Oper} {f:Operand} {args:Array Operand} {ts:Array TypeId} {x:Out R} {b:Bool} (ho:o.op=.call { callee:=.value f,args:=args,argTypes:=ts }) (hb:goes (NB T σ f args.toList) b) (h:Fa T σ f args.toList b=aa x):mb D P o σ x:=by
 unfold Fa at h;unfold NB at hb;split at h
 ·rename_i g fi ca vs hf D6;rw[hf,D6] at hb;simp only at hb;split at h
  ·rename_i p hp;rw[hp] at hb;simp only at hb;have um:=(BB hT hp).ok b;refine⟨fun C ρ ft a w K Q ht iv hm hv hK=>?_,um.len _ _ _ h,fun _=>um.lit _ _ _ h⟩
   obtain⟨h1,h2⟩:=ek ht hf;obtain⟨h3,h4⟩:=EA ht D6;simp only[bT,lh] at h1;simp only[fp,aL] at h2;obtain⟨fn,g1,g2,g3⟩:=um.known;have hargs:args.map a.eval=(vs.map (bT ρ)).toArray:=by
    apply qz;rw[mv,h3]
   have nP:(execOp a.eval o).run P w=.ok (.enter g (((fi++vs)++ca).map (bT ρ)).toArray) w:=by
    simp only[execOp,ho,resolve,h1,Deferred.ofValue,dy,dS,cz,invoke,hargs];simp only[callFunc,dy,run_program,cz,g1,g2,g3,fO,if_false,dS]
    congr 2
    simp
   have Zx:=um.run _ _ _ hb h C ρ ft w hm hv (Ms (Ms h2.1 h4) h2.2);unfold RB;rw[nP,Qa];refine Zx.mono fun e w' ⟨gv,ku,q1,q2,q3⟩=>?_
   subst q2;exact hK gv ku w' q1 q3
  ·cases h
 ·cases h
def acx (P:Program) (t:TypeId) (v:Value) (name:String):Option (FuncId×Value) :=
 xq P (Xa fun Q=>method (Q.types.size+Qb) t v name)
def yJ (P:Program) (T:ez R) (σ:SS R) (r:Operand) (name:String) (args:List Operand) (b:Bool):Option (Out R) :=
 match ev σ.tm r,Mv σ.tm args with
 |some (.iface t v),aa vs=>match flat v,acx P t v name with
  |true,aa (g,u)=>match flat u,findF T g with
   |true,aa p=>p.go b (u::vs) σ.hp
   |_,_=>aj
  |_,_=>aj
 |_,_=>aj
def IM (P:Program) (T:ez R) (σ:SS R) (r:Operand) (name:String) (args:List Operand):Option Bool :=
 match ev σ.tm r,Mv σ.tm args with
 |some (.iface t v),aa vs=>match flat v,acx P t v name with
  |true,aa (g,u)=>match flat u,findF T g with
   |true,aa p=>p.when (u::vs) σ.hp
   |_,_=>aj
  |_,_=>aj
 |_,_=>aj
theorem WJ (hT:cL D P T) {σ:SS R} {o:Oper} {r:Operand} {name:String} {args:Array Operand} {ts:Array TypeId} {x:Out R} {b:Bool} (ho:o.op=.call { callee:=.invoke r name,args:=args,argTypes:=ts }) (hb:goes (IM P T σ r name args.toList) b) (h:yJ P T σ r name args.toList b=aa x):mb D P o σ x:=by
 unfold yJ at h;unfold IM at hb;split at h
 ·rename_i t v vs hf D6;rw[hf,D6] at hb;simp only at hb;split at h
  ·rename_i g u wz hme;rw[wz,hme] at hb;simp only at hb;split at h
   ·rename_i p hu hp;rw[hu,hp] at hb;simp only at hb;have um:=(BB hT hp).ok b;refine⟨fun C ρ ft a w K Q ht iv hm hv hK=>?_,um.len _ _ _ h,fun _=>um.lit _ _ _ h⟩
    obtain⟨h1,h2⟩:=ek ht hf;obtain⟨h3,h4⟩:=EA ht D6;simp only[bT,nQ v wz] at h1;obtain⟨fn,g1,g2,g3⟩:=um.known;have hargs:args.map a.eval=(vs.map (bT ρ)).toArray:=by
     apply qz;rw[mv,h3]
    have hr:(Xa fun Q=>method (Q.types.size+Qb) t v name).run P w=.ok (g,u) w:=L7 _ hme w
    have tY:(method (P.types.size+Qb) t v name).run P w=.ok (g,u) w:=hr;have nP:(execOp a.eval o).run P w=.ok (.enter g ((u::vs).map (bT ρ)).toArray) w:=by
     simp only[execOp,ho,resolve,h1,dy,dS,cz,invoke,hargs];have e0:(#[GC t v]++(vs.map (bT ρ)).toArray)[0]?=aa (GC t v):=by simp
     have e1:(#[GC t v]++(vs.map (bT ρ)).toArray).extract 1 (#[GC t v]++(vs.map (bT ρ)).toArray).size=(vs.map (bT ρ)).toArray:=by
      apply qz;simp only[IP,Array.toList_append,Array.size_append,Dq,List.length_map];simp[List.take_of_length_le]
     simp only[e0,e1,callMethod,dy,run_program,cz,tY,callFunc,g1,g2,g3,fO,if_false,dS]
     congr 2
     simp[nQ u hu]
    have Zx:=um.run _ _ _ hb h C ρ ft w hm hv (by simp only[ix,aL];exact⟨HZ u hu,h4⟩)
    unfold RB;rw[nP,Qa];refine Zx.mono fun e w' ⟨gv,ku,q1,q2,q3⟩=>?_
    subst q2;exact hK gv ku w' q1 q3
   ·cases h
  ·cases h
 ·cases h
def AV (σ:SS R) (fn:Fn) (fi ca:List Operand):Option (Out R) :=
 match Mv σ.tm fi,Mv σ.tm ca with
 |some u,aa v=>aa (gp σ True (.func fn ⟨u⟩ ⟨v⟩) aj [])
 |_,_=>aj
theorem Sy {σ:SS R} {o:Oper} {fn:Fn} {fi ca:Array Operand} {x:Out R} (ho:o.op=.makeFunc fn fi ca) (h:AV σ fn fi.toList ca.toList=aa x):mb D P o σ x:=by
 unfold AV at h;split at h
 ·rename_i u v hu hv;injection h with h
  subst h;refine g9 (fun C ρ ft a w ht iv hm _=>?_) (fun _ b hb=>by cases hb)
  obtain⟨h1,_⟩:=EA ht hu;obtain⟨h2,_⟩:=EA ht hv;have e1:fi.map a.eval=(u.map (bT ρ)).toArray:=by apply qz;rw[mv,h1]
  have e2:ca.map a.eval=(v.map (bT ρ)).toArray:=by apply qz;rw[mv,h2]
  simp only[execOp,ho,Instr.makeFunc,dy,dS,cz,e1,e2,bT,lh]
 ·cases h
def XS (op:BinOp) (u v:Option Value):Nat :=
 match u,v with
 |some (.int .i64 _),aa (.int .i64 _)=>match op with
  |.add|.sub|.mul|.quo|.rem=>1
  |_=>0
 |some (.string _),aa (.string _)=>match op with
  |.add=>2
  |_=>0
 |some (.pointer (aa _)),aa (.pointer (aa _))=>5
 |some (.pointer _),aa (.pointer _)|some (.slice _ _ _),aa (.slice _ _ _)|some (.func _ _ _),aa .nilFunc=>3
 |some (.agg _),aa (.agg _)=>4
 |_,_=>0
def alp (T:ez R):Bool:=match F6 T 1000000000 with
 |some c=>(c.when [] []).isSome
 |none=>an
def ajK:BinOp->Bool
 |.add=>ao
 |.sub=>ao
 |.mul=>ao
 |_=>an
def OG (T:ez R):Option (Option (SB R))->Bool
 |some (aa (.inl _))=>ao
 |some (aa (.inr (.inr (.inr _))))=>match F6 T 1000000000 with
  |some c=>(c.no [] []).isSome
  |none=>an
 |_=>an
def lL:jb R:=⟨fun _ _=>aa ao,fun _ _=>aj,fun _ _=>aj⟩
theorem iu:QP D (lL:jb R):=⟨(fun h=>by cases h),fun e X x p F w hx=>by cases hx⟩
theorem Vg (hT:cL D P T) {C:Ctx} {ρ:Env} {ft:Nat->Nat->Prop} {h:Hp R} {w:World} {i:Nat} (hm:HM D C ρ ft h w) (ho:OG T h[i]?=ao):ft i (ρ i).lD/\∃ ca ta,w.heap[(ρ i).lD]?=aa (.cells ca ta (0,0)):=by
 unfold OG at ho;split at ho
 ·rename_i x hx;obtain⟨t,cs⟩:=x;obtain⟨_,g2,g3⟩:=(hm.at_ i _ hx).1;exact⟨(g2 _).2 rfl,_,_,g3⟩
 ·rename_i X hx;split at ho
  ·rename_i c hc;exact(US hT hc).1 ho _ _ _ _ (hm.at_ i _ hx).1
  ·cases ho
 ·cases ho
def K' (P:Program) (T:ez R) (σ:SS R) (o:Oper) (op:BinOp) (t:TypeId) (y z:Operand):Option (Out R) :=
 match XS op (ev σ.tm y) (ev σ.tm z) with
 |1=>if alp T&&ajK op then uB P σ o else PX σ op y z
 |2=>match op with
  |.add=>Py σ y z
  |_=>aj
 |3=>match op with
  |.eql=>zO P σ an t y z
  |.neq=>zO P σ ao t y z
  |_=>aj
 |4=>match op with
  |.eql=>zp P σ an t y z
  |.neq=>zp P σ ao t y z
  |_=>aj
 |5=>match op with
  |.eql=>zB P σ (OG T) an t y z
  |.neq=>zB P σ (OG T) ao t y z
  |_=>aj
 |_=>uB P σ o
theorem aeA (hT:cL D P T) {σ:SS R} {o:Oper} {op:BinOp} {t t':TypeId} {y z:Operand} {x:Out R} (ho:o.op=.binOp op t y z t') (h:K' P T σ o op t y z=aa x):mb D P o σ x:=by
 unfold K' at h;split at h
 ·split at h
  ·exact w5 h
  ·exact aej ho h
 ·split at h
  ·exact adW ho h
  ·cases h
 ·split at h
  ·exact PT (neg:=an) ho h
  ·exact PT (neg:=ao) ho h
  ·cases h
 ·split at h
  ·exact ON (neg:=an) ho h
  ·exact ON (neg:=ao) ho h
  ·cases h
 ·split at h
  ·exact OV (fun hm ho=>Vg hT hm ho) (neg:=an) ho h
  ·exact OV (fun hm ho=>Vg hT hm ho) (neg:=ao) ho h
  ·cases h
 ·exact w5 h
def isNil:Option Value->Bool
 |some (.slice aj 0 0)=>ao
 |_=>an
def wK (P:Program) (σ:SS R) (t:TypeId) (y:Operand):Option (Out R) :=
 if isNil (ev σ.tm y) then
  match vp P σ t with
  |some x=>aa x
  |none=>vU σ y
 else vU σ y
theorem LV {σ:SS R} {o:Oper} {t:TypeId} {y:Operand} {x:Out R} (ho:o.op=.move y∨o.op=.assign y) (h:wK P σ t y=aa x):mb D P o σ x:=by
 unfold wK at h;split at h
 ·rename_i hn;have hv:ev σ.tm y=aa (.slice aj 0 0):=by
   unfold isNil at hn;split at hn
   ·assumption
   ·cases hn
  split at h
  ·rename_i x' hx;injection h with h
   subst h;exact SH (n:=0) (c:=0) ho hv hx
  ·exact R' ho h
 ·exact R' ho h
def isStr:Option Value->Bool
 |some (.string _)=>ao
 |_=>an
def ald:Option Value->Bool
 |some (.pointer (aa _))=>ao
 |_=>an
def af7:Option Value->Bool
 |some (.slice (aa ⟨_,_,aj⟩) _ _)=>ao
 |_=>an
def amW:Option Value->Bool
 |some (.slice (aa _) _ _)=>ao
 |_=>an
def DU (P:Program) (T:ez R) (σ:SS R) (t:TypeId) (y:Operand):Option (Out R) :=
 match As P σ t y with
 |some x=>aa x
 |none =>
  match ev σ.tm y with
  |some (.pointer (aa ⟨i,e,aj⟩)) =>
   match σ.hp[i]? with
   |some (aa (.inr (.inr (.inr X)))) =>
    match Cb P t,F6 T 1000000000 with
    |some aj,aa c=>match c.yes [.pointer (aa ⟨0,e,aj⟩)] [aa (.inr (.inr (.inr X)))] with
     |some x=>aa (gp σ True x.v aj [(i,e+1)])
     |none=>aj
    |_,_=>aj
   |_=>aj
  |_=>aj
theorem ZF (hT:cL D P T) {σ:SS R} {o:Oper} {t:TypeId} {y:Operand} {x:Out R} (ho:o.op=.load t y) (h:DU P T σ t y=aa x):mb D P o σ x:=by
 unfold DU at h;split at h
 ·rename_i x' hx;injection h with h
  subst h;exact RW ho hx
 ·split at h
  ·rename_i i e ha;split at h
   ·rename_i X hX;split at h
    ·rename_i c hg hc;split at h
     ·rename_i x' hx;injection h with h
      subst h;refine g9 (fun C ρ ft ac w ht iv hm _=>?_) (fun iv c hc=>by cases hc)
      have h1:=(ek ht ha).1;simp only[bT,iD,cellOf] at h1;obtain⟨q1,q2⟩:=(US hT hc).2 e X x' _ _ w hx (hm.at_ i _ hX).1;simp[execOp,ho,h1,A_,oL,Ce hg q2,nQ _ q1]
     ·cases h
    ·cases h
   ·cases h
  ·cases h
def Mb (P:Program) (T:ez R) (σ:SS R) (o:Oper) (rZ:Bool):Option (Out R) :=
 match o with
 |⟨dst,op,ty,pos,after,guard⟩ =>
 match op with
 |.move y=>wK P σ ty y
 |.assign y=>wK P σ ty y
 |.pick c y z=>GW σ c y z
 |.alloc t=>DW P σ t
 |.box t y=>Ly σ t y
 |.build t ⟨ps⟩=>DY P σ t ps
 |.buildSlice t n ⟨ps⟩=>match ug P σ t n ps with
  |some x=>aa x
  |none=>uE P σ t n ps
 |.load t y=>DU P T σ t y
 |.store t y z=>match dst with
  |none=>DO P σ t y z
  |some _=>aj
 |.nilCheck y=>LB σ y
 |.binOp b t y z u=>K' P T σ ⟨dst,.binOp b t y z u,ty,pos,after,guard⟩ b t y z
 |.unOp u t y=>match u with
  |.not=>Lz σ y
  |_=>uB P σ ⟨dst,.unOp u t y,ty,pos,after,guard⟩
 |.slice t y lo hi mx=>Hg P σ t y lo hi mx
 |.fieldAddr t y k=>we P σ t y k
 |.field t y k=>DX P σ t y k
 |.indexAddr t y z=>if ald (ev σ.tm y) then AU P σ t y z else if af7 (ev σ.tm y) then wJ P σ t y z else yo P σ t y z
 |.index t y z=>if isStr (ev σ.tm y) then AQ P σ t y z else uB P σ ⟨dst,.index t y z,ty,pos,after,guard⟩
 |.extract y k=>zI σ y k
 |.makeSlice t y z=>yk P σ t y z
 |.call ⟨callee,⟨args⟩,⟨ts⟩⟩ =>
  match callee with
  |.value f=>Fa T σ f args rZ
  |.builtin b =>
   match b,args,ts with
   |.append,[y,z],[t,t2]=>yM P σ t t2 y z
   |.len,[y],[t]=>if amW (ev σ.tm y) then Lf P σ t y else uB P σ ⟨dst,.call ⟨.builtin .len,⟨[y]⟩,⟨[t]⟩⟩,ty,pos,after,guard⟩
   |b,args,ts=>uB P σ ⟨dst,.call ⟨.builtin b,⟨args⟩,⟨ts⟩⟩,ty,pos,after,guard⟩
  |.invoke r name=>yJ P T σ r name args rZ
 |.makeFunc fn ⟨fi⟩ ⟨ca⟩=>AV σ fn fi ca
 |op=>uB P σ ⟨dst,op,ty,pos,after,guard⟩
def Hq (P:Program) (T:ez R) (σ:SS R) (o:Oper):Option Bool :=
 match o with
 |⟨_,.call ⟨.value f,⟨args⟩,_⟩,_,_,_,_⟩=>NB T σ f args
 |⟨_,.call ⟨.invoke r name,⟨args⟩,_⟩,_,_,_,_⟩=>IM P T σ r name args
 |_=>aj
theorem UD (hT:cL D P T) {σ:SS R} {o:Oper} {x:Out R} {b:Bool} (hb:goes (Hq P T σ o) b) (h:Mb P T σ o b=aa x):mb D P o σ x:=by
 obtain⟨dst,op,ty,pos,after,guard⟩:=o;unfold Mb at h;simp only at h;split at h
 ·exact LV (dK rfl) h
 ·exact LV (eV rfl) h
 ·exact aap rfl h
 ·exact Zn rfl h
 ·exact adl rfl h
 ·rename_i t ps;exact ZO (parts:=⟨ps⟩) rfl h
 ·rename_i t n ps;(split at h;{ rename_i x' hx;injection h with h;subst h;exact PA (parts:=⟨ps⟩) rfl hx };{ exact O6 (parts:=⟨ps⟩) rfl h })
 ·exact ZF hT rfl h
 ·split at h
  ·exact Zm rfl rfl h
  ·cases h
 ·exact adL rfl h
 ·exact aeA hT rfl h
 ·split at h
  ·exact ad' rfl h
  ·exact w5 h
 ·exact YN rfl h
 ·exact Qq rfl h
 ·exact YH rfl h
 ·split at h
  ·exact SG rfl h
  ·split at h
   ·exact Oq rfl h
   ·exact Rm rfl h
 ·split at h
  ·exact SM rfl h
  ·exact w5 h
 ·exact UW rfl h
 ·exact Q' rfl h
 ·rename_i callee args ts;split at h
  ·exact acu hT (args:=⟨args⟩) rfl hb h
  ·split at h
   ·exact WC rfl h
   ·split at h
    ·exact aeo rfl h
    ·exact w5 h
   ·exact w5 h
  ·exact WJ hT (args:=⟨args⟩) rfl hb h
 ·exact Sy (fi:=⟨_⟩) (ca:=⟨_⟩) rfl h
 ·exact w5 h
def ye (σ:SS R) (d:Option Tmp) (v:Value) (lit:Option Bool) (hp:Hp R):SS R :=
 match d with
 |none=>⟨σ.tm,σ.li,hp⟩
 |some t=>⟨σ.tm.set t (aa v),(match lit with
  |some b=>[(t,b)]
  |none=>[])++σ.li.filter (fun p=>!fb p.1 t),hp⟩
structure M (D:fH R) (C:Ctx) (σ:SS R) (a:Act) (w:World):Prop where
 defers:a.defers=[]
 li:LI σ.li σ.tm
 ex:∃ ρ ft,(∀ i,i<C.n0->ρ i=C.e0 i)/\TM ρ σ.hp.length σ.tm a/\HM D C ρ ft σ.hp w
theorem HC (σ:SS R) (d:Option Tmp) (v:Value) (lit:Option Bool) (hp:Hp R):(ye σ d v lit hp).hp=hp:=by cases d<;>rfl
theorem Yg {σ:SS R} {d:Option Tmp} {v:Value} {lit:Option Bool} {hp:Hp R} (hl:LI σ.li σ.tm) (hv:∀ b,lit=aa b->v=.bool b) (hd:∀ t,d=aa t->lit≠aj->t<σ.tm.length):LI (ye σ d v lit hp).li (ye σ d v lit hp).tm:=by
 cases d with
 |none=>exact hl
 |some t =>
  intro u b hu;simp only[ye] at hu ⊢;rcases b5.1 hu with hu|hu
  ·cases lit with
   |none=>simp at hu
   |some c =>
    simp only[List.mem_singleton,Prod.mk.injEq] at hu;obtain⟨rfl,rfl⟩:=hu;rw[hv _ rfl,jX (hd _ rfl (by simp))]
  ·obtain⟨h1,h2⟩:=pc.1 hu;have kv:u≠t:=fun e=>by subst e;simp at h2
   rw[kt (fun e=>kv e.symm)]
   exact hl u b h1
theorem Xl {σ:SS R} {d:Option Tmp} {v:Value} {lit:Option Bool} {hp:Hp R} {a:Act} {gv:Env} (ht:TM ρ σ.hp.length σ.tm a) (qD:∀ i,i<σ.hp.length->gv i=ρ i) (hlen:σ.hp.length≤hp.length) (hi:fp hp.length v=ao) :
  TM gv (ye σ d v lit hp).hp.length (ye σ d v lit hp).tm (a.put d (bT gv v)):=by
 have old:∀ (t:Nat) (u:Value),σ.tm[t]?=aa (aa u)->a.tmps[t]?=aa (bT gv u)/\fp hp.length u=ao:=fun t u hu=>by
  obtain⟨h1,h2⟩:=ht.val t u hu;exact⟨by rw[h1,nh (n:=σ.hp.length) (fun i hi=>(qD i hi)) u h2],BF hlen u h2⟩
 rw[HC];cases d with
 |none=>exact⟨ht.size,old⟩
 |some t =>
  refine⟨by simp[ye,B7,ht.size],fun u x hx=>?_⟩
  simp only[ye,B7] at hx ⊢
  by_cases he:t=u
  ·subst he;have hl:t<σ.tm.length:=by have:=(aU.1 hx).1;simpa using this
   rw[jX hl] at hx;injection hx with hx;injection hx with hx
   subst hx;rw[uN];simp[ht.size,hl,hi]
  ·rw[kt he] at hx;rw[Array.getElem?_setIfInBounds_ne he];exact old u x hx
def tidy (σ:SS R) (d:Option Tmp) (x:Out R):Bool :=
 fp x.hp.length x.v&&(match d with
  |some t=>(match x.lit with
   |some _=>gR t σ.tm.length
   |none=>ao)
  |none=>ao)
theorem M.step {σ:SS R} {o:Oper} {x:Out R} {a:Act} {K:Act->World->Prop} {Q:Exit->Act->World->Prop} (hm:M D C σ a w) (ho:mb D P o σ x) (ht:tidy σ o.dst x=ao) (hv:x.vc)
  (hK:∀ a' w',M D C (ye σ o.dst x.v x.lit x.hp) a' w'->K a' w') (hn:C.n0≤σ.hp.length):o.wp P a w K Q:=by
 obtain⟨ρ,ft,h0,h1,h2⟩:=hm.ex;simp only[tidy,aL] at ht;refine ho.run C ρ ft a w K Q h1 hm.li h2 hv fun gv ku w' qD mG=>hK _ _ ⟨?_,Yg hm.li (ho.lit hm.li) ?_,gv,ku,fun i hi=>(qD i (by omega)).trans (h0 i hi),Xl h1 qD ho.len ht.1,by rw[HC];exact mG⟩
 ·cases o.dst<;>exact hm.defers
 ·intro t hd hl;have h3:=ht.2;rw[hd] at h3;simp only at h3;cases hx:x.lit with
  |none=>exact absurd hx hl
  |some b=>rw[hx] at h3;simpa [fe] using h3
theorem M.undef {σ:SS R} {d:Option Tmp} {a:Act} (hm:M D C σ a w):M D C (ye σ d undef aj σ.hp) (a.put d undef) w:=by
 obtain⟨ρ,ft,h0,h1,h2⟩:=hm.ex;have hu:bT ρ vy=vy:=by simp[vy,bT,nC]
 refine⟨?_,Yg hm.li (fun b hb=>by cases hb) (fun t _ h=>absurd rfl h),ρ,ft,h0,?_,by rw[HC];exact h2⟩
 ·cases d<;>exact hm.defers
 ·have:=Xl (d:=d) (v:=vy) (lit:=aj) (hp:=σ.hp) h1 (fun _ _=>rfl) (a_ _) (by simp[vy,fp,ix])
  rw[hu] at this;exact this
def assume (σ:SS R) (t:Nat) (b:Bool):SS R:=⟨σ.tm.set t (aa (.bool b)),(t,b)::σ.li.filter (fun p=>!fb p.1 t),σ.hp⟩
theorem M.assume {σ:SS R} {a:Act} {t:Nat} {b:Bool} (hm:M D C σ a w) (ht:σ.tm[t]?=aa (aa (.bool b))):M D C (Rx.assume σ t b) a w:=by
 have hl:t<σ.tm.length:=(aU.1 ht).1;have hs:σ.tm.set t (aa (.bool b))=σ.tm:=by
  apply nV;intro u
  by_cases he:t=u
  ·subst he;rw[jX hl,ht]
  ·rw[kt he]
 obtain⟨ρ,ft,h0,h1,h2⟩:=hm.ex;refine⟨hm.defers,?_,ρ,ft,h0,?_,h2⟩
 ·intro u c hu;simp only[Rx.assume] at hu ⊢;rw[hs];rcases bP.1 hu with hu|hu
  ·injection hu with e1 e2
   subst e1;subst e2;exact ht
  ·exact hm.li u c (pc.1 hu).1
 ·simp only[Rx.assume];rw[hs];exact h1
end
end Rx
namespace Rx
inductive Tr
 |leaf (i:Nat)
 |node (c:Nat) (l r:Tr)
def fT {β:Sort _}:Tr->Nat->(Nat->β)->β
 |.leaf i,n,k=>match fb n i with
  |true=>k i
  |false=>k n
 |.node c l r,n,k=>match gR n c with
  |true=>fT l n k
  |false=>fT r n k
theorem alq {β:Sort _} (t:Tr) (n:Nat) (k:Nat->β):fT t n k=k n:=by
 induction t with
 |leaf i =>
  simp only[fT];split
  ·rename_i h;rw[cP h]
  ·rfl
 |node c l r hl hr =>
  simp only[fT];split
  ·exact hl
  ·exact hr
def trs:Tr:=(.node 64 (.node 32 (.node 16 (.node 8 (.node 4 (.node 2 (.node 1 (.leaf 0) (.leaf 1)) (.node 3 (.leaf 2) (.leaf 3))) (.node 6 (.node 5 (.leaf 4) (.leaf 5)) (.node 7 (.leaf 6) (.leaf 7)))) (.node 12 (.node 10 (.node 9 (.leaf 8) (.leaf 9)) (.node 11 (.leaf 10) (.leaf 11))) (.node 14 (.node 13 (.leaf 12) (.leaf 13)) (.node 15 (.leaf 14) (.leaf 15))))) (.node 24 (.node 20 (.node 18 (.node 17 (.leaf 16) (.leaf 17)) (.node 19 (.leaf 18) (.leaf 19))) (.node 22 (.node 21 (.leaf 20) (.leaf 21)) (.node 23 (.leaf 22) (.leaf 23)))) (.node 28 (.node 26 (.node 25 (.leaf 24) (.leaf 25)) (.node 27 (.leaf 26) (.leaf 27))) (.node 30 (.node 29 (.leaf 28) (.leaf 29)) (.node 31 (.leaf 30) (.leaf 31)))))) (.node 48 (.node 40 (.node 36 (.node 34 (.node 33 (.leaf 32) (.leaf 33)) (.node 35 (.leaf 34) (.leaf 35))) (.node 38 (.node 37 (.leaf 36) (.leaf 37)) (.node 39 (.leaf 38) (.leaf 39)))) (.node 44 (.node 42 (.node 41 (.leaf 40) (.leaf 41)) (.node 43 (.leaf 42) (.leaf 43))) (.node 46 (.node 45 (.leaf 44) (.leaf 45)) (.node 47 (.leaf 46) (.leaf 47))))) (.node 56 (.node 52 (.node 50 (.node 49 (.leaf 48) (.leaf 49)) (.node 51 (.leaf 50) (.leaf 51))) (.node 54 (.node 53 (.leaf 52) (.leaf 53)) (.node 55 (.leaf 54) (.leaf 55)))) (.node 60 (.node 58 (.node 57 (.leaf 56) (.leaf 57)) (.node 59 (.leaf 58) (.leaf 59))) (.node 62 (.node 61 (.leaf 60) (.leaf 61)) (.node 63 (.leaf 62) (.leaf 63))))))) (.node 96 (.node 80 (.node 72 (.node 68 (.node 66 (.node 65 (.leaf 64) (.leaf 65)) (.node 67 (.leaf 66) (.leaf 67))) (.node 70 (.node 69 (.leaf 68) (.leaf 69)) (.node 71 (.leaf 70) (.leaf 71)))) (.node 76 (.node 74 (.node 73 (.leaf 72) (.leaf 73)) (.node 75 (.leaf 74) (.leaf 75))) (.node 78 (.node 77 (.leaf 76) (.leaf 77)) (.node 79 (.leaf 78) (.leaf 79))))) (.node 88 (.node 84 (.node 82 (.node 81 (.leaf 80) (.leaf 81)) (.node 83 (.leaf 82) (.leaf 83))) (.node 86 (.node 85 (.leaf 84) (.leaf 85)) (.node 87 (.leaf 86) (.leaf 87)))) (.node 92 (.node 90 (.node 89 (.leaf 88) (.leaf 89)) (.node 91 (.leaf 90) (.leaf 91))) (.node 94 (.node 93 (.leaf 92) (.leaf 93)) (.node 95 (.leaf 94) (.leaf 95)))))) (.node 112 (.node 104 (.node 100 (.node 98 (.node 97 (.leaf 96) (.leaf 97)) (.node 99 (.leaf 98) (.leaf 99))) (.node 102 (.node 101 (.leaf 100) (.leaf 101)) (.node 103 (.leaf 102) (.leaf 103)))) (.node 108 (.node 106 (.node 105 (.leaf 104) (.leaf 105)) (.node 107 (.leaf 106) (.leaf 107))) (.node 110 (.node 109 (.leaf 108) (.leaf 109)) (.node 111 (.leaf 110) (.leaf 111))))) (.node 120 (.node 116 (.node 114 (.node 113 (.leaf 112) (.leaf 113)) (.node 115 (.leaf 114) (.leaf 115))) (.node 118 (.node 117 (.leaf 116) (.leaf 117)) (.node 119 (.leaf 118) (.leaf 119)))) (.node 124 (.node 122 (.node 121 (.leaf 120) (.leaf 121)) (.node 123 (.leaf 122) (.leaf 123))) (.node 126 (.node 125 (.leaf 124) (.leaf 125)) (.node 127 (.leaf 126) (.leaf 127))))))))
def fN {β:Sort _} (n:Nat) (k:Nat->β):β:=fT trs n k
theorem HU {β:Sort _} (n:Nat) (k:Nat->β):fN n k=k n:=alq _ _ _
def fB {β:Sort _} (b:Bool) (k:Bool->β):β :=
 match b with
 |true=>k ao
 |false=>k an
theorem ae8 {β:Sort _} (b:Bool) (k:Bool->β):fB b k=k b:=by cases b<;>rfl
def fQ {β:Sort _} (q:Nat) (k:Nat->β):β :=
 fN (q%1000) fun f=>fN (q%1000000 / 1000) fun s=>fN (q / 1000000) fun t=>k (f+(1000*s+1000000*t))
theorem alk {β:Sort _} (q:Nat) (k:Nat->β):fQ q k=k q:=by
 unfold fQ;rw[HU,HU,HU]
 congr 1
 omega
def fA {β:Sort _} (a:Addr) (k:Addr->β):β :=
 match a with
 |⟨b,o,aj⟩=>fN b fun b=>k ⟨b,o,aj⟩
 |⟨b,o,aa q⟩=>fN b fun b=>fQ q fun q=>k ⟨b,o,aa q⟩
theorem alK {β:Sort _} (a:Addr) (k:Addr->β):fA a k=k a:=by
 obtain⟨b,o,s⟩:=a;cases s with
 |none=>simp only[fA,HU]
 |some q=>simp only[fA,HU,alk]
def fV0 {β:Sort _} (v:Value) (k:Value->β):β :=
 match v with
 |.pointer (aa a)=>fA a fun a=>k (.pointer (aa a))
 |.slice (aa a) n c=>fA a fun a=>k (.slice (aa a) n c)
 |.slice aj n c=>k (.slice aj n c)
 |.pointer aj=>k (.pointer aj)
 |.int t n=>k (.int t n)
 |.bool b=>k (.bool b)
 |.string s=>k (.string s)
 |v=>k v
theorem acN {β:Sort _} (v:Value) (k:Value->β):fV0 v k=k v:=by
 unfold fV0;split<;>simp only[alK]
def XJ {β:Sort _}:List Value->(List Value->β)->β
 |[],k=>k []
 |v::l,k=>fV0 v fun v=>XJ l fun l=>k (v::l)
theorem Uy {β:Sort _} (l:List Value) (k:List Value->β):XJ l k=k l:=by
 induction l generalizing k with
 |nil=>rfl
 |cons v l ih=>simp only[XJ,acN,ih]
def fV {β:Sort _} (v:Value) (k:Value->β):β :=
 match v with
 |.agg ⟨l⟩=>XJ l fun l=>k (.agg ⟨l⟩)
 |.tuple ⟨l⟩=>XJ l fun l=>k (.tuple ⟨l⟩)
 |v=>fV0 v k
theorem YQ {β:Sort _} (v:Value) (k:Value->β):fV v k=k v:=by
 unfold fV;split
 ·rw[Uy]
 ·rw[Uy]
 ·rw[acN]
def fVl {β:Sort _}:List Value->(List Value->β)->β
 |[],k=>k []
 |v::l,k=>fV v fun v=>fVl l fun l=>k (v::l)
theorem aj6 {β:Sort _} (l:List Value) (k:List Value->β):fVl l k=k l:=by
 induction l generalizing k with
 |nil=>rfl
 |cons v l ih=>simp only[fVl,YQ,ih]
def XZ {β:Sort _}:List (Option Value)->(List (Option Value)->β)->β
 |[],k=>k []
 |none::l,k=>XZ l fun l=>k (aj::l)
 |some v::l,k=>fV v fun v=>XZ l fun l=>k (aa v::l)
theorem aaH {β:Sort _} (l:List (Option Value)) (k:List (Option Value)->β):XZ l k=k l:=by
 induction l generalizing k with
 |nil=>rfl
 |cons v l ih=>cases v<;>simp only[XZ,YQ,ih]
def fLi {β:Sort _}:List (Nat×Bool)->(List (Nat×Bool)->β)->β
 |[],k=>k []
 |(t,b)::l,k=>fB b fun b=>fLi l fun l=>k ((t,b)::l)
theorem abY {β:Sort _} (l:List (Nat×Bool)) (k:List (Nat×Bool)->β):fLi l k=k l:=by
 induction l generalizing k with
 |nil=>rfl
 |cons v l ih=>obtain⟨t,b⟩:=v;simp only[fLi,ae8,ih]
def VE {β:Sort _}:List Nat->(List Nat->β)->β
 |[],k=>k []
 |n::l,k=>fN n fun n=>VE l fun l=>k (n::l)
theorem Wg {β:Sort _} (l:List Nat) (k:List Nat->β):VE l k=k l:=by
 induction l generalizing k with
 |nil=>rfl
 |cons v l ih=>simp only[VE,HU,ih]
def fCs {β:Sort _}:List aX->(List aX->β)->β
 |[],k=>k []
 |⟨i,b,s⟩::l,k=>fCs l fun l=>k (⟨i,b,s⟩::l)
theorem ajU {β:Sort _} (l:List aX) (k:List aX->β):fCs l k=k l:=by
 induction l generalizing k with
 |nil=>rfl
 |cons v l ih=>obtain⟨i,b,s⟩:=v;simp only[fCs,ih]
def Y6 {β:Sort _} (r:Row) (k:Row->β):β :=
 match r with
 |⟨tm,n,cs⟩=>XJ tm fun tm=>fCs cs fun cs=>k ⟨tm,n,cs⟩
theorem agP {β:Sort _} (r:Row) (k:Row->β):Y6 r k=k r:=by
 obtain⟨tm,n,cs⟩:=r;simp only[Y6,Uy,ajU]
section
variable {R:Type}
def fSB {β:Sort _} (b:SB R) (k:SB R->β):β :=
 match b with
 |.inl (t,cs)=>fN t fun t=>fVl cs fun cs=>k (.inl (t,cs))
 |.inr (.inl (t,r))=>fN t fun t=>Y6 r fun r=>k (.inr (.inl (t,r)))
 |.inr (.inr (.inl r))=>Y6 r fun r=>k (.inr (.inr (.inl r)))
 |.inr (.inr (.inr x))=>k (.inr (.inr (.inr x)))
theorem aka {β:Sort _} (b:SB R) (k:SB R->β):fSB b k=k b:=by
 rcases b with⟨t,cs⟩|⟨t,r⟩|r|x<;>simp only[fSB,aj6,agP,HU]
def Mx {β:Sort _}:Hp R->(Hp R->β)->β
 |[],k=>k []
 |none::l,k=>Mx l fun l=>k (aj::l)
 |some b::l,k=>fSB b fun b=>Mx l fun l=>k (aa b::l)
theorem JP {β:Sort _} (l:Hp R) (k:Hp R->β):Mx l k=k l:=by
 induction l generalizing k with
 |nil=>rfl
 |cons v l ih=>cases v<;>simp only[Mx,aka,ih]
def Jf {β:Sort _} (σ:SS R) (k:SS R->β):β :=
 match σ with
 |⟨tm,li,hp⟩=>XZ tm fun tm=>fLi li fun li=>Mx hp fun hp=>k ⟨tm,li,hp⟩
theorem Km {β:Sort _} (σ:SS R) (k:SS R->β):Jf σ k=k σ:=by
 obtain⟨tm,li,hp⟩:=σ;simp only[Jf,aaH,abY,JP]
end
end Rx
namespace Rx
open Go.RowKit State
section
variable {R:Type} {D:fH R} {P:Program} {T:ez R} {C:Ctx} {w w':World}
def Y2 (σ:SS R) (o:Oper):Bool :=
 match o with
 |⟨dst,op,ty,pos,after,guard⟩ =>
 match op with
 |.move _|.assign _|.pick _ _ _|.alloc _|.box _ _|.build _ _|.buildSlice _ _ _|.nilCheck _|.unOp _ _ _|.fieldAddr _ _ _|.field _ _ _|.extract _ _=>ao
 |.load _ y|.store _ y _=>match ev σ.tm y with
  |some (.pointer (aa ⟨_,_,aj⟩))=>ao
  |_=>an
 |.binOp op _ y z _=>match XS op (ev σ.tm y) (ev σ.tm z) with
  |1=>an
  |2=>an
  |_=>ao
 |.call ⟨.builtin b,_,_⟩=>match b with
  |.append=>an
  |_=>ao
 |_=>an
theorem FU {σ:SS R} {o:Oper} {x:Out R} (h:uB P σ o=aa x):x.vc:=by
 unfold uB at h;split at h
 ·split at h
  ·split at h
   ·injection h with h;subst h;trivial
   ·cases h
  ·cases h
 ·cases h
theorem zR {σ:SS R} {y:Operand} {x:Out R} (h:vU σ y=aa x):x.vc:=by
 unfold vU at h;split at h
 ·injection h with h;subst h;trivial
 ·cases h
theorem L8 {σ:SS R} {t:TypeId} {cs:List Value} {x:Out R} (h:wF σ t cs=aa x):x.vc:=by
 unfold wF at h;injection h with h;subst h;trivial
theorem Je {σ:SS R} {t:TypeId} {x:Out R} (h:vp P σ t=aa x):x.vc:=by
 unfold vp at h;split at h
 ·split at h
  ·injection h with h;subst h;trivial
  ·cases h
 ·cases h
theorem Yv {σ:SS R} {o:Oper} {x:Out R} {rZ:Bool} (h:Mb P T σ o rZ=aa x) (he:Y2 σ o=ao):x.vc:=by
 obtain⟨dst,op,ty,pos,after,guard⟩:=o;unfold Mb at h;unfold Y2 at he;cases op<;>simp only at h he<;>try (cases he)
 case move y =>
  unfold wK at h;split at h
  ·split at h
   ·rename_i hx;injection h with h;subst h;exact Je hx
   ·exact zR h
  ·exact zR h
 case assign y =>
  unfold wK at h;split at h
  ·split at h
   ·rename_i hx;injection h with h;subst h;exact Je hx
   ·exact zR h
  ·exact zR h
 case pick c y z =>
  unfold GW at h;split at h
  ·exact zR h
  ·exact zR h
  ·split at h
   ·injection h with h;subst h;trivial
   ·cases h
 case alloc t =>
  unfold DW at h;split at h
  ·split at h
   ·split at h
    ·exact L8 h
    ·cases h
   ·cases h
  ·cases h
 case box t y =>
  unfold Ly at h;split at h
  ·exact L8 h
  ·cases h
 case build t ps =>
  obtain⟨ps⟩:=ps;simp only at h;unfold DY at h;split at h
  ·split at h
   ·split at h
    ·split at h
     ·injection h with h;subst h;trivial
     ·cases h
    ·cases h
   ·cases h
  ·split at h
   ·split at h
    ·split at h
     ·injection h with h;subst h;trivial
     ·cases h
    ·cases h
   ·cases h
  ·cases h
 case buildSlice t n ps =>
  obtain⟨ps⟩:=ps;simp only at h;split at h
  ·rename_i hx;injection h with h
   subst h;unfold ug at hx;split at hx
   ·split at hx
    ·split at hx
     ·split at hx
      ·injection hx with hx;subst hx;trivial
      ·cases hx
     ·cases hx
    ·cases hx
   ·cases hx
  ·unfold uE at h
   repeat' split at h
   all_goals first
    |(injection h with h;subst h;trivial)
    |cases h
 case load t y =>
  split at he
  ·rename_i i e hy;unfold DU at h;rw[hy] at h;simp only at h;split at h
   ·rename_i x' h';injection h with h
    subst h;unfold As at h';rw[hy] at h';simp only at h';split at h'
    ·split at h'
     ·split at h'
      ·injection h' with h';subst h';trivial
      ·cases h'
     ·split at h'
      ·injection h' with h';subst h';trivial
      ·cases h'
     ·cases h'
    ·cases h'
   ·repeat' split at h
    all_goals first
     |(injection h with h;subst h;trivial)
     |cases h
  ·cases he
 case store t y z =>
  split at he
  ·rename_i i e hy;split at h
   ·unfold DO at h;rw[hy] at h;cases hz:ev σ.tm z with
    |none=>rw[hz] at h;cases h
    |some v =>
     rw[hz] at h;simp only at h;split at h
     ·split at h
      ·injection h with h;subst h;trivial
      ·cases h
     ·cases h
   ·cases h
  ·cases he
 case nilCheck y =>
  unfold LB at h;split at h
  ·injection h with h;subst h;trivial
  ·injection h with h;subst h;trivial
  ·cases h
 case binOp b t y z u =>
  unfold K' at h;split at he
  ·cases he
  ·cases he
  ·rename_i n1 n2;split at h
   ·rename_i hk;exact absurd hk n1
   ·rename_i hk;exact absurd hk n2
   ·have key:∀ neg,zO P σ neg t y z=aa x->x.vc:=fun neg h=>by
     unfold zO at h;split at h
     ·split at h
      ·injection h with h;subst h;trivial
      ·cases h
     ·cases h
    split at h
    ·exact key _ h
    ·exact key _ h
    ·cases h
   ·have key:∀ neg,zp P σ neg t y z=aa x->x.vc:=fun neg h=>by
     unfold zp at h;split at h
     ·split at h
      ·split at h
       ·split at h
        ·injection h with h;subst h;trivial
        ·cases h
       ·cases h
      ·cases h
     ·cases h
    split at h
    ·exact key _ h
    ·exact key _ h
    ·cases h
   ·have key:∀ neg,zB P σ (OG T) neg t y z=aa x->x.vc:=fun neg h=>by
     unfold zB at h
     repeat' split at h
     all_goals first
      |(injection h with h;subst h;trivial)
      |cases h
    split at h
    ·exact key _ h
    ·exact key _ h
    ·cases h
   ·exact FU h
 case unOp u t y =>
  split at h
  ·unfold Lz at h;split at h
   ·injection h with h;subst h;trivial
   ·cases h
  ·exact FU h
 case fieldAddr t y k =>
  unfold we at h;split at h
  ·split at h
   ·split at h
    ·split at h
     ·split at h
      ·cases h
      ·split at h
       ·injection h with h;subst h;trivial
       ·split at h
        ·injection h with h;subst h;trivial
        ·cases h
     ·cases h
    ·cases h
   ·cases h
  ·cases h
 case field t y k =>
  unfold DX at h;split at h
  ·split at h
   ·split at h
    ·split at h
     ·split at h
      ·injection h with h;subst h;trivial
      ·cases h
     ·injection h with h;subst h;trivial
     ·cases h
    ·cases h
   ·cases h
  ·cases h
 case extract y k =>
  unfold zI at h;split at h
  ·split at h
   ·injection h with h;subst h;trivial
   ·cases h
  ·cases h
 case call c =>
  obtain⟨callee,args,ts⟩:=c;obtain⟨args⟩:=args;obtain⟨ts⟩:=ts;cases callee<;>simp only at h he<;>try (cases he)
  rename_i b;split at h
  ·simp at he
  ·split at h
   ·unfold Lf at h;split at h
    ·injection h with h;subst h;trivial
    ·cases h
   ·exact FU h
  ·exact FU h
structure Vc (p:Prop):Prop where
 out:p
structure aW (p:Prop):Prop where
 out:p
def Zo (e:Bool) (p q:Prop):Prop :=
 match e with
 |true=>q
 |false=>Vc p/\q
structure oh (why:Nat):Prop where
 out:False
theorem oh.elim {n:Nat} {p:Prop} (h:oh n):p:=h.out.elim
def K0 (v:Value):Bool :=
 match v with
 |.tuple ⟨[]⟩=>ao
 |_=>an
theorem Oi {v:Value} (h:K0 v=ao):v=vy:=by
 unfold K0 at h;split at h
 ·rfl
 ·cases h
def Om (P:Program) (T:ez R) (σ:SS R) (o:Oper) (k:SS R->Prop) (rZ:Bool):Prop :=
 match Mb P T σ o rZ with
 |some x=>if tidy σ o.dst x then Zo (Y2 σ o) x.vc (Jf (ye σ o.dst x.v x.lit x.hp) k) else oh 1
 |none=>oh 2
def Qw (P:Program) (T:ez R) (σ:SS R) (o:Oper) (k:SS R->Prop):Prop :=
 match Hq P T σ o with
 |none=>Om P T σ o k ao
 |some b=>(b=ao->Om P T σ o k ao)/\(b=an->Om P T σ o k an)
def K7 (ops:List Oper) (j:Nat):Option Tmp :=
 match ops[j]? with
 |some o=>o.dst
 |none=>aj
def vR (P:Program) (T:ez R) (ops:List Oper):List Oper->SS R->(SS R->Prop)->Prop
 |[],σ,k=>k σ
 |o::r,σ,k =>
  match o.guard with
  |none=>Qw P T σ o fun oy=>vR P T ops r oy k
  |some (j,want) =>
   match K7 ops j with
   |none=>oh 3
   |some t =>
    match look σ.li t with
    |some b=>if(b==want)=ao then Qw P T σ o fun oy=>vR P T ops r oy k else Jf (ye σ o.dst undef aj σ.hp) fun σ=>vR P T ops r σ k
    |none =>
     match σ.tm[t]? with
     |some (aa (.bool b)) =>
      (b=want->Jf (assume σ t want) fun σ=>Qw P T σ o fun oy=>vR P T ops r oy k) /\
      (b = !want->Jf (ye (assume σ t (!want)) o.dst undef aj σ.hp) fun σ=>vR P T ops r σ k)
     |some (aa v) =>
      match K0 v with
      |true=>Jf (ye σ o.dst undef aj σ.hp) fun σ=>vR P T ops r σ k
      |false=>oh 4
     |_=>oh 4
theorem YY {σ:SS R} {a:Act} {t:Nat} {b:Bool} (hm:M D C σ a w) (h:σ.tm[t]?=aa (aa (.bool b))):a.tmps[t]?=aa (.bool b):=by
 obtain⟨ρ,ft,_,h1,_⟩:=hm.ex;have:=(h1.val t _ h).1
 simpa using this
theorem IE {ops:List Oper} {j t:Nat} {a:Act} {b:Bool} (h:K7 ops j=aa t) (ha:a.tmps[t]?=aa (.bool b)):yielded ops.toArray a.tmps j=aa b:=by
 unfold K7 at h;unfold yielded;split at h
 ·rename_i o ho;simp[ho,h,ha]
 ·cases h
theorem Zc {ops:List Oper} {σ:SS R} {j t:Nat} {a:Act} (hm:M D C σ a w) (h:K7 ops j=aa t) (ht:σ.tm[t]?=aa (aa undef)):yielded ops.toArray a.tmps j=aj:=by
 have ha:a.tmps[t]?=aa undef:=by
  obtain⟨ρ,ft,_,h1,_⟩:=hm.ex;have:=(h1.val t _ ht).1
  simpa [undef,bT,nC] using this
 unfold K7 at h;unfold yielded;split at h
 ·rename_i o ho;simp[ho,h,ha,undef]
 ·cases h
theorem agR (hT:cL D P T) {σ:SS R} {o:Oper} {k:SS R->Prop} {a:Act} {K:Act->World->Prop} {Q:Exit->Act->World->Prop} (h:Qw P T σ o k) (hm:M D C σ a w) (hn:C.n0≤σ.hp.length)
  (hK:∀ oy a' w',k oy->σ.hp.length≤oy.hp.length->M D C oy a' w'->K a' w'):o.wp P a w K Q:=by
 have one:∀ b,goes (Hq P T σ o) b->Om P T σ o k b->o.wp P a w K Q:=by
  intro b hb h;unfold Om at h;split at h
  ·rename_i x hx;split at h
   ·rename_i ht;have um:=UD hT hb hx;have:x.vc/\k (ye σ o.dst x.v x.lit x.hp):=by
     rw[Km] at h;unfold Zo at h;split at h
     ·rename_i he;exact⟨Yv hx he,h⟩
     ·exact⟨h.1.out,h.2⟩
    exact hm.step um ht this.1 (fun a' w' mG=>hK _ a' w' this.2 (by rw[HC];exact um.len) mG) hn
   ·exact h.elim
  ·exact h.elim
 unfold Qw at h;split at h
 ·rename_i hf;exact one ao (dK ⟨hf,rfl⟩) h
 ·rename_i b hf;cases b with
  |true=>exact one ao (eV hf) (h.1 rfl)
  |false=>exact one an (eV hf) (h.2 rfl)
theorem FI (hT:cL D P T) {ops:List Oper} {Q:Exit->Act->World->Prop}:∀ (rest:List Oper) {σ:SS R} {k:SS R->Prop} {a:Act} {w:World},vR P T ops rest σ k->M D C σ a w->C.n0≤σ.hp.length ->
  (∀ oy a' w',k oy->C.n0≤oy.hp.length->M D C oy a' w'->Q .normal a' w')->wpList P ops.toArray Q rest a w
 |[],σ,k,a,w,h,hm,hn,hK=>hK σ a w h hn hm
 |o::r,σ,k,a,w,h,hm,hn,hK=>by
  simp only[vR,Km] at h;have run:∀ {σ:SS R},kB o (yielded ops.toArray a.tmps)=ao->M D C σ a w->C.n0≤σ.hp.length->(Qw P T σ o fun oy=>vR P T ops r oy k)->wpList P ops.toArray Q (o::r) a w:=by
   intro σ hw hm hn h;unfold wpList;rw[if_pos hw];exact dK (agR hT h hm hn fun oy a' w' h' Bo mG=>FI hT r h' mG (jq hn Bo) hK)
  have skip:∀ {σ:SS R},kB o (yielded ops.toArray a.tmps)=an->M D C σ a w->C.n0≤σ.hp.length->vR P T ops r (ye σ o.dst undef aj σ.hp) k->wpList P ops.toArray Q (o::r) a w:=by
   intro σ hw hm hn h;unfold wpList;rw[if_neg (by simp[hw])]
   exact FI hT r h hm.undef (by rw[HC];exact hn) hK
  split at h
  ·rename_i hg;exact run (by simp[kB,hg]) hm hn h
  ·rename_i j want hg;split at h
   ·exact h.elim
   ·rename_i t hd;split at h
    ·rename_i b hl;have hy:=IE hd (YY hm (hm.li t b (M3 hl)));split at h
     ·rename_i hb;exact run (by simp[kB,hg,hy];simpa using hb) hm hn h
     ·rename_i hb;exact skip (by simp[kB,hg,hy];simpa using hb) hm hn h
    ·split at h
     ·rename_i b hb;have hy:=IE hd (YY hm hb)
      by_cases he:b=want
      ·subst he;exact run (by simp[kB,hg,hy]) (hm.assume hb) (by simpa [assume] using hn) (h.1 rfl)
      ·have he2:b = !want:=by cases b<;>cases want<;>simp_all
       have h2:=h.2 he2;rw[he2] at hb;exact skip (by simp[kB,hg,hy];exact he) (hm.assume hb) (by simpa [assume] using hn) h2
     ·rename_i v ya hb;split at h
      ·rename_i hu;rw[Oi hu] at hb;have hy:=Zc hm hd hb;have e:kB o (yielded ops.toArray a.tmps)=((aj:Option Bool)==aa want):=by simp only[kB,hg,hy]
       exact skip (by rw[e];cases want<;>rfl) hm hn h
      ·exact h.elim
     ·exact h.elim
def iV:Code->List Nat->Option Code
 |c,[]=>aa c
 |.seq a _,0::p=>iV a p
 |.seq _ b,1::p=>iV b p
 |.cond _ a _,0::p=>iV a p
 |.cond _ _ b,1::p=>iV b p
 |.block _ c,0::p=>iV c p
 |.loop c,0::p=>iV c p
 |_,_=>aj
theorem ob:∀ (p:List Nat) (c d:Code) (q:List Nat),iV c p=aa d->iV c (p++q)=iV d q
 |[],c,d,q,h=>by
  cases c<;>simp only[iV] at h<;>(injection h with h;subst h;rfl)
 |i::p,c,d,q,h=>by
  cases c<;>simp only[List.cons_append]<;>(try (cases i<;>simp only[iV] at h<;>cases h))
  ·rename_i a b;rcases i with _|_|i
   ·exact ob p a d q h
   ·exact ob p b d q h
   ·simp[iV] at h
  ·rename_i x a b;rcases i with _|_|i
   ·exact ob p a d q h
   ·exact ob p b d q h
   ·simp[iV] at h
  ·rename_i id a;rcases i with _|i
   ·exact ob p a d q h
   ·simp[iV] at h
  ·rename_i a;rcases i with _|i
   ·exact ob p a d q h
   ·simp[iV] at h
abbrev It (R:Type):=(List Nat) ⊕ Nat ⊕ (SS R->Prop)
def pB (D:fH R) (P:Program) (C:Ctx) (root:Code) (k:Exit->SS R->Prop):List (It R)->Exit->Act->World->Prop
 |[],e,a,w=>∃ σ,k e σ/\M D C σ a w
 |.inl p::r,e,a,w=>match e with
  |.normal=>match iV root p with
   |some c=>c.wp P (pB D P C root k r) a w
   |none=>False
  |e=>pB D P C root k r e a w
 |.inr (.inl id)::r,e,a,w=>KP id (pB D P C root k r) e a w
 |.inr (.inr J)::r,e,a,w=>match e with
  |.normal=>∃ σ,J σ/\C.n0≤σ.hp.length/\M D C σ a w
  |e=>pB D P C root k r e a w
structure At (D:fH R) (P:Program) (root:Code) (n0:Nat) (k:Exit->SS R->Prop) (todo:List (It R)) (σ:SS R):Prop where
 run:∀ C a w,C.n0=n0->n0≤σ.hp.length->M D C σ a w->pB D P C root k todo .normal a w
def DB (id:Nat):List (It R)->Option (List (It R))
 |[]=>aj
 |.inr (.inl i)::r=>if fb i id then aa r else DB id r
 |.inl _::r=>DB id r
 |.inr (.inr _)::r=>DB id r
theorem EJ {root:Code} {k:Exit->SS R->Prop} {id:Nat} {a:Act}:∀ {todo:List (It R)},
  (match DB id todo with|some r=>pB D P C root k r .normal a w|none=>∃ σ,k (.exit id) σ/\M D C σ a w)->pB D P C root k todo (.exit id) a w
 |[],h=>h
 |.inl _::r,h=>by simp only[DB] at h;simp only[pB];exact EJ h
 |.inr (.inr _)::r,h=>by simp only[DB] at h;simp only[pB];exact EJ h
 |.inr (.inl i)::r,h=>by
  simp only[DB] at h;simp only[pB,KP]
  by_cases he:i=id
  ·subst he;rw[if_pos rfl];rw[if_pos (by simp)] at h
   exact h
  ·rw[if_neg (fun e=>he e.symm)]
   rw[if_neg (by simp[he])] at h
   exact EJ h
theorem Hd {root:Code} {k:Exit->SS R->Prop} {a:Act}:∀ {todo:List (It R)},(∃ σ,k .ret σ/\M D C σ a w)->pB D P C root k todo .ret a w
 |[],h=>h
 |.inl _::r,h=>by simp only[pB];exact Hd h
 |.inr (.inr _)::r,h=>by simp only[pB];exact Hd h
 |.inr (.inl i)::r,h=>by simp only[pB,KP];exact Hd h
end
end Rx
namespace Rx
open Go.RowKit State
def JL (tm:List (Option Value)):List Nat->List (Option Value)
 |[]=>[]
 |t::ts=>(match tm[t]? with
  |some (aa v)=>aa v
  |_=>aj)::JL tm ts
def vk:List Value->List (Option Value)
 |[]=>[]
 |v::l=>aa v::vk l
def slot (ts:List Nat) (vs:List Value) (i:Nat):Option Value :=
 match ts,vs with
 |t::ts,v::vs=>if fb t i then aa v else slot ts vs i
 |_,_=>aj
def frame (ts:List Nat) (vs:List Value):Nat->Nat->List (Option Value)
 |_,0=>[]
 |i,n+1=>slot ts vs i::frame ts vs (i+1) n
section
variable {R:Type} {D:fH R} {P:Program} {T:ez R} {C:Ctx} {ρ:Env} {ft:Nat->Nat->Prop} {w w':World}
def te (n:Nat):Hp R->Bool
 |[]=>ao
 |some (.inl (_,cs))::h=>ix n cs&&te n h
 |_::h=>te n h
theorem BP:∀ {r:Hp R} {n i:Nat} {B:SB R},te n r=ao->r[i]?=aa (aa B)->inside n B
 |[],n,i,B,_,hB=>by simp at hB
 |x::r,n,i,B,h,hB=>by
  have hr:te n r=ao/\(i=0->inside n B):=by
   rcases x with _|⟨t,cs⟩|⟨t,ro⟩|ro|x
   ·exact⟨h,fun e=>by subst e;simp at hB⟩
   ·simp only[te,aL] at h;exact⟨h.2,fun e=>by subst e;simp only[cd,ct] at hB;subst hB;exact h.1⟩
   ·exact⟨h,fun e=>by subst e;simp only[cd,ct] at hB;subst hB;trivial⟩
   ·exact⟨h,fun e=>by subst e;simp only[cd,ct] at hB;subst hB;trivial⟩
   ·exact⟨h,fun e=>by subst e;simp only[cd,ct] at hB;subst hB;trivial⟩
  cases i with
  |zero=>exact hr.2 rfl
  |succ i=>simp only[bH] at hB;exact BP hr.1 hB
theorem F_ (ts:List Nat) (vs:List Value):∀ (n i j:Nat),(frame ts vs i n).length=n/\(j<n->(frame ts vs i n)[j]?=aa (slot ts vs (i+j)))
 |0,i,j=>⟨rfl,fun h=>by omega⟩
 |n+1,i,j=>by
  obtain⟨h1,h2⟩:=F_ ts vs n (i+1) (j-1);refine⟨by simp[frame,h1],fun h=>?_⟩
  cases j with
  |zero=>simp[frame]
  |succ j =>
   simp only[frame,bH];have:=h2 (by omega)
   simp only[mg] at this;rw[this]
   congr 2
   omega
def Ot (P:Program) (σ:SS R):ResultVar->Option Value
 |.tmp t=>ev σ.tm (.tmp t)
 |.cell p t =>
  match ev σ.tm (.tmp p) with
  |some (.pointer (aa ⟨i,e,aj⟩))=>match As P σ t (.tmp p) with
   |some x=>aa x.v
   |none=>aj
  |_=>aj
def D5 (P:Program) (σ:SS R):List ResultVar->Option (List Value)
 |[]=>aa []
 |r::l =>
  match Ot P σ r,D5 P σ l with
  |some v,aa vs=>aa (v::vs)
  |_,_=>aj
def pack:List Value->Value
 |[v]=>v
 |vs=>.tuple ⟨vs⟩
def iE (P:Program) (rs:List ResultVar) (G:Value->Hp R->Prop) (e:Exit) (σ:SS R):Prop :=
 match e with
 |.ret|.normal=>match D5 P σ rs with
  |some vs=>aW (G (pack vs) σ.hp)
  |none=>oh 8
 |_=>oh 9
def Tt (a:Act):ResultVar->Sem Value
 |.tmp t=>pure (a.tmps.getD t undef)
 |.cell p t=>do loadVar t (← asAddr (a.tmps.getD p undef))
theorem abG {σ:SS R} {r:ResultVar} {v:Value} {a:Act} (ht:TM ρ σ.hp.length σ.tm a) (hm:HM D C ρ ft σ.hp w) (hl:LI σ.li σ.tm) (h:Ot P σ r=aa v) :
  (Tt a r).run P w=.ok (bT ρ v) w:=by
 unfold Tt;cases r with
 |tmp t =>
  simp only[Ot] at h;have:=(ek ht h).1;simp only[B6] at this;simp[← this]
 |cell p t =>
  simp only[Ot] at h;split at h
  ·rename_i i e hp;split at h
   ·rename_i x hx;injection h with h
    subst h;have hev:=(ek ht hp).1;simp only[B6,bT] at hev;have um := RW (D := D) (o := ⟨aj, .load t (.tmp p), 0, "", #[], aj⟩) rfl hx
    have O5:x.vc:=by
     unfold As at hx;rw[hp] at hx;simp only at hx;split at hx
     ·split at hx
      ·split at hx
       ·injection hx with hx;subst hx;trivial
       ·cases hx
      ·split at hx
       ·injection hx with hx;subst hx;trivial
       ·cases hx
      ·cases hx
     ·cases hx
    have nP:∃ v',(loadVar t (iD ρ ⟨i,e,aj⟩)).run P w=.ok v' w/\v'=bT ρ x.v:=by
     unfold As at hx;rw[hp] at hx;simp only at hx;split at hx
     ·rename_i t' cs hi;split at hx
      ·rename_i hg;split at hx
       ·rename_i v hv;cases hx;have hc:=Cd hm hi e;rw[hv] at hc;exact⟨_,Ce hg (by simpa [iD,cellOf,gp] using hc),rfl⟩
       ·cases hx
      ·rename_i n hg;split at hx
       ·rename_i hle;have hle:=jF hle;cases hx;have hl:(((cs.drop e).take n).map (bT ρ)).length=n:=by simp;omega
        refine⟨_,Gq (cs:=((cs.drop e).take n).map (bT ρ)) (by rw[hl];exact hg) (fun j v hv=>?_),?_⟩
        ·simp only[iD,cellOf];rw[pN,jd,Cd hm hi];have hj:j<n:=by have:=(aU.1 hv).1;omega
         simp only[fh,oN,hj,if_true,oQ] at hv;exact hv
        ·show _=bT ρ (.agg _)
         rw[zA];simp
       ·cases hx
      ·cases hx
     ·cases hx
    obtain⟨v',h1,rfl⟩:=nP;simp only[dy,hev,asAddr,dS,cz,h1]
   ·cases h
  ·cases h
theorem Sq {σ:SS R} {a:Act} (ht:TM ρ σ.hp.length σ.tm a) (hm:HM D C ρ ft σ.hp w) (hl:LI σ.li σ.tm):∀ {rs:List ResultVar} {vs:List Value},D5 P σ rs=aa vs ->
  (rs.mapM (m:=Sem) (Tt a)).run P w=.ok (vs.map (bT ρ)) w
 |[],vs,h=>by
  simp only[D5] at h;injection h with h
  subst h;simp
 |r::rs,vs,h=>by
  simp only[D5] at h;split at h
  ·rename_i v vs' hv D6;injection h with h
   subst h;have h1:=abG ht hm hl hv;have h2:=Sq ht hm hl D6;rw[List.mapM_cons,dy,h1,cz,dy,h2];simp
  ·cases h
theorem ZV {σ:SS R} {a:Act} {fn:Func} {vs:List Value} (ht:TM ρ σ.hp.length σ.tm a) (hm:HM D C ρ ft σ.hp w) (hl:LI σ.li σ.tm) (h:D5 P σ fn.results.toList=aa vs) :
  (results fn a.tmps).run P w=.ok (bT ρ (pack vs)) w:=by
 have h1:=Sq ht hm hl h;have e:results fn a.tmps=(do let vs ← fn.results.mapM (Tt a);pure (if h:vs.size=1 then vs[0] else .tuple vs)):=by
  unfold results
  congr 1
 rw[e,dy,DG,W8,h1];simp only[cz,dS]
 congr 1
 cases vs with
 |nil=>simp[pack,bT,nC]
 |cons v l =>
  cases l with
  |nil=>simp[pack]
  |cons u l=>simp[pack,bT,nC,lh]
theorem HM.ctx {C':Ctx} {h:Hp R} (hm:HM D C ρ ft h w) (h1:C'.w0=C.w0) (h2:C'.U=C.U):HM D C' ρ ft h w where
 at_ i B hi:=by
  obtain⟨g1,g2⟩:=hm.at_ i B hi;refine⟨?_,g2⟩;rcases B with⟨t,cs⟩|⟨t,r⟩|r|x
  ·exact g1
  ·exact g1
  ·simp only[hold,h1,h2] at g1 ⊢;exact g1
  ·exact g1
 lt:=hm.lt
 fresh i k hk:=by rw[h1,h2];exact hm.fresh i k hk
 apart:=hm.apart
 some_:=hm.some_
 kept:=by rw[h1,h2];exact hm.kept
theorem M6 {f:FuncId} {fn:Func} {root:Code} {args:List Value} {hp:Hp R} {G:Value->Hp R->Prop} (hf:P.funcs[f]?=aa fn) (hb:fn.body=aa root)
  (h:At D P root hp.length (iE P fn.results.toList G) [.inl []] ⟨vk args++lj (fn.ntmps-args.length) aj,[],hp⟩) (hm:HM D C ρ ft hp w) (hi:ix hp.length args=ao) :
  Calls P f (args.map (bT ρ)).toArray w fun e w'=>∃ gv ku v wY,(∀ i,i<hp.length->gv i=ρ i)/\e=.returned (bT gv v)/\G v wY/\HM D C gv ku wY w':=by
 have F7:∀ (l:List Value),vk l=l.map aa:=fun l=>by induction l with
  |nil=>rfl
  |cons v l ih=>simp[vk,ih]
 refine calls_of_wp hf hb ?_;have hM:M D ⟨C.w0,C.U,ρ,hp.length⟩ ⟨vk args++lj (fn.ntmps-args.length) aj,[],hp⟩ { tmps:=(args.map (bT ρ)).toArray++Array.replicate (fn.ntmps-(args.map (bT ρ)).toArray.size) undef,defers:=[] } w:=by
  refine⟨rfl,fun t b hb=>(by cases hb),ρ,ft,fun i _=>rfl,⟨by simp[F7],fun t v ht=>?_⟩,hm.ctx rfl rfl⟩
  rw[F7] at ht;have cj:t<args.length:=by
   rcases cr t args.length with cj|j7
   ·exact cj
   ·rw[dQ (by simpa using j7),List.getElem?_replicate] at ht
    split at ht
    ·injection ht with ht;cases ht
    ·cases ht
  rw[c_ (by simpa using cj),fh] at ht
  cases hv:args[t]? with
  |none=>rw[hv] at ht;cases ht
  |some u =>
   rw[hv] at ht;simp only[kc,ct] at ht;subst ht;refine⟨?_,wR.1 hi u (lz hv)⟩;rw[Array.getElem?_append_left (by simpa using cj)]
   simp[hv]
 have hs:=h.run ⟨C.w0,C.U,ρ,hp.length⟩ _ w rfl (a_ _) hM;simp only[pB,iV] at hs;refine wp_mono hs fun e a' w' ⟨σ,hk,XW⟩=>?_
 obtain⟨gv,ku,g0,g1,g2⟩:=XW.ex;have key:∀ (e:Exit),iE P fn.results.toList G e σ->(e=.ret∨e=.normal)->∃ v,(results fn a'.tmps).run P w'=.ok v w'/\∃ gv ku v2 wY,(∀ i,i<hp.length->gv i=ρ i)/\Ending.returned v=.returned (bT gv v2)/\G v2 wY/\HM D C gv ku wY w':=by
  intro e hk he;have:∃ vs,D5 P σ fn.results.toList=aa vs/\G (pack vs) σ.hp:=by
   rcases he with rfl|rfl
   ·simp only[iE] at hk;split at hk
    ·exact⟨_,by assumption,hk.out⟩
    ·exact hk.elim
   ·simp only[iE] at hk;split at hk
    ·exact⟨_,by assumption,hk.out⟩
    ·exact hk.elim
  obtain⟨vs,h1,h2⟩:=this;exact⟨_,ZV g1 g2 XW.li h1,gv,ku,pack vs,σ.hp,g0,rfl,h2,g2.ctx rfl rfl⟩
 cases e with
 |ret=>exact⟨XW.defers,key _ hk (dK rfl)⟩
 |normal=>exact⟨XW.defers,key _ hk (eV rfl)⟩
 |_=>exact oh.elim hk
end
end Rx
namespace Rx
open Go.RowKit State
section
variable {R:Type} {D:fH R} {C:Ctx} {ρ gv:Env} {ft ku:Nat->Nat->Prop} {w w':World} {h hr hx h':Hp R}
def g_:SB R->Bool
 |.inr (.inr (.inl _))=>ao
 |_=>an
theorem yO {C':Ctx} {i:Nat} {F:Nat->Prop} {B:SB R} (hB:g_ B=an) (hh:hold D C ρ i F w B):hold D C' ρ i F w B:=by
 rcases B with⟨t,cs⟩|⟨t,r⟩|r|x
 ·exact hh
 ·exact hh
 ·cases hB
 ·exact hh
def Seen (hr:Hp R) (b:Nat):Prop:=∃ X,hr[b]?=aa (aa X)
def PJ (w:World) (hr:Hp R) (ft:Nat->Nat->Prop) (ρ:Env) (n:Nat):Ctx:=⟨w,fun k=>∃ b,Seen hr b/\ft b k,ρ,n⟩
theorem HM.sub (hm:HM D C ρ ft h w) (nj:∀ (b:Nat) (X:SB R),hr[b]?=aa (aa X)->h[b]?=aa (aa X)) (j8:te hr.length hr=ao) (n:Nat) :
  HM D (PJ w hr ft ρ n) ρ (fun b k=>Seen hr b/\ft b k) hr w where
 at_ i B hB:=by
  obtain⟨h1,h2⟩:=hm.at_ i B (nj i B hB);refine⟨?_,BP j8 hB⟩;have LZ:(fun k=>Seen hr i/\ft i k)=ft i:=funext fun k=>propext ⟨fun h=>h.2,fun h=>⟨⟨B,hB⟩,h⟩⟩
  rw[LZ];rcases B with⟨t,cs⟩|⟨t,r⟩|r|x
  ·exact h1
  ·exact h1
  ·obtain⟨g1,g2,g3,g4,g5,arr,g6,g7⟩:=h1;refine⟨g1,g2,g3,g4,g5,arr,fun hn h0=>?_,g7⟩
   obtain⟨q1,q2,t,fz,q3⟩:=g6 hn h0;refine⟨ly q1 hm.kept.size,fun⟨b,_,hb⟩=>?_,t,fz,by rw[← q3];exact hm.kept.block _ q1 q2⟩
   rcases hm.fresh b _ hb with hu|j7
   ·exact q2 hu
   ·omega
  ·exact h1
 lt i k hk:=hm.lt i k hk.2
 fresh i k hk:=dK ⟨i,hk.1,hk.2⟩
 apart i j k hi hj:=hm.apart i j k hi.2 hj.2
 some_ i k hk:=hk.1
 kept:=Kept.refl _ _
theorem HM.back (hm:HM D C ρ ft h w) (nj:∀ (b:Nat) (X:SB R),hr[b]?=aa (aa X)->h[b]?=aa (aa X)) (hle:hr.length≤h.length) {n:Nat}
  (mG:HM D (PJ w hr ft ρ n) gv ku hx w') (qD:∀ b,b<hr.length->gv b=ρ b) (hlx:hr.length≤hx.length) (hal:hr.length<hx.length->hr.length=h.length)
  (hv:∀ (b:Nat) (X:SB R),hx[b]?=aa (aa X)->(b<hr.length->∃ Y,hr[b]?=aa (aa Y))/\(g_ X=an∨∃ Y,hr[b]?=aa (aa Y)/\g_ Y=ao))
  (hlen:h'.length=if hr.length<hx.length then hx.length else h.length)
  (uo:∀ (b:Nat),(∃ Y,hr[b]?=aa (aa Y)/\g_ Y=an)∨h.length≤b->h'[b]?=if b<hx.length then hx[b]? else aj)
  (Pc:∀ (b:Nat),b<h.length->¬ (∃ Y,hr[b]?=aa (aa Y)/\g_ Y=an)->h'[b]?=h[b]?) :
  HM D C (fun b=>if b<h.length then ρ b else gv b) (fun b k=>(((∃ Y,hr[b]?=aa (aa Y)/\g_ Y=an)∨h.length≤b)/\ku b k)∨(¬ ((∃ Y,hr[b]?=aa (aa Y)/\g_ Y=an)∨h.length≤b)/\ft b k)) h' w':=by
 have A3:h'.length≤hx.length∨h'.length=h.length:=by
  rw[hlen];split
  ·exact dK (a_ _)
  ·exact eV rfl
 have j7:h.length≤h'.length:=by
  rw[hlen];split
  ·rename_i cj;have:=hal cj;omega
  ·exact a_ _
 let T:Nat->Prop:=fun b=>∃ Y,hr[b]?=aa (aa Y)/\g_ Y=an
 have apy:∀ b,T b->b<hr.length:=fun b ⟨Y,hY,_⟩=>(aU.1 hY).1
 have Rr:∀ j,j<hx.length->(if j<h.length then ρ j else gv j)=gv j:=fun j hj=>by
  split
  ·rename_i cj;rcases cr j hr.length with h1|h1
   ·exact(qD j h1).symm
   ·have:=hal (by omega);omega
  ·rfl
 refine hm.step T ?_ (fun i hi=>by simp[hi]) j7 ?_ ?_ ?_ ?_
 ·-- what may have apo written
  refine⟨mG.kept.os,mG.kept.tape,mG.kept.output,mG.kept.size,fun k hk hn=>mG.kept.block k hk fun⟨b,⟨X,hX⟩,hb⟩=>hn ⟨b,⟨X,hX,?_⟩,hb⟩⟩
  cases hX2:g_ X with
  |false=>rfl
  |true =>
   have:=(hm.at_ b X (nj b X hX)).1;rcases X with⟨t,cs⟩|⟨t,r⟩|r|x<;>simp[g_] at hX2
   exact absurd hb (this.1 k)
 ·intro i B hi hB;have Eh:T i∨h.length≤i:=by
   rcases cr i h.length with cj|rU
   ·exact dK (hi cj)
   ·exact eV rU
  rw[uo i Eh] at hB;split at hB
  ·rename_i cj;obtain⟨g1,g2⟩:=mG.at_ i B hB;have Sb:g_ B=an:=by
    rcases(hv i B hB).2 with h1|⟨Y,hY,XF⟩
    ·exact h1
    ·rcases Eh with⟨Y',RL,Kb⟩|rU
     ·rw[hY] at RL;injection RL with e;injection e with e;subst e;rw[XF] at Kb;cases Kb
     ·have:=(aU.1 hY).1;omega
   refine⟨?_,Cf ?_ g2⟩
   ·have e:(fun k=>((T i∨h.length≤i)/\ku i k)∨(¬ (T i∨h.length≤i)/\ft i k))=ku i:=funext fun k=>propext ⟨fun h=>h.elim (fun h=>h.2) (fun h=>absurd Eh h.1),fun h=>dK ⟨Eh,h⟩⟩
    show hold D C _ i (fun k=>((T i∨h.length≤i)/\ku i k)∨(¬ (T i∨h.length≤i)/\ft i k)) w' B
    rw[e];exact yO Sb (IF g1 Rr cj g2)
   ·rw[hlen];split
    ·exact a_ _
    ·have:hx.length=hr.length:=by omega
     omega
  ·cases hB
 ·intro i hi hn;refine⟨Pc i hi hn,fun k=>?_⟩
  have:¬ (T i∨h.length≤i):=fun hh=>hh.elim hn (fun h=>by omega)
  exact⟨fun h=>h.elim (fun h=>absurd h.1 this) (fun h=>h.2),fun h=>eV ⟨this,h⟩⟩
 ·intro i k hi hk;have Eh:T i∨h.length≤i:=by
   rcases cr i h.length with cj|rU
   ·exact dK (hi cj)
   ·exact eV rU
  have nB:ku i k:=hk.elim (fun h=>h.2) (fun h=>absurd Eh h.1)
  refine⟨?_,mG.lt i k nB,?_⟩
  ·rcases mG.fresh i k nB with⟨b,⟨X,hX⟩,hb⟩|rU
   ·refine dK ⟨b,⟨X,hX,?_⟩,hb⟩;cases hX2:g_ X with
    |false=>rfl
    |true =>
     have:=(hm.at_ b X (nj b X hX)).1;rcases X with⟨t,cs⟩|⟨t,r⟩|r|x<;>simp[g_] at hX2
     exact absurd hb (this.1 k)
   ·exact eV rU
  ·obtain⟨B,hB⟩:=mG.some_ i k nB;refine⟨B,?_⟩;rw[uo i Eh,if_pos (aU.1 hB).1];exact hB
 ·intro i j k hi hj GY He;have Mm:T i∨h.length≤i:=by
   rcases cr i h.length with cj|rU
   ·exact dK (hi cj)
   ·exact eV rU
  have hTj:T j∨h.length≤j:=by
   rcases cr j h.length with cj|rU
   ·exact dK (hj cj)
   ·exact eV rU
  exact mG.apart i j k (GY.elim (fun h=>h.2) (fun h=>absurd Mm h.1)) (He.elim (fun h=>h.2) (fun h=>absurd hTj h.1))
end
end Rx
namespace Rx
open Go.RowKit State
section
variable {R:Type} {D:fH R} {P:Program} {T:ez R} {σ:SS R} {x:Out R}
def jA (σ:SS R) (x:Out R):Prop:=x.wr=[]->x.hp=σ.hp
theorem iK (vc:Prop) (v:Value) (lit:Option Bool) (rd:List (Nat×Nat)):jA σ (gp σ vc v lit rd):=fun _=>rfl
theorem sE {o:Oper} (h:uB P σ o=aa x):jA σ x:=by
 unfold uB at h
 repeat' split at h
 all_goals first
  |(injection h with h;subst h;exact iK _ _ _ _)
  |cases h
theorem AK {y:Operand} (h:vU σ y=aa x):jA σ x:=by
 unfold vU at h
 repeat' split at h
 all_goals first
  |(injection h with h;subst h;exact iK _ _ _ _)
  |cases h
theorem NG {t:TypeId} (h:vp P σ t=aa x):jA σ x:=by
 unfold vp at h
 repeat' split at h
 all_goals first
  |(injection h with h;subst h;intro hw;cases hw)
  |cases h
theorem GU {t:TypeId} {y:Operand} (h:wK P σ t y=aa x):jA σ x:=by
 unfold wK at h;split at h
 ·split at h
  ·rename_i hx;injection h with h;subst h;exact NG hx
  ·exact AK h
 ·exact AK h
theorem Ud {c y z:Operand} (h:GW σ c y z=aa x):jA σ x:=by
 unfold GW at h;split at h
 ·exact AK h
 ·exact AK h
 ·split at h
  ·injection h with h;subst h;exact iK _ _ _ _
  ·cases h
theorem HA {t:TypeId} {cs:List Value} (h:wF σ t cs=aa x):jA σ x:=by
 unfold wF at h;injection h with h;subst h;intro hw;cases hw
theorem SL {t:TypeId} (h:DW P σ t=aa x):jA σ x:=by
 unfold DW at h
 repeat' split at h
 all_goals first
  |exact HA h
  |cases h
theorem WS {t:TypeId} {y:Operand} (h:Ly σ t y=aa x):jA σ x:=by
 unfold Ly at h
 repeat' split at h
 all_goals first
  |exact HA h
  |cases h
theorem SF {t:TypeId} {ps:List (Nat×Operand)} (h:DY P σ t ps=aa x):jA σ x:=by
 unfold DY at h
 repeat' split at h
 all_goals first
  |(injection h with h;subst h;exact iK _ _ _ _)
  |cases h
theorem J0 {t:TypeId} {n:Nat} {ps:List (Nat×Operand)} (h:ug P σ t n ps=aa x):jA σ x:=by
 unfold ug at h
 repeat' split at h
 all_goals first
  |(injection h with h;subst h;intro hw;cases hw)
  |cases h
theorem T_ {t:TypeId} {y:Operand} (h:As P σ t y=aa x):jA σ x:=by
 unfold As at h
 repeat' split at h
 all_goals first
  |(injection h with h;subst h;exact iK _ _ _ _)
  |cases h
theorem X0 {i e n:Nat} (h:NF i e n=[]):n=0:=by
 cases n with
 |zero=>rfl
 |succ n=>simp[NF] at h
theorem aeE {α:Type} {l:List α} {i:Nat} {a:α} (h:l[i]?=aa a):l.set i a=l:=by
 have hl:i<l.length:=(aU.1 h).1;apply nV;intro u
 by_cases he:i=u
 ·subst he;rw[jX hl,h]
 ·rw[kt he]
theorem SD {t:TypeId} {y z:Operand} (h:DO P σ t y z=aa x):jA σ x:=by
 unfold DO at h;split at h
 ·rename_i i e v _ _;split at h
  ·rename_i ty cs inf hi _;split at h
   ·rename_i hc;simp only[aL] at hc;injection h with h
    subst h;intro hw;have h0:=X0 hw;have h1:=cP hc.1.1;rw[h0] at h1;have h2:v.cells.toList=[]:=iN h1;simp only[h2];exact aeE (by rw[hi];rfl)
   ·cases h
  ·cases h
 ·rename_i i e q v _ _;split at h
  ·rename_i ty r inf hi _;split at h
   ·rename_i hc;simp only[aL,fe] at hc;split at h
    ·injection h with h
     subst h;intro hw;have h0:=X0 hw;omega
    ·cases h
   ·cases h
  ·cases h
 ·cases h
theorem WZ {y:Operand} (h:LB σ y=aa x):jA σ x:=by
 unfold LB at h
 repeat' split at h
 all_goals first
  |(injection h with h;subst h;exact iK _ _ _ _)
  |cases h
theorem Jg {neg:Bool} {t:TypeId} {y z:Operand} (h:zO P σ neg t y z=aa x):jA σ x:=by
 unfold zO at h
 repeat' split at h
 all_goals first
  |(injection h with h;subst h;exact iK _ _ _ _)
  |cases h
theorem Jd {neg:Bool} {t:TypeId} {y z:Operand} (h:zp P σ neg t y z=aa x):jA σ x:=by
 unfold zp at h;split at h
 ·split at h
  ·split at h
   ·split at h
    ·injection h with h;subst h;exact iK _ _ _ _
    ·cases h
   ·cases h
  ·cases h
 ·cases h
theorem W1 {op:BinOp} {y z:Operand} (h:PX σ op y z=aa x):jA σ x:=by
 unfold PX at h
 repeat' split at h
 all_goals first
  |(injection h with h;subst h;exact iK _ _ _ _)
  |cases h
theorem WG {y z:Operand} (h:Py σ y z=aa x):jA σ x:=by
 unfold Py at h
 repeat' split at h
 all_goals first
  |(injection h with h;subst h;exact iK _ _ _ _)
  |cases h
theorem I_ {own:Option (Option (SB R))->Bool} {neg:Bool} {t:TypeId} {y z:Operand} (h:zB P σ own neg t y z=aa x):jA σ x:=by
 unfold zB at h
 repeat' split at h
 all_goals first
  |(injection h with h;subst h;exact iK _ _ _ _)
  |cases h
theorem JS {t:TypeId} {n:Nat} {ps:List (Nat×Operand)} (h:uE P σ t n ps=aa x):jA σ x:=by
 unfold uE at h
 repeat' split at h
 all_goals first
  |(injection h with h;subst h;intro hw;cases hw)
  |cases h
theorem J3 {t:TypeId} {y z:Operand} (h:wJ P σ t y z=aa x):jA σ x:=by
 unfold wJ at h
 repeat' split at h
 all_goals first
  |(injection h with h;subst h;exact iK _ _ _ _)
  |cases h
theorem WX {o:Oper} {op:BinOp} {t:TypeId} {y z:Operand} (h:K' P T σ o op t y z=aa x):jA σ x:=by
 unfold K' at h;split at h
 ·split at h
  ·exact sE h
  ·exact W1 h
 ·split at h
  ·exact WG h
  ·cases h
 ·split at h
  ·exact Jg h
  ·exact Jg h
  ·cases h
 ·split at h
  ·exact Jd h
  ·exact Jd h
  ·cases h
 ·split at h
  ·exact I_ h
  ·exact I_ h
  ·cases h
 ·exact sE h
theorem WH {y:Operand} (h:Lz σ y=aa x):jA σ x:=by
 unfold Lz at h
 repeat' split at h
 all_goals first
  |(injection h with h;subst h;exact iK _ _ _ _)
  |cases h
theorem SN {t:TypeId} {y:Operand} {lo hi mx:Option Operand} (h:Hg P σ t y lo hi mx=aa x):jA σ x:=by
 unfold Hg at h
 repeat' split at h
 all_goals first
  |(injection h with h;subst h;exact iK _ _ _ _)
  |(injection h with h;subst h;intro hw;cases hw)
  |cases h
theorem LH {t:TypeId} {y:Operand} {k:Nat} (h:we P σ t y k=aa x):jA σ x:=by
 unfold we at h
 repeat' split at h
 all_goals first
  |(injection h with h;subst h;exact iK _ _ _ _)
  |cases h
theorem SA {t:TypeId} {y:Operand} {k:Nat} (h:DX P σ t y k=aa x):jA σ x:=by
 unfold DX at h
 repeat' split at h
 all_goals first
  |(injection h with h;subst h;exact iK _ _ _ _)
  |cases h
theorem LD {t:TypeId} {y z:Operand} (h:yo P σ t y z=aa x):jA σ x:=by
 unfold yo at h
 repeat' split at h
 all_goals first
  |(injection h with h;subst h;exact iK _ _ _ _)
  |cases h
theorem MB {t:TypeId} {y z:Operand} (h:AU P σ t y z=aa x):jA σ x:=by
 unfold AU at h
 repeat' split at h
 all_goals first
  |(injection h with h;subst h;exact iK _ _ _ _)
  |cases h
theorem MC {t:TypeId} {y z:Operand} (h:AQ P σ t y z=aa x):jA σ x:=by
 unfold AQ at h
 repeat' split at h
 all_goals first
  |(injection h with h;subst h;exact iK _ _ _ _)
  |cases h
theorem P5 {y:Operand} {k:Nat} (h:zI σ y k=aa x):jA σ x:=by
 unfold zI at h
 repeat' split at h
 all_goals first
  |(injection h with h;subst h;exact iK _ _ _ _)
  |cases h
theorem LG {t:TypeId} {y z:Operand} (h:yk P σ t y z=aa x):jA σ x:=by
 unfold yk at h
 repeat' split at h
 all_goals first
  |(injection h with h;subst h;intro hw;cases hw)
  |cases h
theorem WE {t:TypeId} {y:Operand} (h:Lf P σ t y=aa x):jA σ x:=by
 unfold Lf at h
 repeat' split at h
 all_goals first
  |(injection h with h;subst h;exact iK _ _ _ _)
  |cases h
theorem QT {t t2:TypeId} {y z:Operand} (h:yM P σ t t2 y z=aa x):jA σ x:=by
 unfold yM at h;split at h
 ·split at h
  ·split at h
   ·injection h with h;subst h;intro hw;cases hw
   ·cases h
  ·split at h
   ·split at h
    ·injection h with h;subst h;intro hw;cases hw
    ·cases h
   ·cases h
  ·cases h
 ·cases h
theorem Vl (hT:cL D P T) {f:Operand} {args:List Operand} {b:Bool} (h:Fa T σ f args b=aa x):jA σ x:=by
 unfold Fa at h;split at h
 ·split at h
  ·rename_i p hp;exact((BB hT hp).ok b).still _ _ _ h
  ·cases h
 ·cases h
theorem Ra (hT:cL D P T) {r:Operand} {name:String} {args:List Operand} {b:Bool} (h:yJ P T σ r name args b=aa x):jA σ x:=by
 unfold yJ at h;split at h
 ·split at h
  ·split at h
   ·rename_i p _ hp;exact((BB hT hp).ok b).still _ _ _ h
   ·cases h
  ·cases h
 ·cases h
theorem WD (hT:cL D P T) {f:Operand} {args:List Operand} {b:Bool} (h:Fa T σ f args b=aa x):∀ i,i<σ.hp.length->OU x.wr i=ao->x.hp[i]?=σ.hp[i]?:=by
 unfold Fa at h;split at h
 ·split at h
  ·rename_i p hp;exact(BB hT hp).HT b _ _ _ h
  ·cases h
 ·cases h
theorem SP (hT:cL D P T) {r:Operand} {name:String} {args:List Operand} {b:Bool} (h:yJ P T σ r name args b=aa x):∀ i,i<σ.hp.length->OU x.wr i=ao->x.hp[i]?=σ.hp[i]?:=by
 unfold yJ at h;split at h
 ·split at h
  ·split at h
   ·rename_i p _ hp;exact(BB hT hp).HT b _ _ _ h
   ·cases h
  ·cases h
 ·cases h
theorem Nj {fn:Fn} {fi ca:List Operand} (h:AV σ fn fi ca=aa x):jA σ x:=by
 unfold AV at h;split at h
 ·injection h with h;subst h;exact iK _ _ _ _
 ·cases h
theorem SE {t:TypeId} {y:Operand} (h:DU P T σ t y=aa x):jA σ x:=by
 unfold DU at h;split at h
 ·rename_i hx;injection h with h;subst h;exact T_ hx
 ·repeat' split at h
  all_goals first
   |(injection h with h;subst h;exact iK _ _ _ _)
   |cases h
theorem aa1 (hT:cL D P T) {o:Oper} {b:Bool} (h:Mb P T σ o b=aa x):jA σ x:=by
 obtain⟨dst,op,ty,pos,after,guard⟩:=o;unfold Mb at h;simp only at h;split at h
 ·exact GU h
 ·exact GU h
 ·exact Ud h
 ·exact SL h
 ·exact WS h
 ·exact SF h
 ·split at h
  ·rename_i hx;injection h with h;subst h;exact J0 hx
  ·exact JS h
 ·exact SE h
 ·split at h
  ·exact SD h
  ·cases h
 ·exact WZ h
 ·exact WX h
 ·split at h
  ·exact WH h
  ·exact sE h
 ·exact SN h
 ·exact LH h
 ·exact SA h
 ·split at h
  ·exact MB h
  ·split at h
   ·exact J3 h
   ·exact LD h
 ·split at h
  ·exact MC h
  ·exact sE h
 ·exact P5 h
 ·exact LG h
 ·rename_i callee args ts;split at h
  ·exact Vl hT h
  ·split at h
   ·exact QT h
   ·split at h
    ·exact WE h
    ·exact sE h
   ·exact sE h
  ·exact Ra hT h
 ·exact Nj h
 ·exact sE h
def abW (o:Oper):Bool :=
 match o with
 |⟨_,.call ⟨.value _,_,_⟩,_,_,_,_⟩=>ao
 |⟨_,.call ⟨.invoke _ _,_,_⟩,_,_,_,_⟩=>ao
 |_=>an
def Vf (o:Oper):Bool :=
 match o with
 |⟨_,.call ⟨.builtin .append,⟨[_,_]⟩,⟨[_,_]⟩⟩,_,_,_,_⟩=>ao
 |_=>an
theorem SO {t t2:TypeId} {y z:Operand} (h:yM P σ t t2 y z=aa x):∀ i,i<σ.hp.length->ID x.wr i=an->x.hp[i]?=σ.hp[i]?:=by
 unfold yM at h;split at h
 ·split at h
  ·split at h
   ·injection h with h;subst h;intro i hi _;exact c_ hi
   ·cases h
  ·split at h
   ·split at h
    ·injection h with h
     subst h;intro j hj hm;simp only[ID,Bool.or_eq_false_iff] at hm;simp only;rw[c_ (by simpa using hj),kt]
     intro e;rw[e] at hm;simp at hm
    ·cases h
   ·cases h
  ·cases h
 ·cases h
def Lm (o:Oper) (wr:List (Nat×Nat)) (b:Nat):Bool:=(abW o&&OU wr b)||(Vf o && !ID wr b)
theorem aew (hT:cL D P T) {o:Oper} {b:Bool} (h:Mb P T σ o b=aa x):∀ i,i<σ.hp.length->Lm o x.wr i=ao->x.hp[i]?=σ.hp[i]?:=by
 intro i hi hk;simp only[Lm,Bool.or_eq_true,aL] at hk;rcases hk with⟨hc,hk⟩|⟨hc,hk⟩
 ·unfold abW at hc;split at hc
  ·exact WD hT h i hi hk
  ·exact SP hT h i hi hk
  ·cases hc
 ·unfold Vf at hc;split at hc
  ·exact SO h i hi (by simpa using hk)
  ·cases hc
end
end Rx
end Go.Proofs.YtjlomlgdgpoepaaGreat
