import Derived.LaidEql
import Derived.Below
import Derived.WalkKit
import Derived.Laws.OwnMore
import Derived.Deep.Draws
import Derived.Orders
import Derived.IntWalk
import Derived.Laws.Append
import Derived.Scope
import Derived.Still
set_option linter.unusedVariables false
set_option linter.unusedSimpArgs false
namespace Go.Proofs.YtjlomlgdgpoepaaGreat
open _root_.Array renaming ext'→qL,getElem?_eq_none→G6,getElem?_setIfInBounds→ve,length_toList→wO,mapM_eq_mapM_toList→Eb,range→G7,toArray_toList→Jj,toList_extract→Ji,toList_map→mH
open _root_.Bool renaming and_eq_true→aM,false_eq_true→fX,false→an,true→ao,xor→xG
open _root_.Classical renaming byContradiction→iM
open _root_.Eq renaming symm→rB
open _root_.Go renaming undef→vT
open _root_.Go.Act renaming eval→Cw,put→Cx
open _root_.Go.BinOp renaming eql→Tb,neq→Av
open _root_.Go.Builtin renaming append_→tV,firstCells→kH,lenOf→DI,zeroCells→pG
open _root_.Go.Exit renaming inBlock→Li
open _root_.Go.Instr renaming buildSlice→OE,build→XF,field→XC,fill→aaK,indexAt→JO,loadAt→By,sliceAt→JP,sliceBounds→uw,sliceBound→FT,slice→XG,storeAt→TD,sureAddr→o8
open _root_.Go.IntKind renaming i64→ar
open _root_.Go.Made renaming depth→QH
open _root_.Go.Op renaming eqFields→CM,equalIn→mG,equal→WT,intArith→M1
open _root_.Go.Oper renaming upon_enter→QG,upon→adk,wp→Sb
open _root_.Go.Program renaming fieldsOf→OD
open _root_.Go.Region renaming wanted→kL
open _root_.Go.Result renaming andThen_ok→cB
open _root_.Go.RowKit.Below renaming heap_alloc→OC,heap_setCell→Lh
open _root_.Go.Sem renaming program→XH,run_bind→dA,run_ite→M2,run_map→XE,run_pure→dZ
open _root_.Go.Value renaming cells→nM,iface→G_,oneCell'→qu
open _root_.Go.World renaming cell?_of_block→Bx,frozen?→TC,setRow→FP
open _root_.Iff renaming rfl→sD
open _root_.Int renaming eq_ofNat_of_zero_le→tI,le_refl→nN,toNat_natCast→iS
open _root_.List renaming append_assoc→rY,eq_nil_of_length_eq_zero→jd,ext_getElem?→oc,getD_eq_getElem?_getD→au,getElem?_append_left→da,getElem?_append_right→dW,getElem?_cons_succ→bK,getElem?_cons_zero→cf,getElem?_drop→o_,getElem?_eq_getElem→bc,getElem?_eq_none→df,getElem?_eq_some_iff→aU,getElem?_map→fu,getElem?_of_mem→Bz,getElem?_range→td,getElem?_set_ne→kD,getElem?_set_self→j_,getElem?_set→DS,getElem?_take→o9,getElem?_toArray→jP,length_append→bE,length_cons→cy,length_nil→jX,length_set→fh,map_congr_left→oj,map_cons→gC,map_id→XD,map_nil→vf,map_toArray→vS,mem_append→bY,mem_cons→bN,mem_filter→py,mem_map→px,mem_of_getElem?→lI,replicate→lC,size_toArray→DT
open _root_.Nat renaming add_assoc→jr,add_comm→sY,add_mul_div_right→Aw,add_mul_mod_self_right→wB,add_mul→ix,add_sub_cancel→mA,add_zero→gZ,beq→fj,ble_eq→vR,ble→vd,blt_eq→fo,blt→gY,div_eq_of_lt→FQ,eq_of_beq_eq_true→cQ,le_of_ble_eq_true→jQ,le_of_not_lt→nL,le_refl→a_,le_succ→kZ,le_trans→jz,lt_of_lt_of_le→lH,lt_or_ge→ct,mod_eq_of_lt→FR,mod_lt→QE,mul_comm→WV,mul_eq_zero→GN,mul_le_mul_right→jA,one_mul→qM,sub_self→WU,zero_add→bW,zero_mul→BA
open _root_.Ne renaming symm→Y5
open _root_.Option renaming map_none→QF,map_some→kp,none→aj,some→aa
open _root_.Option.some renaming injEq→cv,inj→pw
open _root_.Or renaming inl→dO,inr→e_
namespace State
open Go.RowKit
structure Kept (F:Nat->Prop) (w w':World):Prop where
 os:w'.os=w.os
 tape:w'.tape=w.tape
 output:w'.output=w.output
 size:w.heap.size≤w'.heap.size
 block:∀ k,k<w.heap.size->¬ F k->w'.heap[k]?=w.heap[k]?
section
variable {F G:Nat->Prop} {a b c w w':World}
theorem Kept.refl (F:Nat->Prop) (w:World):Kept F w w:=⟨rfl,rfl,rfl,a_ _,fun _ _ _=>rfl⟩
theorem Kept.trans (h:Kept F a b) (k:Kept G b c) (hFG:∀ i,i<a.heap.size->G i->F i):Kept F a c :=
 ⟨k.os.trans h.os,k.tape.trans h.tape,k.output.trans h.output,jz h.size k.size,fun i hi hn=>(k.block i (lH hi h.size) (fun hg=>hn (hFG i hi hg))).trans (h.block i hi hn)⟩
theorem Kept.mono (h:Kept F a b) (hFG:∀ i,F i->G i):Kept G a b:=⟨h.os,h.tape,h.output,h.size,fun i hi hn=>h.block i hi (fun hf=>hn (hFG i hf))⟩
theorem Kept.drew (h:Kept F a b):Kept F a b.drew:=⟨h.os,h.tape,h.output,h.size,h.block⟩
theorem Kept.alloc (h:Kept F a b) (o:Obj):Kept F a (b.alloc o) :=
 ⟨h.os,h.tape,h.output,jz h.size (by simp),fun i hi hn=>(OC b o i (lH hi h.size)).trans (h.block i hi hn)⟩
theorem Kept.setCell (h:Kept F a b) {p:Addr} (hp:F p.block∨a.heap.size≤p.block) (u:Value):Kept F a (b.setCell p u) :=
 ⟨h.os,h.tape,h.output,by simpa [World.setCell] using h.size,fun i hi hn=>(Lh b p u i (fun e=>by
  rcases hp with hp|hp
  ·exact hn (by rw[e];exact hp)
  ·omega)).trans (h.block i hi hn)⟩
theorem Kept.below {B:Nat} (h:Kept F a b) (hB:∀ k,k<B->k<a.heap.size/\¬ F k):Below B a b:=⟨h.os,h.tape,h.output,h.size,fun k hk=>h.block k (hB k hk).1 (hB k hk).2⟩
theorem Kept.cell (h:Kept F a b) {p:Addr} (hp:p.block<a.heap.size) (hn:¬ F p.block):b.cell? p=a.cell? p:=Bx (h.block p.block hp hn)
theorem Kept.frozen (h:Kept F a b) {p:Addr} (hp:p.block<a.heap.size) (hn:¬ F p.block):b.frozen? p=a.frozen? p:=World.frozen?_of_block (h.block p.block hp hn)
end
def Whole (w:World) (g:Nat) (t:TypeId) (cs:Array Value):Prop:=w.heap[g]?=aa (.cells cs t (0,0))
section
variable {F:Nat->Prop} {w w':World} {g:Nat} {t:TypeId} {cs:Array Value}
theorem Whole.lt (h:Whole w g t cs):g<w.heap.size:=by
 rcases ct g w.heap.size with cd|ki
 ·exact cd
 ·unfold Whole at h;rw[G6 ki] at h;cases h
theorem Whole.cell (h:Whole w g t cs) (i:Nat):w.cell? ⟨g,i,aj⟩=cs[i]?:=cell_of_row w g i cs t (0,0) h
theorem Whole.frozen (h:Whole w g t cs) (i:Nat):w.frozen? ⟨g,i,aj⟩=an:=by
 unfold Whole at h;unfold TC;simp only[h];simp
theorem Whole.new (w:World) (t:TypeId) (cs:Array Value):Whole (w.alloc (.cells cs t)) w.heap.size t cs:=heap_alloc_new w _
theorem Whole.kept (h:Whole w g t cs) (hk:Kept F w w') (hn:¬ F g):Whole w' g t cs:=(hk.block g h.lt hn).trans h
theorem Whole.alloc (h:Whole w g t cs) (o:Obj):Whole (w.alloc o) g t cs:=(OC w o g h.lt).trans h
theorem Whole.far (h:Whole w g t cs) {p:Addr} (hp:g≠p.block) (u:Value):Whole (w.setCell p u) g t cs:=(Lh w p u g hp).trans h
end
def WH (w:World) (base:Nat) (e:TypeId) (v:Value) (xs:List Value):Prop:=w.ownsRow base e 1 v xs.length xs
section
variable {F:Nat->Prop} {w w':World} {base:Nat} {e:TypeId} {v:Value} {xs:List Value}
theorem WH.nil (w:World) (base:Nat) (e:TypeId):WH w base e (.slice aj 0 0) []:=World.ownsRow_nil _ _ _ _
theorem WH.kept (h:WH w base e v xs) (hk:Kept F w w') (hn:∀ k,v.ownBlock=aa k->¬ F k):WH w' base e v xs:=by
 refine⟨h.1,?_⟩;rcases h.2 with h'|⟨g,cap,cur,hv,hba,hh,hr⟩
 ·exact dO h'
 ·refine e_ ⟨g,cap,cur,hv,hba,?_,hr⟩;have cd:g<w.heap.size:=by
   rcases ct g w.heap.size with h|h
   ·exact h
   ·rw[G6 h] at hh;cases hh
  rw[hk.block g cd (hn g (by rw[hv];rfl))]
  exact hh
end
end State
namespace Rx
structure Place where
 lO:Nat
 off:Nat
 cap:Nat
 nil:Bool
abbrev Env:=Nat->Place
def cellOf (e:Nat):Option Nat->Nat
 |none=>e
 |some q=>e*(q%1000000 / 1000)+q%1000
def iQ (ρ:Env) (a:Addr):Addr:=⟨(ρ a.block).lO,(ρ a.block).off+cellOf a.off a.spot,aj⟩
def lP (ρ:Env) (a:Addr) (n c:Nat):Value :=
 match a.spot with
 |none=>.slice (aa (iQ ρ a)) n c
 |some q =>
  if(ρ a.block).nil=ao then .slice aj n 0
  else if q / 1000000≠0/\(ρ a.block).cap≤a.off then .slice (aa ⟨(ρ (q / 1000000-1)).lO,(ρ (q / 1000000-1)).off,aj⟩) n 0
  else .slice (aa (iQ ρ a)) n ((ρ a.block).cap-a.off)
mutual
def bV (ρ:Env):Value->Value
 |.pointer (aa a)=>.pointer (aa (iQ ρ a))
 |.slice (aa a) n c=>lP ρ a n c
 |.map (aa r)=>.map (aa (ρ r).lO)
 |.chan (aa r)=>.chan (aa (ρ r).lO)
 |.agg ⟨l⟩=>.agg ⟨nS ρ l⟩
 |.tuple ⟨l⟩=>.tuple ⟨nS ρ l⟩
 |.func fn ⟨f⟩ ⟨c⟩=>.func fn ⟨nS ρ f⟩ ⟨nS ρ c⟩
 |.iface t v=>.iface t (bV ρ v)
 |v=>v
def nS (ρ:Env):List Value->List Value
 |[]=>[]
 |v::l=>bV ρ v::nS ρ l
end
section
variable {ρ gF:Env}
theorem lB (l:List Value):nS ρ l=l.map (bV ρ):=by
 induction l with
 |nil=>simp[nS]
 |cons v l ih=>simp[nS,ih]
theorem Ae (cs:Array Value):bV ρ (.agg cs)=.agg (cs.map (bV ρ)):=by
 obtain⟨l⟩:=cs;simp[bV,lB]
theorem aa0 (cs:Array Value):bV ρ (.tuple cs)=.tuple (cs.map (bV ρ)):=by
 obtain⟨l⟩:=cs;simp[bV,lB]
@[simp] theorem xM (k:IntKind) (n:Int):bV ρ (.int k n)=.int k n:=by simp[bV]
@[simp] theorem Wl (b:Bool):bV ρ (.bool b)=.bool b:=by simp[bV]
@[simp] theorem DX (s:ByteArray):bV ρ (.string s)=.string s:=by simp[bV]
end
mutual
def flat:Value->Bool
 |.pointer (aa _)|.slice (aa _) _ _|.map (aa _)|.chan (aa _)=>an
 |.agg ⟨l⟩=>pZ l
 |.tuple ⟨l⟩=>pZ l
 |.func _ ⟨f⟩ ⟨c⟩=>pZ f&&pZ c
 |.iface _ v=>flat v
 |_=>ao
def pZ:List Value->Bool
 |[]=>ao
 |v::l=>flat v&&pZ l
end
def FN:Option Nat->Nat
 |none=>0
 |some q=>q / 1000000
mutual
def fD (n:Nat):Value->Bool
 |.pointer (aa a)=>gY a.block n
 |.slice (aa a) _ _=>gY a.block n&&vd (FN a.spot) n
 |.map (aa r)|.chan (aa r)=>gY r n
 |.agg ⟨l⟩=>iJ n l
 |.tuple ⟨l⟩=>iJ n l
 |.func _ ⟨f⟩ ⟨c⟩=>iJ n f&&iJ n c
 |.iface _ v=>fD n v
 |_=>ao
def iJ (n:Nat):List Value->Bool
 |[]=>ao
 |v::l=>fD n v&&iJ n l
end
section
variable {ρ gF:Env} {n m:Nat}
theorem O1 {a:Addr} (h:∀ i,i<n->ρ i=gF i) (ha:a.block<n):iQ ρ a=iQ gF a:=by
 unfold iQ;rw[h _ ha]
theorem ZY {a:Addr} {k c:Nat} (h:∀ i,i<n->ρ i=gF i) (ha:a.block<n) (ht:FN a.spot≤n):lP ρ a k c=lP gF a k c:=by
 unfold lP;rw[O1 h ha,h _ ha];cases hs:a.spot with
 |none=>rfl
 |some q =>
  rw[hs] at ht;simp only[FN] at ht;simp only;split
  ·rfl
  ·split
   ·rename_i hq;rw[h (q / 1000000-1) (by omega)]
   ·rfl
mutual
theorem nG (h:∀ i,i<n->ρ i=gF i):∀ v,fD n v=ao->bV ρ v=bV gF v
 |.pointer (aa a),hv=>by
  simp only[fD,fo] at hv;simp only[bV,O1 h hv]
 |.pointer aj,_=>by simp[bV]
 |.slice (aa a) k c,hv=>by
  simp only[fD,aM,fo,vR] at hv;simp only[bV];exact ZY h hv.1 hv.2
 |.slice aj _ _,_=>by simp[bV]
 |.map (aa r),hv=>by simp only[fD,fo] at hv;simp[bV,h _ hv]
 |.map aj,_=>by simp[bV]
 |.chan (aa r),hv=>by simp only[fD,fo] at hv;simp[bV,h _ hv]
 |.chan aj,_=>by simp[bV]
 |.agg ⟨l⟩,hv=>by simp only[fD] at hv;simp only[bV,qH h l hv]
 |.tuple ⟨l⟩,hv=>by simp only[fD] at hv;simp only[bV,qH h l hv]
 |.func fn ⟨f⟩ ⟨c⟩,hv=>by
  simp only[fD,aM] at hv;simp only[bV,qH h f hv.1,qH h c hv.2]
 |.iface t v,hv=>by simp only[fD] at hv;simp only[bV,nG h v hv]
 |.int _ _,_=>by simp
 |.bool _,_=>by simp
 |.string _,_=>by simp
 |.float _ _,_=>by simp[bV]
 |.complex _ _ _,_=>by simp[bV]
 |.nilFunc,_=>by simp[bV]
 |.nilIface,_=>by simp[bV]
theorem qH (h:∀ i,i<n->ρ i=gF i):∀ l,iJ n l=ao->nS ρ l=nS gF l
 |[],_=>rfl
 |v::l,hv=>by
  simp only[iJ,aM] at hv;simp only[nS,nG h v hv.1,qH h l hv.2]
end
mutual
theorem n_:∀ v,flat v=ao->bV ρ v=v
 |.pointer (aa a),hv=>by simp[flat] at hv
 |.pointer aj,_=>by simp[bV]
 |.slice (aa a) k c,hv=>by simp[flat] at hv
 |.slice aj _ _,_=>by simp[bV]
 |.map (aa r),hv=>by simp[flat] at hv
 |.map aj,_=>by simp[bV]
 |.chan (aa r),hv=>by simp[flat] at hv
 |.chan aj,_=>by simp[bV]
 |.agg ⟨l⟩,hv=>by simp only[flat] at hv;simp only[bV,C4 l hv]
 |.tuple ⟨l⟩,hv=>by simp only[flat] at hv;simp only[bV,C4 l hv]
 |.func fn ⟨f⟩ ⟨c⟩,hv=>by
  simp only[flat,aM] at hv;simp only[bV,C4 f hv.1,C4 c hv.2]
 |.iface t v,hv=>by simp only[flat] at hv;simp only[bV,n_ v hv]
 |.int _ _,_=>by simp
 |.bool _,_=>by simp
 |.string _,_=>by simp
 |.float _ _,_=>by simp[bV]
 |.complex _ _ _,_=>by simp[bV]
 |.nilFunc,_=>by simp[bV]
 |.nilIface,_=>by simp[bV]
theorem C4:∀ l,pZ l=ao->nS ρ l=l
 |[],_=>rfl
 |v::l,hv=>by
  simp only[pZ,aM] at hv;simp only[nS,n_ v hv.1,C4 l hv.2]
end
mutual
theorem I4:∀ v,flat v=ao->fD n v=ao
 |.pointer (aa a),hv=>by simp[flat] at hv
 |.pointer aj,_=>by simp[fD]
 |.slice (aa a) k c,hv=>by simp[flat] at hv
 |.slice aj _ _,_=>by simp[fD]
 |.map (aa r),hv=>by simp[flat] at hv
 |.map aj,_=>by simp[fD]
 |.chan (aa r),hv=>by simp[flat] at hv
 |.chan aj,_=>by simp[fD]
 |.agg ⟨l⟩,hv=>by simp only[flat] at hv;simp only[fD];exact zV l hv
 |.tuple ⟨l⟩,hv=>by simp only[flat] at hv;simp only[fD];exact zV l hv
 |.func fn ⟨f⟩ ⟨c⟩,hv=>by
  simp only[flat,aM] at hv;simp only[fD,aM];exact⟨zV f hv.1,zV c hv.2⟩
 |.iface t v,hv=>by simp only[flat] at hv;simp only[fD];exact I4 v hv
 |.int _ _,_=>by simp[fD]
 |.bool _,_=>by simp[fD]
 |.string _,_=>by simp[fD]
 |.float _ _,_=>by simp[fD]
 |.complex _ _ _,_=>by simp[fD]
 |.nilFunc,_=>by simp[fD]
 |.nilIface,_=>by simp[fD]
theorem zV:∀ l,pZ l=ao->iJ n l=ao
 |[],_=>rfl
 |v::l,hv=>by
  simp only[pZ,aM] at hv;simp only[iJ,aM];exact⟨I4 v hv.1,zV l hv.2⟩
end
mutual
theorem B7 (hm:n≤m):∀ v,fD n v=ao->fD m v=ao
 |.pointer (aa a),hv=>by simp only[fD,fo] at *;omega
 |.pointer aj,_=>by simp[fD]
 |.slice (aa a) k c,hv=>by simp only[fD,aM,fo,vR] at *;omega
 |.slice aj _ _,_=>by simp[fD]
 |.map (aa r),hv=>by simp only[fD,fo] at *;omega
 |.map aj,_=>by simp[fD]
 |.chan (aa r),hv=>by simp only[fD,fo] at *;omega
 |.chan aj,_=>by simp[fD]
 |.agg ⟨l⟩,hv=>by simp only[fD] at *;exact vv hm l hv
 |.tuple ⟨l⟩,hv=>by simp only[fD] at *;exact vv hm l hv
 |.func fn ⟨f⟩ ⟨c⟩,hv=>by
  simp only[fD,aM] at *
  exact⟨vv hm f hv.1,vv hm c hv.2⟩
 |.iface t v,hv=>by simp only[fD] at *;exact B7 hm v hv
 |.int _ _,_=>by simp[fD]
 |.bool _,_=>by simp[fD]
 |.string _,_=>by simp[fD]
 |.float _ _,_=>by simp[fD]
 |.complex _ _ _,_=>by simp[fD]
 |.nilFunc,_=>by simp[fD]
 |.nilIface,_=>by simp[fD]
theorem vv (hm:n≤m):∀ l,iJ n l=ao->iJ m l=ao
 |[],_=>rfl
 |v::l,hv=>by
  simp only[iJ,aM] at *
  exact⟨B7 hm v hv.1,vv hm l hv.2⟩
end
theorem xd {l:List Value}:iJ n l=ao↔∀ v∈l,fD n v=ao:=by
 induction l with
 |nil=>simp[iJ]
 |cons v l ih=>simp[iJ,ih]
theorem Ad {l:List Value}:pZ l=ao↔∀ v∈l,flat v=ao:=by
 induction l with
 |nil=>simp[pZ]
 |cons v l ih=>simp[pZ,ih]
theorem Xw:∀ v:Value,(bV ρ v).oneCell'=v.oneCell'
 |.pointer (aa a)=>by simp[bV,qu]
 |.pointer aj=>by simp[bV]
 |.slice (aa a) k c=>by
  simp only[bV,lP];cases a.spot with
  |none=>rfl
  |some q=>simp only;split<;>first|rfl|(split<;>rfl)
 |.slice aj _ _=>by simp[bV]
 |.map (aa r)=>by simp[bV,qu]
 |.map aj=>by simp[bV]
 |.chan (aa r)=>by simp[bV,qu]
 |.chan aj=>by simp[bV]
 |.agg ⟨l⟩=>by simp[bV,qu]
 |.tuple ⟨l⟩=>by simp[bV,qu]
 |.func fn ⟨f⟩ ⟨c⟩=>by simp[bV,qu]
 |.iface t v=>by simp[bV,qu]
 |.int _ _=>by simp
 |.bool _=>by simp
 |.string _=>by simp
 |.float _ _=>by simp[bV]
 |.complex _ _ _=>by simp[bV]
 |.nilFunc=>by simp[bV]
 |.nilIface=>by simp[bV]
theorem SP (a:Addr) (k c:Nat):∃ A c',lP ρ a k c=.slice A k c':=by
 unfold lP;cases a.spot with
 |none=>exact⟨_,_,rfl⟩
 |some q=>simp only;split<;>first|exact⟨_,_,rfl⟩|(split<;>exact⟨_,_,rfl⟩)
theorem CU (v:Value):(bV ρ v).cells=v.cells.map (bV ρ):=by
 cases v with
 |agg cs=>rw[Ae];rfl
 |slice a k c =>
  cases a with
  |none=>simp[bV,nM]
  |some a =>
   obtain⟨A,c',h⟩:=SP (ρ:=ρ) a k c;simp[bV,h,nM]
 |pointer a=>cases a<;>simp[bV,nM]
 |map a=>cases a<;>simp[bV,nM]
 |chan a=>cases a<;>simp[bV,nM]
 |tuple cs=>obtain⟨l⟩:=cs;simp[bV,nM]
 |func fn f c=>obtain⟨f⟩:=f;obtain⟨c⟩:=c;simp[bV,nM]
 |iface t v=>simp[bV,nM]
 |_=>simp[bV,nM]
end
end Rx
namespace Rx
open Go.RowKit State
structure aW where
 i:List Int
 b:List Bool
 s:List ByteArray
def zq (l:List Int):aW:=⟨l,[],[]⟩
def Bk (l:List Bool):aW:=⟨[],l,[]⟩
def EI (l:List ByteArray):aW:=⟨[],[],l⟩
def LB:aW:=⟨[],[],[]⟩
def gJ:Value->aW->Nat->Value
 |.int k _,c,e=>.int k (c.i.getD e 0)
 |.bool _,c,e=>.bool (c.b.getD e an)
 |.string _,c,e=>.string (c.s.getD e ⟨#[]⟩)
 |v,_,_=>v
def jU:Value->aW->Nat->Prop
 |.int _ _,c,n=>c.i.length=n
 |.bool _,c,n=>c.b.length=n
 |.string _,c,n=>c.s.length=n
 |v,_,_=>flat v=ao/\v.oneCell'=ao
structure Row where
 tm:List Value
 n:Nat
 ew:List aW
structure oC (r:Row) (arr:Array Value) (o:Nat):Prop where
 len:r.ew.length=r.tm.length
 JL:∀ (f:Nat) (t:Value) (c:aW),r.tm[f]?=aa t->r.ew[f]?=aa c->jU t c r.n
 cell:∀ (f:Nat) (t:Value) (c:aW) (e:Nat),r.tm[f]?=aa t->r.ew[f]?=aa c->e<r.n->arr[o+(e*r.tm.length+f)]?=aa (gJ t c e)
abbrev SB (R:Type):=(TypeId×List Value) ⊕ (TypeId×Row) ⊕ Row ⊕ R
abbrev Hp (R:Type):=List (Option (SB R))
structure fR (R:Type) where
 H:R->Place->(Nat->Prop)->World->Prop
 Iy:∀ x p F w w',H x p F w->(∀ k,F k->w'.heap[k]?=w.heap[k]?)->H x p F w'
 lt:∀ x p F w k,H x p F w->F k->k<w.heap.size
structure Ctx where
 w0:World
 U:Nat->Prop
 e0:Env
 n0:Nat
section
variable {R:Type} {D:fR R} {C:Ctx} {ρ gF:Env} {i n:Nat} {F:Nat->Prop} {w w':World} {B:SB R}
def hold (D:fR R) (C:Ctx) (ρ:Env) (i:Nat) (F:Nat->Prop) (w:World):SB R->Prop
 |.inl (t,cs)=>(ρ i).off=0/\(∀ k,F k↔k=(ρ i).lO)/\w.heap[(ρ i).lO]?=aa (.cells (cs.map (bV ρ)).toArray t (0,0))
 |.inr (.inl (t,r))=>(∀ k,F k↔((ρ i).nil=an/\k=(ρ i).lO))/\0<r.tm.length/\r.n≤(ρ i).cap/\(ρ i).cap≤maxLen/\((ρ i).nil=ao->(ρ i).cap=0) /\
   ∃ arr,((ρ i).nil=an->w.heap[(ρ i).lO]?=aa (.cells arr t (0,0))/\arr.size=(ρ i).off+(ρ i).cap*r.tm.length)/\oC r arr (ρ i).off
 |.inr (.inr (.inl r))=>(∀ k,¬ F k)/\0<r.tm.length/\r.n≤(ρ i).cap/\(ρ i).cap≤maxLen/\((ρ i).nil=ao->(ρ i).cap=0) /\
   ∃ arr,((ρ i).nil=an->0<r.n->(ρ i).lO<C.w0.heap.size/\¬ C.U (ρ i).lO/\∃ t fz,C.w0.heap[(ρ i).lO]?=aa (.cells arr t fz))/\oC r arr (ρ i).off
 |.inr (.inr (.inr x))=>D.H x (ρ i) F w
def inside (n:Nat):SB R->Prop
 |.inl (_,cs)=>iJ n cs=ao
 |_=>True
theorem CF {m:Nat} (hm:n≤m) (h:inside n B):inside m B:=by
 rcases B with⟨t,cs⟩|⟨t,r⟩|r|x<;>first|exact trivial|skip
 exact vv hm _ h
theorem K9 (h:hold D C ρ i F w B) (hk:∀ k,F k->w'.heap[k]?=w.heap[k]?):hold D C ρ i F w' B:=by
 rcases B with⟨t,cs⟩|⟨t,r⟩|r|x
 ·obtain⟨h1,h2,h3⟩:=h;exact⟨h1,h2,by rw[hk _ ((h2 _).2 rfl)];exact h3⟩
 ·obtain⟨h1,h2,h3,h4,J5,arr,h5,h6⟩:=h;exact⟨h1,h2,h3,h4,J5,arr,fun hn=>by rw[hk _ ((h1 _).2 ⟨hn,rfl⟩)];exact h5 hn,h6⟩
 ·exact h
 ·exact D.Iy _ _ _ _ _ h hk
theorem I2 (h:hold D C ρ i F w B) (qW:∀ j,j<n->gF j=ρ j) (hi:i<n) (hs:inside n B):hold D C gF i F w B:=by
 have e:=qW i hi;rcases B with⟨t,cs⟩|⟨t,r⟩|r|x
 ·simp only[hold,e] at *
  have:cs.map (bV gF)=cs.map (bV ρ):=oj fun v hv=>(nG (fun j hj=>(qW j hj)) v (xd.1 hs v hv))
  rw[this];exact h
 ·simp only[hold,e] at *;exact h
 ·simp only[hold,e] at *;exact h
 ·simp only[hold,e] at *;exact h
structure HM (D:fR R) (C:Ctx) (ρ:Env) (ft:Nat->Nat->Prop) (h:Hp R) (w:World):Prop where
 at_:∀ i B,h[i]?=aa (aa B)->hold D C ρ i (ft i) w B/\inside h.length B
 lt:∀ i k,ft i k->k<w.heap.size
 fresh:∀ i k,ft i k->C.U k∨C.w0.heap.size≤k
 apart:∀ i j k,ft i k->ft j k->i=j
 some_:∀ i k,ft i k->∃ B,h[i]?=aa (aa B)
 kept:Kept C.U C.w0 w
variable {ft kF:Nat->Nat->Prop} {h h':Hp R}
theorem HM.same (hm:HM D C ρ ft h w) (hh:w'.heap=w.heap) (ho:w'.os=w.os) (ht:w'.tape=w.tape) (hu:w'.output=w.output):HM D C ρ ft h w' where
 at_ i B hi:=⟨K9 (hm.at_ i B hi).1 (fun k _=>by rw[hh]),(hm.at_ i B hi).2⟩
 lt i k hk:=by rw[hh];exact hm.lt i k hk
 fresh:=hm.fresh
 apart:=hm.apart
 some_:=hm.some_
 kept:=⟨ho.trans hm.kept.os,ht.trans hm.kept.tape,hu.trans hm.kept.output,by rw[hh];exact hm.kept.size,fun k hk hn=>by rw[hh];exact hm.kept.block k hk hn⟩
theorem HM.drew (hm:HM D C ρ ft h w):HM D C ρ ft h w.drew:=hm.same rfl rfl rfl rfl
theorem HM.step (hm:HM D C ρ ft h w) (S:Nat->Prop) (hk:Kept (fun k=>∃ i,S i/\ft i k) w w') (qW:∀ i,i<h.length->gF i=ρ i) (hlen:h.length≤h'.length)
  (uM:∀ i B,(i<h.length->S i)->h'[i]?=aa (aa B)->hold D C gF i (kF i) w' B/\inside h'.length B)
  (GJ:∀ i,i<h.length->¬ S i->h'[i]?=h[i]?/\∀ k,kF i k↔ft i k)
  (kj:∀ i k,(i<h.length->S i)->kF i k->((∃ j,S j/\ft j k)∨w.heap.size≤k)/\k<w'.heap.size/\∃ B,h'[i]?=aa (aa B))
  (hap:∀ i j k,(i<h.length->S i)->(j<h.length->S j)->kF i k->kF j k->i=j):HM D C gF kF h' w' where
 at_ i B hi:=by
  by_cases hs:i<h.length/\¬ S i
  ·obtain⟨hl,hn⟩:=hs;obtain⟨e,hf⟩:=GJ i hl hn;rw[e] at hi;obtain⟨h1,h2⟩:=hm.at_ i B hi;refine⟨?_,CF hlen h2⟩;have h3:=I2 h1 qW hl h2;have h4:hold D C gF i (ft i) w' B:=K9 h3 fun k nQ=>hk.block k (hm.lt i k nQ) (fun⟨j,hj,hjk⟩=>hn (by rw[hm.apart i j k nQ hjk];exact hj))
   have:kF i=ft i:=funext fun k=>propext (hf k)
   rw[this];exact h4
  ·exact uM i B (fun hl=>iM fun hn=>hs ⟨hl,hn⟩) hi
 lt i k hi:=by
  by_cases hs:i<h.length/\¬ S i
  ·exact lH (hm.lt i k (((GJ i hs.1 hs.2).2 k).1 hi)) hk.size
  ·exact(kj i k (fun hl=>iM fun hn=>hs ⟨hl,hn⟩) hi).2.1
 fresh i k hi:=by
  by_cases hs:i<h.length/\¬ S i
  ·exact hm.fresh i k (((GJ i hs.1 hs.2).2 k).1 hi)
  ·rcases(kj i k (fun hl=>iM fun hn=>hs ⟨hl,hn⟩) hi).1 with⟨j,_,hj⟩|ki
   ·exact hm.fresh j k hj
   ·exact e_ (jz hm.kept.size ki)
 apart i j k hi hj:=by
  by_cases hs:i<h.length/\¬ S i<;>by_cases U':j<h.length/\¬ S j
  ·exact hm.apart i j k (((GJ i hs.1 hs.2).2 k).1 hi) (((GJ j U'.1 U'.2).2 k).1 hj)
  ·have kQ:=((GJ i hs.1 hs.2).2 k).1 hi;rcases(kj j k (fun hl=>iM fun hn=>U' ⟨hl,hn⟩) hj).1 with⟨l,hl,uS⟩|ki
   ·exact absurd hl (by rw[← hm.apart i l k kQ uS];exact hs.2)
   ·have:=hm.lt i k kQ;omega
  ·have Mw:=((GJ j U'.1 U'.2).2 k).1 hj;rcases(kj i k (fun hl=>iM fun hn=>hs ⟨hl,hn⟩) hi).1 with⟨l,hl,uS⟩|ki
   ·exact absurd hl (by rw[← hm.apart j l k Mw uS];exact U'.2)
   ·have:=hm.lt j k Mw;omega
  ·exact hap i j k (fun hl=>iM fun hn=>hs ⟨hl,hn⟩) (fun hl=>iM fun hn=>U' ⟨hl,hn⟩) hi hj
 some_ i k hi:=by
  by_cases hs:i<h.length/\¬ S i
  ·obtain⟨e,hf⟩:=GJ i hs.1 hs.2;rw[e];exact hm.some_ i k ((hf k).1 hi)
  ·exact(kj i k (fun hl=>iM fun hn=>hs ⟨hl,hn⟩) hi).2.2
 kept:=hm.kept.trans hk fun k nQ ⟨j,_,hj⟩=>by
  rcases hm.fresh j k hj with hu|ki
  ·exact hu
  ·omega
def qA {α:Type} (f:Nat->α) (n:Nat) (a:α):Nat->α:=fun i=>if i=n then a else f i
theorem jq {α:Type} (f:Nat->α) (n:Nat) (a:α):qA f n a n=a:=by simp[qA]
theorem o3 {α:Type} (f:Nat->α) (n:Nat) (a:α) {i:Nat} (hi:i<n):qA f n a i=f i:=by simp[qA,Nat.ne_of_lt hi]
theorem wh {α:Type} (f:Nat->α) (n:Nat) (a:α) {i:Nat} (hi:i≠n):qA f n a i=f i:=by simp[qA,hi]
theorem HM.push (hm:HM D C ρ ft h w) (p:Place) (o:Obj) (hp:p.lO=w.heap.size) (B:SB R) (hB:hold D C (qA ρ h.length p) h.length (fun k=>k=w.heap.size) (w.alloc o) B) (hs:inside (h.length+1) B) :
  HM D C (qA ρ h.length p) (qA ft h.length (fun k=>k=w.heap.size)) (h++[aa B]) (w.alloc o):=by
 refine hm.step (fun _=>False) ((Kept.refl _ _).alloc _) (fun i hi=>o3 _ _ _ hi) (by simp) ?_ ?_ ?_ ?_
 ·intro i B' hi jN;have ki:h.length≤i:=nL hi;rw[dW ki] at jN;have:i=h.length:=by
   rcases ct h.length i with cd|hle
   ·rw[df (by simp;omega)] at jN;cases jN
   ·omega
  subst this;simp at jN;subst jN;rw[jq]
  simpa using⟨hB,hs⟩
 ·intro i hi _;exact⟨da hi,fun k=>by rw[o3 _ _ _ hi]⟩
 ·intro i k hi hk;have ki:h.length≤i:=nL hi
  by_cases he:i=h.length
  ·subst he;rw[jq] at hk;subst hk;exact⟨e_ (a_ _),by simp,B,by simp⟩
  ·rw[wh _ _ _ he] at hk;obtain⟨B',jN⟩:=hm.some_ i k hk;rw[df ki] at jN;cases jN
 ·intro i j k hi hj Hy HC;have hgi:h.length≤i:=nL hi;have hgj:h.length≤j:=nL hj;have key:∀ l,h.length≤l->qA ft h.length (fun k=>k=w.heap.size) l k->l=h.length:=fun l hl uS=>by
   refine iM fun he=>?_
   rw[wh _ _ _ he] at uS;obtain⟨B',jN⟩:=hm.some_ l k uS;rw[df hl] at jN;cases jN
  rw[key i hgi Hy,key j hgj HC]
theorem HM.pushNone (hm:HM D C ρ ft h w) (p:Place):HM D C (qA ρ h.length p) ft (h++[aj]) w:=by
 refine hm.step (fun _=>False) (Kept.refl _ _) (fun i hi=>o3 _ _ _ hi) (by simp) ?_ ?_ ?_ ?_
 ·intro i B' hi jN;have ki:h.length≤i:=nL hi;rw[dW ki] at jN;rcases ct h.length i with cd|hle
  ·rw[df (by simp;omega)] at jN;cases jN
  ·rw[show i-h.length=0 by omega] at jN;simp at jN
 ·intro i hi _;exact⟨da hi,fun k=>sD⟩
 ·intro i k hi hk;obtain⟨B',jN⟩:=hm.some_ i k hk;have cd:=(aU.1 jN).1;exact absurd cd hi
 ·intro i j k hi hj Hy HC;exact hm.apart i j k Hy HC
theorem HM.put (hm:HM D C ρ ft h w) {i:Nat} {B0:SB R} (hi:h[i]?=aa (aa B0)) (hk:Kept (ft i) w w') (B:SB R) (F:Nat->Prop) (hB:hold D C ρ i F w' B) (hs:inside h.length B)
  (hF:∀ k,F k->(ft i k∨w.heap.size≤k)/\k<w'.heap.size):HM D C ρ (qA ft i F) (h.set i (aa B)) w':=by
 have hl:i<h.length:=(aU.1 hi).1;refine hm.step (fun j=>j=i) (hk.mono fun k hk=>⟨i,rfl,hk⟩) (fun _ _=>rfl) (by simp) ?_ ?_ ?_ ?_
 ·intro j B' hj jN
  by_cases he:j=i
  ·subst he;rw[j_ hl] at jN;injection jN with jN;injection jN with jN
   subst jN;rw[jq];exact⟨hB,by rw[fh];exact hs⟩
  ·have cd:¬ j<h.length:=fun cd=>he (hj cd)
   rw[df (by rw[fh];omega)] at jN
   cases jN
 ·intro j hj hn;refine⟨kD (fun e=>hn e.symm),fun k=>by rw[wh _ _ _ hn]⟩
 ·intro j k hj nQ
  by_cases he:j=i
  ·subst he;rw[jq] at nQ;obtain⟨h1,h2⟩:=hF k nQ;exact⟨h1.imp (fun h=>⟨j,rfl,h⟩) id,h2,B,j_ hl⟩
  ·rw[wh _ _ _ he] at nQ;obtain⟨B',jN⟩:=hm.some_ j k nQ;have cd:=(aU.1 jN).1;exact absurd (hj cd) he
 ·intro a b k ha hb hka hkb;have key:∀ l,(l<h.length->l=i)->qA ft i F l k->l=i:=fun l BJ uS=>by
   refine iM fun he=>?_
   rw[wh _ _ _ he] at uS;obtain⟨B',jN⟩:=hm.some_ l k uS;exact he (BJ (aU.1 jN).1)
  rw[key a ha hka,key b hb hkb]
theorem HM.drop (hm:HM D C ρ ft h w) (i:Nat):HM D C ρ (qA ft i (fun _=>False)) (h.set i aj) w:=by
 refine hm.step (fun j=>j=i) (Kept.refl _ _) (fun _ _=>rfl) (by simp) ?_ ?_ ?_ ?_
 ·intro j B' hj jN
  by_cases he:j=i
  ·subst he
   by_cases hl:j<h.length
   ·rw[j_ hl] at jN;injection jN with jN
    cases jN
   ·rw[df (by rw[fh];omega)] at jN
    cases jN
  ·have cd:¬ j<h.length:=fun cd=>he (hj cd)
   rw[df (by rw[fh];omega)] at jN
   cases jN
 ·intro j hj hn;refine⟨kD (fun e=>hn e.symm),fun k=>by rw[wh _ _ _ hn]⟩
 ·intro j k hj nQ
  by_cases he:j=i
  ·subst he;rw[jq] at nQ;exact nQ.elim
  ·rw[wh _ _ _ he] at nQ;obtain⟨B',jN⟩:=hm.some_ j k nQ;have cd:=(aU.1 jN).1;exact absurd (hj cd) he
 ·intro a b k ha hb hka hkb;have key:∀ l,qA ft i (fun _=>False) l k->ft l k:=fun l uS=>by
   by_cases he:l=i
   ·subst he;rw[jq] at uS;exact uS.elim
   ·rw[wh _ _ _ he] at uS;exact uS
  exact hm.apart a b k (key a hka) (key b hkb)
end
end Rx
namespace Rx
open Go.RowKit State
structure SS (R:Type) where
 tm:List (Option Value)
 li:List (Nat×Bool)
 hp:Hp R
structure Out (R:Type) where
 vc:Prop
 v:Value
 lit:Option Bool
 hp:Hp R
 rd:List (Nat×Nat)
 wr:List (Nat×Nat)
structure TM (ρ:Env) (n:Nat) (tm:List (Option Value)) (a:Act):Prop where
 size:a.tmps.size=tm.length
 val:∀ (t:Nat) (v:Value),tm[t]?=aa (aa v)->a.tmps[t]?=aa (bV ρ v)/\fD n v=ao
def LI (li:List (Nat×Bool)) (tm:List (Option Value)):Prop:=∀ (t:Nat) (b:Bool),(t,b)∈li->tm[t]?=aa (aa (.bool b))
def ev (tm:List (Option Value)):Operand->Option Value
 |.tmp t=>match tm[t]? with
  |some (aa v)=>aa v
  |_=>aj
 |.const v=>if flat v then aa v else aj
 |.func f=>aa (.func (.func f) #[] #[])
 |.global _=>aj
def look (li:List (Nat×Bool)) (t:Nat):Option Bool :=
 match li with
 |[]=>aj
 |(u,b)::l=>if fj u t then aa b else look l t
def Gj (li:List (Nat×Bool)):Operand->Option Bool
 |.tmp t=>look li t
 |.const (.bool b)=>aa b
 |_=>aj
section
variable {R:Type} {D:fR R} {P:Program}
theorem NC {li:List (Nat×Bool)} {t:Nat} {b:Bool} (h:look li t=aa b):(t,b)∈li:=by
 induction li with
 |nil=>cases h
 |cons p l ih =>
  obtain⟨u,c⟩:=p;simp only[look] at h;split at h
  ·rename_i e;have e:=cQ e;injection h with h
   subst h;subst e;exact List.mem_cons_self
  ·exact List.mem_cons_of_mem _ (ih h)
theorem eJ {ρ:Env} {n:Nat} {tm:List (Option Value)} {a:Act} {x:Operand} {v:Value} (ht:TM ρ n tm a) (h:ev tm x=aa v):a.eval x=bV ρ v/\fD n v=ao:=by
 cases x with
 |tmp t =>
  simp only[ev] at h;split at h
  ·rename_i u hu;injection h with h
   subst h;obtain⟨h1,h2⟩:=ht.val t u hu;exact⟨by simp[Cw,h1],h2⟩
  ·cases h
 |const u =>
  simp only[ev] at h;split at h
  ·rename_i hf;injection h with h
   subst h;exact⟨by simp[Cw,n_ u hf],I4 u hf⟩
  ·cases h
 |func f =>
  simp only[ev] at h;injection h with h
  subst h;exact⟨by simp[Cw,bV,nS],by simp[fD,iJ]⟩
 |global g=>cases h
theorem yD {li:List (Nat×Bool)} {tm:List (Option Value)} {x:Operand} {b:Bool} (hl:LI li tm) (h:Gj li x=aa b):ev tm x=aa (.bool b):=by
 cases x with
 |tmp t =>
  have:=hl t b (NC h);simp[ev,this]
 |const u =>
  cases u<;>simp only[Gj] at h<;>try cases h
  simp[ev,flat]
 |func f=>cases h
 |global g=>cases h
structure mv (D:fR R) (P:Program) (o:Oper) (σ:SS R) (x:Out R):Prop where
 run:∀ C ρ ft a w K Q,TM ρ σ.hp.length σ.tm a->LI σ.li σ.tm->HM D C ρ ft σ.hp w->x.vc ->
  (∀ gF kF w',(∀ i,i<σ.hp.length->gF i=ρ i)->HM D C gF kF x.hp w'->K (a.put o.dst (bV gF x.v)) w')->o.wp P a w K Q
 len:σ.hp.length≤x.hp.length
 lit:LI σ.li σ.tm->∀ b,x.lit=aa b->x.v=.bool b
theorem rO {o:Oper} {a:Act} {w w':World} {v:Value} {K:Act->World->Prop} {Q:Exit->Act->World->Prop} (h:(execOp a.eval o).run P w=.ok (.value v) w') (hk:K (a.put o.dst v) w'):o.wp P a w K Q:=by
 simp only[Sb,h,adk];exact hk
theorem UT {o:Oper} {a:Act} {w w':World} {K:Act->World->Prop} {Q:Exit->Act->World->Prop} (h:(execOp a.eval o).run P w=.ok .skip w') (hk:K (a.put o.dst undef) w'):o.wp P a w K Q:=by
 simp only[Sb,h,adk];exact hk
def gy (σ:SS R) (vc:Prop) (v:Value) (lit:Option Bool) (rd:List (Nat×Nat)):Out R:=⟨vc,v,lit,σ.hp,rd,[]⟩
theorem ic {o:Oper} {σ:SS R} {vc:Prop} {v:Value} {lit:Option Bool} {rd:List (Nat×Nat)}
  (h:∀ C ρ ft a w,TM ρ σ.hp.length σ.tm a->LI σ.li σ.tm->HM D C ρ ft σ.hp w->vc->(execOp a.eval o).run P w=.ok (.value (bV ρ v)) w)
  (hl:LI σ.li σ.tm->∀ b,lit=aa b->v=.bool b):mv D P o σ (gy σ vc v lit rd) where
 run C ρ ft a w K Q ht iH hm hv hk:=rO (h C ρ ft a w ht iH hm hv) (hk ρ ft w (fun _ _=>rfl) hm)
 len:=a_ _
 lit:=hl
def xU {α:Type} (P:Program):Sem α->Option α
 |.pure a=>aa a
 |.program k=>xU P (k P)
 |.mark _ k=>xU P k
 |_=>aj
theorem ML {α:Type} {P:Program} (s:Sem α) {a:α} (h:xU P s=aa a) (w:World):s.run P w=.ok a w:=by
 induction s generalizing w with
 |pure b=>simp only[xU] at h;injection h with h;subst h;rfl
 |program k ih=>simp only[xU] at h;simp only[Sem.run];exact ih P h w
 |mark m k ih=>simp only[xU] at h;simp only[Sem.run];exact ih h w
 |_=>simp only[xU] at h;cases h
def evf (tm:List (Option Value)) (x:Operand):Value:=(ev tm x).getD undef
def abS (tm:List (Option Value)) (x:Operand):Bool :=
 match ev tm x with
 |some v=>flat v
 |none=>an
def flatAll (tm:List (Option Value)):List Operand->Bool
 |[]=>ao
 |x::l=>abS tm x&&flatAll tm l
theorem Xl {tm:List (Option Value)} {l:List Operand} (h:flatAll tm l=ao) {x:Operand} (hx:x∈l):∃ v,ev tm x=aa v/\flat v=ao:=by
 induction l with
 |nil=>cases hx
 |cons y l ih =>
  simp only[flatAll,aM] at h;rcases bN.1 hx with rfl|hx
  ·have h1:=h.1;unfold abS at h1;split at h1
   ·exact⟨_,by assumption,h1⟩
   ·cases h1
  ·exact ih h.2 hx
def noSelect:Op->Bool
 |.select _ _=>an
 |_=>ao
def uL (P:Program) (σ:SS R) (o:Oper):Option (Out R) :=
 if noSelect o.op&&flatAll σ.tm o.op.operands.toList then
  match xU P (execOp (evf σ.tm) o) with
  |some (.value v)=>if flat v then aa (gy σ True v aj []) else aj
  |_=>aj
 else aj
theorem xg {σ:SS R} {o:Oper} {x:Out R} (h:uL P σ o=aa x):mv D P o σ x:=by
 unfold uL at h;split at h
 ·rename_i hc;simp only[aM] at hc;split at h
  ·rename_i v hp;split at h
   ·rename_i hf;injection h with h
    subst h;refine ic (fun C ρ ft a w ht iH hm _=>?_) (fun _ b hb=>by cases hb)
    have e:execOp a.eval o=execOp (evf σ.tm) o:=by
     refine execOp_congr o (fun cs b hs=>?_) (fun y hy=>?_)
     ·rw[hs] at hc;simp[noSelect] at hc
     ·obtain⟨u,hu,hfu⟩:=Xl hc.2 (Array.mem_toList_iff.2 hy);rw[(eJ ht hu).1,n_ u hfu];simp[evf,hu]
    rw[e,ML _ hp w,n_ v hf]
   ·cases h
  ·cases h
 ·cases h
def wk (σ:SS R) (x:Operand):Option (Out R) :=
 match ev σ.tm x with
 |some v=>aa (gy σ True v (Gj σ.li x) [])
 |none=>aj
theorem Sj {σ:SS R} {o:Oper} {y:Operand} {x:Out R} (ho:o.op=.move y∨o.op=.assign y) (h:wk σ y=aa x):mv D P o σ x:=by
 unfold wk at h;split at h
 ·rename_i v hv;injection h with h
  subst h;refine ic (fun C ρ ft a w ht iH hm _=>?_) (fun iH b hb=>?_)
  ·rw[← (eJ ht hv).1];rcases ho with ho|ho<;>simp[execOp,ho]
  ·have:=yD iH hb;rw[hv] at this;exact pw this
 ·cases h
def HS (σ:SS R) (c y z:Operand):Option (Out R) :=
 match Gj σ.li c with
 |some ao=>wk σ y
 |some an=>wk σ z
 |none =>
  match ev σ.tm c,ev σ.tm y,ev σ.tm z with
  |some (.bool c),aa (.bool y),aa (.bool z)=>aa (gy σ True (.bool (if c then y else z)) aj [])
  |_,_,_=>aj
theorem acA {σ:SS R} {o:Oper} {c y z:Operand} {x:Out R} (ho:o.op=.pick c y z) (h:HS σ c y z=aa x):mv D P o σ x:=by
 unfold HS at h;split at h
 ·rename_i hl;unfold wk at h;split at h
  ·rename_i v hv;injection h with h
   subst h;refine ic (fun C ρ ft a w ht iH hm _=>?_) (fun iH b hb=>?_)
   ·have h1:=(eJ ht (yD iH hl)).1;rw[← (eJ ht hv).1];simp[execOp,ho,h1,asBool]
   ·have:=yD iH hb;rw[hv] at this;exact pw this
  ·cases h
 ·rename_i hl;unfold wk at h;split at h
  ·rename_i v hv;injection h with h
   subst h;refine ic (fun C ρ ft a w ht iH hm _=>?_) (fun iH b hb=>?_)
   ·have h1:=(eJ ht (yD iH hl)).1;rw[← (eJ ht hv).1];simp[execOp,ho,h1,asBool]
   ·have:=yD iH hb;rw[hv] at this;exact pw this
  ·cases h
 ·split at h
  ·rename_i c' y' z' hc hy hz;injection h with h
   subst h;refine ic (fun C ρ ft a w ht iH hm _=>?_) (fun iH b hb=>by cases hb)
   have h1:=(eJ ht hc).1;have h2:=(eJ ht hy).1;have h3:=(eJ ht hz).1;simp[execOp,ho,h1,h2,h3,asBool]
  ·cases h
def LO (σ:SS R) (y:Operand):Option (Out R) :=
 match ev σ.tm y with
 |some (.bool b)=>aa (gy σ True (.bool (!b)) ((Gj σ.li y).map (!·)) [])
 |_=>aj
theorem aej {σ:SS R} {o:Oper} {t:TypeId} {y:Operand} {x:Out R} (ho:o.op=.unOp .not t y) (h:LO σ y=aa x):mv D P o σ x:=by
 unfold LO at h;split at h
 ·rename_i b hb;injection h with h
  subst h;refine ic (fun C ρ ft a w ht iH hm _=>?_) (fun iH c hc=>?_)
  ·have h1:=(eJ ht hb).1;simp[execOp,ho,h1,Op.unary]
  ·cases hl:Gj σ.li y with
   |none=>rw[hl] at hc;cases hc
   |some d =>
    have:=yD iH hl;rw[hb] at this;injection this with this;injection this with this
    subst this;rw[hl] at hc;injection hc with hc
    subst hc
    rfl
 ·cases h
def LG (σ:SS R) (y:Operand):Option (Out R) :=
 match ev σ.tm y with
 |some (.pointer (aa p))=>aa (gy σ True (.pointer (aa p)) aj [])
 |some (.func (.func f) xs ys)=>aa (gy σ True (.func (.func f) xs ys) aj [])
 |_=>aj
theorem ady {σ:SS R} {o:Oper} {y:Operand} {x:Out R} (ho:o.op=.nilCheck y) (h:LG σ y=aa x):mv D P o σ x:=by
 unfold LG at h;split at h
 ·rename_i p hp;injection h with h
  subst h;refine ic (fun C ρ ft a w ht iH hm _=>?_) (fun iH c hc=>by cases hc)
  have h1:=(eJ ht hp).1;simp only[bV] at h1;simp[execOp,ho,h1,bV]
 ·rename_i f xs ys hp;injection h with h
  subst h;refine ic (fun C ρ ft a w ht iH hm _=>?_) (fun iH c hc=>by cases hc)
  have h1:=(eJ ht hp).1;obtain⟨xs⟩:=xs;obtain⟨ys⟩:=ys;simp only[bV] at h1;simp[execOp,ho,h1,bV]
 ·cases h
def zP (σ:SS R) (y:Operand) (k:Nat):Option (Out R) :=
 match ev σ.tm y with
 |some (.tuple ⟨l⟩)=>match l[k]? with
  |some v=>aa (gy σ True v aj [])
  |none=>aj
 |_=>aj
theorem Wa {σ:SS R} {o:Oper} {y:Operand} {k:Nat} {x:Out R} (ho:o.op=.extract y k) (h:zP σ y k=aa x):mv D P o σ x:=by
 unfold zP at h;split at h
 ·rename_i l hl;split at h
  ·rename_i v hv;injection h with h
   subst h;refine ic (fun C ρ ft a w ht iH hm _=>?_) (fun iH c hc=>by cases hc)
   have h1:=(eJ ht hl).1;rw[aa0] at h1;simp[execOp,ho,h1,Instr.extract,hv]
  ·cases h
 ·cases h
def HF (P:Program) (t:TypeId):Value->Value->Option Bool
 |.pointer p,.pointer aj|.pointer aj,.pointer p =>
  match P.underlying t with
  |some (.pointer _)=>aa (match p with|none=>ao|some _=>an)
  |_=>aj
 |.slice aj _ _,.slice aj _ _ =>
  match P.underlying t with
  |some (.slice _)=>aa ao
  |_=>aj
 |.slice (aa ⟨_,_,aj⟩) _ _,.slice aj _ _ =>
  match P.underlying t with
  |some (.slice _)=>aa an
  |_=>aj
 |.func _ _ _,.nilFunc =>
  match P.underlying t with
  |some (.func _ _ _)=>aa an
  |_=>aj
 |.nilFunc,.nilFunc =>
  match P.underlying t with
  |some (.func _ _ _)=>aa ao
  |_=>aj
 |_,_=>aj
def zU (P:Program) (σ:SS R) (neg:Bool) (t:TypeId) (y z:Operand):Option (Out R) :=
 match ev σ.tm y,ev σ.tm z with
 |some u,aa v=>match HF P t u v with
  |some b=>aa (gy σ True (.bool (xG b neg)) (aa (xG b neg)) [])
  |none=>aj
 |_,_=>aj
theorem Xc {t:TypeId} {u v:Value} {b:Bool} (h:HF P t u v=aa b) (ρ:Env) (w:World):(WT t (bV ρ u) (bV ρ v)).run P w=.ok b w:=by
 have key:∀ (d:Nat),(mG (d+1) t (bV ρ u) (bV ρ v)).run P w=.ok b w:=by
  intro d;unfold HF at h;split at h
  ·rename_i p;split at h
   ·rename_i hu;injection h with h
    subst h;cases p<;>simp[mG,run_underlying hu,bV]
   ·cases h
  ·rename_i p _;split at h
   ·rename_i hu;injection h with h
    subst h;cases p<;>simp[mG,run_underlying hu,bV]
   ·cases h
  ·split at h
   ·rename_i hu;injection h with h
    subst h;simp[mG,run_underlying hu,bV]
   ·cases h
  ·split at h
   ·rename_i hu;injection h with h
    subst h;simp[mG,run_underlying hu,bV,lP]
   ·cases h
  ·rename_i fn f c;split at h
   ·rename_i hu;injection h with h
    subst h;obtain⟨f⟩:=f;obtain⟨c⟩:=c;simp[mG,run_underlying hu,bV]
   ·cases h
  ·split at h
   ·rename_i hu;injection h with h
    subst h;simp[mG,run_underlying hu,bV]
   ·cases h
  ·cases h
 unfold WT;exact key 9999
theorem Qm {σ:SS R} {o:Oper} {neg:Bool} {t t':TypeId} {y z:Operand} {x:Out R} (ho:o.op=.binOp (if neg then .neq else .eql) t y z t') (h:zU P σ neg t y z=aa x):mv D P o σ x:=by
 unfold zU at h;split at h
 ·rename_i u v hu hv;split at h
  ·rename_i b hb;injection h with h
   subst h;refine ic (fun C ρ ft a w ht iH hm _=>?_) (fun iH c hc=>by injection hc with hc;rw[hc])
   have h1:=(eJ ht hu).1;have h2:=(eJ ht hv).1;have hr:=Xc hb ρ w;have hg:∀ op,(eqGuard op t y z (bV ρ u) (bV ρ v)).run P w=.ok () w:=by
    intro op;unfold HF at hb;split at hb
    all_goals first
     |cases hb
     |skip
    ·rename_i p;cases p<;>cases op<;>simp[eqGuard,bV]
    ·rename_i p _;cases p<;>cases op<;>simp[eqGuard,bV]
    ·cases op<;>simp[eqGuard,bV]
    ·cases op<;>simp[eqGuard,bV,lP]
    ·rename_i fn f c;obtain⟨f⟩:=f;obtain⟨c⟩:=c;cases op<;>simp[eqGuard,bV]
    ·cases op<;>simp[eqGuard,bV]
   have Mx:∀ op,(op=.eql∨op=.neq)->(binOp op t (bV ρ u) (bV ρ v)).run P w=.ok (.bool (xG b (op==.neq))) w:=by
    intro op hop;have q1:(Tb==Av)=an:=by decide
    have q2:(Av==Av)=ao:=by decide
    unfold HF at hb;rcases hop with rfl|rfl
    all_goals
     split at hb
     all_goals first
      |cases hb
      |skip
     ·rename_i p;cases p<;>simp[binOp,bV] at hr ⊢<;>simp[hr,q1,q2]
     ·rename_i p _;cases p<;>simp[binOp,bV] at hr ⊢<;>simp[hr,q1,q2]
     ·simp[binOp,bV] at hr ⊢;simp[hr,q1,q2]
     ·simp[binOp,bV,lP] at hr ⊢;simp[hr,q1,q2]
     ·rename_i fn f c;obtain⟨f⟩:=f;obtain⟨c⟩:=c;simp[binOp,bV] at hr ⊢;simp[hr,q1,q2]
     ·simp[binOp,bV] at hr ⊢;simp[hr,q1,q2]
   cases neg with
   |false =>
    have h3:=Mx .eql (dO rfl);have h4:=hg .eql;simp only[fX,if_false] at ho;have q1:(Tb==Av)=an:=by decide
    simp[execOp,ho,h1,h2,h3,h4,q1]
   |true =>
    have h3:=Mx .neq (e_ rfl);have h4:=hg .neq;simp only[if_true] at ho;simp[execOp,ho,h1,h2,h3,h4]
  ·cases h
 ·cases h
def zO (P:Program) (σ:SS R) (own:Option (Option (SB R))->Bool) (neg:Bool) (t:TypeId) (y z:Operand):Option (Out R) :=
 match ev σ.tm y,ev σ.tm z with
 |some (.pointer (aa ⟨i,0,aj⟩)),aa (.pointer (aa ⟨j,0,aj⟩)) =>
  match P.underlying t with
  |some (.pointer el)=>match P.info? el with
   |some inf =>
    if gY 0 inf.size then
     match fj i j with
     |true=>aa (gy σ True (.bool (xG ao neg)) (aa (xG ao neg)) [])
     |false=>if own σ.hp[i]?&&own σ.hp[j]? then aa (gy σ True (.bool (xG an neg)) (aa (xG an neg)) []) else aj
    else aj
   |none=>aj
  |_=>aj
 |_,_=>aj
theorem Qq {own:Option (Option (SB R))->Bool} (VH:∀ {C:Ctx} {ρ:Env} {ft:Nat->Nat->Prop} {h:Hp R} {w:World} {i:Nat},HM D C ρ ft h w->own h[i]?=ao->ft i (ρ i).lO/\∃ ca ta,w.heap[(ρ i).lO]?=aa (.cells ca ta (0,0)))
  {σ:SS R} {o:Oper} {neg:Bool} {t t':TypeId} {y z:Operand} {x:Out R} (ho:o.op=.binOp (if neg then .neq else .eql) t y z t') (h:zO P σ own neg t y z=aa x):mv D P o σ x:=by
 unfold zO at h;split at h
 ·rename_i i j hu hv;split at h
  ·rename_i el ht;split at h
   ·rename_i inf yB;split at h
    ·rename_i om
     have anw : ¬ inf.size = 0 := by have : 0 < inf.size := by simpa using om
                                     omega
     have key:∀ (b:Bool),aa (gy σ True (.bool (xG b neg)) (aa (xG b neg)) [])=aa x ->
       (∀ {C:Ctx} {ρ:Env} {ft:Nat->Nat->Prop} {w:World},HM D C ρ ft σ.hp w->(sameAddr (iQ ρ ⟨i,0,aj⟩) (iQ ρ ⟨j,0,aj⟩)).run P w=.ok b w)->mv D P o σ x:=by
      intro b h hb;injection h with h
      subst h;refine ic (fun C ρ ft a w ht' iH hm _=>?_) (fun iH c hc=>by injection hc with hc;rw[hc])
      have h1:=(eJ ht' hu).1;have h2:=(eJ ht' hv).1;have h5:=hb hm;simp only[bV] at h1 h2;have hr:(WT t (.pointer (aa (iQ ρ ⟨i,0,aj⟩))) (.pointer (aa (iQ ρ ⟨j,0,aj⟩)))).run P w=.ok b w:=by
       have q:∀ d,(mG (d+1) t (.pointer (aa (iQ ρ ⟨i,0,aj⟩))) (.pointer (aa (iQ ρ ⟨j,0,aj⟩)))).run P w=.ok b w:=fun d=>by
        simp[mG,run_underlying ht,sizeOf,typeInfo,yB,anw,h5]
       exact q 9999
      cases neg with
      |false =>
       simp only[fX,if_false] at ho;have q1:(Tb==Av)=an:=by decide
       simp[execOp,ho,h1,h2,eqGuard,binOp,hr,q1,bV]
      |true =>
       simp only[if_true] at ho;have q2:(Av==Av)=ao:=by decide
       simp[execOp,ho,h1,h2,eqGuard,binOp,hr,q2,bV]
     split at h
     ·rename_i hb;have:=cQ hb;subst this;exact key ao h (fun _=>run_sameAddr_same _ _)
     ·rename_i hb;split at h
      ·rename_i hc;simp only[aM] at hc;refine key an h (fun {C ρ ft w} hm=>?_)
       obtain⟨g1,c1,t1,e1⟩:=VH hm hc.1;obtain⟨g2,c2,t2,e2⟩:=VH hm hc.2;refine run_sameAddr_other (ca:=c1) (cb:=c2) (ta:=t1) (tb:=t2) _ (fun e=>?_) e1 e2
       simp only[iQ,Addr.mk.injEq] at e;rw[e.1] at g1;have:=hm.apart _ _ _ g1 g2;subst this;simp at hb
      ·cases h
    ·cases h
   ·cases h
  ·cases h
 ·cases h
end
end Rx
namespace Rx
open Go.RowKit State
structure fits (n:Int):Prop where
 lo:-9223372036854775808≤n
 hi:n≤9223372036854775807
theorem oe {n:Int} (h:fits n):ar.wrap n=n:=by rw[IntKind.wrap_i64];have:=h.lo;have:=h.hi;omega
section
variable {R:Type} {D:fR R} {P:Program} {C:Ctx} {ρ:Env} {ft:Nat->Nat->Prop} {w w':World}
def OX (σ:SS R) (op:BinOp) (y z:Operand):Option (Out R) :=
 match ev σ.tm y,ev σ.tm z with
 |some (.int .i64 a),aa (.int .i64 b) =>
  match op with
  |.add=>aa (gy σ (fits (a+b)) (.int .i64 (a+b)) aj [])
  |.sub=>aa (gy σ (fits (a-b)) (.int .i64 (a-b)) aj [])
  |.mul=>aa (gy σ (fits (a*b)) (.int .i64 (a*b)) aj [])
  |.quo=>aa (gy σ (b≠0/\fits (a.tdiv b)) (.int .i64 (a.tdiv b)) aj [])
  |.rem=>aa (gy σ (b≠0) (.int .i64 (a.tmod b)) aj [])
  |_=>aj
 |_,_=>aj
theorem aeV {σ:SS R} {o:Oper} {op:BinOp} {t t':TypeId} {y z:Operand} {x:Out R} (ho:o.op=.binOp op t y z t') (h:OX σ op y z=aa x):mv D P o σ x:=by
 unfold OX at h;split at h
 ·rename_i a b ha hb;cases op<;>simp only at h<;>try cases h
  all_goals
   refine ic (fun C ρ ft ac w ht iH hm hv=>?_) (fun iH c hc=>by cases hc)
   have h1:=(eJ ht ha).1;have h2:=(eJ ht hb).1;simp only[xM] at h1 h2;simp only[execOp,ho,h1,h2,xM]
  ·simp[eqGuard,binOp,M1,oe hv]
  ·simp[eqGuard,binOp,M1,oe hv]
  ·simp[eqGuard,binOp,M1,oe hv]
  ·simp[eqGuard,binOp,Op.intDiv,oe hv.2,hv.1]
  ·simp[eqGuard,binOp,Op.intDiv,hv]
 ·cases h
def Pm (σ:SS R) (y z:Operand):Option (Out R) :=
 match ev σ.tm y,ev σ.tm z with
 |some (.string a),aa (.string b)=>aa (gy σ (a.size+b.size≤9223372036854775807) (.string (a++b)) aj [])
 |_,_=>aj
theorem aef {σ:SS R} {o:Oper} {t t':TypeId} {y z:Operand} {x:Out R} (ho:o.op=.binOp .add t y z t') (h:Pm σ y z=aa x):mv D P o σ x:=by
 unfold Pm at h;split at h
 ·rename_i a b ha hb;injection h with h
  subst h;refine ic (fun C ρ ft ac w ht iH hm hv=>?_) (fun iH c hc=>by cases hc)
  have h1:=(eJ ht ha).1;have h2:=(eJ ht hb).1;simp only[DX] at h1 h2;have hm:¬ ((a.size+b.size:Nat):Int)>ar.max:=by
   have:ar.max=9223372036854775807:=by decide
   rw[this];omega
  simp only[execOp,ho,h1,h2,DX];simp only[eqGuard,binOp,Op.stringOp,if_neg hm];simp
 ·cases h
def HA (P:Program) (sub:TypeId->List Value->List Value->Option Bool) (xs ys:List Value):List Field->Option Bool
 |[]=>aa ao
 |f::fs =>
  if f.name ≠ "_" then
   match P.underlying f.type with
   |some (.struct _) =>
    match P.info? f.type with
    |some i =>
     match sub f.type ((xs.drop f.offset).take i.size) ((ys.drop f.offset).take i.size) with
     |some b=>(HA P sub xs ys fs).map fun r=>b&&r
     |none=>aj
    |none=>aj
   |u =>
    match u,xs[f.offset]?,ys[f.offset]? with
    |some (.int _),aa (.int k a),aa (.int k' b)=>if k=k' then(HA P sub xs ys fs).map fun r=>(a==b)&&r else aj
    |some .bool,aa (.bool a),aa (.bool b)=>(HA P sub xs ys fs).map fun r=>(a==b)&&r
    |some .string,aa (.string a),aa (.string b)=>(HA P sub xs ys fs).map fun r=>(a==b)&&r
    |_,_,_=>aj
  else HA P sub xs ys fs
def eqD (P:Program):Nat->TypeId->List Value->List Value->Option Bool
 |0,_,_,_=>aj
 |n+1,t,xs,ys =>
  match P.underlying t with
  |some (.struct ⟨fs⟩)=>if P.stoodInHeld t then aj else HA P (eqD P n) xs ys fs
  |_=>aj
theorem Wk {t:TypeId} {fs:Array Field} {i:TypeInfo} {xs:List Value} {off:Nat} (hu:P.underlying t=aa (.struct fs)) (hi:P.info? t=aa i) (w:World):(part t ⟨xs⟩ off).run P w=.ok (.agg ⟨(xs.drop off).take i.size⟩) w:=by
 have h1:(isAgg t).run P w=.ok ao w:=by simp[isAgg,run_underlying hu]
 have h2:(sizeOf t).run P w=.ok i.size w:=by simp[sizeOf,typeInfo,hi]
 have h3:((⟨xs⟩:Array Value).extract off (off+i.size))=⟨(xs.drop off).take i.size⟩:=by
  apply qL;simp
 simp only[part,dA,h1,cB,if_true,h2,dZ,h3]
theorem LL {sub:TypeId->List Value->List Value->Option Bool} {xs ys:List Value} (d:Nat) (w:World) (nA:∀ t a c b,sub t a c=aa b->(mG (d+1) t (.agg ⟨a⟩) (.agg ⟨c⟩)).run P w=.ok b w):∀ (fs:List Field) (r:Bool),HA P sub xs ys fs=aa r->(CM (d+1) ⟨xs⟩ ⟨ys⟩ fs).run P w=.ok r w
 |[],r,h=>by
  simp only[HA] at h;injection h with h
  subst h;simp[CM]
 |f::fs,r,h=>by
  simp only[HA] at h;simp only[CM]
  have af1:∀ (b:Bool) (x y:Value),((part f.type ⟨xs⟩ f.offset).run P w=.ok x w)->((part f.type ⟨ys⟩ f.offset).run P w=.ok y w)->(mG (d+1) f.type x y).run P w=.ok b w->(HA P sub xs ys fs).map (fun r=>b&&r)=aa r ->
    (do
     let a ← part f.type ⟨xs⟩ f.offset
     let b ← part f.type ⟨ys⟩ f.offset
     let r ← mG (d+1) f.type a b
     if(!r)=ao then pure an else CM (d+1) ⟨xs⟩ ⟨ys⟩ fs:Sem Bool).run P w=.ok r w:=by
   intro b x y hx hy he hr;cases hq:HA P sub xs ys fs with
   |none=>rw[hq] at hr;cases hr
   |some r' =>
    rw[hq] at hr;simp only[kp,cv] at hr;have ih:=LL d w nA fs r' hq;simp only[dA,hx,hy,cB,he];cases b with
    |true =>
     simp only[Bool.true_and] at hr;subst hr;simp[ih]
    |false =>
     simp only[Bool.false_and] at hr;subst hr;simp
  have step:∀ (b:Bool) (x y:Value),((isAgg f.type).run P w=.ok an w)->xs[f.offset]?=aa x->ys[f.offset]?=aa y->(mG (d+1) f.type x y).run P w=.ok b w->(HA P sub xs ys fs).map (fun r=>b&&r)=aa r ->
    (do
     let a ← part f.type ⟨xs⟩ f.offset
     let b ← part f.type ⟨ys⟩ f.offset
     let r ← mG (d+1) f.type a b
     if(!r)=ao then pure an else CM (d+1) ⟨xs⟩ ⟨ys⟩ fs:Sem Bool).run P w=.ok r w:=by
   intro b x y ajw hx hy he hr;refine af1 b x y ?_ ?_ he hr
   ·simp only[part,dA,ajw,cB,fX,if_false,jP,hx,dZ]
   ·simp only[part,dA,ajw,cB,fX,if_false,jP,hy,dZ]
  split at h
  ·rename_i hn;rw[if_pos hn];split at h
   ·rename_i gs hu;split at h
    ·rename_i i hi;split at h
     ·rename_i b hb;exact af1 b _ _ (Wk hu hi w) (Wk hu hi w) (nA _ _ _ _ hb) h
     ·cases h
    ·cases h
   ·split at h
    ·rename_i k0 k a k' b hu hx hy;split at h
     ·rename_i hk;subst hk;exact step _ _ _ (by simp[isAgg,run_underlying hu]) hx hy (run_equalIn_int w d f.type k k0 a b hu) h
     ·cases h
    ·rename_i a b hu hx hy;exact step _ _ _ (by simp[isAgg,run_underlying hu]) hx hy (run_equalIn_bool' w d f.type a b hu) h
    ·rename_i a b hu hx hy;refine step _ _ _ (by simp[isAgg,run_underlying hu]) hx hy ?_ h
     rw[beq_toListBytes];exact run_equalIn_string w d f.type a b hu
    ·cases h
  ·rename_i hn;rw[if_neg hn];exact LL d w nA fs r h
theorem Yr (w:World):∀ (n d:Nat),n≤d->∀ (t:TypeId) (a c:List Value) (b:Bool),eqD P n t a c=aa b->(mG (d+1) t (.agg ⟨a⟩) (.agg ⟨c⟩)).run P w=.ok b w
 |0,d,_,t,a,c,b,h=>by cases h
 |n+1,0,hd,t,a,c,b,h=>by omega
 |n+1,d+1,hd,t,a,c,b,h=>by
  simp only[eqD] at h;split at h
  ·rename_i fs hu;split at h
   ·cases h
   ·rename_i hs;have hs:P.stoodInHeld t=an:=by simpa using hs
    have hfo:P.fieldsOf t=⟨fs⟩:=by simp[OD,hu]
    have za:=run_equalIn_struct (P:=P) w (d+1) t ⟨a⟩ ⟨c⟩ (by rw[hfo];exact hu) hs
    rw[hfo] at za;exact za.trans (LL d w (fun t' a' c' b' h'=>Yr w n d (by omega) t' a' c' b' h') fs b h)
  ·cases h
def z4 (P:Program) (σ:SS R) (neg:Bool) (t:TypeId) (y z:Operand):Option (Out R) :=
 match ev σ.tm y,ev σ.tm z with
 |some (.agg ⟨xs⟩),aa (.agg ⟨ys⟩) =>
  match P.underlying t with
  |some (.struct ⟨fs⟩) =>
   if pZ xs&&pZ ys && !P.stoodInHeld t && !P.eqGuardType P.depth t then
    match HA P (eqD P 4) xs ys fs with
    |some b=>aa (gy σ True (.bool (if neg then !b else b)) aj [])
    |none=>aj
   else aj
  |_=>aj
 |_,_=>aj
theorem OZ {σ:SS R} {o:Oper} {neg:Bool} {t t':TypeId} {y z:Operand} {x:Out R} (ho:o.op=.binOp (if neg then .neq else .eql) t y z t') (h:z4 P σ neg t y z=aa x):mv D P o σ x:=by
 unfold z4 at h;split at h
 ·rename_i xs ys ha hb;split at h
  ·rename_i fs hu;split at h
   ·rename_i hc;simp only[aM,Bool.not_eq_true'] at hc;obtain⟨⟨⟨f1,f2⟩,hs⟩,hg⟩:=hc;split at h
    ·rename_i b hq;injection h with h
     subst h;refine ic (fun C ρ ft ac w ht iH hm hv=>?_) (fun iH c hc=>by cases hc)
     have h1:=(eJ ht ha).1;have h2:=(eJ ht hb).1;rw[n_ _ (by simpa [flat] using f1)] at h1
     rw[n_ _ (by simpa [flat] using f2)] at h2
     have hfo:P.fieldsOf t=⟨fs⟩:=by simp[OD,hu]
     have he:=LL (P:=P) (xs:=xs) (ys:=ys) 9998 w (fun t' a' c' b' h'=>Yr w 4 9998 (by omega) t' a' c' b' h') fs b hq
     have za:=run_equalIn_struct (P:=P) w 9999 t ⟨xs⟩ ⟨ys⟩ (by rw[hfo];exact hu) hs
     rw[hfo] at za;have ZC:(mG 10000 t (.agg ⟨xs⟩) (.agg ⟨ys⟩)).run P w=.ok b w:=za.trans he;simp only[execOp,ho,h1,h2,Wl];cases neg with
     |false =>
      simp only[fX,if_false,dA,run_eqGuard_agg w _ t y z _ _ hg,cB,run_eql_struct,ZC,dZ]
     |true =>
      simp only[if_true,dA,run_eqGuard_agg w _ t y z _ _ hg,cB,run_neq_struct,ZC,dZ]
    ·cases h
   ·cases h
  ·cases h
 ·cases h
def CI (P:Program) (t:TypeId):Option (Option Nat) :=
 match P.underlying t with
 |some (.struct _)|some (.array _ _) =>
  match P.info? t with
  |some i=>aa (aa i.size)
  |none=>aj
 |some _=>aa aj
 |none=>aj
theorem Pq {t:TypeId} {n:Nat} (h:CI P t=aa (aa n)) (w:World):(isAgg t).run P w=.ok ao w/\(sizeOf t).run P w=.ok n w:=by
 unfold CI at h;split at h
 ·rename_i fs hu;split at h
  ·rename_i i hi;injection h with h;injection h with h
   subst h;exact⟨by simp[isAgg,run_underlying hu],by simp[sizeOf,typeInfo,hi]⟩
  ·cases h
 ·rename_i n' e hu;split at h
  ·rename_i i hi;injection h with h;injection h with h
   subst h;exact⟨by simp[isAgg,run_underlying hu],by simp[sizeOf,typeInfo,hi]⟩
  ·cases h
 ·injection h with h;cases h
 ·cases h
theorem Ph {t:TypeId} (h:CI P t=aa aj) (w:World):(isAgg t).run P w=.ok an w:=by
 unfold CI at h;split at h
 ·split at h
  ·injection h with h;cases h
  ·cases h
 ·split at h
  ·injection h with h;cases h
  ·cases h
 ·rename_i d h1 h2 hu;unfold isAgg;rw[dA,run_underlying hu w];simp only[cB]
  first
   |rfl
   |(split
      · rename_i fs; exact absurd hu (h1 fs)
      · rename_i n e; exact absurd hu (h2 n e)
      · rfl)
 ·cases h
def Eu (P:Program) (σ:SS R) (t:TypeId) (y:Operand) (k:Nat):Option (Out R) :=
 match ev σ.tm y with
 |some (.agg ⟨l⟩) =>
  match P.underlying t with
  |some (.struct ⟨fs⟩) =>
   match fs[k]? with
   |some f =>
    match CI P f.type with
    |some aj=>match l[f.offset]? with
     |some v=>aa (gy σ True v aj [])
     |none=>aj
    |some (aa n)=>aa (gy σ True (.agg ⟨(l.drop f.offset).take n⟩) aj [])
    |none=>aj
   |none=>aj
  |_=>aj
 |_=>aj
theorem aao {σ:SS R} {o:Oper} {t:TypeId} {y:Operand} {k:Nat} {x:Out R} (ho:o.op=.field t y k) (h:Eu P σ t y k=aa x):mv D P o σ x:=by
 unfold Eu at h;split at h
 ·rename_i l ha;split at h
  ·rename_i fs hu;split at h
   ·rename_i f hf;split at h
    ·rename_i hg;split at h
     ·rename_i v hv;injection h with h
      subst h;refine ic (fun C ρ ft ac w ht iH hm _=>?_) (fun iH c hc=>by cases hc)
      have h1:=(eJ ht ha).1;rw[Ae] at h1;simp[execOp,ho,h1,XC,run_underlying hu,hf,asAgg,part,Ph hg w,hv]
     ·cases h
    ·rename_i n hg;injection h with h
     subst h;refine ic (fun C ρ ft ac w ht iH hm _=>?_) (fun iH c hc=>by cases hc)
     have h1:=(eJ ht ha).1;rw[Ae] at h1;obtain⟨g1,g2⟩:=Pq hg w;simp only[execOp,ho,h1,XC,dA,run_underlying hu,cB,jP,hf,asAgg,dZ,part,g1,if_true,g2,Ae]
     congr 3
     apply qL;simp[Ji,List.extract_eq_take_drop,List.map_drop,List.map_take]
    ·cases h
   ·cases h
  ·cases h
 ·cases h
def wE (P:Program) (σ:SS R) (t:TypeId) (y:Operand) (k:Nat):Option (Out R) :=
 match ev σ.tm y with
 |some (.pointer (aa ⟨i,e,sp⟩)) =>
  match P.underlying t with
  |some (.struct ⟨fs⟩) =>
   match fs[k]? with
   |some f =>
    match P.info? f.type with
    |some inf =>
     if fj inf.size 0 then aj else
     match sp with
     |none=>aa (gy σ True (.pointer (aa ⟨i,e+f.offset,aj⟩)) aj [])
     |some q=>if gY q 1000000&&gY (q%1000+f.offset) 1000 then aa (gy σ True (.pointer (aa ⟨i,e,aa (q+f.offset)⟩)) aj []) else aj
    |none=>aj
   |none=>aj
  |_=>aj
 |_=>aj
theorem p9 (b o j:Nat):(⟨b,o,aj⟩:Addr).add j=⟨b,o+j,aj⟩:=by
 unfold Addr.add;split
 ·rename_i h;subst h;rfl
 ·rfl
theorem Rz {σ:SS R} {o:Oper} {t:TypeId} {y:Operand} {k:Nat} {x:Out R} (ho:o.op=.fieldAddr t y k) (h:wE P σ t y k=aa x):mv D P o σ x:=by
 unfold wE at h;split at h
 ·rename_i i e sp ha;split at h
  ·rename_i fs hu;split at h
   ·rename_i f hf;split at h
    ·rename_i inf hi;split at h
     ·cases h
     ·rename_i hz;have HX:inf.size≠0:=fun e=>hz (by rw[e];rfl)
      have key:∀ (C:Ctx) (ρ:Env) (ft:Nat->Nat->Prop) (ac:Act) (w:World),TM ρ σ.hp.length σ.tm ac ->
        (execOp ac.eval o).run P w=.ok (.value (.pointer (aa ((iQ ρ ⟨i,e,sp⟩).add f.offset)))) w:=by
       intro C ρ ft ac w ht;have h1:=(eJ ht ha).1;simp only[bV] at h1;simp[execOp,ho,h1,Instr.fieldAt,run_underlying hu,hf,o8,fieldPlace,sizeOf,typeInfo,hi,HX]
      split at h
      ·injection h with h
       subst h;refine ic (fun C ρ ft ac w ht iH hm _=>?_) (fun iH c hc=>by cases hc)
       rw[key C ρ ft ac w ht];simp only[bV,iQ,p9,cellOf,jr]
      ·rename_i q;split at h
       ·rename_i hq;simp only[aM,fo] at hq;injection h with h
        subst h;refine ic (fun C ρ ft ac w ht iH hm _=>?_) (fun iH c hc=>by cases hc)
        rw[key C ρ ft ac w ht];simp only[bV,iQ,p9,cellOf];have e1:q%1000000 / 1000=(q+f.offset)%1000000 / 1000:=by omega
        have e2:q%1000+f.offset=(q+f.offset)%1000:=by omega
        rw[e1,← e2,jr,jr]
       ·cases h
    ·cases h
   ·cases h
  ·cases h
 ·cases h
end
end Rx
namespace Rx
open Go.RowKit State
section
variable {R:Type} {D:fR R} {P:Program} {C:Ctx} {ρ:Env} {ft:Nat->Nat->Prop} {w w':World}
def yG (P:Program) (σ:SS R) (t:TypeId) (y z:Operand):Option (Out R) :=
 match ev σ.tm y,ev σ.tm z with
 |some (.slice (aa ⟨i,e0,aa q⟩) n _),aa (.int _ j) =>
  match P.underlying t with
  |some (.slice el) =>
   match P.info? el,σ.hp[i]? with
   |some inf,aa (aa (.inr (.inl (_,r)))) =>
    if fj (q%1000000) (1000*inf.size)&&fj inf.size r.tm.length then
     aa (gy σ (0≤j/\j<n/\e0+n≤r.n) (.pointer (aa ⟨i,e0+j.toNat,aa (1000*inf.size)⟩)) aj [])
    else aj
   |some inf,aa (aa (.inr (.inr (.inl r)))) =>
    if fj (q%1000000) (1000*inf.size)&&fj inf.size r.tm.length then
     aa (gy σ (0≤j/\j<n/\e0+n≤r.n) (.pointer (aa ⟨i,e0+j.toNat,aa (1000*inf.size)⟩)) aj [])
    else aj
   |_,_=>aj
  |_=>aj
 |_,_=>aj
theorem ahQ {i:Nat} {h:Hp R} {t:TypeId} {r:Row} (hm:HM D C ρ ft h w) (hi:h[i]?=aa (aa (.inr (.inl (t,r))))):r.n≤(ρ i).cap:=(hm.at_ i _ hi).1.2.2.1
theorem adC {i:Nat} {h:Hp R} {r:Row} (hm:HM D C ρ ft h w) (hi:h[i]?=aa (aa (.inr (.inr (.inl r))))):r.n≤(ρ i).cap:=(hm.at_ i _ hi).1.2.2.1
theorem JE {σ:SS R} {o:Oper} {t el:TypeId} {y z:Operand} {i e0 q n c:Nat} {k:IntKind} {j:Int} {inf:TypeInfo} {N:Nat} (ho:o.op=.indexAddr t y z)
  (ha:ev σ.tm y=aa (.slice (aa ⟨i,e0,aa q⟩) n c)) (hb:ev σ.tm z=aa (.int k j)) (hu:P.underlying t=aa (.slice el)) (hi:P.info? el=aa inf)
  (hq:q%1000000=1000*inf.size) {ac:Act} (ht:TM ρ σ.hp.length σ.tm ac) (hv:0≤j/\j<n/\e0+n≤N) (Nm:N≤(ρ i).cap) (Io:(ρ i).nil=ao->(ρ i).cap=0) :
  (execOp ac.eval o).run P w=.ok (.value (bV ρ (.pointer (aa ⟨i,e0+j.toNat,aa (1000*inf.size)⟩)))) w:=by
 have h1:=(eJ ht ha).1;have h2:=(eJ ht hb).1;obtain⟨v0,v1,v2⟩:=hv;have kG:¬ (q / 1000000≠0/\(ρ i).cap≤e0):=fun h=>by omega
 have hnn:¬ (ρ i).nil=ao:=fun h=>by have:=Io h;omega
 simp only[bV,lP,if_neg kG,if_neg hnn] at h1;simp only[xM] at h2;have om:1000*inf.size%1000000=1000*inf.size:=by rw[← hq];omega
 simp only[execOp,ho,h1,h2,JO,asIntOf,dA,dZ,cB,run_underlying hu,M2];have hc:(0≤j/\j<(n:Int)):=⟨v0,v1⟩;have Uq:q%1000000 / 1000=inf.size:=by omega
 have xj:q%1000=0:=by omega
 have hd3:1000*inf.size%1000000 / 1000=inf.size:=by omega
 have hd4:1000*inf.size%1000=0:=by omega
 simp only[hc,and_self,if_true,sizeOf,typeInfo,dA,run_program,cB,hi,dZ,bV,iQ,p9,cellOf,Uq,xj,hd3,hd4,gZ];simp[ix,jr]
theorem Rm {σ:SS R} {o:Oper} {t:TypeId} {y z:Operand} {x:Out R} (ho:o.op=.indexAddr t y z) (h:yG P σ t y z=aa x):mv D P o σ x:=by
 unfold yG at h;split at h
 ·rename_i i e0 q n c k j ha hb;split at h
  ·rename_i el hu;split at h
   ·rename_i inf t' r hi hr;split at h
    ·rename_i hc;simp only[aM] at hc;have hq:=cQ hc.1;injection h with h
     subst h;exact ic (fun C ρ ft ac w ht iH hm hv=>JE ho ha hb hu hi hq ht hv (ahQ hm hr) (hm.at_ i _ hr).1.2.2.2.2.1) (fun iH c hc=>by cases hc)
    ·cases h
   ·rename_i inf r hi hr;split at h
    ·rename_i hc;simp only[aM] at hc;have hq:=cQ hc.1;injection h with h
     subst h;exact ic (fun C ρ ft ac w ht iH hm hv=>JE ho ha hb hu hi hq ht hv (adC hm hr) (hm.at_ i _ hr).1.2.2.2.2.1) (fun iH c hc=>by cases hc)
    ·cases h
   ·cases h
  ·cases h
 ·cases h
def xf (P:Program) (σ:SS R) (t:TypeId) (y z:Operand):Option (Out R) :=
 match ev σ.tm y,ev σ.tm z with
 |some (.slice (aa ⟨i,e,aj⟩) n _),aa (.int _ j) =>
  match P.underlying t with
  |some (.slice el) =>
   match P.info? el with
   |some inf=>aa (gy σ (0≤j/\j<n) (.pointer (aa ⟨i,e+j.toNat*inf.size,aj⟩)) aj [])
   |none=>aj
  |_=>aj
 |_,_=>aj
theorem P7 {σ:SS R} {o:Oper} {t:TypeId} {y z:Operand} {x:Out R} (ho:o.op=.indexAddr t y z) (h:xf P σ t y z=aa x):mv D P o σ x:=by
 unfold xf at h;split at h
 ·rename_i i e n c k j ha hb;split at h
  ·rename_i el hu;split at h
   ·rename_i inf hi;injection h with h
    subst h;refine ic (fun C ρ ft ac w ht iH hm hv=>?_) (fun iH c hc=>by cases hc)
    have h1:=(eJ ht ha).1;have h2:=(eJ ht hb).1;simp only[bV,lP] at h1;simp only[xM] at h2;have hc:(0≤j/\j<(n:Int)):=hv;simp only[execOp,ho,h1,h2,JO,asIntOf,dA,dZ,cB,run_underlying hu,M2];simp only[hc,and_self,if_true,sizeOf,typeInfo,dA,run_program,cB,hi,dZ,bV,iQ,p9,cellOf,jr]
   ·cases h
  ·cases h
 ·cases h
def AW (P:Program) (σ:SS R) (t:TypeId) (y z:Operand):Option (Out R) :=
 match ev σ.tm y,ev σ.tm z with
 |some (.pointer (aa ⟨i,e,sp⟩)),aa (.int _ j) =>
  match P.underlying t with
  |some (.array n el) =>
   match P.info? el with
   |some inf =>
    match sp with
    |none=>aa (gy σ (0≤j/\j<n) (.pointer (aa ⟨i,e+j.toNat*inf.size,aj⟩)) aj [])
    |some q=>if gY q 1000000&&gY (q%1000+n*inf.size) 1000 then aa (gy σ (0≤j/\j<n) (.pointer (aa ⟨i,e,aa (q+j.toNat*inf.size)⟩)) aj []) else aj
   |none=>aj
  |_=>aj
 |_,_=>aj
theorem Ty {σ:SS R} {o:Oper} {t:TypeId} {y z:Operand} {x:Out R} (ho:o.op=.indexAddr t y z) (h:AW P σ t y z=aa x):mv D P o σ x:=by
 unfold AW at h;split at h
 ·rename_i i e sp k j ha hb;split at h
  ·rename_i n el hu;split at h
   ·rename_i inf hi
    have key:∀ (ρ:Env) (ac:Act) (w:World),TM ρ σ.hp.length σ.tm ac->(0≤j/\j<(n:Int)) ->
      (execOp ac.eval o).run P w=.ok (.value (.pointer (aa ((iQ ρ ⟨i,e,sp⟩).add (j.toNat*inf.size))))) w:=by
     intro ρ ac w ht hj;have h1:=(eJ ht ha).1;have h2:=(eJ ht hb).1;simp only[bV] at h1;simp only[xM] at h2;simp only[execOp,ho,h1,h2,JO,o8,asIntOf,dA,dZ,cB,run_underlying hu,M2];simp only[hj,and_self,if_true,sizeOf,typeInfo,dA,run_program,cB,hi,dZ]
    split at h
    ·injection h with h
     subst h;refine ic (fun C ρ ft ac w ht iH hm hv=>?_) (fun iH c hc=>by cases hc)
     rw[key ρ ac w ht hv];simp only[bV,iQ,p9,cellOf,jr]
    ·rename_i q;split at h
     ·rename_i hq;simp only[aM,fo] at hq;injection h with h
      subst h;refine ic (fun C ρ ft ac w ht iH hm hv=>?_) (fun iH c hc=>by cases hc)
      rw[key ρ ac w ht hv];have hv':0≤j/\j<(n:Int):=hv;have hs:j.toNat*inf.size≤n*inf.size:=jA _ (by omega)
      simp only[bV,iQ,p9,cellOf];have e1:q%1000000 / 1000=(q+j.toNat*inf.size)%1000000 / 1000:=by omega
      have e2:q%1000+j.toNat*inf.size=(q+j.toNat*inf.size)%1000:=by omega
      rw[e1,← e2,jr,jr]
     ·cases h
   ·cases h
  ·cases h
 ·cases h
def xy (tm:List Value) (ew:List aW) (e:Nat):Nat->Nat->Option (List Value)
 |_,0=>aa []
 |f,m+1 =>
  match tm[f]?,ew[f]? with
  |some t,aa c=>(xy tm ew e (f+1) m).map (gJ t c e::·)
  |_,_=>aj
theorem EL {tm:List Value} {ew:List aW} {e:Nat}:∀ {m f:Nat} {l:List Value},xy tm ew e f m=aa l->l.length=m/\∀ (j:Nat) (v:Value),l[j]?=aa v->∃ t c,tm[f+j]?=aa t/\ew[f+j]?=aa c/\v=gJ t c e
 |0,f,l,h=>by
  simp only[xy] at h;injection h with h
  subst h;exact⟨rfl,fun j v hv=>by simp at hv⟩
 |m+1,f,l,h=>by
  simp only[xy] at h;split at h
  ·rename_i t c ht hc;cases hr:xy tm ew e (f+1) m with
   |none=>rw[hr] at h;cases h
   |some l' =>
    rw[hr] at h;simp only[kp,cv] at h;subst h;obtain⟨h1,h2⟩:=EL hr;refine⟨by simp[h1],fun j v hv=>?_⟩
    cases j with
    |zero =>
     simp only[cf,cv] at hv;exact⟨t,c,ht,hc,hv.symm⟩
    |succ j =>
     simp only[bK] at hv;obtain⟨t',c',g1,g2,g3⟩:=h2 j v hv;exact⟨t',c',by rw[show f+(j+1)=f+1+j by omega];exact g1,by rw[show f+(j+1)=f+1+j by omega];exact g2,g3⟩
  ·cases h
theorem KF {t:Value} {c:aW} {n:Nat} (h:jU t c n) (e:Nat):flat (gJ t c e)=ao:=by
 cases t<;>simp only[gJ,flat]<;>exact h.1
theorem Xk {t:Value} {c:aW} {n:Nat} (h:jU t c n) (e:Nat):(gJ t c e).oneCell'=ao:=by
 cases t<;>simp only[gJ,qu]<;>exact h.2
def rowOf (x:Option (Option (SB R))):Option Row :=
 match x with
 |some (aa (.inr (.inl (_,r))))=>aa r
 |some (aa (.inr (.inr (.inl r))))=>aa r
 |_=>aj
theorem C8 {h:Hp R} {i:Nat} {r:Row} (hm:HM D C ρ ft h w) (hr:rowOf h[i]?=aa r) :
  r.n≤(ρ i).cap/\(ρ i).cap≤maxLen/\0<r.tm.length/\r.ew.length=r.tm.length/\(∀ (f:Nat) (t:Value) (c:aW),r.tm[f]?=aa t->r.ew[f]?=aa c->jU t c r.n) /\
   ∀ (f:Nat) (t:Value) (c:aW) (e:Nat),r.tm[f]?=aa t->r.ew[f]?=aa c->e<r.n->w.cell? ⟨(ρ i).lO,(ρ i).off+(e*r.tm.length+f),aj⟩=aa (gJ t c e):=by
 unfold rowOf at hr;split at hr
 ·rename_i t0 r0 hi;injection hr with hr
  subst hr;obtain⟨h1,h2,h3,h4,J5,arr,h5,h7⟩:=(hm.at_ i _ hi).1;refine⟨h3,h4,h2,h7.len,h7.JL,fun f t c e g1 g2 g3=>?_⟩
  have hn:(ρ i).nil=an:=by
   cases hq:(ρ i).nil with
   |false=>rfl
   |true=>have:=J5 hq;omega
  rw[cell_of_row w _ _ arr _ _ (h5 hn).1];exact h7.cell f t c e g1 g2 g3
 ·rename_i r0 hi;injection hr with hr
  subst hr;obtain⟨h1,h2,h3,h4,J5,arr,h5,h8⟩:=(hm.at_ i _ hi).1;refine⟨h3,h4,h2,h8.len,h8.JL,fun f t c e g1 g2 g3=>?_⟩
  have hn:(ρ i).nil=an:=by
   cases hq:(ρ i).nil with
   |false=>rfl
   |true=>have:=J5 hq;omega
  obtain⟨h5,h6,t0,fz,h7⟩:=h5 hn (by omega)
  rw[cell_of_row w _ _ arr t0 fz (by rw[hm.kept.block _ h5 h6];exact h7)]
  exact h8.cell f t c e g1 g2 g3
 ·cases hr
theorem CG {h:Hp R} {i:Nat} {t:TypeId} {cs:List Value} (hm:HM D C ρ ft h w) (hi:h[i]?=aa (aa (.inl (t,cs)))) (j:Nat) :
  w.cell? ⟨(ρ i).lO,(ρ i).off+j,aj⟩=cs[j]?.map (bV ρ):=by
 obtain⟨h1,h2,h3⟩:=(hm.at_ i _ hi).1;rw[cell_of_row w _ _ _ _ _ h3,h1,bW];simp
def Oa (i f:Nat):Nat->List (Nat×Nat)
 |0=>[]
 |m+1=>(i,f+1)::Oa i (f+1) m
def Bo (P:Program) (σ:SS R) (t:TypeId) (y:Operand):Option (Out R) :=
 match ev σ.tm y with
 |some (.pointer (aa ⟨i,e,aj⟩)) =>
  match σ.hp[i]? with
  |some (aa (.inl (_,cs))) =>
   match CI P t with
   |some aj=>match cs[e]? with
    |some v=>aa (gy σ True v aj [(i,e+1)])
    |none=>aj
   |some (aa n)=>if vd (e+n) cs.length then aa (gy σ True (.agg ⟨(cs.drop e).take n⟩) aj (Oa i e n)) else aj
   |none=>aj
  |_=>aj
 |some (.pointer (aa ⟨i,e,aa q⟩)) =>
  match rowOf σ.hp[i]? with
  |some r =>
   if fj (q / 1000) r.tm.length&&gY q 1000000 then
    match CI P t with
    |some aj=>match xy r.tm r.ew e (q%1000) 1 with
     |some [v]=>aa (gy σ (e<r.n) v aj [(i,q%1000+1)])
     |_=>aj
    |some (aa n)=>match xy r.tm r.ew e (q%1000) n with
     |some l=>aa (gy σ (e<r.n) (.agg ⟨l⟩) aj (Oa i (q%1000) n))
     |none=>aj
    |none=>aj
   else aj
  |none=>aj
 |_=>aj
theorem G0 {t:TypeId} {a:Addr} {cs:List Value} (ha:CI P t=aa (aa cs.length)) (h:∀ (j:Nat) (v:Value),cs[j]?=aa v->w.cell? (a.add j)=aa v):(loadVar t a).run P w=.ok (.agg ⟨cs⟩) w:=by
 obtain⟨g1,g2⟩:=Pq ha w;have hl:=run_loadCells_list (P:=P) w a cs h;simp only[loadVar,dA,g1,cB,if_true,g2,hl,dZ]
theorem CK {t:TypeId} {a:Addr} {v:Value} (ha:CI P t=aa aj) (h:w.cell? a=aa v):(loadVar t a).run P w=.ok v w:=by
 have g1:=Ph ha w;simp only[loadVar,dA,g1,cB,fX,if_false,run_load,h]
theorem SI {σ:SS R} {o:Oper} {t:TypeId} {y:Operand} {x:Out R} (ho:o.op=.load t y) (h:Bo P σ t y=aa x):mv D P o σ x:=by
 unfold Bo at h;split at h
 ·rename_i i e ha;split at h
  ·rename_i t' cs hi;split at h
   ·rename_i hg;split at h
    ·rename_i v hv;injection h with h
     subst h;refine ic (fun C ρ ft ac w ht iH hm _=>?_) (fun iH c hc=>by cases hc)
     have h1:=(eJ ht ha).1;simp only[bV,iQ,cellOf] at h1;have hc:=CG hm hi e;rw[hv] at hc;simp[execOp,ho,h1,By,o8,CK hg hc]
    ·cases h
   ·rename_i n hg;split at h
    ·rename_i hle;have hle:=jQ hle;injection h with h
     subst h;refine ic (fun C ρ ft ac w ht iH hm _=>?_) (fun iH c hc=>by cases hc)
     have h1:=(eJ ht ha).1;simp only[bV,iQ,cellOf] at h1;have hl:(((cs.drop e).take n).map (bV ρ)).length=n:=by simp;omega
     have Ss:(loadVar t ⟨(ρ i).lO,(ρ i).off+e,aj⟩).run P w=.ok (.agg ⟨((cs.drop e).take n).map (bV ρ)⟩) w:=by
      refine G0 (by rw[hl];exact hg) (fun j v hv=>?_)
      rw[p9,jr,CG hm hi];have hj:j<n:=by have:=(aU.1 hv).1;omega
      simp only[fu,o9,hj,if_true,o_] at hv;exact hv
     simp only[execOp,ho,h1,By,o8,dA,dZ,cB,Ss,Ae]
     congr 3
     simp
    ·cases h
   ·cases h
  ·cases h
 ·rename_i i e q ha;split at h
  ·rename_i r hr;split at h
   ·rename_i hc;simp only[aM,fo] at hc;have hq:=cQ hc.1;have Gl:=hc.2
    have key:∀ (C:Ctx) (ρ:Env) (ft:Nat->Nat->Prop) (ac:Act) (w:World),TM ρ σ.hp.length σ.tm ac->HM D C ρ ft σ.hp w->e<r.n ->
      ac.eval y=.pointer (aa ⟨(ρ i).lO,(ρ i).off+(e*r.tm.length+q%1000),aj⟩) /\
      ∀ (m:Nat) (l:List Value),xy r.tm r.ew e (q%1000) m=aa l->(∀ (j:Nat) (v:Value),l[j]?=aa v->w.cell? ((⟨(ρ i).lO,(ρ i).off+(e*r.tm.length+q%1000),aj⟩:Addr).add j)=aa v)/\∀ v∈l,flat v=ao:=by
     intro C ρ ft ac w ht hm he;have h1:=(eJ ht ha).1;have e1:q%1000000 / 1000=r.tm.length:=by omega
     simp only[bV,iQ,cellOf,e1] at h1;obtain⟨_,_,_,_,g4,g5⟩:=C8 hm hr;refine⟨h1,fun m l hl=>?_⟩
     obtain⟨k1,k2⟩:=EL hl;refine⟨fun j v hv=>?_,fun v hv=>?_⟩
     ·obtain⟨t,c,q1,q2,rfl⟩:=k2 j v hv;rw[p9,jr,jr];exact g5 _ _ _ _ q1 q2 he
     ·obtain⟨j,hj⟩:=Bz hv;obtain⟨t,c,q1,q2,rfl⟩:=k2 j v hj;exact KF (g4 _ _ _ q1 q2) e
    split at h
    ·rename_i hg;split at h
     ·rename_i v hv;injection h with h
      subst h;refine ic (fun C ρ ft ac w ht iH hm he=>?_) (fun iH c hc=>by cases hc)
      obtain⟨h1,h2⟩:=key C ρ ft ac w ht hm he;obtain⟨h3,h4⟩:=h2 _ _ hv;have h5:=h3 0 v (by simp)
      rw[p9,gZ] at h5;rw[n_ v (h4 v (by simp))]
      simp[execOp,ho,h1,By,o8,CK hg h5]
     ·cases h
    ·rename_i n hg;split at h
     ·rename_i l hl;injection h with h
      subst h;refine ic (fun C ρ ft ac w ht iH hm he=>?_) (fun iH c hc=>by cases hc)
      obtain⟨h1,h2⟩:=key C ρ ft ac w ht hm he;obtain⟨h3,h4⟩:=h2 _ _ hl;have hn:=(EL hl).1;have Ss:=G0 (P:=P) (t:=t) (by rw[hn];exact hg) h3
      rw[n_ (.agg ⟨l⟩) (by simpa [flat] using Ad.2 h4)]
      simp only[execOp,ho,h1,By,o8,dA,dZ,cB,Ss]
     ·cases h
    ·cases h
   ·cases h
  ·cases h
 ·cases h
def nT (cur:Array Value):Nat->List Value->Array Value
 |_,[]=>cur
 |k,v::l=>nT (cur.setIfInBounds k v) (k+1) l
def IT (cs:List Value):Nat->List Value->List Value
 |_,[]=>cs
 |k,v::l=>IT (cs.set k v) (k+1) l
theorem GZ (cs:List Value):∀ (k:Nat) (l:List Value),nT (cs.map (bV ρ)).toArray k (l.map (bV ρ))=((IT cs k l).map (bV ρ)).toArray
 |_,[]=>rfl
 |k,v::l=>by
  simp only[gC,nT,IT];have:(cs.map (bV ρ)).toArray.setIfInBounds k (bV ρ v)=((cs.set k v).map (bV ρ)).toArray:=by simp
  rw[this];exact GZ (cs.set k v) (k+1) l
theorem Fj (cur:Array Value):∀ (k:Nat) (l:List Value),(nT cur k l).size=cur.size
 |_,[]=>rfl
 |k,v::l=>by rw[nT,Fj];simp
theorem Mz (cs:List Value):∀ (k:Nat) (l:List Value),(IT cs k l).length=cs.length
 |_,[]=>rfl
 |k,v::l=>by rw[IT,Mz];simp
theorem Vz {n:Nat} {cs:List Value}:∀ (k:Nat) (l:List Value),iJ n cs=ao->iJ n l=ao->iJ n (IT cs k l)=ao
 |_,[],h,_=>h
 |k,v::l,h,hl=>by
  simp only[iJ,aM] at hl;refine Vz (k+1) l ?_ hl.2;rw[xd] at h ⊢;intro u hu;rcases List.mem_or_eq_of_mem_set hu with hu|rfl
  ·exact h u hu
  ·exact hl.1
theorem zh (g o:Nat) (t:TypeId):∀ (vs:List Value) (i:Nat) (cur:Array Value) (w:World),w.heap[g]?=aa (.cells cur t (0,0))->o+i+vs.length≤cur.size->(∀ v∈vs,v.oneCell'=ao) ->
  (storeCells ⟨g,o,aj⟩ vs i).run P w=.ok () (w.setRow g (nT cur (o+i) vs))
 |[],i,cur,w,hg,_,_=>by
  simp only[storeCells,nT];rw[setRow_self w g cur t (0,0) hg]
  rfl
 |v::rest,i,cur,w,hg,hl,h1=>by
  have hi:o+i<cur.size:=by simp at hl;omega
  have amc:w.cell? ⟨g,o+i,aj⟩=aa cur[o+i]:=by simp[World.cell?,hg,hi]
  have an7:w.frozen? ⟨g,o+i,aj⟩=an:=by simp[TC,hg]
  have za:(store ((⟨g,o,aj⟩:Addr).add i) v).run P w=.ok () (w.setRow g (cur.setIfInBounds (o+i) v)):=by
   rw[p9,run_store P w _ v _ (h1 v (by simp)),amc]
   simp[an7,setCell_eq_setRow w g (o+i) cur t (0,0) v hg]
  have ih:=zh g o t rest (i+1) (cur.setIfInBounds (o+i) v) (w.setRow g (cur.setIfInBounds (o+i) v)) (setRow_heap w g cur _ t _ hg) (by simp at hl ⊢;omega) (fun x hx=>h1 x (by simp[hx]))
  simp only[storeCells,dA,za,cB,ih,setRow_setRow,nT,jr]
theorem GQ (w:World) (g:Nat) (cs:Array Value) {F:Nat->Prop} (hF:F g):Kept F w (w.setRow g cs) :=
 ⟨rfl,rfl,rfl,by simp[FP],fun k _ hn=>setRow_other w g k cs (fun e=>hn (e▸hF))⟩
def ZN:List Value->Bool
 |[]=>ao
 |v::l=>v.oneCell'&&ZN l
theorem aeY {l:List Value} (h:ZN l=ao):∀ v∈l,v.oneCell'=ao:=by
 induction l with
 |nil=>intro v hv;cases hv
 |cons u l ih =>
  simp only[ZN,aM] at h;intro v hv;rcases bN.1 hv with rfl|hv
  ·exact h.1
  ·exact ih h.2 v hv
def P_ (t:Value) (c:aW) (e:Nat) (v:Value):Option aW :=
 match t,v with
 |.int k _,.int k' x=>if k=k' then aa { c with i:=c.i.set e x } else aj
 |.bool _,.bool x=>aa { c with b:=c.b.set e x }
 |.string _,.string x=>aa { c with s:=c.s.set e x }
 |_,_=>aj
def H0 (tm:List Value) (ew:List aW) (e:Nat):Nat->List Value->Option (List aW)
 |_,[]=>aa ew
 |f,v::l =>
  match tm[f]?,ew[f]? with
  |some t,aa c=>match P_ t c e v with
   |some c'=>H0 tm (ew.set f c') e (f+1) l
   |none=>aj
  |_,_=>aj
theorem Sn {t:Value} {c c':aW} {e n:Nat} {v:Value} (h:P_ t c e v=aa c') (hc:jU t c n) (he:e<n) :
  jU t c' n/\flat v=ao/\v.oneCell'=ao/\∀ e',e'<n->gJ t c' e'=if e'=e then v else gJ t c e':=by
 unfold P_ at h;split at h
 ·split at h
  ·rename_i k _ k' x hk;subst hk;injection h with h
   subst h;refine⟨by simpa [jU] using hc,rfl,rfl,fun e' wu=>?_⟩
   simp only[jU] at hc;simp only[gJ,au,DS]
   by_cases heq:e=e'
   ·subst heq;simp[hc,he]
   ·simp[heq,Y5 heq,fun h=>heq (rB h)]
  ·cases h
 ·injection h with h
  subst h;refine⟨by simpa [jU] using hc,rfl,rfl,fun e' wu=>?_⟩
  simp only[jU] at hc;simp only[gJ,au,DS]
  by_cases heq:e=e'
  ·subst heq;simp[hc,he]
  ·simp[heq,Y5 heq,fun h=>heq (rB h)]
 ·injection h with h
  subst h;refine⟨by simpa [jU] using hc,rfl,rfl,fun e' wu=>?_⟩
  simp only[jU] at hc;simp only[gJ,au,DS]
  by_cases heq:e=e'
  ·subst heq;simp[hc,he]
  ·simp[heq,Y5 heq,fun h=>heq (rB h)]
 ·cases h
theorem Ws {s e e' f f':Nat} (hf:f<s) (hf':f'<s) (h:e*s+f=e'*s+f'):e=e'/\f=f':=by
 have h1:(e*s+f) / s=e:=by rw[sY,Aw _ _ (by omega),FQ hf,bW]
 have h2:(e'*s+f') / s=e':=by rw[sY,Aw _ _ (by omega),FQ hf',bW]
 have:e=e':=by rw[← h1,← h2,h]
 subst this;exact⟨rfl,by omega⟩
theorem aaC {r:Row} {arr:Array Value} {o e f:Nat} {t:Value} {c c':aW} {v:Value} (hr:oC r arr o) (ht:r.tm[f]?=aa t) (hc:r.ew[f]?=aa c) (he:e<r.n)
  (hs:P_ t c e v=aa c'):oC { r with ew:=r.ew.set f c' } (arr.setIfInBounds (o+(e*r.tm.length+f)) v) o:=by
 obtain⟨k1,k2,k3,k4⟩:=Sn hs (hr.JL f t c ht hc) he;have wU:f<r.tm.length:=(aU.1 ht).1;have SN:f<r.ew.length:=(aU.1 hc).1;refine⟨by simpa using hr.len,fun f' t' c1 h1 h2=>?_,fun f' t' c1 e' h1 h2 h3=>?_⟩
 ·simp only at h1 h2
  by_cases MX:f=f'
  ·subst MX;rw[ht] at h1;injection h1 with h1;subst h1
   rw[j_ SN] at h2;injection h2 with h2;subst h2
   exact k1
  ·rw[kD MX] at h2;exact hr.JL f' t' c1 h1 h2
 ·simp only at h1 h2 h3 ⊢;have Ci:f'<r.tm.length:=(aU.1 h1).1;rw[ve];have hold:=hr.cell f' t'
  by_cases MX:f=f'
  ·subst MX;rw[ht] at h1;injection h1 with h1;subst h1
   rw[j_ SN] at h2;injection h2 with h2;subst h2
   rw[k4 e' h3];have h5:=hr.cell f t c e' ht hc h3;have cd:o+(e'*r.tm.length+f)<arr.size:=(Array.getElem?_eq_some_iff.1 h5).1
   by_cases hee:e'=e
   ·subst hee;simp[cd]
   ·rw[if_neg hee,if_neg (fun hh=>hee (Ws wU wU (by omega:e'*r.tm.length+f=e*r.tm.length+f)).1)]
    exact h5
  ·rw[kD MX] at h2;rw[if_neg (fun hh=>MX (Ws wU Ci (by omega:e*r.tm.length+f=e'*r.tm.length+f')).2)]
   exact hr.cell f' t' c1 e' h1 h2 h3
theorem MS {tm:List Value} {n o e:Nat} (he:e<n):∀ {vs:List Value} {f:Nat} {ew T6:List aW} {arr:Array Value},oC ⟨tm,n,ew⟩ arr o->H0 tm ew e f vs=aa T6 ->
  oC ⟨tm,n,T6⟩ (nT arr (o+(e*tm.length+f)) vs) o/\(∀ v∈vs,flat v=ao/\v.oneCell'=ao)/\(vs=[]∨f+vs.length≤tm.length)
 |[],f,ew,T6,arr,hr,h=>by
  simp only[H0] at h;injection h with h
  subst h;exact⟨hr,(fun v hv=>by cases hv),dO rfl⟩
 |v::l,f,ew,T6,arr,hr,h=>by
  simp only[H0] at h;split at h
  ·rename_i t c ht hc;split at h
   ·rename_i c' hs;obtain⟨h1,h2,h3⟩:=MS (tm:=tm) (n:=n) (o:=o) (e:=e) he (f:=f+1) (aaC hr ht hc he hs) h;obtain⟨_,k2,k3,_⟩:=Sn hs (hr.JL f t c ht hc) he;have wU:f<tm.length:=(aU.1 ht).1;refine⟨h1,fun u hu=>?_,e_ ?_⟩
    ·rcases bN.1 hu with rfl|hu
     ·exact⟨k2,k3⟩
     ·exact h2 u hu
    ·rcases h3 with rfl|h3
     ·simp only[cy,jX];omega
     ·simp only[cy];omega
   ·cases h
  ·cases h
def Es (P:Program) (σ:SS R) (t:TypeId) (y z:Operand):Option (Out R) :=
 match ev σ.tm y,ev σ.tm z with
 |some (.pointer (aa ⟨i,e,aj⟩)),aa v =>
  match σ.hp[i]?,P.info? t with
  |some (aa (.inl (ty,cs))),aa inf =>
   if fj v.cells.toList.length inf.size&&vd (e+inf.size) cs.length&&ZN v.cells.toList then
    aa ⟨True,undef,aj,σ.hp.set i (aa (.inl (ty,IT cs e v.cells.toList))),[],Oa i e inf.size⟩
   else aj
  |_,_=>aj
 |some (.pointer (aa ⟨i,e,aa q⟩)),aa v =>
  match σ.hp[i]?,P.info? t with
  |some (aa (.inr (.inl (ty,r)))),aa inf =>
   if fj v.cells.toList.length inf.size&&fj (q / 1000) r.tm.length&&gY q 1000000&&gY 0 inf.size then
    match H0 r.tm r.ew e (q%1000) v.cells.toList with
    |some ew=>aa ⟨e<r.n,undef,aj,σ.hp.set i (aa (.inr (.inl (ty,{ r with ew:=ew })))),[],Oa i (q%1000) inf.size⟩
    |none=>aj
   else aj
  |_,_=>aj
 |_,_=>aj
theorem Sy {n:Nat} {v:Value} (h:fD n v=ao):iJ n v.cells.toList=ao:=by
 cases v with
 |agg cs=>obtain⟨l⟩:=cs;simpa [fD,nM] using h
 |_=>simp only[nM,iJ,h];rfl
theorem aaA {σ:SS R} {o:Oper} {t:TypeId} {y z:Operand} {x:Out R} (ho:o.op=.store t y z) (hd:o.dst=aj) (h:Es P σ t y z=aa x):mv D P o σ x:=by
 unfold Es at h;split at h
 ·rename_i i e v ha hb;split at h
  ·rename_i ty cs inf hi yB;split at h
   ·rename_i hc;simp only[aM] at hc;have om:=cQ hc.1.1;have hle:=jQ hc.1.2;have ae3:=aeY hc.2;injection h with h
    subst h;refine⟨fun C ρ ft ac w K Q ht iH hm _ hK=>?_,by simp,fun _ b hb=>by cases hb⟩
    have h1:=(eJ ht ha).1;obtain⟨h2,h2'⟩:=eJ ht hb;simp only[bV,iQ,cellOf] at h1;obtain⟨g1,g2,g3⟩:=(hm.at_ i _ hi).1;have hvl:((bV ρ v).cells.toList)=v.cells.toList.map (bV ρ):=by rw[CU];simp
    have za:=zh (P:=P) (ρ i).lO e ty (v.cells.toList.map (bV ρ)) 0 _ w g3 (by have:=om;simp only[wO] at this;simp;omega) (fun u hu=>by
     obtain⟨u',hu',rfl⟩:=px.1 hu;rw[Xw];exact ae3 u' hu')
    simp only[gZ] at za;rw[GZ] at za;have ob:(execOp ac.eval o).run P w=.ok .skip (w.setRow (ρ i).lO ((IT cs e v.cells.toList).map (bV ρ)).toArray):=by
     have Wr:(bV ρ v).cells.size=inf.size:=by rw[← wO,hvl];simpa using om
     simp only[execOp,ho,h1,h2,TD,o8,storeVar,dA,dZ,cB,sizeOf,typeInfo,run_program,yB,Wr,ne_eq,not_true_eq_false,if_false,g1,bW,hvl,za]
    refine UT ob (hK ρ (qA ft i (ft i)) _ (fun _ _=>rfl) ?_)
    refine hm.put hi (GQ _ _ _ ((g2 _).2 rfl)) _ _ ⟨g1,g2,setRow_heap w _ _ _ _ _ g3⟩ (Vz _ _ (hm.at_ i _ hi).2 (Sy h2')) (fun k hk=>⟨dO hk,by simpa [FP] using hm.lt i k hk⟩)
   ·cases h
  ·cases h
 ·rename_i i e q v ha hb;split at h
  ·rename_i ty r inf hi yB;split at h
   ·rename_i hc;simp only[aM,fo] at hc;have om:=cQ hc.1.1.1;have hq:=cQ hc.1.1.2;have Gl:=hc.1.2;have Yl:=hc.2;split at h
    ·rename_i ew D';injection h with h
     subst h;refine⟨fun C ρ ft ac w K Q ht iH hm he hK=>?_,by simp,fun _ b hb=>by cases hb⟩
     have h1:=(eJ ht ha).1;obtain⟨h2,h2'⟩:=eJ ht hb;have e1:q%1000000 / 1000=r.tm.length:=by omega
     simp only[bV,iQ,cellOf,e1] at h1;obtain⟨g1,g2,g3,g4,g4',arr,g56,g7⟩:=(hm.at_ i _ hi).1;have hnn:(ρ i).nil=an:=by
      cases hqq:(ρ i).nil with
      |false=>rfl
      |true=>have:=g4' hqq;have:e<r.n:=he;omega
     obtain⟨g5,g6⟩:=g56 hnn;obtain⟨k1,k2,k3⟩:=MS (tm:=r.tm) (n:=r.n) he (arr:=arr) g7 D';have hvl:((bV ρ v).cells.toList)=v.cells.toList:=by
      rw[CU];rw[mH]
      conv=>rhs;rw[← XD v.cells.toList]
      exact oj fun u hu=>n_ u (k2 u hu).1
     have Fq:(ρ i).off+(e*r.tm.length+q%1000)+0+v.cells.toList.length≤arr.size:=by
      have hmul:(e+1)*r.tm.length≤(ρ i).cap*r.tm.length:=jA _ (by have:e<r.n:=he;omega)
      rw[ix,qM] at hmul;rw[g6];rcases k3 with k3|k3
      ·rw[k3] at om;simp at om;omega
      ·omega
     have za:=zh (P:=P) (ρ i).lO ((ρ i).off+(e*r.tm.length+q%1000)) ty v.cells.toList 0 arr w g5 Fq (fun u hu=>(k2 u hu).2)
     simp only[gZ] at za;have ob:(execOp ac.eval o).run P w=.ok .skip (w.setRow (ρ i).lO (nT arr ((ρ i).off+(e*r.tm.length+q%1000)) v.cells.toList)):=by
      have Wr:(bV ρ v).cells.size=inf.size:=by rw[← wO,hvl];exact om
      simp only[execOp,ho,h1,h2,TD,o8,storeVar,dA,dZ,cB,sizeOf,typeInfo,run_program,yB,Wr,ne_eq,not_true_eq_false,if_false,hvl,za]
     refine UT ob (hK ρ (qA ft i (ft i)) _ (fun _ _=>rfl) ?_)
     exact hm.put hi (GQ _ _ _ ((g1 _).2 ⟨hnn,rfl⟩)) _ _ ⟨g1,g2,g3,g4,g4',_,fun _=>⟨setRow_heap w _ _ _ _ _ g5,by rw[Fj];exact g6⟩,k1⟩ trivial (fun k hk=>⟨dO hk,by simpa [FP] using hm.lt i k hk⟩)
    ·cases h
   ·cases h
  ·cases h
 ·cases h
end
end Rx
namespace Rx
open Go.RowKit State
section
variable {R:Type} {D:fR R} {P:Program} {C:Ctx} {ρ:Env} {ft:Nat->Nat->Prop} {w w':World}
def xp (σ:SS R) (t:TypeId) (cs:List Value):Option (Out R) :=
 aa ⟨True,.pointer (aa ⟨σ.hp.length,0,aj⟩),aj,σ.hp++[aa (.inl (t,cs))],[],[(σ.hp.length,0)]⟩
theorem MD {σ:SS R} {o:Oper} {t:TypeId} {cs:List Value} {x:Out R}
  (ob:∀ (ρ:Env) (a:Act) (w:World),TM ρ σ.hp.length σ.tm a->(execOp a.eval o).run P w=.ok (.value (.pointer (aa ⟨w.heap.size,0,aj⟩))) (w.alloc (.cells (cs.map (bV ρ)).toArray t))/\iJ σ.hp.length cs=ao)
  (h:xp σ t cs=aa x):mv D P o σ x:=by
 unfold xp at h;injection h with h
 subst h;refine⟨fun C ρ ft a w K Q ht iH hm _ hK=>?_,by simp,fun _ b hb=>by cases hb⟩
 obtain⟨h1,h2⟩:=ob ρ a w ht;have UR:cs.map (bV (qA ρ σ.hp.length ⟨w.heap.size,0,0,an⟩))=cs.map (bV ρ) :=
  oj fun v hv=>nG (n:=σ.hp.length) (fun i hi=>o3 _ _ _ hi) v (xd.1 h2 v hv)
 have hp:=hm.push (D:=D) ⟨w.heap.size,0,0,an⟩ (.cells (cs.map (bV ρ)).toArray t) rfl (.inl (t,cs)) (by
  refine⟨by rw[jq],fun k=>by rw[jq],?_⟩
  rw[jq,UR];exact heap_alloc_new w _) (vv (kZ _) _ h2)
 refine rO h1 ?_;have:=hK _ _ _ (fun i hi=>o3 ρ σ.hp.length ⟨w.heap.size,0,0,an⟩ hi) hp
 simpa [bV,iQ,jq,cellOf] using this
def Et (P:Program) (σ:SS R) (t:TypeId):Option (Out R) :=
 match P.info? t with
 |some i=>match i.zero with
  |some z=>if pZ z.cells.toList then xp σ t z.cells.toList else aj
  |none=>aj
 |none=>aj
theorem FH {l:List Value} (h:pZ l=ao):l.map (bV ρ)=l:=by
 conv=>rhs;rw[← XD l]
 exact oj fun v hv=>n_ v (Ad.1 h v hv)
theorem Zy {σ:SS R} {o:Oper} {t:TypeId} {x:Out R} (ho:o.op=.alloc t) (h:Et P σ t=aa x):mv D P o σ x:=by
 unfold Et at h;split at h
 ·rename_i i hi;split at h
  ·rename_i z hz;split at h
   ·rename_i hf;refine MD (fun ρ a w ht=>⟨?_,zV _ hf⟩) h
    rw[FH hf];simp[execOp,ho,Instr.alloc,zeroValue,typeInfo,hi,hz,newVar,newRow]
   ·cases h
  ·cases h
 ·cases h
def LQ (σ:SS R) (t:TypeId) (y:Operand):Option (Out R) :=
 match ev σ.tm y with
 |some v=>xp σ t v.cells.toList
 |none=>aj
theorem ad0 {σ:SS R} {o:Oper} {t:TypeId} {y:Operand} {x:Out R} (ho:o.op=.box t y) (h:LQ σ t y=aa x):mv D P o σ x:=by
 unfold LQ at h;split at h
 ·rename_i v hv;refine MD (fun ρ a w ht=>?_) h
  obtain⟨h1,h2⟩:=eJ ht hv;refine⟨?_,Sy h2⟩;have:(bV ρ v).cells=(v.cells.toList.map (bV ρ)).toArray:=by rw[CU];apply qL;simp
  simp[execOp,ho,Instr.box,newVar,newRow,h1,this]
 ·cases h
def Cu (tm:List (Option Value)):List (Nat×Operand)->Option (List (Nat×Value))
 |[]=>aa []
 |(i,y)::l =>
  match ev tm y,Cu tm l with
  |some v,aa r=>aa ((i,v)::r)
  |_,_=>aj
theorem yP {tm:List (Option Value)} {n:Nat} {a:Act} (ht:TM ρ n tm a):∀ {l:List (Nat×Operand)} {r:List (Nat×Value)},Cu tm l=aa r ->
  l.map (fun(i,y)=>(i,a.eval y))=r.map (fun(i,v)=>(i,bV ρ v))/\∀ p∈r,fD n p.2=ao
 |[],r,h=>by
  simp only[Cu] at h;injection h with h
  subst h;exact⟨rfl,fun p hp=>by cases hp⟩
 |(i,y)::l,r,h=>by
  simp only[Cu] at h;split at h
  ·rename_i v r' hv hr;injection h with h
   subst h;obtain⟨h1,h2⟩:=eJ ht hv;obtain⟨h3,h4⟩:=yP ht hr;refine⟨by simp only[gC,h1,h3],fun p hp=>?_⟩
   rcases bN.1 hp with rfl|hp
   ·exact h2
   ·exact h4 p hp
  ·cases h
def Gh (place:Nat->Option (Nat×Nat)) (cs:List Value):List (Nat×Value)->Option (List Value)
 |[]=>aa cs
 |(i,v)::rest =>
  match place i with
  |none=>aj
  |some (off,size) =>
   if fj v.cells.toList.length size&&vd (off+size) cs.length then Gh place (IT cs off v.cells.toList) rest else aj
theorem Tt (vs:List Value):∀ (k:Nat) (cur:Array Value) (off:Nat),(vs.zipIdx k).foldl (fun cs (x:Value×Nat)=>cs.setIfInBounds (off+x.2) x.1) cur=nT cur (off+k) vs:=by
 induction vs with
 |nil=>intro k cur off;rfl
 |cons v l ih=>intro k cur off;simp only[List.zipIdx_cons,List.foldl_cons,nT];rw[ih];simp[jr]
theorem Bf {place:Nat->Option (Nat×Nat)}:∀ {rest:List (Nat×Value)} {cs r:List Value},Gh place cs rest=aa r ->
  aaK place (cs.map (bV ρ)).toArray (rest.map fun(i,v)=>(i,bV ρ v))=aa (r.map (bV ρ)).toArray/\r.length=cs.length
 |[],cs,r,h=>by
  simp only[Gh] at h;injection h with h
  subst h;exact⟨rfl,rfl⟩
 |(i,v)::rest,cs,r,h=>by
  simp only[Gh] at h;split at h
  ·cases h
  ·rename_i off size hp;split at h
   ·rename_i hc;simp only[aM] at hc;have h1:=cQ hc.1;have h2:=jQ hc.2;obtain⟨h3,h4⟩:=Bf h;refine⟨?_,by rw[h4,Mz]⟩
    simp only[gC,aaK,hp];have om:(bV ρ v).cells.size=size:=by rw[CU];simpa using h1
    rw[if_neg (by simp[om];omega)]
    rw[← h3]
    congr 1
    have:(bV ρ v).cells=(v.cells.toList.map (bV ρ)).toArray:=by rw[CU];apply qL;simp
    rw[this];have e:=Tt (v.cells.toList.map (bV ρ)) 0 (cs.map (bV ρ)).toArray off;rw[gZ,GZ] at e;rw[← e];simp[← Array.foldl_toList]
   ·cases h
def Hu (P:Program):List Field->Option (List (Nat×Nat))
 |[]=>aa []
 |f::fs =>
  match P.info? f.type,Hu P fs with
  |some i,aa r=>aa ((f.offset,i.size)::r)
  |_,_=>aj
theorem J6 (w:World):∀ {fs:List Field} {r:List (Nat×Nat)},Hu P fs=aa r->(fs.mapM (m:=Sem) fun f=>do pure (f.offset,← sizeOf f.type)).run P w=.ok r w
 |[],r,h=>by
  simp only[Hu] at h;injection h with h
  subst h;simp
 |f::fs,r,h=>by
  simp only[Hu] at h;split at h
  ·rename_i i r' hi hr;injection h with h
   subst h;have ih:=J6 w hr;simp[sizeOf,typeInfo,hi] at ih ⊢;simp[ih]
  ·cases h
def Ep (P:Program) (σ:SS R) (t:TypeId) (parts:List (Nat×Operand)):Option (Out R) :=
 match P.info? t,P.underlying t,Cu σ.tm parts with
 |some i,aa (.struct ⟨fs⟩),aa ps =>
  match i.zero,Hu P fs with
  |some z,aa sz =>
   if pZ z.cells.toList then
    match Gh (fun k=>sz[k]?) z.cells.toList ps with
    |some cs=>aa (gy σ True (.agg ⟨cs⟩) aj [])
    |none=>aj
   else aj
  |_,_=>aj
 |some i,aa (.array _ elem),aa ps =>
  match i.zero,P.info? elem with
  |some z,aa ie =>
   if pZ z.cells.toList then
    match Gh (fun k=>aa (k*ie.size,ie.size)) z.cells.toList ps with
    |some cs=>aa (gy σ True (.agg ⟨cs⟩) aj [])
    |none=>aj
   else aj
  |_,_=>aj
 |_,_,_=>aj
theorem aaG {σ:SS R} {o:Oper} {t:TypeId} {parts:Array (Nat×Operand)} {x:Out R} (ho:o.op=.build t parts) (h:Ep P σ t parts.toList=aa x):mv D P o σ x:=by
 unfold Ep at h;split at h
 ·rename_i i fs ps hi hu VO;split at h
  ·rename_i z sz hz om;split at h
   ·rename_i hf;split at h
    ·rename_i cs Hz;injection h with h
     subst h;refine ic (fun C ρ ft a w ht iH hm _=>?_) (fun iH c hc=>by cases hc)
     obtain⟨h1,h2⟩:=yP ht VO;obtain⟨h3,h4⟩:=Bf (ρ:=ρ) Hz;rw[FH hf] at h3;have Jz:(parts.map fun(i,y)=>(i,a.eval y)).toList=ps.map fun(i,v)=>(i,bV ρ v):=by
      rw[mH];exact h1
     have Ki:=J6 w om;have hm3:((⟨fs⟩:Array Field).mapM (m:=Sem) fun f=>do pure (f.offset,← sizeOf f.type)).run P w=.ok ⟨sz⟩ w:=by
      rw[Eb,XE,Ki];simp
     have aiV:(fun(k:Nat)=>(⟨sz⟩:Array (Nat×Nat))[k]?)=fun(k:Nat)=>sz[k]?:=by funext k;simp
     simp only[execOp,ho,XF,zeroValue,typeInfo,dA,run_program,cB,hi,dZ,hz,run_underlying hu,hm3,Jz,aiV];simp only[Jj] at h3;rw[h3,Ae];simp
    ·cases h
   ·cases h
  ·cases h
 ·rename_i i q elem ps hi hu VO;split at h
  ·rename_i z ie hz hie;split at h
   ·rename_i hf;split at h
    ·rename_i cs Hz;injection h with h
     subst h;refine ic (fun C ρ ft a w ht iH hm _=>?_) (fun iH c hc=>by cases hc)
     obtain⟨h1,h2⟩:=yP ht VO;obtain⟨h3,h4⟩:=Bf (ρ:=ρ) Hz;rw[FH hf] at h3;have Jz:(parts.map fun(i,y)=>(i,a.eval y)).toList=ps.map fun(i,v)=>(i,bV ρ v):=by
      rw[mH];exact h1
     simp only[execOp,ho,XF,zeroValue,typeInfo,sizeOf,dA,run_program,cB,hi,hie,dZ,hz,run_underlying hu,Jz];simp only[Jj] at h3;rw[h3,Ae];simp
    ·cases h
   ·cases h
  ·cases h
 ·cases h
end
end Rx
namespace Rx
open Go.RowKit State
section
variable {R:Type} {D:fR R} {P:Program} {C:Ctx} {ρ:Env} {ft:Nat->Nat->Prop} {w w':World}
def HU (t:Value):List Value->Option aW
 |[]=>match t with
  |.int _ _|.bool _|.string _=>aa LB
  |_=>aj
 |v::l =>
  match t,v,HU t l with
  |.int k _,.int k' x,aa c=>if k=k' then aa { c with i:=x::c.i } else aj
  |.bool _,.bool x,aa c=>aa { c with b:=x::c.b }
  |.string _,.string x,aa c=>aa { c with s:=x::c.s }
  |_,_,_=>aj
theorem D7 {t:Value}:∀ {l:List Value} {c:aW},HU t l=aa c->jU t c l.length/\∀ (e:Nat),e<l.length->l[e]?=aa (gJ t c e)
 |[],c,h=>by
  simp only[HU] at h;split at h
  ·injection h with h;subst h;exact⟨rfl,fun e he=>by simp at he⟩
  ·injection h with h;subst h;exact⟨rfl,fun e he=>by simp at he⟩
  ·injection h with h;subst h;exact⟨rfl,fun e he=>by simp at he⟩
  ·cases h
 |v::l,c,h=>by
  simp only[HU] at h;split at h
  ·rename_i k _ k' x c' hc;split at h
   ·rename_i hk;subst hk;injection h with h
    subst h;obtain⟨h1,h2⟩:=D7 hc;refine⟨by simpa [jU] using h1,fun e he=>?_⟩
    cases e with
    |zero=>simp[gJ]
    |succ e =>
     have:=h2 e (by simpa using he)
     simpa [gJ] using this
   ·cases h
  ·rename_i x c' hc;injection h with h
   subst h;obtain⟨h1,h2⟩:=D7 hc;refine⟨by simpa [jU] using h1,fun e he=>?_⟩
   cases e with
   |zero=>simp[gJ]
   |succ e =>
    have:=h2 e (by simpa using he)
    simpa [gJ] using this
  ·rename_i x c' hc;injection h with h
   subst h;obtain⟨h1,h2⟩:=D7 hc;refine⟨by simpa [jU] using h1,fun e he=>?_⟩
   cases e with
   |zero=>simp[gJ]
   |succ e =>
    have:=h2 e (by simpa using he)
    simpa [gJ] using this
  ·cases h
def HW (cells:List Value) (s f:Nat):Nat->List Value
 |0=>[]
 |n+1=>HW cells s f n++[(cells[n*s+f]?).getD undef]
theorem PK (cells:List Value) (s f:Nat):∀ (n:Nat),(HW cells s f n).length=n/\∀ e,e<n->(HW cells s f n)[e]?=aa ((cells[e*s+f]?).getD undef)
 |0=>⟨rfl,fun e he=>by omega⟩
 |n+1=>by
  obtain⟨h1,h2⟩:=PK cells s f n;refine⟨by simp[HW,h1],fun e he=>?_⟩
  simp only[HW];rcases ct e n with cd|ki
  ·rw[da (by omega)]
   exact h2 e cd
  ·have:e=n:=by omega
   subst this;rw[dW (by omega),h1]
   simp
def EC (cells:List Value) (s n:Nat):Nat->List Value->Option (List aW)
 |_,[]=>aa []
 |f,t::tm =>
  match HU t (HW cells s f n),EC cells s n (f+1) tm with
  |some c,aa r=>aa (c::r)
  |_,_=>aj
theorem Mr {cells:List Value} {s n:Nat}:∀ {tm:List Value} {f0:Nat} {ew:List aW},EC cells s n f0 tm=aa ew ->
  ew.length=tm.length/\∀ (f:Nat) (t:Value) (c:aW),tm[f]?=aa t->ew[f]?=aa c->jU t c n/\∀ e,e<n->(cells[e*s+(f0+f)]?).getD undef=gJ t c e
 |[],f0,ew,h=>by
  simp only[EC] at h;injection h with h
  subst h;exact⟨rfl,fun f t c h1 h2=>by simp at h1⟩
 |t0::tm,f0,ew,h=>by
  simp only[EC] at h;split at h
  ·rename_i c r hc hr;injection h with h
   subst h;obtain⟨h1,h2⟩:=Mr hr;refine⟨by simp[h1],fun f t c' g1 g2=>?_⟩
   cases f with
   |zero =>
    simp only[cf,cv] at g1 g2;subst g1;subst g2;obtain⟨k1,k2⟩:=D7 hc;obtain⟨s1,s2⟩:=PK cells s f0 n;rw[s1] at k1 k2;refine⟨k1,fun e he=>?_⟩
    have:=k2 e he;rw[s2 e he] at this;exact pw this
   |succ f =>
    simp only[bK] at g1 g2;have:=h2 f t c' g1 g2;rw[show f0+(f+1)=f0+1+f by omega]
    exact this
  ·cases h
theorem HM.R' {h:Hp R} (hm:HM D C ρ ft h w) (t:TypeId) (r:Row) (arr:Array Value) (cap:Nat) (h0:0<r.tm.length) (hn:r.n≤cap) (hc:cap≤maxLen) (hs:arr.size=cap*r.tm.length) (hr:oC r arr 0) :
  HM D C (qA ρ h.length ⟨w.heap.size,0,cap,an⟩) (qA ft h.length (fun k=>k=w.heap.size)) (h++[aa (.inr (.inl (t,r)))]) (w.alloc (.cells arr t)):=by
 refine hm.push ⟨w.heap.size,0,cap,an⟩ (.cells arr t) rfl (.inr (.inl (t,r))) ?_ trivial;simp only[hold,jq];exact⟨fun k=>by simp,h0,hn,hc,(fun h=>by cases h),arr,fun _=>⟨heap_alloc_new w _,by omega⟩,hr⟩
theorem HM.Rc {h:Hp R} (hm:HM D C ρ ft h w) (t:TypeId) (r:Row) (h0:0<r.tm.length) (hn:r.n=0) (hl:r.ew.length=r.tm.length) (hc:∀ (f:Nat) (t:Value) (c:aW),r.tm[f]?=aa t->r.ew[f]?=aa c->jU t c r.n) (b o:Nat) :
  HM D C (qA ρ h.length ⟨b,o,0,ao⟩) ft (h++[aa (.inr (.inl (t,r)))]) w:=by
 have CS:∀ k,¬ ft h.length k:=fun k hk=>by
  obtain⟨B,hB⟩:=hm.some_ _ _ hk;have:=(aU.1 hB).1;omega
 refine hm.step (fun _=>False) (Kept.refl _ _) (fun i hi=>o3 _ _ _ hi) (by simp) ?_ ?_ ?_ ?_
 ·intro i B' hi jN;have ki:h.length≤i:=nL hi;rw[dW ki] at jN;have:i=h.length:=by
   rcases ct h.length i with cd|hle
   ·rw[df (by simp;omega)] at jN;cases jN
   ·omega
  subst this;simp at jN;subst jN;refine⟨?_,trivial⟩;simp only[hold,jq];exact⟨fun k=>by simp[CS k],h0,by omega,by unfold maxLen;omega,fun _=>trivial,#[],(fun h=>by cases h),hl,hc,fun f t c e _ _ he=>by omega⟩
 ·intro i hi _;exact⟨da hi,fun k=>sD⟩
 ·intro i k hi hk;obtain⟨B',jN⟩:=hm.some_ i k hk;exact absurd (aU.1 jN).1 hi
 ·intro i j k hi hj Hy HC;exact hm.apart i j k Hy HC
def vP (tm:List Value):Nat->List Value
 |0=>[]
 |n+1=>vP tm n++tm
theorem qK (tm:List Value):∀ n,(vP tm n).length=n*tm.length
 |0=>by simp[vP]
 |n+1=>by simp[vP,qK tm n,ix]
theorem Fg (tm:List Value) (h0:0<tm.length):∀ (n j:Nat),j<n*tm.length->(vP tm n)[j]?=tm[j%tm.length]?
 |0,j,hj=>by omega
 |n+1,j,hj=>by
  simp only[vP];rcases ct j (n*tm.length) with cd|ki
  ·rw[da (by rw[qK];exact cd)]
   exact Fg tm h0 n j cd
  ·rw[dW (by rw[qK];exact ki),qK]
   have:j%tm.length=j-n*tm.length:=by
    rw[ix,qM] at hj;obtain⟨d,rfl⟩:∃ d,j=n*tm.length+d:=⟨j-n*tm.length,by omega⟩
    rw[sY,wB,FR (by omega)]
    omega
   rw[this]
theorem Wu (z:Array Value) (h0:0<z.size) (n:Nat):((G7 (n*z.size)).map (z[·%z.size]!))=(vP z.toList n).toArray:=by
 apply qL;apply oc;intro j;simp only[mH,Array.toList_range,fu]
 by_cases hj:j<n*z.size
 ·rw[Fg z.toList (by simpa using h0) n j (by simpa using hj)]
  have hm:j%z.size<z.size:=QE _ h0;simp[hj,hm]
 ·rw[df (by simpa using hj),df (by rw[qK];simpa using hj)]
  simp
def F':List (Nat×Value)->Bool
 |[]=>ao
 |(_,v)::l=>flat v&&F' l
theorem JB {l:List (Nat×Value)} (h:F' l=ao):l.map (fun(i,v)=>(i,bV ρ v))=l:=by
 induction l with
 |nil=>rfl
 |cons p l ih =>
  obtain⟨i,v⟩:=p;simp only[F',aM] at h;simp[ih h.2,n_ v h.1]
def elemOf (P:Program) (t:TypeId):Option (TypeId×List Value×Nat) :=
 match P.underlying t with
 |some (.slice el) =>
  match P.info? el with
  |some inf=>match inf.zero with
   |some z=>if pZ z.cells.toList&&fj inf.size z.cells.toList.length&&gY 0 inf.size&&gY inf.size 1000 then aa (el,z.cells.toList,inf.bytes) else aj
   |none=>aj
  |none=>aj
 |_=>aj
theorem Am {t el:TypeId} {tm:List Value} {DP:Nat} (h:elemOf P t=aa (el,tm,DP)) :
  ∃ inf z,P.underlying t=aa (.slice el)/\P.info? el=aa inf/\inf.zero=aa z/\z.cells.toList=tm/\inf.size=tm.length/\inf.bytes=DP/\pZ tm=ao/\0<tm.length/\tm.length<1000:=by
 unfold elemOf at h;split at h
 ·rename_i el' hu;split at h
  ·rename_i inf hi;split at h
   ·rename_i z hz;split at h
    ·rename_i hc;simp only[aM,fo] at hc;have h1:=cQ hc.1.1.2;injection h with h
     injection h with h2 h3
     injection h3 with h3 h4
     subst h2;subst h3;subst h4;exact⟨inf,z,hu,hi,hz,rfl,h1,rfl,hc.1.1.1,by omega,by omega⟩
    ·cases h
   ·cases h
  ·cases h
 ·cases h
def uG (P:Program) (σ:SS R) (t:TypeId) (len:Nat) (parts:List (Nat×Operand)):Option (Out R) :=
 match elemOf P t,Cu σ.tm parts with
 |some (el,tm,_),aa ps =>
  if F' ps&&vd (len*tm.length) 1000000 then
   match Gh (fun i=>aa (i*tm.length,tm.length)) (vP tm len) ps with
   |some cells=>match EC cells tm.length len 0 tm with
    |some ew=>aa ⟨True,.slice (aa ⟨σ.hp.length,0,aa (1000*tm.length)⟩) len len,aj,σ.hp++[aa (.inr (.inl (el,⟨tm,len,ew⟩)))],[],[(σ.hp.length,0)]⟩
    |none=>aj
   |none=>aj
  else aj
 |_,_=>aj
theorem P4 {σ:SS R} {o:Oper} {t:TypeId} {len:Nat} {parts:Array (Nat×Operand)} {x:Out R} (ho:o.op=.buildSlice t len parts) (h:uG P σ t len parts.toList=aa x):mv D P o σ x:=by
 unfold uG at h;split at h
 ·rename_i el tm DP ps he VO;obtain⟨inf,z,hu,hi,hz,BN,om,_,wU,h0,SZ⟩:=Am he;split at h
  ·rename_i hc;simp only[aM] at hc;have hle:=jQ hc.2;split at h
   ·rename_i cells WG;split at h
    ·rename_i ew D';injection h with h
     subst h;refine⟨fun C ρ ft a w K Q ht iH hm _ hK=>?_,by simp,fun _ b hb=>by cases hb⟩
     obtain⟨h1,h2⟩:=yP ht VO;rw[JB hc.1] at h1;obtain⟨h3,h4⟩:=Bf (ρ:=ρ) WG;rw[JB hc.1] at h3;have Zw:pZ (vP tm len)=ao:=by
      rw[Ad];intro v hv;obtain⟨j,hj⟩:=Bz hv;have WR:=(aU.1 hj).1;rw[qK] at WR;rw[Fg tm h0 len j WR] at hj;exact Ad.1 wU v (lI hj)
     rw[FH Zw] at h3;have Jz:(parts.map fun(i,y)=>(i,a.eval y)).toList=ps:=by
      rw[mH];exact h1
     have KE:z.cells.size=tm.length:=by rw[← BN];simp
     have GS:(if len*inf.size=0 then #[] else z.cells:Array Value)=if len*tm.length=0 then #[] else z.cells:=by rw[om]
     have hzero:(G7 (len*tm.length)).map ((if len*tm.length=0 then(#[]:Array Value) else z.cells)[·%(if len*tm.length=0 then(#[]:Array Value) else z.cells).size]!)=(vP tm len).toArray:=by
      by_cases yK:len*tm.length=0
      ·have:len=0:=by
        rcases GN.1 yK with h|h
        ·exact h
        ·omega
       subst this;simp[vP]
      ·rw[if_neg yK];have:=Wu z.cells (by omega) len
       rw[KE,BN] at this;rw[KE];exact this
     have afU:cells.length=len*tm.length:=by rw[h4,qK]
     obtain⟨c1,c2⟩:=Mr D';have hcm:cells.map (bV ρ)=cells.map (bV ρ):=rfl;have wM:oC ⟨tm,len,ew⟩ (cells.map (bV ρ)).toArray 0:=by
      refine⟨c1,fun f t c g1 g2=>(c2 f t c g1 g2).1,fun f t c e g1 g2 g3=>?_⟩
      have Ci:f<tm.length:=(aU.1 g1).1;have cd:e*tm.length+f<cells.length:=by
       rw[afU];have:=jA tm.length (show e+1≤len from g3)
       rw[ix,qM] at this;omega
      obtain⟨k1,k2⟩:=c2 f t c g1 g2;have:=k2 e g3;rw[bW,bc cd,Option.getD_some] at this;rw[bW,jP,fu,bc cd,this];simp[n_ _ (KF k1 e)]
     have ob:(execOp a.eval o).run P w=.ok (.value (.slice (aa ⟨w.heap.size,0,aj⟩) len len)) (w.alloc (.cells (cells.map (bV ρ)).toArray el)):=by
      have aeK:¬ len*tm.length>2 ^ 24:=by omega
      simp only[execOp,ho,OE,dA,run_underlying hu,cB,sizeOf,typeInfo,run_program,hi,dZ,om,if_neg aeK,Jz]
      by_cases yK:len*tm.length=0
      ·rw[if_pos yK] at hzero;rw[yK] at hzero;simp only[yK,if_true,dA,dZ,cB];rw[hzero,h3];simp[newRow]
      ·rw[if_neg yK] at hzero;simp only[yK,if_false,dA,zeroValue,typeInfo,run_program,cB,hi,hz,dZ];rw[hzero,h3];simp[newRow]
     refine rO ob ?_;have hp:=hm.R' el ⟨tm,len,ew⟩ (cells.map (bV ρ)).toArray len h0 (a_ _) (by
      have:len≤len*tm.length:=Nat.le_mul_of_pos_right _ h0;unfold maxLen;omega) (by simp[afU]) wM
     have:=hK _ _ _ (fun i hi=>o3 ρ σ.hp.length ⟨w.heap.size,0,len,an⟩ hi) hp
     have e1:1000*tm.length / 1000000=0:=by omega
     have e2:1000*tm.length%1000=0:=by omega
     simpa [bV,lP,iQ,jq,cellOf,e1,e2] using this
    ·cases h
   ·cases h
  ·cases h
 ·cases h
def uU (P:Program) (σ:SS R) (t:TypeId) (len:Nat) (parts:List (Nat×Operand)):Option (Out R) :=
 match elemOf P t,Cu σ.tm parts with
 |some (el,tm,_),aa ps =>
  if vd (len*tm.length) 1000000&&gY 0 len then
   match Gh (fun i=>aa (i*tm.length,tm.length)) (vP tm len) ps with
   |some cells=>if iJ σ.hp.length cells then aa ⟨True,.slice (aa ⟨σ.hp.length,0,aj⟩) len len,aj,σ.hp++[aa (.inl (el,cells))],[],[(σ.hp.length,0)]⟩ else aj
   |none=>aj
  else aj
 |_,_=>aj
theorem QC {σ:SS R} {o:Oper} {t:TypeId} {len:Nat} {parts:Array (Nat×Operand)} {x:Out R} (ho:o.op=.buildSlice t len parts) (h:uU P σ t len parts.toList=aa x):mv D P o σ x:=by
 unfold uU at h;split at h
 ·rename_i el tm DP ps he VO;obtain⟨inf,z,hu,hi,hz,BN,om,_,wU,h0,SZ⟩:=Am he;split at h
  ·rename_i hc;simp only[aM,fo] at hc;have hle:=jQ hc.1;have aee:=hc.2;split at h
   ·rename_i cells WG;split at h
    ·rename_i kj;injection h with h
     subst h;refine⟨fun C ρ ft a w K Q ht iH hm _ hK=>?_,by simp,fun _ b hb=>by cases hb⟩
     obtain⟨h1,h2⟩:=yP ht VO;obtain⟨h3,h4⟩:=Bf (ρ:=ρ) WG;have Zw:pZ (vP tm len)=ao:=by
      rw[Ad];intro v hv;obtain⟨j,hj⟩:=Bz hv;have WR:=(aU.1 hj).1;rw[qK] at WR;rw[Fg tm h0 len j WR] at hj;exact Ad.1 wU v (lI hj)
     rw[FH Zw] at h3;have Jz:(parts.map fun(i,y)=>(i,a.eval y)).toList=ps.map fun(i,v)=>(i,bV ρ v):=by
      rw[mH];exact h1
     have KE:z.cells.size=tm.length:=by rw[← BN];simp
     have kG:¬ len*tm.length=0:=by
      intro yK;rcases GN.1 yK with h|h<;>omega
     have hzero:(G7 (len*tm.length)).map (z.cells[·%z.cells.size]!)=(vP tm len).toArray:=by
      have:=Wu z.cells (by omega) len
      rw[KE,BN] at this;rw[KE];exact this
     have ob:(execOp a.eval o).run P w=.ok (.value (.slice (aa ⟨w.heap.size,0,aj⟩) len len)) (w.alloc (.cells (cells.map (bV ρ)).toArray el)):=by
      have aeK:¬ len*tm.length>2 ^ 24:=by omega
      simp only[execOp,ho,OE,dA,run_underlying hu,cB,sizeOf,typeInfo,run_program,hi,dZ,om,if_neg aeK,Jz];simp only[kG,if_false,dA,zeroValue,typeInfo,run_program,cB,hi,hz,dZ];rw[hzero,h3];simp[newRow]
     have UR:cells.map (bV (qA ρ σ.hp.length ⟨w.heap.size,0,0,an⟩))=cells.map (bV ρ) :=
      oj fun v hv=>nG (n:=σ.hp.length) (fun i hi=>o3 _ _ _ hi) v (xd.1 kj v hv)
     have hp:=hm.push (D:=D) ⟨w.heap.size,0,0,an⟩ (.cells (cells.map (bV ρ)).toArray el) rfl (.inl (el,cells)) (by
      refine⟨by rw[jq],fun k=>by rw[jq],?_⟩
      rw[jq,UR];exact heap_alloc_new w _) (vv (kZ _) _ kj)
     refine rO ob ?_;have:=hK _ _ _ (fun i hi=>o3 ρ σ.hp.length ⟨w.heap.size,0,0,an⟩ hi) hp
     simpa [bV,lP,iQ,jq,cellOf] using this
    ·cases h
   ·cases h
  ·cases h
 ·cases h
def LF (t:Value) (n:Nat):Option aW :=
 match t with
 |.int _ x=>aa { LB with i:=lC n x }
 |.bool x=>aa { LB with b:=lC n x }
 |.string x=>aa { LB with s:=lC n x }
 |_=>aj
def ue:List Value->Nat->Option (List aW)
 |[],_=>aa []
 |t::tm,n =>
  match LF t n,ue tm n with
  |some c,aa r=>aa (c::r)
  |_,_=>aj
theorem aap {t:Value} {n:Nat} {c:aW} (h:LF t n=aa c):jU t c n/\∀ e,e<n->gJ t c e=t:=by
 unfold LF at h;split at h
 ·injection h with h;subst h
  exact⟨by simp[jU],fun e he=>by simp[gJ,au,he]⟩
 ·injection h with h;subst h
  exact⟨by simp[jU],fun e he=>by simp[gJ,au,he]⟩
 ·injection h with h;subst h
  exact⟨by simp[jU],fun e he=>by simp[gJ,au,he]⟩
 ·cases h
theorem yU:∀ {tm:List Value} {n:Nat} {ew:List aW},ue tm n=aa ew->ew.length=tm.length/\∀ (f:Nat) (t:Value) (c:aW),tm[f]?=aa t->ew[f]?=aa c->jU t c n/\∀ e,e<n->gJ t c e=t
 |[],n,ew,h=>by
  simp only[ue] at h;injection h with h
  subst h;exact⟨rfl,fun f t c h1 _=>by simp at h1⟩
 |t0::tm,n,ew,h=>by
  simp only[ue] at h;split at h
  ·rename_i c r hc hr;injection h with h
   subst h;obtain⟨h1,h2⟩:=yU hr;refine⟨by simp[h1],fun f t c' g1 g2=>?_⟩
   cases f with
   |zero =>
    simp only[cf,cv] at g1 g2;subst g1;subst g2;exact aap hc
   |succ f =>
    simp only[bK] at g1 g2;exact h2 f t c' g1 g2
  ·cases h
def vQ (P:Program) (σ:SS R) (t:TypeId):Option (Out R) :=
 match elemOf P t with
 |some (el,tm,_)=>match ue tm 0 with
  |some ew=>aa ⟨True,.slice (aa ⟨σ.hp.length,0,aa (1000*tm.length)⟩) 0 0,aj,σ.hp++[aa (.inr (.inl (el,⟨tm,0,ew⟩)))],[],[(σ.hp.length,0)]⟩
  |none=>aj
 |none=>aj
theorem Tx {σ:SS R} {o:Oper} {t:TypeId} {n c:Nat} {y:Operand} {x:Out R} (ho:o.op=.move y∨o.op=.assign y) (hy:ev σ.tm y=aa (.slice aj 0 0)) (h:vQ P σ t=aa x):mv D P o σ x:=by
 unfold vQ at h;split at h
 ·rename_i el tm DP he;obtain⟨inf,z,hu,hi,hz,BN,om,_,wU,h0,SZ⟩:=Am he;split at h
  ·rename_i ew D';injection h with h
   subst h;refine⟨fun C ρ ft a w K Q ht iH hm _ hK=>?_,by simp,fun _ b hb=>by cases hb⟩
   obtain⟨c1,c2⟩:=yU D';have hv:=(eJ ht hy).1;have ob:(execOp a.eval o).run P w=.ok (.value (.slice aj 0 0)) w:=by
    simp only[bV] at hv;rcases ho with ho|ho<;>simp[execOp,ho,hv]
   refine rO ob ?_;have hp:=hm.Rc el ⟨tm,0,ew⟩ h0 rfl c1 (fun f t c g1 g2=>(c2 f t c g1 g2).1) 0 0
   have:=hK _ _ _ (fun i hi=>o3 ρ σ.hp.length ⟨0,0,0,ao⟩ hi) hp
   simpa [bV,lP,jq] using this
  ·cases h
 ·cases h
def yX (P:Program) (σ:SS R) (t:TypeId) (y z:Operand):Option (Out R) :=
 match elemOf P t,ev σ.tm y,ev σ.tm z with
 |some (el,tm,DP),aa (.int _ l),aa (.int _ c) =>
  match ue tm l.toNat with
  |some ew=>aa ⟨0≤l/\l≤c/\c*DP≤140737488355328/\c≤140737488355328,.slice (aa ⟨σ.hp.length,0,aa (1000*tm.length)⟩) l.toNat c.toNat,aj,σ.hp++[aa (.inr (.inl (el,⟨tm,l.toNat,ew⟩)))],[],[(σ.hp.length,0)]⟩
  |none=>aj
 |_,_,_=>aj
theorem Q9 {σ:SS R} {o:Oper} {t:TypeId} {y z:Operand} {x:Out R} (ho:o.op=.makeSlice t y z) (h:yX P σ t y z=aa x):mv D P o σ x:=by
 unfold yX at h;split at h
 ·rename_i el tm DP k l k' c he hl UU;obtain⟨inf,zv,hu,hi,hz,BN,om,hby,wU,h0,SZ⟩:=Am he;split at h
  ·rename_i ew D';injection h with h
   subst h;refine⟨fun C ρ ft a w K Q ht iH hm hv hK=>?_,by simp,fun _ b hb=>by cases hb⟩
   obtain⟨v0,v1,v2,v3⟩:=hv;obtain⟨c1,c2⟩:=yU D';have h1:=(eJ ht hl).1;have h2:=(eJ ht UU).1;simp only[xM] at h1 h2;obtain⟨ln,rfl⟩:=tI v0;obtain⟨cn,rfl⟩:=tI (Int.le_trans v0 v1);simp only[iS] at *
   have KE:zv.cells.size=tm.length:=by rw[← BN];simp
   have hw1:ar.wrap (ln:Int)=ln:=oe ⟨by omega,by omega⟩
   have WN:ar.wrap (cn:Int)=cn:=oe ⟨by omega,by omega⟩
   have GS:(G7 (cn*tm.length)).map ((if cn*tm.length=0 then(#[]:Array Value) else zv.cells)[·%(if cn*tm.length=0 then(#[]:Array Value) else zv.cells).size]!)=(vP tm cn).toArray:=by
    by_cases yK:cn*tm.length=0
    ·have:cn=0:=by
      rcases GN.1 yK with h|h
      ·exact h
      ·omega
     subst this;simp[vP]
    ·rw[if_neg yK];have:=Wu zv.cells (by omega) cn
     rw[KE,BN] at this;rw[KE];exact this
   have Mx:(DP:Int)*(cn:Int)≤281474976710656:=by rw[Int.mul_comm];omega
   have ob:(execOp a.eval o).run P w=.ok (.value (.slice (aa ⟨w.heap.size,0,aj⟩) ln cn)) (w.alloc (.cells (vP tm cn).toArray el)):=by
    simp only[execOp,ho,h1,h2,Instr.makeSlice,dA,run_underlying hu,cB,asInt,asIntOf,dZ,typeInfo,run_program,hi,hw1,WN,hby];have ama:(decide ((cn:Int)<0)||decide ((DP:Int)*(cn:Int)>2 ^ 48)||decide ((ln:Int)<0)||decide ((ln:Int)>(cn:Int)))=an:=by
     have e1:decide ((cn:Int)<0)=an:=decide_eq_false (by omega)
     have e2:decide ((DP:Int)*(cn:Int)>2 ^ 48)=an:=decide_eq_false (by omega)
     have e3:decide ((ln:Int)<0)=an:=decide_eq_false (by omega)
     have e4:decide ((ln:Int)>(cn:Int))=an:=decide_eq_false (by omega)
     rw[e1,e2,e3,e4];rfl
    simp only[ama,fX,if_false,dZ,cB,run_askRoom,sizeOf,typeInfo,dA,run_program,hi,om,iS]
    by_cases yK:cn*tm.length=0
    ·rw[if_pos yK] at GS;rw[yK] at GS;simp only[yK,if_true,dA,dZ,cB];rw[GS];simp[newRow]
    ·rw[if_neg yK] at GS;simp only[yK,if_false,dA,zeroValue,typeInfo,run_program,cB,hi,hz,dZ];rw[GS];simp[newRow]
   refine rO ob ?_;have wM:oC ⟨tm,ln,ew⟩ (vP tm cn).toArray 0:=by
    refine⟨c1,fun f t c g1 g2=>(c2 f t c g1 g2).1,fun f t c e g1 g2 g3=>?_⟩
    have Ci:f<tm.length:=(aU.1 g1).1;have cd:e*tm.length+f<cn*tm.length:=by
     have:=jA tm.length (show e+1≤cn by have:e<ln:=g3;omega)
     rw[ix,qM] at this;omega
    rw[bW,jP,Fg tm h0 cn _ cd,(c2 f t c g1 g2).2 e g3];have:(e*tm.length+f)%tm.length=f:=by rw[sY,wB,FR Ci]
    rw[this,g1]
   have hp:=hm.R' el ⟨tm,ln,ew⟩ (vP tm cn).toArray cn h0 (by simp only;omega) (by unfold maxLen;omega) (by simp[qK]) wM
   have:=hK _ _ _ (fun i hi=>o3 ρ σ.hp.length ⟨w.heap.size,0,cn,an⟩ hi) hp
   have e1:1000*tm.length / 1000000=0:=by omega
   have e2:1000*tm.length%1000=0:=by omega
   simpa [bV,lP,iQ,jq,cellOf,e1,e2] using this
  ·cases h
 ·cases h
end
end Rx
namespace Rx
open Go.RowKit State
section
variable {R:Type} {D:fR R} {P:Program} {C:Ctx} {ρ:Env} {ft:Nat->Nat->Prop} {w w':World}
def LZ (P:Program) (σ:SS R) (t:TypeId) (y:Operand):Option (Out R) :=
 match ev σ.tm y,P.underlying t with
 |some (.slice (aa _) n _),aa (.slice _)=>aa (gy σ True (.int .i64 n) aj [])
 |_,_=>aj
theorem aeR {σ:SS R} {o:Oper} {t:TypeId} {y:Operand} {x:Out R} (ho:o.op=.call { callee:=.builtin .len,args:=#[y],argTypes:=#[t] }) (h:LZ P σ t y=aa x):mv D P o σ x:=by
 unfold LZ at h;split at h
 ·rename_i ad n c el ha hu;injection h with h
  subst h;refine ic (fun C ρ ft a w ht iH hm _=>?_) (fun iH c hc=>by cases hc)
  have h1:=(eJ ht ha).1;simp only[bV] at h1;obtain⟨A,c',e⟩:=SP (ρ:=ρ) ad n c;rw[e] at h1;simp[execOp,ho,resolve,invoke,builtin,h1,Builtin.len_,run_underlying hu,goInt]
 ·cases h
def VJ (s:ByteArray) (i:Nat):Int:=((s.data.toList[i]?).getD 0).toNat
def AS (P:Program) (σ:SS R) (t:TypeId) (y z:Operand):Option (Out R) :=
 match ev σ.tm y,ev σ.tm z,P.underlying t with
 |some (.string s),aa (.int _ j),aa .string=>aa (gy σ (0≤j/\j<s.size) (.int .u8 (VJ s j.toNat)) aj [])
 |_,_,_=>aj
theorem Tu {σ:SS R} {o:Oper} {t:TypeId} {y z:Operand} {x:Out R} (ho:o.op=.index t y z) (h:AS P σ t y z=aa x):mv D P o σ x:=by
 unfold AS at h;split at h
 ·rename_i s k j ha hb hu;injection h with h
  subst h;refine ic (fun C ρ ft a w ht iH hm hv=>?_) (fun iH c hc=>by cases hc)
  obtain⟨v0,v1⟩:=hv;have h1:=(eJ ht ha).1;have h2:=(eJ ht hb).1;simp only[DX] at h1;simp only[xM] at h2;have cd:j.toNat<s.size:=by omega
  have aaJ:j.toNat<s.data.toList.length:=by simpa using cd
  have J2:s[j.toNat]?=aa (s[j.toNat]):=by simp[cd]
  have hb:(s[j.toNat].toNat:Int)=VJ s j.toNat:=by
   unfold VJ;rw[bc aaJ];simp
   rfl
  simp only[execOp,ho,h1,h2,Instr.index,asIntOf,dA,dZ,cB,run_underlying hu,v0,if_true,J2,xM,← hb]
 ·cases h
def evB (tm:List (Option Value)):Option Operand->Option (Option Int)
 |none=>aa aj
 |some y=>match ev tm y with
  |some (.int _ j)=>aa (aa j)
  |_=>aj
theorem xq {n:Nat} {tm:List (Option Value)} {a:Act} {y:Option Operand} {b:Option Int} (ht:TM ρ n tm a) (h:evB tm y=aa b) :
  (∃ (k:IntKind),∃ j,b=aa j/\y.map a.eval=aa (.int k j))∨(b=aj/\y.map a.eval=aj):=by
 cases y with
 |none=>simp only[evB] at h;injection h with h;subst h;exact e_ ⟨rfl,rfl⟩
 |some y =>
  simp only[evB] at h;split at h
  ·rename_i k j hj;injection h with h
   subst h;have:=(eJ ht hj).1;simp only[xM] at this;exact dO ⟨k,j,rfl,by simp[this]⟩
  ·cases h
theorem Gn {isS:Bool} {len cap:Nat} {lo hi:Option Value} {l h:Int} (w:World)
  (hl:(∃ k,lo=aa (.int k l))∨(lo=aj/\l=0)) (hh:(∃ k,hi=aa (.int k h))∨(hi=aj/\h=len)) (h0:0≤l) (h1:l≤h) (h2:h≤cap) :
  (uw isS len cap lo hi aj).run P w=.ok (l.toNat,h.toNat,cap) w:=by
 have hh0:0≤h:=by omega
 obtain⟨lN,rfl⟩:=tI h0;obtain⟨hN,rfl⟩:=tI hh0;have hA:hN≤cap:=by omega
 have hB:lN≤hN:=by omega
 rcases hl with⟨k,rfl⟩|⟨rfl,ou⟩<;>rcases hh with⟨k',rfl⟩|⟨rfl,hhl⟩
 ·simp[uw,FT,asIntOf,hA,hB]
 ·obtain rfl:hN=len:=by omega
  simp[uw,FT,asIntOf,hA,hB]
 ·obtain rfl:lN=0:=by omega
  simp[uw,FT,asIntOf,hA,hB]
 ·obtain rfl:hN=len:=by omega
  obtain rfl:lN=0:=by omega
  simp[uw]
def HP (P:Program) (σ:SS R) (t:TypeId) (y:Operand) (lo hi mx:Option Operand):Option (Out R) :=
 match mx with
 |some _=>aj
 |none =>
  match ev σ.tm y,evB σ.tm lo,evB σ.tm hi with
  |some (.string s),aa l,aa h =>
   match P.underlying t with
   |some .string=>aa (gy σ (0≤l.getD 0/\l.getD 0≤h.getD s.size/\h.getD s.size≤s.size) (.string (s.extract (l.getD 0).toNat (h.getD s.size).toNat)) aj [])
   |_=>aj
  |some (.slice (aa ⟨i,e0,aa q⟩) n c),aa l,aa h =>
   match elemOf P t,rowOf σ.hp[i]? with
   |some (el,tm,_),aa r =>
    if fj (q%1000000) (1000*tm.length)&&fj tm.length r.tm.length then
     match l with
     |none=>aa (gy σ (0≤h.getD n/\h.getD n≤n/\e0+n≤r.n) (.slice (aa ⟨i,e0,aa q⟩) (h.getD n).toNat c) aj [])
     |some l=>match gY q 1000000 with
      |true=>aa (gy σ (e0=0/\0≤l/\l≤h.getD n/\h.getD n≤n/\e0+n≤r.n) (.slice (aa ⟨i,e0+l.toNat,aa (1000*tm.length+1000000*(i+1))⟩) (h.getD n-l).toNat c) aj [])
      |false=>aa ⟨0≤l/\l≤h.getD n/\h.getD n≤n/\e0+n≤r.n,.slice (aa ⟨i,e0+l.toNat,aa (1000*tm.length+1000000*(σ.hp.length+1))⟩) (h.getD n-l).toNat c,aj,σ.hp++[aj],[],[(σ.hp.length,0)]⟩
    else aj
   |_,_=>aj
  |_,_,_=>aj
theorem OU {hi:Option Operand} {h:Option Int} {a:Act} {n:Nat} (hx:(∃ (k:IntKind),∃ j,h=aa j/\hi.map a.eval=aa (.int k j))∨(h=aj/\hi.map a.eval=aj)) :
  (∃ k,hi.map a.eval=aa (.int k (h.getD n)))∨(hi.map a.eval=aj/\h.getD n=n):=by
 rcases hx with⟨k,j,rfl,e⟩|⟨rfl,e⟩
 ·exact dO ⟨k,by simpa using e⟩
 ·exact e_ ⟨e,rfl⟩
theorem ajT {lo:Option Operand} {l:Option Int} {a:Act} (hx:(∃ (k:IntKind),∃ j,l=aa j/\lo.map a.eval=aa (.int k j))∨(l=aj/\lo.map a.eval=aj)) :
  (∃ k,lo.map a.eval=aa (.int k (l.getD 0)))∨(lo.map a.eval=aj/\l.getD 0=0):=by
 rcases hx with⟨k,j,rfl,e⟩|⟨rfl,e⟩
 ·exact dO ⟨k,by simpa using e⟩
 ·exact e_ ⟨e,rfl⟩
theorem vu {t el:TypeId} {A:Option Addr} {n cap:Nat} {lo hi:Option Value} {l h:Int} {inf:TypeInfo} (w:World) (hu:P.underlying t=aa (.slice el)) (yB:P.info? el=aa inf)
  (hl:(∃ k,lo=aa (.int k l))∨(lo=aj/\l=0)) (hh:(∃ k,hi=aa (.int k h))∨(hi=aj/\h=n)) (h0:0≤l) (h1:l≤h) (h2:h≤cap) :
  (JP t (.slice A n cap) lo hi aj).run P w=.ok (.slice (if cap=l.toNat then A else A.map (·.add (l.toNat*inf.size))) (h.toNat-l.toNat) (cap-l.toNat)) w:=by
 have hb:=Gn (P:=P) (isS:=ao) (len:=n) (cap:=cap) w hl hh h0 h1 h2;simp[JP,run_underlying hu,XG,hb,sizeOf,typeInfo,yB]
theorem Zt {σ:SS R} {o:Oper} {t:TypeId} {y:Operand} {lo hi mx:Option Operand} {x:Out R} (ho:o.op=.slice t y lo hi mx) (h:HP P σ t y lo hi mx=aa x):mv D P o σ x:=by
 unfold HP at h;split at h
 ·cases h
 ·split at h
  ·rename_i s l hh ha hl Ka;split at h
   ·rename_i hu;injection h with h
    subst h;refine ic (fun C ρ ft a w ht iH hm hv=>?_) (fun iH c hc=>by cases hc)
    obtain⟨v0,v1,v2⟩:=hv;have h1:=(eJ ht ha).1;simp only[DX] at h1;have hb:=Gn (P:=P) (isS:=an) (len:=s.size) (cap:=s.size) w (ajT (xq ht hl)) (OU (n:=s.size) (xq ht Ka)) v0 v1 v2;simp[execOp,ho,h1,JP,run_underlying hu,XG,hb]
   ·cases h
  ·rename_i i e0 q n c l hh ha hl Ka;split at h
   ·rename_i el tm DP r he hr;obtain⟨inf,z,hu,yB,hz,BN,om,_,wU,h0,SZ⟩:=Am he;split at h
    ·rename_i hc;simp only[aM] at hc;have hq:=cQ hc.1;have sT:q%1000000 / 1000=tm.length:=by omega
     have Gl:q%1000=0:=by omega
     split at h
     ·injection h with h
      subst h;refine ic (fun C ρ ft a w ht iH hm hv=>?_) (fun iH c hc=>by cases hc)
      obtain⟨v0,v1,v2⟩:=hv;have h1:=(eJ ht ha).1;obtain⟨g1,g2,_⟩:=C8 hm hr;have AP:(∃ k,lo.map a.eval=aa (.int k 0))∨(lo.map a.eval=aj/\(0:Int)=0):=by
       rcases xq ht hl with⟨k,j,e,_⟩|⟨_,e⟩
       ·cases e
       ·exact e_ ⟨e,rfl⟩
      have Bt:=OU (n:=n) (xq ht Ka);have an0:∀ A:Option Addr,(A.map fun x=>x.add 0)=A:=fun A=>by cases A<;>simp[Addr.add]
      have Io:=(fun(hz:(ρ i).nil=ao)=>(show(ρ i).cap=0 from by
       unfold rowOf at hr;split at hr
       ·rename_i t0 r0 hi;exact(hm.at_ i _ hi).1.2.2.2.2.1 hz
       ·rename_i r0 hi;exact(hm.at_ i _ hi).1.2.2.2.2.1 hz
       ·cases hr))
      simp only[bV,lP] at h1 ⊢
      by_cases hn:(ρ i).nil=ao
      ·rw[if_pos hn] at h1 ⊢;have Nm:=Io hn;have va:n=0:=by omega
       subst va;have ni:=vu (P:=P) (A:=aj) (n:=0) (cap:=0) w hu yB AP Bt (nN 0) v0 (by simpa using v1)
       simp[execOp,ho,h1,ni]
      ·rw[if_neg hn] at h1 ⊢
       by_cases hex:q / 1000000≠0/\(ρ i).cap≤e0
       ·rw[if_pos hex] at h1 ⊢;have va:n=0:=by omega
        subst va;have ni:=vu (P:=P) (A:=aa ⟨(ρ (q / 1000000-1)).lO,(ρ (q / 1000000-1)).off,aj⟩) (n:=0) (cap:=0) w hu yB AP Bt (nN 0) v0 (by simpa using v1)
        simp[execOp,ho,h1,ni]
       ·rw[if_neg hex] at h1 ⊢;have ni:=vu (P:=P) (A:=aa (iQ ρ ⟨i,e0,aa q⟩)) (n:=n) (cap:=(ρ i).cap-e0) w hu yB AP Bt (nN 0) v0 (by omega)
        simp[execOp,ho,h1,ni,an0]
     ·rename_i l;split at h
      ·rename_i MJ;have j7:q<1000000:=by simpa [fo] using MJ
       injection h with h
       subst h;refine ic (fun C ρ ft a w ht iH hm hv=>?_) (fun iH c hc=>by cases hc)
       obtain⟨yK,v0,v1,v2,v3⟩:=hv;subst yK;have h1:=(eJ ht ha).1;obtain⟨g1,g2,_⟩:=C8 hm hr;have AP:(∃ k,lo.map a.eval=aa (.int k l))∨(lo.map a.eval=aj/\l=0):=by
        rcases xq ht hl with⟨k,j,e,e2⟩|⟨e,_⟩
        ·injection e with e;subst e;exact dO ⟨k,e2⟩
        ·cases e
       have Bt:=OU (n:=n) (xq ht Ka);have Io:=(fun(hz:(ρ i).nil=ao)=>(show(ρ i).cap=0 from by
        unfold rowOf at hr;split at hr
        ·rename_i t0 r0 hi;exact(hm.at_ i _ hi).1.2.2.2.2.1 hz
        ·rename_i r0 hi;exact(hm.at_ i _ hi).1.2.2.2.2.1 hz
        ·cases hr))
       have e1:(1000*tm.length+1000000*(i+1)) / 1000000=i+1:=by omega
       have e2:(1000*tm.length+1000000*(i+1))%1000000 / 1000=tm.length:=by omega
       have e3:(1000*tm.length+1000000*(i+1))%1000=0:=by omega
       have hex:¬ (q / 1000000≠0/\(ρ i).cap≤0):=fun h=>h.1 (by omega)
       simp only[bV,lP] at h1 ⊢
       by_cases hn:(ρ i).nil=ao
       ·rw[if_pos hn] at h1 ⊢;have Nm:=Io hn;have va:n=0:=by omega
        subst va;have ou:l=0:=by omega
        subst ou;have ni:=vu (P:=P) (A:=aj) (n:=0) (cap:=0) w hu yB AP Bt v0 v1 (by simpa using v2)
        simp[execOp,ho,h1,ni]
       ·rw[if_neg hn,if_neg hex,Nat.sub_zero] at h1;rw[if_neg hn];have ni:=vu (P:=P) (A:=aa (iQ ρ ⟨i,0,aa q⟩)) (n:=n) (cap:=(ρ i).cap) w hu yB AP Bt v0 v1 (by omega)
        have hx:(execOp a.eval o).run P w=.ok (.value (.slice (if(ρ i).cap=l.toNat then aa (iQ ρ ⟨i,0,aa q⟩) else(aa (iQ ρ ⟨i,0,aa q⟩)).map (·.add (l.toNat*inf.size))) ((hh.getD ↑n).toNat-l.toNat) ((ρ i).cap-l.toNat))) w:=by
         simp only[execOp,ho,h1,QF,ni,dA,cB,dZ]
        rw[hx];have nA:(hh.getD ↑n-l).toNat=(hh.getD ↑n).toNat-l.toNat:=by omega
        have Wr:inf.size=tm.length:=by rw[om]
        rw[nA]
        by_cases p_:(ρ i).cap=l.toNat
        ·rw[if_pos p_,if_pos ⟨by omega,by omega⟩,e1,mA]
         simp only[iQ,cellOf,Gl,BA,bW,gZ,p_,WU]
        ·rw[if_neg p_,if_neg (fun h=>p_ (by omega))]
         simp only[iQ,cellOf,Gl,e2,e3,BA,bW,gZ,kp,p9,Wr]
      ·injection h with h
       subst h;refine⟨fun C ρ ft a w K Q ht iH hm hv hK=>?_,by simp,fun _ b hb=>by cases hb⟩
       obtain⟨v0,v1,v2,v3⟩:=hv;have h1:=(eJ ht ha).1;obtain⟨PE,Mx⟩:=eJ ht ha;simp only[fD,aM,fo] at Mx;have C6:i<σ.hp.length:=Mx.1;obtain⟨g1,g2,_⟩:=C8 hm hr;have AP:(∃ k,lo.map a.eval=aa (.int k l))∨(lo.map a.eval=aj/\l=0):=by
        rcases xq ht hl with⟨k,j,e,e2⟩|⟨e,_⟩
        ·injection e with e;subst e;exact dO ⟨k,e2⟩
        ·cases e
       have Bt:=OU (n:=n) (xq ht Ka);have Io:=(fun(hz:(ρ i).nil=ao)=>(show(ρ i).cap=0 from by
        unfold rowOf at hr;split at hr
        ·rename_i t0 r0 hi;exact(hm.at_ i _ hi).1.2.2.2.2.1 hz
        ·rename_i r0 hi;exact(hm.at_ i _ hi).1.2.2.2.2.1 hz
        ·cases hr))
       generalize hN:σ.hp.length=N at *
       have e1:(1000*tm.length+1000000*(N+1)) / 1000000=N+1:=by omega
       have e2:(1000*tm.length+1000000*(N+1))%1000000 / 1000=tm.length:=by omega
       have e3:(1000*tm.length+1000000*(N+1))%1000=0:=by omega
       have aey:∀ (A:Addr) (v:Value),(execOp a.eval o).run P w=.ok (.value v) w ->
         bV (qA ρ N ⟨A.block,A.off,0,an⟩) (.slice (aa ⟨i,e0+l.toNat,aa (1000*tm.length+1000000*(N+1))⟩) (hh.getD ↑n-l).toNat c)=v->o.wp P a w K Q:=by
        intro A v ob hv;have hp:=hm.pushNone ⟨A.block,A.off,0,an⟩;rw[hN] at hp;have:=hK _ _ _ (fun i hi=>o3 ρ N ⟨A.block,A.off,0,an⟩ hi) hp
        rw[hv] at this;exact rO ob this
       have aab:∀ p:Place,qA ρ N p i=ρ i:=fun p=>o3 _ _ _ C6
       simp only[bV,lP] at h1
       by_cases hn:(ρ i).nil=ao
       ·rw[if_pos hn] at h1;have Nm:=Io hn;have va:n=0:=by omega
        subst va;have ou:l=0:=by omega
        subst ou;have ni:=vu (P:=P) (A:=aj) (n:=0) (cap:=0) w hu yB AP Bt v0 v1 (by simpa using v2)
        refine aey ⟨0,0,aj⟩ (.slice aj (hh.getD 0).toNat 0) (by simp[execOp,ho,h1,ni]) ?_
        simp only[bV,lP,aab,hn,if_true];simp
       ·rw[if_neg hn] at h1
        by_cases hex:q / 1000000≠0/\(ρ i).cap≤e0
        ·rw[if_pos hex] at h1;have va:n=0:=by omega
         subst va;have ou:l=0:=by omega
         subst ou;have ni:=vu (P:=P) (A:=aa ⟨(ρ (q / 1000000-1)).lO,(ρ (q / 1000000-1)).off,aj⟩) (n:=0) (cap:=0) w hu yB AP Bt v0 v1 (by simpa using v2)
         refine aey ⟨(ρ (q / 1000000-1)).lO,(ρ (q / 1000000-1)).off,aj⟩ (.slice (aa ⟨(ρ (q / 1000000-1)).lO,(ρ (q / 1000000-1)).off,aj⟩) (hh.getD 0).toNat 0) (by simp[execOp,ho,h1,ni]) ?_
         simp only[bV,lP,aab,hn,if_false,e1,mA,jq];have p_:N+1≠0/\(ρ i).cap≤e0+(0:Int).toNat:=⟨by omega,by simpa using hex.2⟩
         simp[hn,p_.2];exact fun h=>absurd h (by simpa using hex.2)
        ·rw[if_neg hex] at h1;have ni:=vu (P:=P) (A:=aa (iQ ρ ⟨i,e0,aa q⟩)) (n:=n) (cap:=(ρ i).cap-e0) w hu yB AP Bt v0 v1 (by omega)
         refine aey (iQ ρ ⟨i,e0,aa q⟩) _ (by simp only[execOp,ho,h1,QF,ni,dA,dZ,cB];rfl) ?_
         simp only[bV,lP];rw[aab,if_neg hn,e1];have Qc:(hh.getD (n:Int)-l).toNat=(hh.getD (n:Int)).toNat-l.toNat:=by omega
         by_cases p_:(ρ i).cap-e0=l.toNat
         ·rw[if_pos p_,if_pos ⟨by omega,by omega⟩,Qc,p_,WU]
          simp[jq,iQ]
         ·rw[if_neg p_,if_neg (by omega),Qc]
          simp only[iQ,aab,cellOf,e2,e3,sT,Gl,kp,p9,om];simp[ix,jr,Nat.sub_add_eq]
    ·cases h
   ·cases h
  ·cases h
end
end Rx
namespace Rx
open Go.RowKit State
def cut {α:Type} (l:List α) (e n:Nat):List α:=(l.drop e).take n
theorem Ba {α:Type} {l:List α} {e n:Nat} (h:e+n≤l.length):(cut l e n).length=n:=by simp[cut];omega
theorem Yk {α:Type} {l:List α} {e n i:Nat} (h:i<n):(cut l e n)[i]?=l[e+i]?:=by simp[cut,o9,h]
@[simp] theorem agU {α:Type} (l:List α):cut l 0 l.length=l:=by simp[cut]
def ER (t:Value) (c0:aW) (e0 n:Nat) (c1:aW) (e1 m:Nat):aW :=
 match t with
 |.int _ _=>⟨cut c0.i e0 n++cut c1.i e1 m,[],[]⟩
 |.bool _=>⟨[],cut c0.b e0 n++cut c1.b e1 m,[]⟩
 |_=>⟨[],[],cut c0.s e0 n++cut c1.s e1 m⟩
def xZ:Value->Value->Bool
 |.int k _,.int k' _=>decide (k=k')
 |.bool _,.bool _=>ao
 |.string _,.string _=>ao
 |_,_=>an
def yd:List Value->List Value->Bool
 |[],[]=>ao
 |a::l,b::r=>xZ a b&&yd l r
 |_,_=>an
theorem A3:∀ {l r:List Value},yd l r=ao->l.length=r.length
 |[],[],_=>rfl
 |[],_::_,h=>by simp[yd] at h
 |_::_,[],h=>by simp[yd] at h
 |a::l,b::r,h=>by
  simp only[yd,aM] at h;simp[A3 h.2]
theorem Gg:∀ {l r:List Value} {f:Nat} {a b:Value},yd l r=ao->l[f]?=aa a->r[f]?=aa b->xZ a b=ao
 |[],r,f,a,b,_,h1,_=>by simp at h1
 |_::_,[],f,a,b,h,_,h2=>by simp at h2
 |a0::l,b0::r,f,a,b,h,h1,h2=>by
  simp only[yd,aM] at h;cases f with
  |zero=>simp only[cf,cv] at h1 h2;subst h1;subst h2;exact h.1
  |succ f=>simp only[bK] at h1 h2;exact Gg h.2 h1 h2
theorem Sp {a b:Value} (h:xZ a b=ao) (c:aW) (e:Nat):gJ a c e=gJ b c e:=by
 cases a<;>cases b<;>simp[xZ,gJ] at h ⊢
 exact h
theorem Q6 {a b:Value} (h:xZ a b=ao) (c:aW) (n:Nat):jU a c n↔jU b c n:=by
 cases a<;>cases b<;>simp[xZ,jU] at h ⊢
theorem adf {a:Value} {c0 c1:aW} {e0 n e1 m N0 N1:Nat} (hk:xZ a a=ao) (h0:jU a c0 N0) (h1:jU a c1 N1) (hn:e0+n≤N0) (hm:e1+m≤N1) :
  jU a (ER a c0 e0 n c1 e1 m) (n+m)/\∀ e,e<n+m->gJ a (ER a c0 e0 n c1 e1 m) e=if e<n then gJ a c0 (e0+e) else gJ a c1 (e1+(e-n)):=by
 cases a<;>simp only[xZ] at hk<;>try (cases hk)
 all_goals
  simp only[jU] at h0 h1;refine⟨by simp only[jU,ER,bE];rw[Ba (by omega),Ba (by omega)],fun e he=>?_⟩
  simp only[gJ,ER,au]
  by_cases cd:e<n
  ·rw[if_pos cd,da (by rw[Ba (by omega)];exact cd),Yk cd]
  ·rw[if_neg cd,dW (by rw[Ba (by omega)];omega),Ba (by omega),Yk (by omega)]
def mU (e0 n e1 m:Nat):List Value->List aW->List aW->List aW
 |t::tm,c0::l0,c1::l1=>ER t c0 e0 n c1 e1 m::mU e0 n e1 m tm l0 l1
 |_,_,_=>[]
theorem Mt {e0 n e1 m:Nat}:∀ {tm:List Value} {l0 l1:List aW},tm.length=l0.length->l0.length=l1.length->(mU e0 n e1 m tm l0 l1).length=l0.length /\
  ∀ (f:Nat) (c:aW),(mU e0 n e1 m tm l0 l1)[f]?=aa c->∃ t c0 c1,tm[f]?=aa t/\l0[f]?=aa c0/\l1[f]?=aa c1/\c=ER t c0 e0 n c1 e1 m
 |[],[],[],_,_=>⟨rfl,fun f c h=>by simp[mU] at h⟩
 |[],_::_,_,h,_=>by simp at h
 |_::_,[],_,h,_=>by simp at h
 |_,[],_::_,_,h=>by simp at h
 |_,_::_,[],_,h=>by simp at h
 |t::tm,c0::l0,c1::l1,h0,h=>by
  obtain⟨h1,h2⟩:=Mt (e0:=e0) (n:=n) (e1:=e1) (m:=m) (tm:=tm) (l0:=l0) (l1:=l1) (by simpa using h0) (by simpa using h)
  refine⟨by simp[mU,h1],fun f c hc=>?_⟩
  cases f with
  |zero =>
   simp only[mU,cf,cv] at hc;exact⟨t,c0,c1,rfl,rfl,rfl,hc.symm⟩
  |succ f =>
   simp only[mU,bK] at hc ⊢;exact h2 f c hc
theorem GV:∀ (l:List Value) (cur:Array Value) (k j:Nat),k+l.length≤cur.size->(nT cur k l)[j]?=if k≤j/\j<k+l.length then l[j-k]? else cur[j]?
 |[],cur,k,j,h=>by
  simp only[nT,jX];rw[if_neg (by omega)]
 |v::l,cur,k,j,h=>by
  simp only[nT];rw[GV l _ (k+1) j (by simp at h ⊢;omega),ve]
  simp only[cy] at h ⊢
  by_cases h1:k+1≤j/\j<k+1+l.length
  ·rw[if_pos h1,if_pos (by omega)]
   rw[show j-k=(j-(k+1))+1 by omega,bK]
  ·rw[if_neg h1]
   by_cases h2:k=j
   ·subst h2;rw[if_pos rfl,if_pos (by omega),if_pos (by omega)]
    simp
   ·rw[if_neg h2,if_neg (by omega)]
section
variable {R:Type} {D:fR R} {P:Program} {C:Ctx} {ρ:Env} {ft:Nat->Nat->Prop} {w w':World}
def Ww (σ:SS R) (tm:List Value) (y:Operand):Option (Row×Nat×Nat) :=
 match ev σ.tm y with
 |some (.slice aj 0 0)=>match ue tm 0 with
  |some ew=>aa (⟨tm,0,ew⟩,0,0)
  |none=>aj
 |some (.slice (aa ⟨j,e1,aa q⟩) m _) =>
  match rowOf σ.hp[j]? with
  |some r=>if fj (q%1000000) (1000*tm.length)&&yd r.tm tm then aa (r,e1,m) else aj
  |none=>aj
 |_=>aj
theorem abB {h:Hp R} {i:Nat} {r:Row} (hm:HM D C ρ ft h w) (hr:rowOf h[i]?=aa r):(ρ i).nil=ao->(ρ i).cap=0:=by
 intro hz;unfold rowOf at hr;split at hr
 ·rename_i t0 r0 hi;exact(hm.at_ i _ hi).1.2.2.2.2.1 hz
 ·rename_i r0 hi;exact(hm.at_ i _ hi).1.2.2.2.2.1 hz
 ·cases hr
theorem S6 {σ:SS R} {tm:List Value} {y:Operand} {r:Row} {e1 m:Nat} {a:Act} (h:Ww σ tm y=aa (r,e1,m)) (ht:TM ρ σ.hp.length σ.tm a) (hm:HM D C ρ ft σ.hp w) (hv:e1+m≤r.n) (h0:0<tm.length) (SZ:tm.length<1000) :
  r.ew.length=tm.length/\(∀ (f:Nat) (t:Value) (c:aW),tm[f]?=aa t->r.ew[f]?=aa c->jU t c r.n) /\
  ∃ A c',a.eval y=.slice A m c'/\∃ news:List Value,news.length=m*tm.length/\(∀ w2:World,w2.heap=w.heap->(kH tm.length m (a.eval y)).run P w2=.ok news.toArray w2)/\(∀ v∈news,v.oneCell'=ao) /\
   ∀ (f:Nat) (t:Value) (c:aW) (e:Nat),tm[f]?=aa t->r.ew[f]?=aa c->e<m->news[e*tm.length+f]?=aa (gJ t c (e1+e)):=by
 unfold Ww at h;split at h
 ·rename_i ha;split at h
  ·rename_i ew D';injection h with h
   injection h with h2 h3
   injection h3 with h3 h4
   subst h2;subst h3;subst h4;obtain⟨c1,c2⟩:=yU D';have ui:=(eJ ht ha).1;simp only[bV] at ui;refine⟨c1,fun f t c g1 g2=>(c2 f t c g1 g2).1,aj,0,ui,[],by simp,(fun w2 _=>by rw[ui];simp[kH]),(fun v hv=>by cases hv),fun f t c e _ _ he=>by omega⟩
  ·cases h
 ·rename_i j JK q m' c ha;split at h
  ·rename_i r' hr;split at h
   ·rename_i hc;simp only[aM] at hc;have hq:=cQ hc.1;injection h with h
    injection h with h2 h3
    injection h3 with h3 h4
    subst h2;subst h3;subst h4;have hlen:=A3 hc.2;obtain⟨g1,g2,g3,g4,g5,g6⟩:=C8 hm hr;have Io:=abB hm hr;have ui:=(eJ ht ha).1;simp only[bV] at ui;have uz:∀ (f:Nat) (t:Value) (c:aW),tm[f]?=aa t->r'.ew[f]?=aa c->jU t c r'.n:=fun f t c k1 k2=>by
     have wU:f<r'.tm.length:=by rw[hlen];exact(aU.1 k1).1
     have k3:=bc wU;exact(Q6 (Gg hc.2 k3 k1) c _).1 (g5 f _ c k3 k2)
    refine⟨by rw[g4,hlen],uz,?_⟩
    have ZK:∀ (A:Option Addr) (c':Nat),a.eval y=.slice A m' c'->(m'=0∨A=aa ⟨(ρ j).lO,(ρ j).off+JK*tm.length,aj⟩)->∃ A c',a.eval y=.slice A m' c'/\∃ news:List Value,news.length=m'*tm.length/\(∀ w2:World,w2.heap=w.heap->(kH tm.length m' (a.eval y)).run P w2=.ok news.toArray w2)/\(∀ v∈news,v.oneCell'=ao) /\
      ∀ (f:Nat) (t:Value) (c:aW) (e:Nat),tm[f]?=aa t->r'.ew[f]?=aa c->e<m'->news[e*tm.length+f]?=aa (gJ t c (JK+e)):=by
     intro A c' hA alP;refine⟨A,c',hA,?_⟩;rcases alP with Yt|hA2
     ·subst Yt;refine⟨[],by simp,fun w2 _=>?_,(fun v hv=>by cases hv),fun f t c e _ _ he=>by omega⟩
      rw[hA];cases A<;>simp[kH,loadCells,loadCellsFrom]
     ·subst hA2;refine⟨(List.range (m'*tm.length)).map fun k=>match r'.tm[k%tm.length]?,r'.ew[k%tm.length]? with|some t,aa c=>gJ t c (JK+k / tm.length)|_,_=>undef,by simp,?_,?_,?_⟩
      ·intro w2 WN;rw[hA];refine run_firstCells_some w2 tm.length m' _ m' c' _ (by simp) (fun k v hk=>?_)
       have UH:k<m'*tm.length:=by have:=(aU.1 hk).1;simpa using this
       simp only[fu,td UH,kp,cv] at hk;have QR:k%tm.length<r'.tm.length:=by rw[hlen];exact QE _ h0
       have T':k%tm.length<r'.ew.length:=by rw[g4];exact QR
       have q1:=bc QR;have q2:=bc T';rw[q1,q2] at hk;have hdiv:k / tm.length<m':=Nat.div_lt_of_lt_mul (by rw[WV];exact UH)
       have:=g6 _ _ _ (JK+k / tm.length) q1 q2 (by omega)
       rw[Bx (w:=w) (by rw[WN]),p9,← hk,← this]
       have hdm:k / tm.length*tm.length+k%tm.length=k:=by rw[WV];exact Nat.div_add_mod k tm.length
       congr 2
       rw[hlen,ix,jr,jr,hdm]
      ·intro v hv;obtain⟨k,hk,rfl⟩:=px.1 hv;have QR:k%tm.length<r'.tm.length:=by rw[hlen];exact QE _ h0
       have T':k%tm.length<r'.ew.length:=by rw[g4];exact QR
       rw[bc QR,bc T'];exact Xk (g5 _ _ _ (bc QR) (bc T')) _
      ·intro f t c e k1 k2 he;have wU:f<tm.length:=(aU.1 k1).1;have cd:e*tm.length+f<m'*tm.length:=by
        have:=jA tm.length (show e+1≤m' from he)
        rw[ix,qM] at this;omega
       have d1:(e*tm.length+f)%tm.length=f:=by rw[sY,wB,FR wU]
       have d2:(e*tm.length+f) / tm.length=e:=by rw[sY,Aw _ _ h0,FQ wU,bW]
       have k3:=bc (show f<r'.tm.length by rw[hlen];exact wU)
       simp only[fu,td cd,kp,d1,d2,k3,k2];rw[Sp (Gg hc.2 k3 k1)]
    have e1:q%1000000 / 1000=tm.length:=by omega
    have e2:q%1000=0:=by omega
    unfold lP at ui;simp only at ui
    by_cases hn:(ρ j).nil=ao
    ·rw[if_pos hn] at ui;exact ZK _ _ ui (dO (by have:=Io hn;omega))
    ·rw[if_neg hn] at ui
     by_cases hex:q / 1000000≠0/\(ρ j).cap≤JK
     ·rw[if_pos hex] at ui;exact ZK _ _ ui (dO (by omega))
     ·rw[if_neg hex] at ui;refine ZK _ _ ui (e_ ?_);simp only[iQ,cellOf,e1,e2,gZ]
   ·cases h
  ·cases h
 ·cases h
section
variable (w:World)
theorem Xs {t t2 ty e:TypeId} {i:TypeInfo} {el2:TypeId} (ht:P.underlying t=aa (.slice e)) (ht2:P.underlying t2=aa (.slice el2)) (hi:P.info? e=aa i) {g o sLen sCap m c:Nat} {A:Option Addr} {cur:Array Value} {news:List Value}
  (hg:w.heap[g]?=aa (.cells cur e (0,0))) (hf:(kH i.size m (.slice A m c)).run P w=.ok news.toArray w) (h1:∀ u∈news,u.oneCell'=ao) (TR:sLen+m≤sCap) (Fq:o+sLen*i.size+news.length≤cur.size) :
  (tV #[t,t2] ty #[.slice (aa ⟨g,o,aj⟩) sLen sCap,.slice A m c]).run P w=.ok (.slice (aa ⟨g,o,aj⟩) (sLen+m) sCap) (w.setRow g (nT cur (o+sLen*i.size) news)):=by
 have za:=zh (P:=P) g (o+sLen*i.size) e news 0 cur w hg (by simpa using Fq) h1
 simp only[gZ] at za;simp[tV,run_underlying ht,run_underlying ht2,sizeOf,typeInfo,hi,DI,TR,hf,p9,za]
theorem MN {t t2 ty e:TypeId} {i:TypeInfo} {z:Value} {el2:TypeId} (ht:P.underlying t=aa (.slice e)) (ht2:P.underlying t2=aa (.slice el2)) (hi:P.info? e=aa i) (hz:i.zero=aa z) {sLen sCap m c:Nat} {A B:Option Addr} {olds news:List Value}
  (hf0:(kH i.size sLen (.slice B sLen sCap)).run P w.drew=.ok olds.toArray w.drew) (hf:(kH i.size m (.slice A m c)).run P w.drew=.ok news.toArray w.drew)
  (hg:sCap<sLen+m) (h63:sLen+m≤140737488355328) (Fq:(sLen+m)*i.bytes≤140737488355328) :
  (tV #[t,t2] ty #[.slice B sLen sCap,.slice A m c]).run P w =
   .ok (.slice (aa ⟨w.heap.size,0,aj⟩) (sLen+m) (grownCap w (sLen+m) sCap e)) (w.drew.alloc (.cells (olds++news++(pG z.cells (grownCap w (sLen+m) sCap e-(sLen+m))).toList).toArray e)):=by
 have hn:¬ (sLen+m≤sCap):=by omega
 have anl:¬ (9223372036854775807<((sLen:Int)+(m:Int))):=by omega
 have h48:=growslice_fits (need:=sLen+m) (old:=sCap) (bytes:=i.bytes) hg Fq;have anD:¬ (281474976710656<Builtin.nextslicecap (sLen+m) sCap*i.bytes):=by omega
 simp[tV,run_underlying ht,run_underlying ht2,sizeOf,typeInfo,zeroValue,hi,hz,DI,hn,anl,anD,Question.forced,hf,hf0,newRow,grownCap]
 congr 2
 apply qL;simp[rY]
end
theorem HM.YO {h:Hp R} (hm:HM D C ρ ft h w) (i:Nat) (t:TypeId) (r:Row) (p:Place) (hk:Kept (ft i) w w') (hp:p.nil=an) (akx:(ft i p.lO∨w.heap.size≤p.lO)/\p.lO<w'.heap.size) (h0:0<r.tm.length) (hn:r.n≤p.cap) (hc:p.cap≤maxLen)
  (arr:Array Value) (GS:w'.heap[p.lO]?=aa (.cells arr t (0,0))) (hs:arr.size=p.off+p.cap*r.tm.length) (hr:oC r arr p.off) :
  HM D C (qA ρ h.length p) (qA (qA ft i (fun _=>False)) h.length (fun k=>k=p.lO)) (h.set i aj++[aa (.inr (.inl (t,r)))]) w':=by
 have key:∀ l k,h.length≤l->qA (qA ft i (fun _=>False)) h.length (fun k=>k=p.lO) l k->l=h.length/\k=p.lO:=fun l k hl uS=>by
  by_cases he:l=h.length
  ·subst he;rw[jq] at uS;exact⟨rfl,uS⟩
  ·rw[wh _ _ _ he] at uS
   by_cases iH:l=i
   ·subst iH;rw[jq] at uS;exact uS.elim
   ·rw[wh _ _ _ iH] at uS;obtain⟨B',jN⟩:=hm.some_ l k uS;have:=(aU.1 jN).1;omega
 have alj:∀ k,i<h.length->¬ qA (qA ft i (fun _=>False)) h.length (fun k=>k=p.lO) i k:=fun k hi hk=>by
  rw[wh _ _ _ (by omega),jq] at hk;exact hk
 refine hm.step (fun j=>j=i) (hk.mono fun k hk=>⟨i,rfl,hk⟩) (fun j hj=>o3 _ _ _ hj) (by simp) ?_ ?_ ?_ ?_
 ·intro j B' hj jN;rcases ct j h.length with hl|ki
  ·have:=hj hl;subst this;rw[da (by simpa using hl),j_ hl] at jN
   injection jN with jN;cases jN
  ·have:j=h.length:=by
    rcases ct h.length j with cd|hle
    ·rw[df (by simp;omega)] at jN;cases jN
    ·omega
   subst this;rw[dW (by simp)] at jN
   simp at jN;subst jN;refine⟨?_,trivial⟩;simp only[hold,jq];exact⟨fun k=>by simp[hp],h0,hn,hc,(fun hz=>by rw[hp] at hz;cases hz),arr,fun _=>⟨GS,hs⟩,hr⟩
 ·intro j hj kG;refine⟨by rw[da (by simpa using hj),kD (fun e=>kG e.symm)],fun k=>by rw[o3 _ _ _ hj,wh _ _ _ kG]⟩
 ·intro j k hj nQ;rcases ct j h.length with hl|ki
  ·have:=hj hl;subst this;exact absurd nQ (alj k hl)
  ·obtain⟨rfl,rfl⟩:=key j k ki nQ;refine⟨akx.1.imp (fun hh=>⟨i,rfl,hh⟩) id,akx.2,_,dW (by simp) |>.trans (by simp;rfl)⟩
 ·intro a b k ha hb hka hkb;have red:∀ l,(l<h.length->l=i)->qA (qA ft i (fun _=>False)) h.length (fun k=>k=p.lO) l k->l=h.length:=fun l hl uS=>by
   rcases ct l h.length with cd|ki
   ·have:=hl cd;subst this;exact absurd uS (alj k cd)
   ·exact(key l k ki uS).1
  rw[red a ha hka,red b hb hkb]
theorem Sk {a b:Value} (h:xZ a b=ao):xZ a a=ao:=by
 cases a<;>cases b<;>simp[xZ] at h ⊢
theorem HK {Pg tm:List Value} {I9 IZ:List aW} {e0 n e1 m N0 N1 o:Nat} {arr:Array Value} (hl:yd Pg tm=ao) (DO:I9.length=Pg.length) (Pb:IZ.length=tm.length)
  (h0:∀ (f:Nat) (t:Value) (c:aW),Pg[f]?=aa t->I9[f]?=aa c->jU t c N0) (h1:∀ (f:Nat) (t:Value) (c:aW),tm[f]?=aa t->IZ[f]?=aa c->jU t c N1) (hn:e0+n≤N0) (hm:e1+m≤N1)
  (g0:∀ (f:Nat) (t:Value) (c:aW) (e:Nat),Pg[f]?=aa t->I9[f]?=aa c->e<n->arr[o+(e*tm.length+f)]?=aa (gJ t c (e0+e)))
  (g1:∀ (f:Nat) (t:Value) (c:aW) (e:Nat),tm[f]?=aa t->IZ[f]?=aa c->e<m->arr[o+((n+e)*tm.length+f)]?=aa (gJ t c (e1+e))) :
  oC ⟨Pg,n+m,mU e0 n e1 m Pg I9 IZ⟩ arr o:=by
 have hlen:=A3 hl;obtain⟨k1,k2⟩:=Mt (e0:=e0) (n:=n) (e1:=e1) (m:=m) (tm:=Pg) (l0:=I9) (l1:=IZ) DO.symm (by rw[DO,Pb,hlen])
 have main:∀ (f:Nat) (t:Value) (c:aW),Pg[f]?=aa t->(mU e0 n e1 m Pg I9 IZ)[f]?=aa c->∃ t' c0 c1,tm[f]?=aa t'/\I9[f]?=aa c0/\IZ[f]?=aa c1/\c=ER t c0 e0 n c1 e1 m/\xZ t t'=ao:=fun f t c ht hc=>by
  obtain⟨t2,c0,c1,qt,q0,q1,rfl⟩:=k2 f c hc;rw[ht] at qt;injection qt with qt
  subst qt;have wU:f<tm.length:=by rw[← hlen];exact(aU.1 ht).1
  exact⟨_,c0,c1,bc wU,q0,q1,rfl,Gg hl ht (bc wU)⟩
 refine⟨by rw[k1,DO],fun f t c ht hc=>?_,fun f t c e ht hc he=>?_⟩
 ·obtain⟨t',c0,c1,q,q0,q1,rfl,hk⟩:=main f t c ht hc;exact(adf (Sk hk) (h0 f t c0 ht q0) ((Q6 hk c1 _).2 (h1 f t' c1 q q1)) hn hm).1
 ·obtain⟨t',c0,c1,q,q0,q1,rfl,hk⟩:=main f t c ht hc;simp only at he ⊢;rw[(adf (Sk hk) (h0 f t c0 ht q0) ((Q6 hk c1 _).2 (h1 f t' c1 q q1)) hn hm).2 e he,hlen]
  by_cases cd:e<n
  ·rw[if_pos cd];exact g0 f t c0 e ht q0 cd
  ·rw[if_neg cd];have:=g1 f t' c1 (e-n) q q1 (by omega)
   rw[show n+(e-n)=e by omega] at this
   rw[this,Sp hk]
theorem Iz {n m s:Nat} {olds news zs:List Value} (h0:olds.length=n*s) (h1:news.length=m*s):∀ (f e:Nat),f<s ->
  (e<n->(olds++news++zs).toArray[0+(e*s+f)]?=olds[e*s+f]?)/\(e<m->(olds++news++zs).toArray[0+((n+e)*s+f)]?=news[e*s+f]?):=by
 intro f e hf;refine⟨fun he=>?_,fun he=>?_⟩
 ·have:=jA s (show e+1≤n from he)
  rw[ix,qM] at this;rw[bW,jP,rY,da (by omega)]
 ·have:=jA s (show e+1≤m from he)
  rw[ix,qM] at this;rw[bW,jP,rY,dW (by rw[h0,ix];omega),da (by rw[h0,ix];omega)]
  congr 1
  rw[h0,ix];omega
def need (tagged:Bool) (m:Nat) (p:Prop):Prop :=
 match tagged with
 |true=>p
 |false=>0<m/\p
theorem adR {b:Bool} {m:Nat} {p:Prop} (h:need b m p):(b=an->0<m)/\p:=by
 cases b with
 |true=>exact⟨(fun h=>by cases h),h⟩
 |false=>exact⟨fun _=>h.1,h.2⟩
def zp (P:Program) (σ:SS R) (t t2:TypeId) (y z:Operand):Option (Out R) :=
 match elemOf P t,P.underlying t2 with
 |some (el,tm,DP),aa (.slice _) =>
  match Ww σ tm z,ev σ.tm y with
  |some (r1,e1,m),aa (.slice aj 0 0) =>
   match ue tm 0 with
   |some zc=>aa ⟨e1+m≤r1.n/\m*DP≤140737488355328/\m≤140737488355328,.slice (aa ⟨σ.hp.length,0,aa (1000*tm.length)⟩) (0+m) 0,aj,σ.hp++[aa (.inr (.inl (el,⟨tm,0+m,mU 0 0 e1 m tm zc r1.ew⟩)))],[],[(σ.hp.length,0)]⟩
   |none=>aj
  |some (r1,e1,m),aa (.slice (aa ⟨i,e0,aa q⟩) n _) =>
   match σ.hp[i]? with
   |some (aa (.inr (.inl (t',r)))) =>
    if fj (q%1000000) (1000*tm.length)&&yd r.tm tm&&fj t' el then
     aa ⟨need (gY q 1000000) m (e0+n≤r.n/\e1+m≤r1.n/\(n+m)*DP≤140737488355328/\n+m≤140737488355328),.slice (aa ⟨σ.hp.length,0,aa (1000*tm.length)⟩) (n+m) 0,aj,
      σ.hp.set i aj++[aa (.inr (.inl (el,⟨r.tm,n+m,mU e0 n e1 m r.tm r.ew r1.ew⟩)))],[],[(i,0),(σ.hp.length,0)]⟩
    else aj
   |_=>aj
  |_,_=>aj
 |_,_=>aj
theorem JC:∀ {tm:List Value} {n:Nat} {ew:List aW},ue tm n=aa ew->yd tm tm=ao
 |[],_,_,_=>rfl
 |t::tm,n,ew,h=>by
  simp only[ue] at h;split at h
  ·rename_i c r hc hr;simp only[yd,aM];refine⟨?_,JC hr⟩;cases t<;>simp[LF,xZ] at hc ⊢
  ·cases h
theorem FK (z:Array Value) (n:Nat):(pG z n).toList.length=n*z.size:=by rw[wO,size_zeroCells]
theorem Xu {σ:SS R} {o:Oper} {t t2:TypeId} {y z:Operand} {x:Out R} (ho:o.op=.call { callee:=.builtin .append,args:=#[y,z],argTypes:=#[t,t2] }) (h:zp P σ t t2 y z=aa x):mv D P o σ x:=by
 unfold zp at h;split at h
 ·rename_i el tm DP el2 he hu2;obtain⟨inf,zv,hu,hi,hz,BN,om,hby,wU,h0,SZ⟩:=Am he;have KE:zv.cells.size=tm.length:=by rw[← BN];simp
  have JK:1000*tm.length / 1000000=0:=by omega
  have e2':1000*tm.length%1000=0:=by omega
  split at h
  ·rename_i r1 e1 m UD hy;split at h
   ·rename_i zc hzc;injection h with h
    subst h;refine⟨fun C ρ ft a w K Q ht iH hm hv hK=>?_,by simp,fun _ b hb=>by cases hb⟩
    obtain⟨v0,v1,v2⟩:=hv;obtain⟨s1,s2,A,c',s3,news,s4,s5,s6,s7⟩:=S6 UD ht hm v0 h0 SZ;obtain⟨c1,c2⟩:=yU hzc;have Bd:=(eJ ht hy).1;simp only[bV] at Bd;have af':yd tm tm=ao:=JC hzc
    by_cases Yt:m=0
    ·subst Yt;have ob:(execOp a.eval o).run P w=.ok (.value (.slice aj 0 0)) w:=by
      have hf:=s5 w rfl;rw[s3] at hf;simp only[execOp,ho,resolve,invoke,builtin,dA,dZ,cB,vS,gC,vf,Bd,s3];have va:news=[]:=jd (by omega)
      subst va;simp[tV,run_underlying hu,run_underlying hu2,sizeOf,typeInfo,hi,DI,om];rw[hf];rfl
     have wM:oC ⟨tm,0+0,mU 0 0 e1 0 tm zc r1.ew⟩ #[] 0 :=
      HK af' c1 s1 (fun f t c g1 g2=>(c2 f t c g1 g2).1) s2 (a_ 0) v0 (fun f t c e _ _ he=>by omega) (fun f t c e _ _ he=>by omega)
     have hp:=hm.Rc el ⟨tm,0+0,mU 0 0 e1 0 tm zc r1.ew⟩ h0 rfl wM.len wM.JL 0 0;have:=hK _ _ _ (fun i hi=>o3 ρ σ.hp.length ⟨0,0,0,ao⟩ hi) hp
     refine rO ob ?_
     simpa [bV,lP,jq] using this
    ·have hf:=s5 w.drew rfl;rw[s3] at hf;have ob:(execOp a.eval o).run P w=.ok (.value (.slice (aa ⟨w.heap.size,0,aj⟩) (0+m) (grownCap w (0+m) 0 el))) (w.drew.alloc (.cells ([]++news++(pG zv.cells (grownCap w (0+m) 0 el-(0+m))).toList).toArray el)):=by
      have hr:=MN (P:=P) (t:=t) (t2:=t2) (ty:=o.type) w hu hu2 hi hz (sLen:=0) (sCap:=0) (m:=m) (c:=c') (A:=A) (B:=aj) (olds:=[]) (news:=news) (by simp[kH]) (by rw[om];exact hf) (by omega) (by omega) (by rw[hby,bW];exact v1)
      simp only[execOp,ho,resolve,invoke,builtin,dA,dZ,cB,vS,gC,vf,Bd,s3,hr]
     have Nm:=grownCap_ge w (0+m) 0 el;have ZP:=grownCap_le_maxLen w (0+m) 0 el (by unfold maxLen;omega)
     have wM:oC ⟨tm,0+m,mU 0 0 e1 m tm zc r1.ew⟩ ([]++news++(pG zv.cells (grownCap w (0+m) 0 el-(0+m))).toList).toArray 0:=by
      refine HK af' c1 s1 (fun f t c g1 g2=>(c2 f t c g1 g2).1) s2 (a_ 0) v0 (fun f t c e _ _ he=>by omega) (fun f t c e g1 g2 he=>?_)
      have Ci:f<tm.length:=(aU.1 g1).1;rw[(Iz (n:=0) (m:=m) (s:=tm.length) (by simp) s4 f e Ci).2 he]
      exact s7 f t c e g1 g2 he
     have hp:=hm.drew.R' el ⟨tm,0+m,mU 0 0 e1 m tm zc r1.ew⟩ _ (grownCap w (0+m) 0 el) h0 Nm ZP (by
      simp only[List.nil_append,DT,bE,s4,FK,KE,← ix]
      congr 1;omega) wM
     have:=hK _ _ _ (fun i hi=>o3 ρ σ.hp.length ⟨w.heap.size,0,grownCap w (0+m) 0 el,an⟩ hi) hp
     refine rO ob ?_
     simpa [bV,lP,iQ,jq,cellOf,JK,e2'] using this
   ·cases h
  ·rename_i r1 e1 m i e0 q n c UD hy;split at h
   ·rename_i t' r hir;split at h
    ·rename_i hc;simp only[aM] at hc;have hq:=cQ hc.1.1;have TL:=hc.1.2;have hte:=cQ hc.2;subst hte;have hlen:=A3 TL;have sT:q%1000000 / 1000=tm.length:=by omega
     have Gl:q%1000=0:=by omega
     injection h with h
     subst h;refine⟨fun C ρ ft a w K Q ht iH hm hv hK=>?_,by simp,fun _ b hb=>by cases hb⟩
     obtain⟨v0,v1,v2,v3,v4⟩:=adR hv;obtain⟨s1,s2,A,c',s3,news,s4,s5,s6,s7⟩:=S6 UD ht hm v2 h0 SZ;obtain⟨Bd,hy2⟩:=eJ ht hy;simp only[bV] at Bd;simp only[fD,aM,fo] at hy2;have C6:i<σ.hp.length:=hy2.1;obtain⟨g1,g2,g3,g4,g4',arr,g5,g6⟩:=(hm.at_ i _ hir).1;have j7:¬ gY q 1000000=ao->1≤q / 1000000:=fun hh=>by
      have:¬ q<1000000:=fun cd=>hh (by rw[fo];exact cd)
      omega
     have hqt:q / 1000000≠0->0<m:=fun hh=>v0 (by
      cases hb:gY q 1000000 with
      |false=>rfl
      |true=>rw[fo] at hb;omega)
     have h0':0<r.tm.length:=g2
     have grow:∀ (B:Option Addr) (Cp:Nat) (olds:List Value),a.eval y=.slice B n Cp->olds.length=n*tm.length->(∀ w2:World,w2.heap=w.heap->(kH tm.length n (.slice B n Cp)).run P w2=.ok olds.toArray w2) ->
       (∀ (f:Nat) (t:Value) (c:aW) (e:Nat),r.tm[f]?=aa t->r.ew[f]?=aa c->e<n->olds[e*tm.length+f]?=aa (gJ t c (e0+e)))->Cp<n+m->o.wp P a w K Q:=by
      intro B Cp olds hB hol hof hog cd;have hf:=s5 w.drew rfl;rw[s3] at hf;have hr:=MN (P:=P) (t:=t) (t2:=t2) (ty:=o.type) w hu hu2 hi hz (sLen:=n) (sCap:=Cp) (m:=m) (c:=c') (A:=A) (B:=B) (olds:=olds) (news:=news) (by rw[om];exact hof w.drew rfl) (by rw[om];exact hf) cd (by omega) (by rw[hby];exact v3)
      have ob:(execOp a.eval o).run P w=.ok (.value (.slice (aa ⟨w.heap.size,0,aj⟩) (n+m) (grownCap w (n+m) Cp t'))) (w.drew.alloc (.cells (olds++news++(pG zv.cells (grownCap w (n+m) Cp t'-(n+m))).toList).toArray t')):=by
       simp only[execOp,ho,resolve,invoke,builtin,dA,dZ,cB,vS,gC,vf,hB,s3,hr]
      have Nm:=grownCap_ge w (n+m) Cp t';have ZP:=grownCap_le_maxLen w (n+m) Cp t' (by unfold maxLen;omega)
      have wM:oC ⟨r.tm,n+m,mU e0 n e1 m r.tm r.ew r1.ew⟩ (olds++news++(pG zv.cells (grownCap w (n+m) Cp t'-(n+m))).toList).toArray 0:=by
       refine HK TL g6.len s1 g6.JL s2 v1 v2 (fun f t c e k1 k2 he=>?_) (fun f t c e k1 k2 he=>?_)
       ·have Ci:f<tm.length:=by rw[← hlen];exact(aU.1 k1).1
        rw[(Iz hol s4 f e Ci).1 he];exact hog f t c e k1 k2 he
       ·have Ci:f<tm.length:=(aU.1 k1).1;rw[(Iz hol s4 f e Ci).2 he];exact s7 f t c e k1 k2 he
      have hp:=hm.YO (w':=w.drew.alloc (.cells (olds++news++(pG zv.cells (grownCap w (n+m) Cp t'-(n+m))).toList).toArray t')) i t' ⟨r.tm,n+m,mU e0 n e1 m r.tm r.ew r1.ew⟩ ⟨w.heap.size,0,grownCap w (n+m) Cp t',an⟩ ((Kept.refl _ _).drew.alloc _) rfl ⟨e_ (a_ _),by simp⟩ h0' Nm ZP _ (heap_alloc_new w.drew _) (by
       simp only[DT,bE,hol,s4,FK,KE,hlen,← ix,bW]
       congr 1;omega) wM
      have:=hK _ _ _ (fun j hj=>o3 ρ σ.hp.length ⟨w.heap.size,0,grownCap w (n+m) Cp t',an⟩ hj) hp
      refine rO ob ?_
      simpa [bV,lP,iQ,jq,cellOf,JK,e2'] using this
     unfold lP at Bd;simp only at Bd
     by_cases hn:(ρ i).nil=ao
     ·rw[if_pos hn] at Bd;have apK:=g4' hn;have va:n=0:=by omega
      subst va
      by_cases Yt:m=0
      ·subst Yt;have ob:(execOp a.eval o).run P w=.ok (.value (.slice aj 0 0)) w:=by
        have hf:=s5 w rfl;rw[s3] at hf;simp only[execOp,ho,resolve,invoke,builtin,dA,dZ,cB,vS,gC,vf,Bd,s3];have va:news=[]:=jd (by omega)
        subst va;simp[tV,run_underlying hu,run_underlying hu2,sizeOf,typeInfo,hi,DI,om];rw[hf];rfl
       have wM:oC ⟨r.tm,0+0,mU e0 0 e1 0 r.tm r.ew r1.ew⟩ #[] 0 :=
        HK TL g6.len s1 g6.JL s2 v1 v2 (fun f t c e _ _ he=>by omega) (fun f t c e _ _ he=>by omega)
       have hp:=(hm.drop i).Rc t' ⟨r.tm,0+0,mU e0 0 e1 0 r.tm r.ew r1.ew⟩ h0' rfl wM.len wM.JL 0 0;rw[fh] at hp;have:=hK _ _ _ (fun i hi=>o3 ρ σ.hp.length ⟨0,0,0,ao⟩ hi) hp
       refine rO ob ?_
       simpa [bV,lP,jq] using this
      ·exact grow aj 0 [] Bd (by simp) (fun w2 _=>by simp[kH]) (fun f t c e _ _ he=>by omega) (by omega)
     ·have YA:(ρ i).nil=an:=by simpa using hn
      obtain⟨g7,g8⟩:=g5 YA;rw[if_neg hn] at Bd
      by_cases hex:q / 1000000≠0/\(ρ i).cap≤e0
      ·rw[if_pos hex] at Bd;have Yt:=hqt hex.1;have va:n=0:=by omega
       subst va;exact grow _ 0 [] Bd (by simp) (fun w2 _=>by simp[kH,loadCells,loadCellsFrom]) (fun f t c e _ _ he=>by omega) (by omega)
      ·rw[if_neg hex] at Bd;have hA:iQ ρ ⟨i,e0,aa q⟩=⟨(ρ i).lO,(ρ i).off+e0*tm.length,aj⟩:=by simp only[iQ,cellOf,sT,Gl,gZ]
       rw[hA] at Bd;rw[hlen] at g8
       by_cases TR:n+m≤(ρ i).cap-e0
       ·have hf:=s5 w rfl;rw[s3] at hf;have hmul:(e0+n+m)*tm.length≤(ρ i).cap*tm.length:=jA _ (by omega)
        rw[ix,ix] at hmul;have Fq:(ρ i).off+e0*tm.length+n*tm.length+news.length≤arr.size:=by rw[s4,g8];omega
        have hr:=Xs (P:=P) (t:=t) (t2:=t2) (ty:=o.type) w hu hu2 hi (g:=(ρ i).lO) (o:=(ρ i).off+e0*tm.length) (sLen:=n) (sCap:=(ρ i).cap-e0) (m:=m) (c:=c') (A:=A) (cur:=arr) (news:=news) g7 (by rw[om];exact hf) s6 TR (by rw[om];exact Fq)
        rw[om] at hr;have ob:(execOp a.eval o).run P w=.ok (.value (.slice (aa ⟨(ρ i).lO,(ρ i).off+e0*tm.length,aj⟩) (n+m) ((ρ i).cap-e0))) (w.setRow (ρ i).lO (nT arr ((ρ i).off+e0*tm.length+n*tm.length) news)):=by
         simp only[execOp,ho,resolve,invoke,builtin,dA,dZ,cB,vS,gC,vf,Bd,s3,hr]
        have wM:oC ⟨r.tm,n+m,mU e0 n e1 m r.tm r.ew r1.ew⟩ (nT arr ((ρ i).off+e0*tm.length+n*tm.length) news) ((ρ i).off+e0*tm.length):=by
         refine HK TL g6.len s1 g6.JL s2 v1 v2 (fun f t c e k1 k2 he=>?_) (fun f t c e k1 k2 he=>?_)
         ·have Ci:f<tm.length:=by rw[← hlen];exact(aU.1 k1).1
          have hle:=jA tm.length (show e+1≤n from he)
          rw[ix,qM] at hle;rw[GV _ _ _ _ Fq,if_neg (by omega)]
          have:=g6.cell f t c (e0+e) k1 k2 (by omega)
          rw[hlen,ix] at this;rw[← this]
          congr 1
          omega
         ·have Ci:f<tm.length:=(aU.1 k1).1;have hle:=jA tm.length (show e+1≤m from he)
          rw[ix,qM] at hle;rw[GV _ _ _ _ Fq,ix,if_pos (by rw[s4];omega)]
          rw[← s7 f t c e k1 k2 he]
          congr 1
          omega
        have hp:=hm.YO (w':=w.setRow (ρ i).lO (nT arr ((ρ i).off+e0*tm.length+n*tm.length) news)) i t' ⟨r.tm,n+m,mU e0 n e1 m r.tm r.ew r1.ew⟩ ⟨(ρ i).lO,(ρ i).off+e0*tm.length,(ρ i).cap-e0,an⟩
         (GQ _ _ _ ((g1 _).2 ⟨YA,rfl⟩)) rfl ⟨dO ((g1 _).2 ⟨YA,rfl⟩),by
          have:=hm.lt i _ ((g1 _).2 ⟨YA,rfl⟩)
          simpa [FP] using this⟩ h0' TR (by simp only;omega) _ (setRow_heap w _ _ _ _ _ g7) (by
           have hcm:e0*tm.length+((ρ i).cap-e0)*tm.length=(ρ i).cap*tm.length:=by rw[← ix];congr 1;omega
           rw[Fj,g8,hlen];simp only;omega) wM
        have:=hK _ _ _ (fun j hj=>o3 ρ σ.hp.length ⟨(ρ i).lO,(ρ i).off+e0*tm.length,(ρ i).cap-e0,an⟩ hj) hp
        refine rO ob ?_
        simpa [bV,lP,iQ,jq,cellOf,JK,e2'] using this
       ·have hmul:(e0+n)*tm.length≤(ρ i).cap*tm.length:=jA _ (by omega)
        rw[ix] at hmul;refine grow _ _ ((arr.toList.drop ((ρ i).off+e0*tm.length)).take (n*tm.length)) Bd (by simp;omega) (fun w2 WN=>?_) (fun f t c e k1 k2 he=>?_) (by omega)
        ·refine run_firstCells_some w2 tm.length n _ n _ _ (by simp;omega) (fun j v hj=>?_)
         rw[Bx (w:=w) (by rw[WN]),p9,cell_of_row w _ _ arr _ _ g7]
         have WR:j<n*tm.length:=by have:=(aU.1 hj).1;simp at this;omega
         simpa [o9,WR,o_] using hj
        ·have Ci:f<tm.length:=by rw[← hlen];exact(aU.1 k1).1
         have hle:=jA tm.length (show e+1≤n from he)
         rw[ix,qM] at hle;have:=g6.cell f t c (e0+e) k1 k2 (by omega)
         rw[hlen,ix] at this;rw[o9,if_pos (by omega),o_,← this]
         simp only[Array.getElem?_toList]
         congr 1
         omega
    ·cases h
   ·cases h
  ·cases h
 ·cases h
end
end Rx
namespace Rx
open Go.RowKit State
abbrev Prim (R:Type):=List Value->Hp R->Option (Out R)
structure jo (R:Type) where
 when:List Value->Hp R->Option Bool
 yes:Prim R
 no:Prim R
def jo.go {R:Type} (c:jo R) (b:Bool):Prim R :=
 match b with
 |true=>c.yes
 |false=>c.no
def a9 {R:Type} (p:Prim R):jo R:=⟨fun _ _=>aj,p,fun _ _=>aj⟩
abbrev eM (R:Type):=List (FuncId×jo R)
def Gq {R:Type}:eM R->FuncId->Option (jo R)
 |[],_=>aj
 |(g,p)::l,f=>if fj g f then aa p else Gq l f
def findF {R:Type} (T:eM R) (f:FuncId):Option (jo R):=if fj f 1000000000 then aj else Gq T f
def Rk {R:Type} (D:fR R) (c:jo R):Prop:=((c.no [] []).isSome=ao->∀ X p F w,D.H X p F w->F p.lO/\∃ ca ta,w.heap[p.lO]?=aa (.cells ca ta (0,0)))/\∀ e X x p F w,c.yes [.pointer (aa ⟨0,e,aj⟩)] [aa (.inr (.inr (.inr X)))]=aa x->D.H X p F w->flat x.v=ao/\w.cell? ⟨p.lO,p.off+e,aj⟩=aa x.v
structure rR {R:Type} (D:fR R) (P:Program) (f:FuncId) (on:List Value->Hp R->Prop) (p:Prim R):Prop where
 known : ∃ fn, P.funcs[f]? = aa fn ∧ (fn.name == "runtime.NumGoroutine") = an ∧ fn.body.isNone = an
 run:∀ args h x,on args h->p args h=aa x->∀ C ρ ft w,HM D C ρ ft h w->x.vc->iJ h.length args=ao ->
  Calls P f (args.map (bV ρ)).toArray w fun e w'=>∃ gF kF,(∀ i,i<h.length->gF i=ρ i)/\e=.returned (bV gF x.v)/\HM D C gF kF x.hp w'
 len:∀ args h x,p args h=aa x->h.length≤x.hp.length
 lit:∀ args h x,p args h=aa x->∀ b,x.lit=aa b->x.v=.bool b
 still:∀ args h x,p args h=aa x->x.wr=[]->x.hp=h
def su {R:Type} (c:jo R) (b:Bool) (args:List Value) (h:Hp R):Prop:=(c.when args h=aj/\b=ao)∨c.when args h=aa b
def b8 {R:Type} (D:fR R) (P:Program) (f:FuncId) (c:jo R):Prop:=∀ b,rR D P f (su c b) (c.go b)
theorem qm {R:Type} {D:fR R} {P:Program} {f:FuncId} {p:Prim R} (h:rR D P f (fun _ _=>True) p):b8 D P f (a9 p):=by
 intro b;cases b with
 |true=>exact⟨h.known,fun args hh x _=>h.run args hh x trivial,h.len,h.lit,h.still⟩
 |false=>exact⟨h.known,(fun _ _ _ _ hx=>by cases hx),(fun _ _ _ hx=>by cases hx),(fun _ _ _ hx=>by cases hx),(fun _ _ _ hx=>by cases hx)⟩
def IW:List (Nat×Nat)->Nat->Bool
 |[],_=>an
 |p::l,b=>fj p.1 b||IW l b
def Qp (wr:List (Nat×Nat)) (b:Nat):Bool :=
 match wr with
 |(0,1)::l=>!IW l b
 |_=>an
structure HT {R:Type} (D:fR R) (P:Program) (f:FuncId) (c:jo R):Prop where
 ok:b8 D P f c
 Iy:∀ b args h x,c.go b args h=aa x->∀ i,i<h.length->Qp x.wr i=ao->x.hp[i]?=h[i]?
def cN {R:Type} (D:fR R) (P:Program):eM R->Prop
 |[]=>True
 |(f,c)::l=>(match fj f 1000000000 with
  |true=>Rk D c
  |false=>HT D P f c)/\cN D P l
section
variable {R:Type} {D:fR R} {P:Program} {T:eM R} {C:Ctx} {ρ:Env} {ft:Nat->Nat->Prop} {w w':World}
theorem VI (hT:cN D P T) {f:FuncId} {p:jo R} (h:Gq T f=aa p):match fj f 1000000000 with
  |true=>Rk D p
  |false=>HT D P f p:=by
 induction T with
 |nil=>cases h
 |cons a l ih =>
  obtain⟨g,q⟩:=a;simp only[Gq] at h;split at h
  ·rename_i hb;have:=cQ hb;subst this;injection h with h
   subst h;exact hT.1
  ·exact ih hT.2 h
theorem Ct (hT:cN D P T) {f:FuncId} {p:jo R} (h:findF T f=aa p):HT D P f p:=by
 unfold findF at h;split at h
 ·cases h
 ·rename_i hb;have:=VI hT h;rw[show fj f 1000000000=an by cases qC:fj f 1000000000<;>simp_all] at this
  exact this
theorem Vv (hT:cN D P T) {p:jo R} (h:Gq T 1000000000=aa p):Rk D p:=VI hT h
def MM (tm:List (Option Value)):List Operand->Option (List Value)
 |[]=>aa []
 |y::l =>
  match ev tm y,MM tm l with
  |some v,aa r=>aa (v::r)
  |_,_=>aj
theorem EK {n:Nat} {tm:List (Option Value)} {a:Act} (ht:TM ρ n tm a):∀ {l:List Operand} {r:List Value},MM tm l=aa r->l.map a.eval=r.map (bV ρ)/\iJ n r=ao
 |[],r,h=>by simp only[MM] at h;injection h with h;subst h;exact⟨rfl,rfl⟩
 |y::l,r,h=>by
  simp only[MM] at h;split at h
  ·rename_i v r' hv hr;injection h with h
   subst h;obtain⟨h1,h2⟩:=eJ ht hv;obtain⟨h3,h4⟩:=EK ht hr;exact⟨by simp[h1,h3],by simp[iJ,h2,h4]⟩
  ·cases h
theorem Mn {n:Nat} {l r:List Value} (h1:iJ n l=ao) (h2:iJ n r=ao):iJ n (l++r)=ao:=by
 rw[xd] at *
 intro v hv;rcases bY.1 hv with hv|hv
 ·exact h1 v hv
 ·exact h2 v hv
def Fh (T:eM R) (σ:SS R) (f:Operand) (args:List Operand) (b:Bool):Option (Out R) :=
 match ev σ.tm f,MM σ.tm args with
 |some (.func (.func g) ⟨fi⟩ ⟨ca⟩),aa vs=>match findF T g with
  |some p=>p.go b ((fi++vs)++ca) σ.hp
  |none=>aj
 |_,_=>aj
def Oq (T:eM R) (σ:SS R) (f:Operand) (args:List Operand):Option Bool :=
 match ev σ.tm f,MM σ.tm args with
 |some (.func (.func g) ⟨fi⟩ ⟨ca⟩),aa vs=>match findF T g with
  |some p=>p.when ((fi++vs)++ca) σ.hp
  |none=>aj
 |_,_=>aj
def goes (c:Option Bool) (b:Bool):Prop:=(c=aj/\b=ao)∨c=aa b
theorem abC (hT:cN D P T) {σ:SS R} {o:Oper} {f:Operand} {args:Array Operand} {ts:Array TypeId} {x:Out R} {b:Bool} (ho:o.op=.call { callee:=.value f,args:=args,argTypes:=ts }) (hb:goes (Oq T σ f args.toList) b) (h:Fh T σ f args.toList b=aa x):mv D P o σ x:=by
 unfold Fh at h;unfold Oq at hb;split at h
 ·rename_i g fi ca vs hf ET;rw[hf,ET] at hb;simp only at hb;split at h
  ·rename_i p hp;rw[hp] at hb;simp only at hb;have uz:=(Ct hT hp).ok b;refine⟨fun C ρ ft a w K Q ht iH hm hv hK=>?_,uz.len _ _ _ h,fun _=>uz.lit _ _ _ h⟩
   obtain⟨h1,h2⟩:=eJ ht hf;obtain⟨h3,h4⟩:=EK ht ET;simp only[bV,lB] at h1;simp only[fD,aM] at h2;obtain⟨fn,g1,g2,g3⟩:=uz.known;have hargs:args.map a.eval=(vs.map (bV ρ)).toArray:=by
    apply qL;rw[mH,h3]
   have ob:(execOp a.eval o).run P w=.ok (.enter g (((fi++vs)++ca).map (bV ρ)).toArray) w:=by
    simp only[execOp,ho,resolve,h1,Deferred.ofValue,dA,dZ,cB,invoke,hargs];simp only[callFunc,dA,run_program,cB,g1,g2,g3,fX,if_false,dZ]
    congr 2
    simp
   have aat:=uz.run _ _ _ hb h C ρ ft w hm hv (Mn (Mn h2.1 h4) h2.2);unfold Sb;rw[ob,QG];refine aat.mono fun e w' ⟨gF,kF,q1,q2,q3⟩=>?_
   subst q2;exact hK gF kF w' q1 q3
  ·cases h
 ·cases h
def abQ (P:Program) (t:TypeId) (v:Value) (name:String):Option (FuncId×Value) :=
 xU P (XH fun Q=>method (Q.types.size+QH) t v name)
def zu (P:Program) (T:eM R) (σ:SS R) (r:Operand) (name:String) (args:List Operand) (b:Bool):Option (Out R) :=
 match ev σ.tm r,MM σ.tm args with
 |some (.iface t v),aa vs=>match flat v,abQ P t v name with
  |true,aa (g,u)=>match flat u,findF T g with
   |true,aa p=>p.go b (u::vs) σ.hp
   |_,_=>aj
  |_,_=>aj
 |_,_=>aj
def I' (P:Program) (T:eM R) (σ:SS R) (r:Operand) (name:String) (args:List Operand):Option Bool :=
 match ev σ.tm r,MM σ.tm args with
 |some (.iface t v),aa vs=>match flat v,abQ P t v name with
  |true,aa (g,u)=>match flat u,findF T g with
   |true,aa p=>p.when (u::vs) σ.hp
   |_,_=>aj
  |_,_=>aj
 |_,_=>aj
theorem Xb (hT:cN D P T) {σ:SS R} {o:Oper} {r:Operand} {name:String} {args:Array Operand} {ts:Array TypeId} {x:Out R} {b:Bool} (ho:o.op=.call { callee:=.invoke r name,args:=args,argTypes:=ts }) (hb:goes (I' P T σ r name args.toList) b) (h:zu P T σ r name args.toList b=aa x):mv D P o σ x:=by
 unfold zu at h;unfold I' at hb;split at h
 ·rename_i t v vs hf ET;rw[hf,ET] at hb;simp only at hb;split at h
  ·rename_i g u wU hme;rw[wU,hme] at hb;simp only at hb;split at h
   ·rename_i p hu hp;rw[hu,hp] at hb;simp only at hb;have uz:=(Ct hT hp).ok b;refine⟨fun C ρ ft a w K Q ht iH hm hv hK=>?_,uz.len _ _ _ h,fun _=>uz.lit _ _ _ h⟩
    obtain⟨h1,h2⟩:=eJ ht hf;obtain⟨h3,h4⟩:=EK ht ET;simp only[bV,n_ v wU] at h1;obtain⟨fn,g1,g2,g3⟩:=uz.known;have hargs:args.map a.eval=(vs.map (bV ρ)).toArray:=by
     apply qL;rw[mH,h3]
    have hr:(XH fun Q=>method (Q.types.size+QH) t v name).run P w=.ok (g,u) w:=ML _ hme w
    have um:(method (P.types.size+QH) t v name).run P w=.ok (g,u) w:=hr;have ob:(execOp a.eval o).run P w=.ok (.enter g ((u::vs).map (bV ρ)).toArray) w:=by
     simp only[execOp,ho,resolve,h1,dA,dZ,cB,invoke,hargs];have e0:(#[G_ t v]++(vs.map (bV ρ)).toArray)[0]?=aa (G_ t v):=by simp
     have e1:(#[G_ t v]++(vs.map (bV ρ)).toArray).extract 1 (#[G_ t v]++(vs.map (bV ρ)).toArray).size=(vs.map (bV ρ)).toArray:=by
      apply qL;simp only[Ji,Array.toList_append,Array.size_append,DT,List.length_map];simp[List.take_of_length_le]
     simp only[e0,e1,callMethod,dA,run_program,cB,um,callFunc,g1,g2,g3,fX,if_false,dZ]
     congr 2
     simp[n_ u hu]
    have aat:=uz.run _ _ _ hb h C ρ ft w hm hv (by simp only[iJ,aM];exact⟨I4 u hu,h4⟩)
    unfold Sb;rw[ob,QG];refine aat.mono fun e w' ⟨gF,kF,q1,q2,q3⟩=>?_
    subst q2;exact hK gF kF w' q1 q3
   ·cases h
  ·cases h
 ·cases h
def A9 (σ:SS R) (fn:Fn) (fi ca:List Operand):Option (Out R) :=
 match MM σ.tm fi,MM σ.tm ca with
 |some u,aa v=>aa (gy σ True (.func fn ⟨u⟩ ⟨v⟩) aj [])
 |_,_=>aj
theorem To {σ:SS R} {o:Oper} {fn:Fn} {fi ca:Array Operand} {x:Out R} (ho:o.op=.makeFunc fn fi ca) (h:A9 σ fn fi.toList ca.toList=aa x):mv D P o σ x:=by
 unfold A9 at h;split at h
 ·rename_i u v hu hv;injection h with h
  subst h;refine ic (fun C ρ ft a w ht iH hm _=>?_) (fun _ b hb=>by cases hb)
  obtain⟨h1,_⟩:=EK ht hu;obtain⟨h2,_⟩:=EK ht hv;have e1:fi.map a.eval=(u.map (bV ρ)).toArray:=by apply qL;rw[mH,h1]
  have e2:ca.map a.eval=(v.map (bV ρ)).toArray:=by apply qL;rw[mH,h2]
  simp only[execOp,ho,Instr.makeFunc,dA,dZ,cB,e1,e2,bV,lB]
 ·cases h
def YG (op:BinOp) (u v:Option Value):Nat :=
 match u,v with
 |some (.int .i64 _),aa (.int .i64 _)=>match op with
  |.add|.sub|.mul|.quo|.rem=>1
  |_=>0
 |some (.string _),aa (.string _)=>match op with
  |.add=>2
  |_=>0
 |some (.pointer (aa _)),aa (.pointer (aa _))=>5
 |some (.pointer _),aa (.pointer _)|some (.slice _ _ _),aa (.slice _ _ _)|some (.func _ _ _),aa .nilFunc=>3
 |some (.agg _),aa (.agg _)=>4
 |_,_=>0
def al_ (T:eM R):Bool:=match Gq T 1000000000 with
 |some c=>(c.when [] []).isSome
 |none=>an
def ai8:BinOp->Bool
 |.add=>ao
 |.sub=>ao
 |.mul=>ao
 |_=>an
def Ps (T:eM R):Option (Option (SB R))->Bool
 |some (aa (.inl _))=>ao
 |some (aa (.inr (.inr (.inr _))))=>match Gq T 1000000000 with
  |some c=>(c.no [] []).isSome
  |none=>an
 |_=>an
def lW:jo R:=⟨fun _ _=>aa ao,fun _ _=>aj,fun _ _=>aj⟩
theorem iF:Rk D (lW:jo R):=⟨(fun h=>by cases h),fun e X x p F w hx=>by cases hx⟩
theorem Vx (hT:cN D P T) {C:Ctx} {ρ:Env} {ft:Nat->Nat->Prop} {h:Hp R} {w:World} {i:Nat} (hm:HM D C ρ ft h w) (ho:Ps T h[i]?=ao):ft i (ρ i).lO/\∃ ca ta,w.heap[(ρ i).lO]?=aa (.cells ca ta (0,0)):=by
 unfold Ps at ho;split at ho
 ·rename_i x hx;obtain⟨t,cs⟩:=x;obtain⟨_,g2,g3⟩:=(hm.at_ i _ hx).1;exact⟨(g2 _).2 rfl,_,_,g3⟩
 ·rename_i X hx;split at ho
  ·rename_i c hc;exact(Vv hT hc).1 ho _ _ _ _ (hm.at_ i _ hx).1
  ·cases ho
 ·cases ho
def LX (P:Program) (T:eM R) (σ:SS R) (o:Oper) (op:BinOp) (t:TypeId) (y z:Operand):Option (Out R) :=
 match YG op (ev σ.tm y) (ev σ.tm z) with
 |1=>if al_ T&&ai8 op then uL P σ o else OX σ op y z
 |2=>match op with
  |.add=>Pm σ y z
  |_=>aj
 |3=>match op with
  |.eql=>zU P σ an t y z
  |.neq=>zU P σ ao t y z
  |_=>aj
 |4=>match op with
  |.eql=>z4 P σ an t y z
  |.neq=>z4 P σ ao t y z
  |_=>aj
 |5=>match op with
  |.eql=>zO P σ (Ps T) an t y z
  |.neq=>zO P σ (Ps T) ao t y z
  |_=>aj
 |_=>uL P σ o
theorem aea (hT:cN D P T) {σ:SS R} {o:Oper} {op:BinOp} {t t':TypeId} {y z:Operand} {x:Out R} (ho:o.op=.binOp op t y z t') (h:LX P T σ o op t y z=aa x):mv D P o σ x:=by
 unfold LX at h;split at h
 ·split at h
  ·exact xg h
  ·exact aeV ho h
 ·split at h
  ·exact aef ho h
  ·cases h
 ·split at h
  ·exact Qm (neg:=an) ho h
  ·exact Qm (neg:=ao) ho h
  ·cases h
 ·split at h
  ·exact OZ (neg:=an) ho h
  ·exact OZ (neg:=ao) ho h
  ·cases h
 ·split at h
  ·exact Qq (fun hm ho=>Vx hT hm ho) (neg:=an) ho h
  ·exact Qq (fun hm ho=>Vx hT hm ho) (neg:=ao) ho h
  ·cases h
 ·exact xg h
def isNil:Option Value->Bool
 |some (.slice aj 0 0)=>ao
 |_=>an
def xo (P:Program) (σ:SS R) (t:TypeId) (y:Operand):Option (Out R) :=
 if isNil (ev σ.tm y) then
  match vQ P σ t with
  |some x=>aa x
  |none=>wk σ y
 else wk σ y
theorem Ms {σ:SS R} {o:Oper} {t:TypeId} {y:Operand} {x:Out R} (ho:o.op=.move y∨o.op=.assign y) (h:xo P σ t y=aa x):mv D P o σ x:=by
 unfold xo at h;split at h
 ·rename_i hn;have hv:ev σ.tm y=aa (.slice aj 0 0):=by
   unfold isNil at hn;split at hn
   ·assumption
   ·cases hn
  split at h
  ·rename_i x' hx;injection h with h
   subst h;exact Tx (n:=0) (c:=0) ho hv hx
  ·exact Sj ho h
 ·exact Sj ho h
def isStr:Option Value->Bool
 |some (.string _)=>ao
 |_=>an
def alH:Option Value->Bool
 |some (.pointer (aa _))=>ao
 |_=>an
def ah0:Option Value->Bool
 |some (.slice (aa ⟨_,_,aj⟩) _ _)=>ao
 |_=>an
def anr:Option Value->Bool
 |some (.slice (aa _) _ _)=>ao
 |_=>an
def Eo (P:Program) (T:eM R) (σ:SS R) (t:TypeId) (y:Operand):Option (Out R) :=
 match Bo P σ t y with
 |some x=>aa x
 |none =>
  match ev σ.tm y with
  |some (.pointer (aa ⟨i,e,aj⟩)) =>
   match σ.hp[i]? with
   |some (aa (.inr (.inr (.inr X)))) =>
    match CI P t,Gq T 1000000000 with
    |some aj,aa c=>match c.yes [.pointer (aa ⟨0,e,aj⟩)] [aa (.inr (.inr (.inr X)))] with
     |some x=>aa (gy σ True x.v aj [(i,e+1)])
     |none=>aj
    |_,_=>aj
   |_=>aj
  |_=>aj
theorem aah (hT:cN D P T) {σ:SS R} {o:Oper} {t:TypeId} {y:Operand} {x:Out R} (ho:o.op=.load t y) (h:Eo P T σ t y=aa x):mv D P o σ x:=by
 unfold Eo at h;split at h
 ·rename_i x' hx;injection h with h
  subst h;exact SI ho hx
 ·split at h
  ·rename_i i e ha;split at h
   ·rename_i X hX;split at h
    ·rename_i c hg hc;split at h
     ·rename_i x' hx;injection h with h
      subst h;refine ic (fun C ρ ft ac w ht iH hm _=>?_) (fun iH c hc=>by cases hc)
      have h1:=(eJ ht ha).1;simp only[bV,iQ,cellOf] at h1;obtain⟨q1,q2⟩:=(Vv hT hc).2 e X x' _ _ w hx (hm.at_ i _ hX).1;simp[execOp,ho,h1,By,o8,CK hg q2,n_ _ q1]
     ·cases h
    ·cases h
   ·cases h
  ·cases h
def ME (P:Program) (T:eM R) (σ:SS R) (o:Oper) (su:Bool):Option (Out R) :=
 match o with
 |⟨dst,op,ty,pos,after,guard⟩ =>
 match op with
 |.move y=>xo P σ ty y
 |.assign y=>xo P σ ty y
 |.pick c y z=>HS σ c y z
 |.alloc t=>Et P σ t
 |.box t y=>LQ σ t y
 |.build t ⟨ps⟩=>Ep P σ t ps
 |.buildSlice t n ⟨ps⟩=>match uG P σ t n ps with
  |some x=>aa x
  |none=>uU P σ t n ps
 |.load t y=>Eo P T σ t y
 |.store t y z=>match dst with
  |none=>Es P σ t y z
  |some _=>aj
 |.nilCheck y=>LG σ y
 |.binOp b t y z u=>LX P T σ ⟨dst,.binOp b t y z u,ty,pos,after,guard⟩ b t y z
 |.unOp u t y=>match u with
  |.not=>LO σ y
  |_=>uL P σ ⟨dst,.unOp u t y,ty,pos,after,guard⟩
 |.slice t y lo hi mx=>HP P σ t y lo hi mx
 |.fieldAddr t y k=>wE P σ t y k
 |.field t y k=>Eu P σ t y k
 |.indexAddr t y z=>if alH (ev σ.tm y) then AW P σ t y z else if ah0 (ev σ.tm y) then xf P σ t y z else yG P σ t y z
 |.index t y z=>if isStr (ev σ.tm y) then AS P σ t y z else uL P σ ⟨dst,.index t y z,ty,pos,after,guard⟩
 |.extract y k=>zP σ y k
 |.makeSlice t y z=>yX P σ t y z
 |.call ⟨callee,⟨args⟩,⟨ts⟩⟩ =>
  match callee with
  |.value f=>Fh T σ f args su
  |.builtin b =>
   match b,args,ts with
   |.append,[y,z],[t,t2]=>zp P σ t t2 y z
   |.len,[y],[t]=>if anr (ev σ.tm y) then LZ P σ t y else uL P σ ⟨dst,.call ⟨.builtin .len,⟨[y]⟩,⟨[t]⟩⟩,ty,pos,after,guard⟩
   |b,args,ts=>uL P σ ⟨dst,.call ⟨.builtin b,⟨args⟩,⟨ts⟩⟩,ty,pos,after,guard⟩
  |.invoke r name=>zu P T σ r name args su
 |.makeFunc fn ⟨fi⟩ ⟨ca⟩=>A9 σ fn fi ca
 |op=>uL P σ ⟨dst,op,ty,pos,after,guard⟩
def HO (P:Program) (T:eM R) (σ:SS R) (o:Oper):Option Bool :=
 match o with
 |⟨_,.call ⟨.value f,⟨args⟩,_⟩,_,_,_,_⟩=>Oq T σ f args
 |⟨_,.call ⟨.invoke r name,⟨args⟩,_⟩,_,_,_,_⟩=>I' P T σ r name args
 |_=>aj
theorem UN (hT:cN D P T) {σ:SS R} {o:Oper} {x:Out R} {b:Bool} (hb:goes (HO P T σ o) b) (h:ME P T σ o b=aa x):mv D P o σ x:=by
 obtain⟨dst,op,ty,pos,after,guard⟩:=o;unfold ME at h;simp only at h;split at h
 ·exact Ms (dO rfl) h
 ·exact Ms (e_ rfl) h
 ·exact acA rfl h
 ·exact Zy rfl h
 ·exact ad0 rfl h
 ·rename_i t ps;exact aaG (parts:=⟨ps⟩) rfl h
 ·rename_i t n ps;(split at h;{ rename_i x' hx;injection h with h;subst h;exact P4 (parts:=⟨ps⟩) rfl hx };{ exact QC (parts:=⟨ps⟩) rfl h })
 ·exact aah hT rfl h
 ·split at h
  ·exact aaA rfl rfl h
  ·cases h
 ·exact ady rfl h
 ·exact aea hT rfl h
 ·split at h
  ·exact aej rfl h
  ·exact xg h
 ·exact Zt rfl h
 ·exact Rz rfl h
 ·exact aao rfl h
 ·split at h
  ·exact Ty rfl h
  ·split at h
   ·exact P7 rfl h
   ·exact Rm rfl h
 ·split at h
  ·exact Tu rfl h
  ·exact xg h
 ·exact Wa rfl h
 ·exact Q9 rfl h
 ·rename_i callee args ts;split at h
  ·exact abC hT (args:=⟨args⟩) rfl hb h
  ·split at h
   ·exact Xu rfl h
   ·split at h
    ·exact aeR rfl h
    ·exact xg h
   ·exact xg h
  ·exact Xb hT (args:=⟨args⟩) rfl hb h
 ·exact To (fi:=⟨_⟩) (ca:=⟨_⟩) rfl h
 ·exact xg h
def yz (σ:SS R) (d:Option Tmp) (v:Value) (lit:Option Bool) (hp:Hp R):SS R :=
 match d with
 |none=>⟨σ.tm,σ.li,hp⟩
 |some t=>⟨σ.tm.set t (aa v),(match lit with
  |some b=>[(t,b)]
  |none=>[])++σ.li.filter (fun p=>!fj p.1 t),hp⟩
structure M (D:fR R) (C:Ctx) (σ:SS R) (a:Act) (w:World):Prop where
 defers:a.defers=[]
 li:LI σ.li σ.tm
 ex:∃ ρ ft,(∀ i,i<C.n0->ρ i=C.e0 i)/\TM ρ σ.hp.length σ.tm a/\HM D C ρ ft σ.hp w
theorem Ib (σ:SS R) (d:Option Tmp) (v:Value) (lit:Option Bool) (hp:Hp R):(yz σ d v lit hp).hp=hp:=by cases d<;>rfl
theorem Yn {σ:SS R} {d:Option Tmp} {v:Value} {lit:Option Bool} {hp:Hp R} (hl:LI σ.li σ.tm) (hv:∀ b,lit=aa b->v=.bool b) (hd:∀ t,d=aa t->lit≠aj->t<σ.tm.length):LI (yz σ d v lit hp).li (yz σ d v lit hp).tm:=by
 cases d with
 |none=>exact hl
 |some t =>
  intro u b hu;simp only[yz] at hu ⊢;rcases bY.1 hu with hu|hu
  ·cases lit with
   |none=>simp at hu
   |some c =>
    simp only[List.mem_singleton,Prod.mk.injEq] at hu;obtain⟨rfl,rfl⟩:=hu;rw[hv _ rfl,j_ (hd _ rfl (by simp))]
  ·obtain⟨h1,h2⟩:=py.1 hu;have kG:u≠t:=fun e=>by subst e;simp at h2
   rw[kD (fun e=>kG e.symm)]
   exact hl u b h1
theorem Yu {σ:SS R} {d:Option Tmp} {v:Value} {lit:Option Bool} {hp:Hp R} {a:Act} {gF:Env} (ht:TM ρ σ.hp.length σ.tm a) (qW:∀ i,i<σ.hp.length->gF i=ρ i) (hlen:σ.hp.length≤hp.length) (hi:fD hp.length v=ao) :
  TM gF (yz σ d v lit hp).hp.length (yz σ d v lit hp).tm (a.put d (bV gF v)):=by
 have old:∀ (t:Nat) (u:Value),σ.tm[t]?=aa (aa u)->a.tmps[t]?=aa (bV gF u)/\fD hp.length u=ao:=fun t u hu=>by
  obtain⟨h1,h2⟩:=ht.val t u hu;exact⟨by rw[h1,nG (n:=σ.hp.length) (fun i hi=>(qW i hi)) u h2],B7 hlen u h2⟩
 rw[Ib];cases d with
 |none=>exact⟨ht.size,old⟩
 |some t =>
  refine⟨by simp[yz,Cx,ht.size],fun u x hx=>?_⟩
  simp only[yz,Cx] at hx ⊢
  by_cases he:t=u
  ·subst he;have hl:t<σ.tm.length:=by have:=(aU.1 hx).1;simpa using this
   rw[j_ hl] at hx;injection hx with hx;injection hx with hx
   subst hx;rw[ve];simp[ht.size,hl,hi]
  ·rw[kD he] at hx;rw[Array.getElem?_setIfInBounds_ne he];exact old u x hx
def tidy (σ:SS R) (d:Option Tmp) (x:Out R):Bool :=
 fD x.hp.length x.v&&(match d with
  |some t=>(match x.lit with
   |some _=>gY t σ.tm.length
   |none=>ao)
  |none=>ao)
theorem M.step {σ:SS R} {o:Oper} {x:Out R} {a:Act} {K:Act->World->Prop} {Q:Exit->Act->World->Prop} (hm:M D C σ a w) (ho:mv D P o σ x) (ht:tidy σ o.dst x=ao) (hv:x.vc)
  (hK:∀ a' w',M D C (yz σ o.dst x.v x.lit x.hp) a' w'->K a' w') (hn:C.n0≤σ.hp.length):o.wp P a w K Q:=by
 obtain⟨ρ,ft,h0,h1,h2⟩:=hm.ex;simp only[tidy,aM] at ht;refine ho.run C ρ ft a w K Q h1 hm.li h2 hv fun gF kF w' qW mR=>hK _ _ ⟨?_,Yn hm.li (ho.lit hm.li) ?_,gF,kF,fun i hi=>(qW i (by omega)).trans (h0 i hi),Yu h1 qW ho.len ht.1,by rw[Ib];exact mR⟩
 ·cases o.dst<;>exact hm.defers
 ·intro t hd hl;have h3:=ht.2;rw[hd] at h3;simp only at h3;cases hx:x.lit with
  |none=>exact absurd hx hl
  |some b=>rw[hx] at h3;simpa [fo] using h3
theorem M.undef {σ:SS R} {d:Option Tmp} {a:Act} (hm:M D C σ a w):M D C (yz σ d undef aj σ.hp) (a.put d undef) w:=by
 obtain⟨ρ,ft,h0,h1,h2⟩:=hm.ex;have hu:bV ρ vT=vT:=by simp[vT,bV,nS]
 refine⟨?_,Yn hm.li (fun b hb=>by cases hb) (fun t _ h=>absurd rfl h),ρ,ft,h0,?_,by rw[Ib];exact h2⟩
 ·cases d<;>exact hm.defers
 ·have:=Yu (d:=d) (v:=vT) (lit:=aj) (hp:=σ.hp) h1 (fun _ _=>rfl) (a_ _) (by simp[vT,fD,iJ])
  rw[hu] at this;exact this
def assume (σ:SS R) (t:Nat) (b:Bool):SS R:=⟨σ.tm.set t (aa (.bool b)),(t,b)::σ.li.filter (fun p=>!fj p.1 t),σ.hp⟩
theorem M.assume {σ:SS R} {a:Act} {t:Nat} {b:Bool} (hm:M D C σ a w) (ht:σ.tm[t]?=aa (aa (.bool b))):M D C (Rx.assume σ t b) a w:=by
 have hl:t<σ.tm.length:=(aU.1 ht).1;have hs:σ.tm.set t (aa (.bool b))=σ.tm:=by
  apply oc;intro u
  by_cases he:t=u
  ·subst he;rw[j_ hl,ht]
  ·rw[kD he]
 obtain⟨ρ,ft,h0,h1,h2⟩:=hm.ex;refine⟨hm.defers,?_,ρ,ft,h0,?_,h2⟩
 ·intro u c hu;simp only[Rx.assume] at hu ⊢;rw[hs];rcases bN.1 hu with hu|hu
  ·injection hu with e1 e2
   subst e1;subst e2;exact ht
  ·exact hm.li u c (py.1 hu).1
 ·simp only[Rx.assume];rw[hs];exact h1
end
end Rx
namespace Rx
inductive Tr
 |leaf (i:Nat)
 |node (c:Nat) (l r:Tr)
def fT {β:Sort _}:Tr->Nat->(Nat->β)->β
 |.leaf i,n,k=>match fj n i with
  |true=>k i
  |false=>k n
 |.node c l r,n,k=>match gY n c with
  |true=>fT l n k
  |false=>fT r n k
theorem al1 {β:Sort _} (t:Tr) (n:Nat) (k:Nat->β):fT t n k=k n:=by
 induction t with
 |leaf i =>
  simp only[fT];split
  ·rename_i h;rw[cQ h]
  ·rfl
 |node c l r hl hr =>
  simp only[fT];split
  ·exact hl
  ·exact hr
def trs:Tr:=(.node 64 (.node 32 (.node 16 (.node 8 (.node 4 (.node 2 (.node 1 (.leaf 0) (.leaf 1)) (.node 3 (.leaf 2) (.leaf 3))) (.node 6 (.node 5 (.leaf 4) (.leaf 5)) (.node 7 (.leaf 6) (.leaf 7)))) (.node 12 (.node 10 (.node 9 (.leaf 8) (.leaf 9)) (.node 11 (.leaf 10) (.leaf 11))) (.node 14 (.node 13 (.leaf 12) (.leaf 13)) (.node 15 (.leaf 14) (.leaf 15))))) (.node 24 (.node 20 (.node 18 (.node 17 (.leaf 16) (.leaf 17)) (.node 19 (.leaf 18) (.leaf 19))) (.node 22 (.node 21 (.leaf 20) (.leaf 21)) (.node 23 (.leaf 22) (.leaf 23)))) (.node 28 (.node 26 (.node 25 (.leaf 24) (.leaf 25)) (.node 27 (.leaf 26) (.leaf 27))) (.node 30 (.node 29 (.leaf 28) (.leaf 29)) (.node 31 (.leaf 30) (.leaf 31)))))) (.node 48 (.node 40 (.node 36 (.node 34 (.node 33 (.leaf 32) (.leaf 33)) (.node 35 (.leaf 34) (.leaf 35))) (.node 38 (.node 37 (.leaf 36) (.leaf 37)) (.node 39 (.leaf 38) (.leaf 39)))) (.node 44 (.node 42 (.node 41 (.leaf 40) (.leaf 41)) (.node 43 (.leaf 42) (.leaf 43))) (.node 46 (.node 45 (.leaf 44) (.leaf 45)) (.node 47 (.leaf 46) (.leaf 47))))) (.node 56 (.node 52 (.node 50 (.node 49 (.leaf 48) (.leaf 49)) (.node 51 (.leaf 50) (.leaf 51))) (.node 54 (.node 53 (.leaf 52) (.leaf 53)) (.node 55 (.leaf 54) (.leaf 55)))) (.node 60 (.node 58 (.node 57 (.leaf 56) (.leaf 57)) (.node 59 (.leaf 58) (.leaf 59))) (.node 62 (.node 61 (.leaf 60) (.leaf 61)) (.node 63 (.leaf 62) (.leaf 63))))))) (.node 96 (.node 80 (.node 72 (.node 68 (.node 66 (.node 65 (.leaf 64) (.leaf 65)) (.node 67 (.leaf 66) (.leaf 67))) (.node 70 (.node 69 (.leaf 68) (.leaf 69)) (.node 71 (.leaf 70) (.leaf 71)))) (.node 76 (.node 74 (.node 73 (.leaf 72) (.leaf 73)) (.node 75 (.leaf 74) (.leaf 75))) (.node 78 (.node 77 (.leaf 76) (.leaf 77)) (.node 79 (.leaf 78) (.leaf 79))))) (.node 88 (.node 84 (.node 82 (.node 81 (.leaf 80) (.leaf 81)) (.node 83 (.leaf 82) (.leaf 83))) (.node 86 (.node 85 (.leaf 84) (.leaf 85)) (.node 87 (.leaf 86) (.leaf 87)))) (.node 92 (.node 90 (.node 89 (.leaf 88) (.leaf 89)) (.node 91 (.leaf 90) (.leaf 91))) (.node 94 (.node 93 (.leaf 92) (.leaf 93)) (.node 95 (.leaf 94) (.leaf 95)))))) (.node 112 (.node 104 (.node 100 (.node 98 (.node 97 (.leaf 96) (.leaf 97)) (.node 99 (.leaf 98) (.leaf 99))) (.node 102 (.node 101 (.leaf 100) (.leaf 101)) (.node 103 (.leaf 102) (.leaf 103)))) (.node 108 (.node 106 (.node 105 (.leaf 104) (.leaf 105)) (.node 107 (.leaf 106) (.leaf 107))) (.node 110 (.node 109 (.leaf 108) (.leaf 109)) (.node 111 (.leaf 110) (.leaf 111))))) (.node 120 (.node 116 (.node 114 (.node 113 (.leaf 112) (.leaf 113)) (.node 115 (.leaf 114) (.leaf 115))) (.node 118 (.node 117 (.leaf 116) (.leaf 117)) (.node 119 (.leaf 118) (.leaf 119)))) (.node 124 (.node 122 (.node 121 (.leaf 120) (.leaf 121)) (.node 123 (.leaf 122) (.leaf 123))) (.node 126 (.node 125 (.leaf 124) (.leaf 125)) (.node 127 (.leaf 126) (.leaf 127))))))))
def fN {β:Sort _} (n:Nat) (k:Nat->β):β:=fT trs n k
theorem I1 {β:Sort _} (n:Nat) (k:Nat->β):fN n k=k n:=al1 _ _ _
def fB {β:Sort _} (b:Bool) (k:Bool->β):β :=
 match b with
 |true=>k ao
 |false=>k an
theorem agk {β:Sort _} (b:Bool) (k:Bool->β):fB b k=k b:=by cases b<;>rfl
def fQ {β:Sort _} (q:Nat) (k:Nat->β):β :=
 fN (q%1000) fun f=>fN (q%1000000 / 1000) fun s=>fN (q / 1000000) fun t=>k (f+(1000*s+1000000*t))
theorem alK {β:Sort _} (q:Nat) (k:Nat->β):fQ q k=k q:=by
 unfold fQ;rw[I1,I1,I1]
 congr 1
 omega
def fA {β:Sort _} (a:Addr) (k:Addr->β):β :=
 match a with
 |⟨b,o,aj⟩=>fN b fun b=>k ⟨b,o,aj⟩
 |⟨b,o,aa q⟩=>fN b fun b=>fQ q fun q=>k ⟨b,o,aa q⟩
theorem aml {β:Sort _} (a:Addr) (k:Addr->β):fA a k=k a:=by
 obtain⟨b,o,s⟩:=a;cases s with
 |none=>simp only[fA,I1]
 |some q=>simp only[fA,I1,alK]
def fV0 {β:Sort _} (v:Value) (k:Value->β):β :=
 match v with
 |.pointer (aa a)=>fA a fun a=>k (.pointer (aa a))
 |.slice (aa a) n c=>fA a fun a=>k (.slice (aa a) n c)
 |.slice aj n c=>k (.slice aj n c)
 |.pointer aj=>k (.pointer aj)
 |.int t n=>k (.int t n)
 |.bool b=>k (.bool b)
 |.string s=>k (.string s)
 |v=>k v
theorem abG {β:Sort _} (v:Value) (k:Value->β):fV0 v k=k v:=by
 unfold fV0;split<;>simp only[aml]
def X_ {β:Sort _}:List Value->(List Value->β)->β
 |[],k=>k []
 |v::l,k=>fV0 v fun v=>X_ l fun l=>k (v::l)
theorem Wz {β:Sort _} (l:List Value) (k:List Value->β):X_ l k=k l:=by
 induction l generalizing k with
 |nil=>rfl
 |cons v l ih=>simp only[X_,abG,ih]
def fV {β:Sort _} (v:Value) (k:Value->β):β :=
 match v with
 |.agg ⟨l⟩=>X_ l fun l=>k (.agg ⟨l⟩)
 |.tuple ⟨l⟩=>X_ l fun l=>k (.tuple ⟨l⟩)
 |v=>fV0 v k
theorem Zq {β:Sort _} (v:Value) (k:Value->β):fV v k=k v:=by
 unfold fV;split
 ·rw[Wz]
 ·rw[Wz]
 ·rw[abG]
def fVl {β:Sort _}:List Value->(List Value->β)->β
 |[],k=>k []
 |v::l,k=>fV v fun v=>fVl l fun l=>k (v::l)
theorem aiS {β:Sort _} (l:List Value) (k:List Value->β):fVl l k=k l:=by
 induction l generalizing k with
 |nil=>rfl
 |cons v l ih=>simp only[fVl,Zq,ih]
def Yx {β:Sort _}:List (Option Value)->(List (Option Value)->β)->β
 |[],k=>k []
 |none::l,k=>Yx l fun l=>k (aj::l)
 |some v::l,k=>fV v fun v=>Yx l fun l=>k (aa v::l)
theorem aa4 {β:Sort _} (l:List (Option Value)) (k:List (Option Value)->β):Yx l k=k l:=by
 induction l generalizing k with
 |nil=>rfl
 |cons v l ih=>cases v<;>simp only[Yx,Zq,ih]
def fLi {β:Sort _}:List (Nat×Bool)->(List (Nat×Bool)->β)->β
 |[],k=>k []
 |(t,b)::l,k=>fB b fun b=>fLi l fun l=>k ((t,b)::l)
theorem abu {β:Sort _} (l:List (Nat×Bool)) (k:List (Nat×Bool)->β):fLi l k=k l:=by
 induction l generalizing k with
 |nil=>rfl
 |cons v l ih=>obtain⟨t,b⟩:=v;simp only[fLi,agk,ih]
def UZ {β:Sort _}:List Nat->(List Nat->β)->β
 |[],k=>k []
 |n::l,k=>fN n fun n=>UZ l fun l=>k (n::l)
theorem Vi {β:Sort _} (l:List Nat) (k:List Nat->β):UZ l k=k l:=by
 induction l generalizing k with
 |nil=>rfl
 |cons v l ih=>simp only[UZ,I1,ih]
def fCs {β:Sort _}:List aW->(List aW->β)->β
 |[],k=>k []
 |⟨i,b,s⟩::l,k=>fCs l fun l=>k (⟨i,b,s⟩::l)
theorem ajy {β:Sort _} (l:List aW) (k:List aW->β):fCs l k=k l:=by
 induction l generalizing k with
 |nil=>rfl
 |cons v l ih=>obtain⟨i,b,s⟩:=v;simp only[fCs,ih]
def ZF {β:Sort _} (r:Row) (k:Row->β):β :=
 match r with
 |⟨tm,n,cs⟩=>X_ tm fun tm=>fCs cs fun cs=>k ⟨tm,n,cs⟩
theorem ahG {β:Sort _} (r:Row) (k:Row->β):ZF r k=k r:=by
 obtain⟨tm,n,cs⟩:=r;simp only[ZF,Wz,ajy]
section
variable {R:Type}
def fSB {β:Sort _} (b:SB R) (k:SB R->β):β :=
 match b with
 |.inl (t,cs)=>fN t fun t=>fVl cs fun cs=>k (.inl (t,cs))
 |.inr (.inl (t,r))=>fN t fun t=>ZF r fun r=>k (.inr (.inl (t,r)))
 |.inr (.inr (.inl r))=>ZF r fun r=>k (.inr (.inr (.inl r)))
 |.inr (.inr (.inr x))=>k (.inr (.inr (.inr x)))
theorem ajs {β:Sort _} (b:SB R) (k:SB R->β):fSB b k=k b:=by
 rcases b with⟨t,cs⟩|⟨t,r⟩|r|x<;>simp only[fSB,aiS,ahG,I1]
def MW {β:Sort _}:Hp R->(Hp R->β)->β
 |[],k=>k []
 |none::l,k=>MW l fun l=>k (aj::l)
 |some b::l,k=>fSB b fun b=>MW l fun l=>k (aa b::l)
theorem Kj {β:Sort _} (l:Hp R) (k:Hp R->β):MW l k=k l:=by
 induction l generalizing k with
 |nil=>rfl
 |cons v l ih=>cases v<;>simp only[MW,ajs,ih]
def Jy {β:Sort _} (σ:SS R) (k:SS R->β):β :=
 match σ with
 |⟨tm,li,hp⟩=>Yx tm fun tm=>fLi li fun li=>MW hp fun hp=>k ⟨tm,li,hp⟩
theorem KX {β:Sort _} (σ:SS R) (k:SS R->β):Jy σ k=k σ:=by
 obtain⟨tm,li,hp⟩:=σ;simp only[Jy,aa4,abu,Kj]
end
end Rx
namespace Rx
open Go.RowKit State
section
variable {R:Type} {D:fR R} {P:Program} {T:eM R} {C:Ctx} {w w':World}
def Zs (σ:SS R) (o:Oper):Bool :=
 match o with
 |⟨dst,op,ty,pos,after,guard⟩ =>
 match op with
 |.move _|.assign _|.pick _ _ _|.alloc _|.box _ _|.build _ _|.buildSlice _ _ _|.nilCheck _|.unOp _ _ _|.fieldAddr _ _ _|.field _ _ _|.extract _ _=>ao
 |.load _ y|.store _ y _=>match ev σ.tm y with
  |some (.pointer (aa ⟨_,_,aj⟩))=>ao
  |_=>an
 |.binOp op _ y z _=>match YG op (ev σ.tm y) (ev σ.tm z) with
  |1=>an
  |2=>an
  |_=>ao
 |.call ⟨.builtin b,_,_⟩=>match b with
  |.append=>an
  |_=>ao
 |_=>an
theorem GL {σ:SS R} {o:Oper} {x:Out R} (h:uL P σ o=aa x):x.vc:=by
 unfold uL at h;split at h
 ·split at h
  ·split at h
   ·injection h with h;subst h;trivial
   ·cases h
  ·cases h
 ·cases h
theorem zS {σ:SS R} {y:Operand} {x:Out R} (h:wk σ y=aa x):x.vc:=by
 unfold wk at h;split at h
 ·injection h with h;subst h;trivial
 ·cases h
theorem Mm {σ:SS R} {t:TypeId} {cs:List Value} {x:Out R} (h:xp σ t cs=aa x):x.vc:=by
 unfold xp at h;injection h with h;subst h;trivial
theorem JJ {σ:SS R} {t:TypeId} {x:Out R} (h:vQ P σ t=aa x):x.vc:=by
 unfold vQ at h;split at h
 ·split at h
  ·injection h with h;subst h;trivial
  ·cases h
 ·cases h
theorem X6 {σ:SS R} {o:Oper} {x:Out R} {su:Bool} (h:ME P T σ o su=aa x) (he:Zs σ o=ao):x.vc:=by
 obtain⟨dst,op,ty,pos,after,guard⟩:=o;unfold ME at h;unfold Zs at he;cases op<;>simp only at h he<;>try (cases he)
 case move y =>
  unfold xo at h;split at h
  ·split at h
   ·rename_i hx;injection h with h;subst h;exact JJ hx
   ·exact zS h
  ·exact zS h
 case assign y =>
  unfold xo at h;split at h
  ·split at h
   ·rename_i hx;injection h with h;subst h;exact JJ hx
   ·exact zS h
  ·exact zS h
 case pick c y z =>
  unfold HS at h;split at h
  ·exact zS h
  ·exact zS h
  ·split at h
   ·injection h with h;subst h;trivial
   ·cases h
 case alloc t =>
  unfold Et at h;split at h
  ·split at h
   ·split at h
    ·exact Mm h
    ·cases h
   ·cases h
  ·cases h
 case box t y =>
  unfold LQ at h;split at h
  ·exact Mm h
  ·cases h
 case build t ps =>
  obtain⟨ps⟩:=ps;simp only at h;unfold Ep at h;split at h
  ·split at h
   ·split at h
    ·split at h
     ·injection h with h;subst h;trivial
     ·cases h
    ·cases h
   ·cases h
  ·split at h
   ·split at h
    ·split at h
     ·injection h with h;subst h;trivial
     ·cases h
    ·cases h
   ·cases h
  ·cases h
 case buildSlice t n ps =>
  obtain⟨ps⟩:=ps;simp only at h;split at h
  ·rename_i hx;injection h with h
   subst h;unfold uG at hx;split at hx
   ·split at hx
    ·split at hx
     ·split at hx
      ·injection hx with hx;subst hx;trivial
      ·cases hx
     ·cases hx
    ·cases hx
   ·cases hx
  ·unfold uU at h
   repeat' split at h
   all_goals first
    |(injection h with h;subst h;trivial)
    |cases h
 case load t y =>
  split at he
  ·rename_i i e hy;unfold Eo at h;rw[hy] at h;simp only at h;split at h
   ·rename_i x' h';injection h with h
    subst h;unfold Bo at h';rw[hy] at h';simp only at h';split at h'
    ·split at h'
     ·split at h'
      ·injection h' with h';subst h';trivial
      ·cases h'
     ·split at h'
      ·injection h' with h';subst h';trivial
      ·cases h'
     ·cases h'
    ·cases h'
   ·repeat' split at h
    all_goals first
     |(injection h with h;subst h;trivial)
     |cases h
  ·cases he
 case store t y z =>
  split at he
  ·rename_i i e hy;split at h
   ·unfold Es at h;rw[hy] at h;cases hz:ev σ.tm z with
    |none=>rw[hz] at h;cases h
    |some v =>
     rw[hz] at h;simp only at h;split at h
     ·split at h
      ·injection h with h;subst h;trivial
      ·cases h
     ·cases h
   ·cases h
  ·cases he
 case nilCheck y =>
  unfold LG at h;split at h
  ·injection h with h;subst h;trivial
  ·injection h with h;subst h;trivial
  ·cases h
 case binOp b t y z u =>
  unfold LX at h;split at he
  ·cases he
  ·cases he
  ·rename_i n1 n2;split at h
   ·rename_i hk;exact absurd hk n1
   ·rename_i hk;exact absurd hk n2
   ·have key:∀ neg,zU P σ neg t y z=aa x->x.vc:=fun neg h=>by
     unfold zU at h;split at h
     ·split at h
      ·injection h with h;subst h;trivial
      ·cases h
     ·cases h
    split at h
    ·exact key _ h
    ·exact key _ h
    ·cases h
   ·have key:∀ neg,z4 P σ neg t y z=aa x->x.vc:=fun neg h=>by
     unfold z4 at h;split at h
     ·split at h
      ·split at h
       ·split at h
        ·injection h with h;subst h;trivial
        ·cases h
       ·cases h
      ·cases h
     ·cases h
    split at h
    ·exact key _ h
    ·exact key _ h
    ·cases h
   ·have key:∀ neg,zO P σ (Ps T) neg t y z=aa x->x.vc:=fun neg h=>by
     unfold zO at h
     repeat' split at h
     all_goals first
      |(injection h with h;subst h;trivial)
      |cases h
    split at h
    ·exact key _ h
    ·exact key _ h
    ·cases h
   ·exact GL h
 case unOp u t y =>
  split at h
  ·unfold LO at h;split at h
   ·injection h with h;subst h;trivial
   ·cases h
  ·exact GL h
 case fieldAddr t y k =>
  unfold wE at h;split at h
  ·split at h
   ·split at h
    ·split at h
     ·split at h
      ·cases h
      ·split at h
       ·injection h with h;subst h;trivial
       ·split at h
        ·injection h with h;subst h;trivial
        ·cases h
     ·cases h
    ·cases h
   ·cases h
  ·cases h
 case field t y k =>
  unfold Eu at h;split at h
  ·split at h
   ·split at h
    ·split at h
     ·split at h
      ·injection h with h;subst h;trivial
      ·cases h
     ·injection h with h;subst h;trivial
     ·cases h
    ·cases h
   ·cases h
  ·cases h
 case extract y k =>
  unfold zP at h;split at h
  ·split at h
   ·injection h with h;subst h;trivial
   ·cases h
  ·cases h
 case call c =>
  obtain⟨callee,args,ts⟩:=c;obtain⟨args⟩:=args;obtain⟨ts⟩:=ts;cases callee<;>simp only at h he<;>try (cases he)
  rename_i b;split at h
  ·simp at he
  ·split at h
   ·unfold LZ at h;split at h
    ·injection h with h;subst h;trivial
    ·cases h
   ·exact GL h
  ·exact GL h
structure Vc (p:Prop):Prop where
 out:p
structure aY (p:Prop):Prop where
 out:p
def Zz (e:Bool) (p q:Prop):Prop :=
 match e with
 |true=>q
 |false=>Vc p/\q
structure oB (why:Nat):Prop where
 out:False
theorem oB.elim {n:Nat} {p:Prop} (h:oB n):p:=h.out.elim
def Ly (v:Value):Bool :=
 match v with
 |.tuple ⟨[]⟩=>ao
 |_=>an
theorem OR {v:Value} (h:Ly v=ao):v=vT:=by
 unfold Ly at h;split at h
 ·rfl
 ·cases h
def QB (P:Program) (T:eM R) (σ:SS R) (o:Oper) (k:SS R->Prop) (su:Bool):Prop :=
 match ME P T σ o su with
 |some x=>if tidy σ o.dst x then Zz (Zs σ o) x.vc (Jy (yz σ o.dst x.v x.lit x.hp) k) else oB 1
 |none=>oB 2
def Rw (P:Program) (T:eM R) (σ:SS R) (o:Oper) (k:SS R->Prop):Prop :=
 match HO P T σ o with
 |none=>QB P T σ o k ao
 |some b=>(b=ao->QB P T σ o k ao)/\(b=an->QB P T σ o k an)
def LR (ops:List Oper) (j:Nat):Option Tmp :=
 match ops[j]? with
 |some o=>o.dst
 |none=>aj
def wA (P:Program) (T:eM R) (ops:List Oper):List Oper->SS R->(SS R->Prop)->Prop
 |[],σ,k=>k σ
 |o::r,σ,k =>
  match o.guard with
  |none=>Rw P T σ o fun oV=>wA P T ops r oV k
  |some (j,want) =>
   match LR ops j with
   |none=>oB 3
   |some t =>
    match look σ.li t with
    |some b=>if(b==want)=ao then Rw P T σ o fun oV=>wA P T ops r oV k else Jy (yz σ o.dst undef aj σ.hp) fun σ=>wA P T ops r σ k
    |none =>
     match σ.tm[t]? with
     |some (aa (.bool b)) =>
      (b=want->Jy (assume σ t want) fun σ=>Rw P T σ o fun oV=>wA P T ops r oV k) /\
      (b = !want->Jy (yz (assume σ t (!want)) o.dst undef aj σ.hp) fun σ=>wA P T ops r σ k)
     |some (aa v) =>
      match Ly v with
      |true=>Jy (yz σ o.dst undef aj σ.hp) fun σ=>wA P T ops r σ k
      |false=>oB 4
     |_=>oB 4
theorem Y9 {σ:SS R} {a:Act} {t:Nat} {b:Bool} (hm:M D C σ a w) (h:σ.tm[t]?=aa (aa (.bool b))):a.tmps[t]?=aa (.bool b):=by
 obtain⟨ρ,ft,_,h1,_⟩:=hm.ex;have:=(h1.val t _ h).1
 simpa using this
theorem I5 {ops:List Oper} {j t:Nat} {a:Act} {b:Bool} (h:LR ops j=aa t) (ha:a.tmps[t]?=aa (.bool b)):yielded ops.toArray a.tmps j=aa b:=by
 unfold LR at h;unfold yielded;split at h
 ·rename_i o ho;simp[ho,h,ha]
 ·cases h
theorem Z_ {ops:List Oper} {σ:SS R} {j t:Nat} {a:Act} (hm:M D C σ a w) (h:LR ops j=aa t) (ht:σ.tm[t]?=aa (aa undef)):yielded ops.toArray a.tmps j=aj:=by
 have ha:a.tmps[t]?=aa undef:=by
  obtain⟨ρ,ft,_,h1,_⟩:=hm.ex;have:=(h1.val t _ ht).1
  simpa [undef,bV,nS] using this
 unfold LR at h;unfold yielded;split at h
 ·rename_i o ho;simp[ho,h,ha,undef]
 ·cases h
theorem ahh (hT:cN D P T) {σ:SS R} {o:Oper} {k:SS R->Prop} {a:Act} {K:Act->World->Prop} {Q:Exit->Act->World->Prop} (h:Rw P T σ o k) (hm:M D C σ a w) (hn:C.n0≤σ.hp.length)
  (hK:∀ oV a' w',k oV->σ.hp.length≤oV.hp.length->M D C oV a' w'->K a' w'):o.wp P a w K Q:=by
 have one:∀ b,goes (HO P T σ o) b->QB P T σ o k b->o.wp P a w K Q:=by
  intro b hb h;unfold QB at h;split at h
  ·rename_i x hx;split at h
   ·rename_i ht;have uz:=UN hT hb hx;have:x.vc/\k (yz σ o.dst x.v x.lit x.hp):=by
     rw[KX] at h;unfold Zz at h;split at h
     ·rename_i he;exact⟨X6 hx he,h⟩
     ·exact⟨h.1.out,h.2⟩
    exact hm.step uz ht this.1 (fun a' w' mR=>hK _ a' w' this.2 (by rw[Ib];exact uz.len) mR) hn
   ·exact h.elim
  ·exact h.elim
 unfold Rw at h;split at h
 ·rename_i hf;exact one ao (dO ⟨hf,rfl⟩) h
 ·rename_i b hf;cases b with
  |true=>exact one ao (e_ hf) (h.1 rfl)
  |false=>exact one an (e_ hf) (h.2 rfl)
theorem Gy (hT:cN D P T) {ops:List Oper} {Q:Exit->Act->World->Prop}:∀ (rest:List Oper) {σ:SS R} {k:SS R->Prop} {a:Act} {w:World},wA P T ops rest σ k->M D C σ a w->C.n0≤σ.hp.length ->
  (∀ oV a' w',k oV->C.n0≤oV.hp.length->M D C oV a' w'->Q .normal a' w')->wpList P ops.toArray Q rest a w
 |[],σ,k,a,w,h,hm,hn,hK=>hK σ a w h hn hm
 |o::r,σ,k,a,w,h,hm,hn,hK=>by
  simp only[wA,KX] at h;have run:∀ {σ:SS R},kL o (yielded ops.toArray a.tmps)=ao->M D C σ a w->C.n0≤σ.hp.length->(Rw P T σ o fun oV=>wA P T ops r oV k)->wpList P ops.toArray Q (o::r) a w:=by
   intro σ hw hm hn h;unfold wpList;rw[if_pos hw];exact dO (ahh hT h hm hn fun oV a' w' h' BJ mR=>Gy hT r h' mR (jz hn BJ) hK)
  have skip:∀ {σ:SS R},kL o (yielded ops.toArray a.tmps)=an->M D C σ a w->C.n0≤σ.hp.length->wA P T ops r (yz σ o.dst undef aj σ.hp) k->wpList P ops.toArray Q (o::r) a w:=by
   intro σ hw hm hn h;unfold wpList;rw[if_neg (by simp[hw])]
   exact Gy hT r h hm.undef (by rw[Ib];exact hn) hK
  split at h
  ·rename_i hg;exact run (by simp[kL,hg]) hm hn h
  ·rename_i j want hg;split at h
   ·exact h.elim
   ·rename_i t hd;split at h
    ·rename_i b hl;have hy:=I5 hd (Y9 hm (hm.li t b (NC hl)));split at h
     ·rename_i hb;exact run (by simp[kL,hg,hy];simpa using hb) hm hn h
     ·rename_i hb;exact skip (by simp[kL,hg,hy];simpa using hb) hm hn h
    ·split at h
     ·rename_i b hb;have hy:=I5 hd (Y9 hm hb)
      by_cases he:b=want
      ·subst he;exact run (by simp[kL,hg,hy]) (hm.assume hb) (by simpa [assume] using hn) (h.1 rfl)
      ·have he2:b = !want:=by cases b<;>cases want<;>simp_all
       have h2:=h.2 he2;rw[he2] at hb;exact skip (by simp[kL,hg,hy];exact he) (hm.assume hb) (by simpa [assume] using hn) h2
     ·rename_i v yt hb;split at h
      ·rename_i hu;rw[OR hu] at hb;have hy:=Z_ hm hd hb;have e:kL o (yielded ops.toArray a.tmps)=((aj:Option Bool)==aa want):=by simp only[kL,hg,hy]
       exact skip (by rw[e];cases want<;>rfl) hm hn h
      ·exact h.elim
     ·exact h.elim
def jj:Code->List Nat->Option Code
 |c,[]=>aa c
 |.seq a _,0::p=>jj a p
 |.seq _ b,1::p=>jj b p
 |.cond _ a _,0::p=>jj a p
 |.cond _ _ b,1::p=>jj b p
 |.block _ c,0::p=>jj c p
 |.loop c,0::p=>jj c p
 |_,_=>aj
theorem oA:∀ (p:List Nat) (c d:Code) (q:List Nat),jj c p=aa d->jj c (p++q)=jj d q
 |[],c,d,q,h=>by
  cases c<;>simp only[jj] at h<;>(injection h with h;subst h;rfl)
 |i::p,c,d,q,h=>by
  cases c<;>simp only[List.cons_append]<;>(try (cases i<;>simp only[jj] at h<;>cases h))
  ·rename_i a b;rcases i with _|_|i
   ·exact oA p a d q h
   ·exact oA p b d q h
   ·simp[jj] at h
  ·rename_i x a b;rcases i with _|_|i
   ·exact oA p a d q h
   ·exact oA p b d q h
   ·simp[jj] at h
  ·rename_i id a;rcases i with _|i
   ·exact oA p a d q h
   ·simp[jj] at h
  ·rename_i a;rcases i with _|i
   ·exact oA p a d q h
   ·simp[jj] at h
abbrev It (R:Type):=(List Nat) ⊕ Nat ⊕ (SS R->Prop)
def pN (D:fR R) (P:Program) (C:Ctx) (root:Code) (k:Exit->SS R->Prop):List (It R)->Exit->Act->World->Prop
 |[],e,a,w=>∃ σ,k e σ/\M D C σ a w
 |.inl p::r,e,a,w=>match e with
  |.normal=>match jj root p with
   |some c=>c.wp P (pN D P C root k r) a w
   |none=>False
  |e=>pN D P C root k r e a w
 |.inr (.inl id)::r,e,a,w=>Li id (pN D P C root k r) e a w
 |.inr (.inr J)::r,e,a,w=>match e with
  |.normal=>∃ σ,J σ/\C.n0≤σ.hp.length/\M D C σ a w
  |e=>pN D P C root k r e a w
structure At (D:fR R) (P:Program) (root:Code) (n0:Nat) (k:Exit->SS R->Prop) (todo:List (It R)) (σ:SS R):Prop where
 run:∀ C a w,C.n0=n0->n0≤σ.hp.length->M D C σ a w->pN D P C root k todo .normal a w
def DW (id:Nat):List (It R)->Option (List (It R))
 |[]=>aj
 |.inr (.inl i)::r=>if fj i id then aa r else DW id r
 |.inl _::r=>DW id r
 |.inr (.inr _)::r=>DW id r
theorem E0 {root:Code} {k:Exit->SS R->Prop} {id:Nat} {a:Act}:∀ {todo:List (It R)},
  (match DW id todo with|some r=>pN D P C root k r .normal a w|none=>∃ σ,k (.exit id) σ/\M D C σ a w)->pN D P C root k todo (.exit id) a w
 |[],h=>h
 |.inl _::r,h=>by simp only[DW] at h;simp only[pN];exact E0 h
 |.inr (.inr _)::r,h=>by simp only[DW] at h;simp only[pN];exact E0 h
 |.inr (.inl i)::r,h=>by
  simp only[DW] at h;simp only[pN,Li]
  by_cases he:i=id
  ·subst he;rw[if_pos rfl];rw[if_pos (by simp)] at h
   exact h
  ·rw[if_neg (fun e=>he e.symm)]
   rw[if_neg (by simp[he])] at h
   exact E0 h
theorem HL {root:Code} {k:Exit->SS R->Prop} {a:Act}:∀ {todo:List (It R)},(∃ σ,k .ret σ/\M D C σ a w)->pN D P C root k todo .ret a w
 |[],h=>h
 |.inl _::r,h=>by simp only[pN];exact HL h
 |.inr (.inr _)::r,h=>by simp only[pN];exact HL h
 |.inr (.inl i)::r,h=>by simp only[pN,Li];exact HL h
end
end Rx
namespace Rx
open Go.RowKit State
def Ko (tm:List (Option Value)):List Nat->List (Option Value)
 |[]=>[]
 |t::ts=>(match tm[t]? with
  |some (aa v)=>aa v
  |_=>aj)::Ko tm ts
def vG:List Value->List (Option Value)
 |[]=>[]
 |v::l=>aa v::vG l
def slot (ts:List Nat) (vs:List Value) (i:Nat):Option Value :=
 match ts,vs with
 |t::ts,v::vs=>if fj t i then aa v else slot ts vs i
 |_,_=>aj
def frame (ts:List Nat) (vs:List Value):Nat->Nat->List (Option Value)
 |_,0=>[]
 |i,n+1=>slot ts vs i::frame ts vs (i+1) n
section
variable {R:Type} {D:fR R} {P:Program} {T:eM R} {C:Ctx} {ρ:Env} {ft:Nat->Nat->Prop} {w w':World}
def tF (n:Nat):Hp R->Bool
 |[]=>ao
 |some (.inl (_,cs))::h=>iJ n cs&&tF n h
 |_::h=>tF n h
theorem BV:∀ {r:Hp R} {n i:Nat} {B:SB R},tF n r=ao->r[i]?=aa (aa B)->inside n B
 |[],n,i,B,_,hB=>by simp at hB
 |x::r,n,i,B,h,hB=>by
  have hr:tF n r=ao/\(i=0->inside n B):=by
   rcases x with _|⟨t,cs⟩|⟨t,ro⟩|ro|x
   ·exact⟨h,fun e=>by subst e;simp at hB⟩
   ·simp only[tF,aM] at h;exact⟨h.2,fun e=>by subst e;simp only[cf,cv] at hB;subst hB;exact h.1⟩
   ·exact⟨h,fun e=>by subst e;simp only[cf,cv] at hB;subst hB;trivial⟩
   ·exact⟨h,fun e=>by subst e;simp only[cf,cv] at hB;subst hB;trivial⟩
   ·exact⟨h,fun e=>by subst e;simp only[cf,cv] at hB;subst hB;trivial⟩
  cases i with
  |zero=>exact hr.2 rfl
  |succ i=>simp only[bK] at hB;exact BV hr.1 hB
theorem GH (ts:List Nat) (vs:List Value):∀ (n i j:Nat),(frame ts vs i n).length=n/\(j<n->(frame ts vs i n)[j]?=aa (slot ts vs (i+j)))
 |0,i,j=>⟨rfl,fun h=>by omega⟩
 |n+1,i,j=>by
  obtain⟨h1,h2⟩:=GH ts vs n (i+1) (j-1);refine⟨by simp[frame,h1],fun h=>?_⟩
  cases j with
  |zero=>simp[frame]
  |succ j =>
   simp only[frame,bK];have:=h2 (by omega)
   simp only[mA] at this;rw[this]
   congr 2
   omega
def PY (P:Program) (σ:SS R):ResultVar->Option Value
 |.tmp t=>ev σ.tm (.tmp t)
 |.cell p t =>
  match ev σ.tm (.tmp p) with
  |some (.pointer (aa ⟨i,e,aj⟩))=>match Bo P σ t (.tmp p) with
   |some x=>aa x.v
   |none=>aj
  |_=>aj
def E3 (P:Program) (σ:SS R):List ResultVar->Option (List Value)
 |[]=>aa []
 |r::l =>
  match PY P σ r,E3 P σ l with
  |some v,aa vs=>aa (v::vs)
  |_,_=>aj
def pack:List Value->Value
 |[v]=>v
 |vs=>.tuple ⟨vs⟩
def iB (P:Program) (rs:List ResultVar) (G:Value->Hp R->Prop) (e:Exit) (σ:SS R):Prop :=
 match e with
 |.ret|.normal=>match E3 P σ rs with
  |some vs=>aY (G (pack vs) σ.hp)
  |none=>oB 8
 |_=>oB 9
def TK (a:Act):ResultVar->Sem Value
 |.tmp t=>pure (a.tmps.getD t undef)
 |.cell p t=>do loadVar t (← asAddr (a.tmps.getD p undef))
theorem ach {σ:SS R} {r:ResultVar} {v:Value} {a:Act} (ht:TM ρ σ.hp.length σ.tm a) (hm:HM D C ρ ft σ.hp w) (hl:LI σ.li σ.tm) (h:PY P σ r=aa v) :
  (TK a r).run P w=.ok (bV ρ v) w:=by
 unfold TK;cases r with
 |tmp t =>
  simp only[PY] at h;have:=(eJ ht h).1;simp only[Cw] at this;simp[← this]
 |cell p t =>
  simp only[PY] at h;split at h
  ·rename_i i e hp;split at h
   ·rename_i x hx;injection h with h
    subst h;have hev:=(eJ ht hp).1;simp only[Cw,bV] at hev;have uz := SI (D := D) (o := ⟨aj, .load t (.tmp p), 0, "", #[], aj⟩) rfl hx
    have PD:x.vc:=by
     unfold Bo at hx;rw[hp] at hx;simp only at hx;split at hx
     ·split at hx
      ·split at hx
       ·injection hx with hx;subst hx;trivial
       ·cases hx
      ·split at hx
       ·injection hx with hx;subst hx;trivial
       ·cases hx
      ·cases hx
     ·cases hx
    have ob:∃ v',(loadVar t (iQ ρ ⟨i,e,aj⟩)).run P w=.ok v' w/\v'=bV ρ x.v:=by
     unfold Bo at hx;rw[hp] at hx;simp only at hx;split at hx
     ·rename_i t' cs hi;split at hx
      ·rename_i hg;split at hx
       ·rename_i v hv;cases hx;have hc:=CG hm hi e;rw[hv] at hc;exact⟨_,CK hg (by simpa [iQ,cellOf,gy] using hc),rfl⟩
       ·cases hx
      ·rename_i n hg;split at hx
       ·rename_i hle;have hle:=jQ hle;cases hx;have hl:(((cs.drop e).take n).map (bV ρ)).length=n:=by simp;omega
        refine⟨_,G0 (cs:=((cs.drop e).take n).map (bV ρ)) (by rw[hl];exact hg) (fun j v hv=>?_),?_⟩
        ·simp only[iQ,cellOf];rw[p9,jr,CG hm hi];have hj:j<n:=by have:=(aU.1 hv).1;omega
         simp only[fu,o9,hj,if_true,o_] at hv;exact hv
        ·show _=bV ρ (.agg _)
         rw[Ae];simp
       ·cases hx
      ·cases hx
     ·cases hx
    obtain⟨v',h1,rfl⟩:=ob;simp only[dA,hev,asAddr,dZ,cB,h1]
   ·cases h
  ·cases h
theorem Sq {σ:SS R} {a:Act} (ht:TM ρ σ.hp.length σ.tm a) (hm:HM D C ρ ft σ.hp w) (hl:LI σ.li σ.tm):∀ {rs:List ResultVar} {vs:List Value},E3 P σ rs=aa vs ->
  (rs.mapM (m:=Sem) (TK a)).run P w=.ok (vs.map (bV ρ)) w
 |[],vs,h=>by
  simp only[E3] at h;injection h with h
  subst h;simp
 |r::rs,vs,h=>by
  simp only[E3] at h;split at h
  ·rename_i v vs' hv ET;injection h with h
   subst h;have h1:=ach ht hm hl hv;have h2:=Sq ht hm hl ET;rw[List.mapM_cons,dA,h1,cB,dA,h2];simp
  ·cases h
theorem aaf {σ:SS R} {a:Act} {fn:Func} {vs:List Value} (ht:TM ρ σ.hp.length σ.tm a) (hm:HM D C ρ ft σ.hp w) (hl:LI σ.li σ.tm) (h:E3 P σ fn.results.toList=aa vs) :
  (results fn a.tmps).run P w=.ok (bV ρ (pack vs)) w:=by
 have h1:=Sq ht hm hl h;have e:results fn a.tmps=(do let vs ← fn.results.mapM (TK a);pure (if h:vs.size=1 then vs[0] else .tuple vs)):=by
  unfold results
  congr 1
 rw[e,dA,Eb,XE,h1];simp only[cB,dZ]
 congr 1
 cases vs with
 |nil=>simp[pack,bV,nS]
 |cons v l =>
  cases l with
  |nil=>simp[pack]
  |cons u l=>simp[pack,bV,nS,lB]
theorem HM.ctx {C':Ctx} {h:Hp R} (hm:HM D C ρ ft h w) (h1:C'.w0=C.w0) (h2:C'.U=C.U):HM D C' ρ ft h w where
 at_ i B hi:=by
  obtain⟨g1,g2⟩:=hm.at_ i B hi;refine⟨?_,g2⟩;rcases B with⟨t,cs⟩|⟨t,r⟩|r|x
  ·exact g1
  ·exact g1
  ·simp only[hold,h1,h2] at g1 ⊢;exact g1
  ·exact g1
 lt:=hm.lt
 fresh i k hk:=by rw[h1,h2];exact hm.fresh i k hk
 apart:=hm.apart
 some_:=hm.some_
 kept:=by rw[h1,h2];exact hm.kept
theorem Nz {f:FuncId} {fn:Func} {root:Code} {args:List Value} {hp:Hp R} {G:Value->Hp R->Prop} (hf:P.funcs[f]?=aa fn) (hb:fn.body=aa root)
  (h:At D P root hp.length (iB P fn.results.toList G) [.inl []] ⟨vG args++lC (fn.ntmps-args.length) aj,[],hp⟩) (hm:HM D C ρ ft hp w) (hi:iJ hp.length args=ao) :
  Calls P f (args.map (bV ρ)).toArray w fun e w'=>∃ gF kF v xc,(∀ i,i<hp.length->gF i=ρ i)/\e=.returned (bV gF v)/\G v xc/\HM D C gF kF xc w':=by
 have GC:∀ (l:List Value),vG l=l.map aa:=fun l=>by induction l with
  |nil=>rfl
  |cons v l ih=>simp[vG,ih]
 refine calls_of_wp hf hb ?_;have hM:M D ⟨C.w0,C.U,ρ,hp.length⟩ ⟨vG args++lC (fn.ntmps-args.length) aj,[],hp⟩ { tmps:=(args.map (bV ρ)).toArray++Array.replicate (fn.ntmps-(args.map (bV ρ)).toArray.size) undef,defers:=[] } w:=by
  refine⟨rfl,fun t b hb=>(by cases hb),ρ,ft,fun i _=>rfl,⟨by simp[GC],fun t v ht=>?_⟩,hm.ctx rfl rfl⟩
  rw[GC] at ht;have cd:t<args.length:=by
   rcases ct t args.length with cd|ki
   ·exact cd
   ·rw[dW (by simpa using ki),List.getElem?_replicate] at ht
    split at ht
    ·injection ht with ht;cases ht
    ·cases ht
  rw[da (by simpa using cd),fu] at ht
  cases hv:args[t]? with
  |none=>rw[hv] at ht;cases ht
  |some u =>
   rw[hv] at ht;simp only[kp,cv] at ht;subst ht;refine⟨?_,xd.1 hi u (lI hv)⟩;rw[Array.getElem?_append_left (by simpa using cd)]
   simp[hv]
 have hs:=h.run ⟨C.w0,C.U,ρ,hp.length⟩ _ w rfl (a_ _) hM;simp only[pN,jj] at hs;refine wp_mono hs fun e a' w' ⟨σ,hk,YD⟩=>?_
 obtain⟨gF,kF,g0,g1,g2⟩:=YD.ex;have key:∀ (e:Exit),iB P fn.results.toList G e σ->(e=.ret∨e=.normal)->∃ v,(results fn a'.tmps).run P w'=.ok v w'/\∃ gF kF v2 xc,(∀ i,i<hp.length->gF i=ρ i)/\Ending.returned v=.returned (bV gF v2)/\G v2 xc/\HM D C gF kF xc w':=by
  intro e hk he;have:∃ vs,E3 P σ fn.results.toList=aa vs/\G (pack vs) σ.hp:=by
   rcases he with rfl|rfl
   ·simp only[iB] at hk;split at hk
    ·exact⟨_,by assumption,hk.out⟩
    ·exact hk.elim
   ·simp only[iB] at hk;split at hk
    ·exact⟨_,by assumption,hk.out⟩
    ·exact hk.elim
  obtain⟨vs,h1,h2⟩:=this;exact⟨_,aaf g1 g2 YD.li h1,gF,kF,pack vs,σ.hp,g0,rfl,h2,g2.ctx rfl rfl⟩
 cases e with
 |ret=>exact⟨YD.defers,key _ hk (dO rfl)⟩
 |normal=>exact⟨YD.defers,key _ hk (e_ rfl)⟩
 |_=>exact oB.elim hk
end
end Rx
namespace Rx
open Go.RowKit State
section
variable {R:Type} {D:fR R} {C:Ctx} {ρ gF:Env} {ft kF:Nat->Nat->Prop} {w w':World} {h hr hx h':Hp R}
def ij:SB R->Bool
 |.inr (.inr (.inl _))=>ao
 |_=>an
theorem zz {C':Ctx} {i:Nat} {F:Nat->Prop} {B:SB R} (hB:ij B=an) (hh:hold D C ρ i F w B):hold D C' ρ i F w B:=by
 rcases B with⟨t,cs⟩|⟨t,r⟩|r|x
 ·exact hh
 ·exact hh
 ·cases hB
 ·exact hh
def Seen (hr:Hp R) (b:Nat):Prop:=∃ X,hr[b]?=aa (aa X)
def Qw (w:World) (hr:Hp R) (ft:Nat->Nat->Prop) (ρ:Env) (n:Nat):Ctx:=⟨w,fun k=>∃ b,Seen hr b/\ft b k,ρ,n⟩
theorem HM.sub (hm:HM D C ρ ft h w) (nA:∀ (b:Nat) (X:SB R),hr[b]?=aa (aa X)->h[b]?=aa (aa X)) (kj:tF hr.length hr=ao) (n:Nat) :
  HM D (Qw w hr ft ρ n) ρ (fun b k=>Seen hr b/\ft b k) hr w where
 at_ i B hB:=by
  obtain⟨h1,h2⟩:=hm.at_ i B (nA i B hB);refine⟨?_,BV kj hB⟩;have MR:(fun k=>Seen hr i/\ft i k)=ft i:=funext fun k=>propext ⟨fun h=>h.2,fun h=>⟨⟨B,hB⟩,h⟩⟩
  rw[MR];rcases B with⟨t,cs⟩|⟨t,r⟩|r|x
  ·exact h1
  ·exact h1
  ·obtain⟨g1,g2,g3,g4,g5,arr,g6,g7⟩:=h1;refine⟨g1,g2,g3,g4,g5,arr,fun hn h0=>?_,g7⟩
   obtain⟨q1,q2,t,fz,q3⟩:=g6 hn h0;refine⟨lH q1 hm.kept.size,fun⟨b,_,hb⟩=>?_,t,fz,by rw[← q3];exact hm.kept.block _ q1 q2⟩
   rcases hm.fresh b _ hb with hu|ki
   ·exact q2 hu
   ·omega
  ·exact h1
 lt i k hk:=hm.lt i k hk.2
 fresh i k hk:=dO ⟨i,hk.1,hk.2⟩
 apart i j k hi hj:=hm.apart i j k hi.2 hj.2
 some_ i k hk:=hk.1
 kept:=Kept.refl _ _
theorem HM.back (hm:HM D C ρ ft h w) (nA:∀ (b:Nat) (X:SB R),hr[b]?=aa (aa X)->h[b]?=aa (aa X)) (hle:hr.length≤h.length) {n:Nat}
  (mR:HM D (Qw w hr ft ρ n) gF kF hx w') (qW:∀ b,b<hr.length->gF b=ρ b) (hlx:hr.length≤hx.length) (hal:hr.length<hx.length->hr.length=h.length)
  (hv:∀ (b:Nat) (X:SB R),hx[b]?=aa (aa X)->(b<hr.length->∃ Y,hr[b]?=aa (aa Y))/\(ij X=an∨∃ Y,hr[b]?=aa (aa Y)/\ij Y=ao))
  (hlen:h'.length=if hr.length<hx.length then hx.length else h.length)
  (uM:∀ (b:Nat),(∃ Y,hr[b]?=aa (aa Y)/\ij Y=an)∨h.length≤b->h'[b]?=if b<hx.length then hx[b]? else aj)
  (QA:∀ (b:Nat),b<h.length->¬ (∃ Y,hr[b]?=aa (aa Y)/\ij Y=an)->h'[b]?=h[b]?) :
  HM D C (fun b=>if b<h.length then ρ b else gF b) (fun b k=>(((∃ Y,hr[b]?=aa (aa Y)/\ij Y=an)∨h.length≤b)/\kF b k)∨(¬ ((∃ Y,hr[b]?=aa (aa Y)/\ij Y=an)∨h.length≤b)/\ft b k)) h' w':=by
 have Bt:h'.length≤hx.length∨h'.length=h.length:=by
  rw[hlen];split
  ·exact dO (a_ _)
  ·exact e_ rfl
 have ki:h.length≤h'.length:=by
  rw[hlen];split
  ·rename_i cd;have:=hal cd;omega
  ·exact a_ _
 let T:Nat->Prop:=fun b=>∃ Y,hr[b]?=aa (aa Y)/\ij Y=an
 have apV:∀ b,T b->b<hr.length:=fun b ⟨Y,hY,_⟩=>(aU.1 hY).1
 have R9:∀ j,j<hx.length->(if j<h.length then ρ j else gF j)=gF j:=fun j hj=>by
  split
  ·rename_i cd;rcases ct j hr.length with h1|h1
   ·exact(qW j h1).symm
   ·have:=hal (by omega);omega
  ·rfl
 refine hm.step T ?_ (fun i hi=>by simp[hi]) ki ?_ ?_ ?_ ?_
 ·-- anP may have aqo written
  refine⟨mR.kept.os,mR.kept.tape,mR.kept.output,mR.kept.size,fun k hk hn=>mR.kept.block k hk fun⟨b,⟨X,hX⟩,hb⟩=>hn ⟨b,⟨X,hX,?_⟩,hb⟩⟩
  cases hX2:ij X with
  |false=>rfl
  |true =>
   have:=(hm.at_ b X (nA b X hX)).1;rcases X with⟨t,cs⟩|⟨t,r⟩|r|x<;>simp[ij] at hX2
   exact absurd hb (this.1 k)
 ·intro i B hi hB;have FM:T i∨h.length≤i:=by
   rcases ct i h.length with cd|si
   ·exact dO (hi cd)
   ·exact e_ si
  rw[uM i FM] at hB;split at hB
  ·rename_i cd;obtain⟨g1,g2⟩:=mR.at_ i B hB;have SQ:ij B=an:=by
    rcases(hv i B hB).2 with h1|⟨Y,hY,X9⟩
    ·exact h1
    ·rcases FM with⟨Y',S7,J4⟩|si
     ·rw[hY] at S7;injection S7 with e;injection e with e;subst e;rw[X9] at J4;cases J4
     ·have:=(aU.1 hY).1;omega
   refine⟨?_,CF ?_ g2⟩
   ·have e:(fun k=>((T i∨h.length≤i)/\kF i k)∨(¬ (T i∨h.length≤i)/\ft i k))=kF i:=funext fun k=>propext ⟨fun h=>h.elim (fun h=>h.2) (fun h=>absurd FM h.1),fun h=>dO ⟨FM,h⟩⟩
    show hold D C _ i (fun k=>((T i∨h.length≤i)/\kF i k)∨(¬ (T i∨h.length≤i)/\ft i k)) w' B
    rw[e];exact zz SQ (I2 g1 R9 cd g2)
   ·rw[hlen];split
    ·exact a_ _
    ·have:hx.length=hr.length:=by omega
     omega
  ·cases hB
 ·intro i hi hn;refine⟨QA i hi hn,fun k=>?_⟩
  have:¬ (T i∨h.length≤i):=fun hh=>hh.elim hn (fun h=>by omega)
  exact⟨fun h=>h.elim (fun h=>absurd h.1 this) (fun h=>h.2),fun h=>e_ ⟨this,h⟩⟩
 ·intro i k hi hk;have FM:T i∨h.length≤i:=by
   rcases ct i h.length with cd|si
   ·exact dO (hi cd)
   ·exact e_ si
  have nQ:kF i k:=hk.elim (fun h=>h.2) (fun h=>absurd FM h.1)
  refine⟨?_,mR.lt i k nQ,?_⟩
  ·rcases mR.fresh i k nQ with⟨b,⟨X,hX⟩,hb⟩|si
   ·refine dO ⟨b,⟨X,hX,?_⟩,hb⟩;cases hX2:ij X with
    |false=>rfl
    |true =>
     have:=(hm.at_ b X (nA b X hX)).1;rcases X with⟨t,cs⟩|⟨t,r⟩|r|x<;>simp[ij] at hX2
     exact absurd hb (this.1 k)
   ·exact e_ si
  ·obtain⟨B,hB⟩:=mR.some_ i k nQ;refine⟨B,?_⟩;rw[uM i FM,if_pos (aU.1 hB).1];exact hB
 ·intro i j k hi hj Hy HC;have MU:T i∨h.length≤i:=by
   rcases ct i h.length with cd|si
   ·exact dO (hi cd)
   ·exact e_ si
  have hTj:T j∨h.length≤j:=by
   rcases ct j h.length with cd|si
   ·exact dO (hj cd)
   ·exact e_ si
  exact mR.apart i j k (Hy.elim (fun h=>h.2) (fun h=>absurd MU h.1)) (HC.elim (fun h=>h.2) (fun h=>absurd hTj h.1))
end
end Rx
namespace Rx
open Go.RowKit State
section
variable {R:Type} {D:fR R} {P:Program} {T:eM R} {σ:SS R} {x:Out R}
def jK (σ:SS R) (x:Out R):Prop:=x.wr=[]->x.hp=σ.hp
theorem iY (vc:Prop) (v:Value) (lit:Option Bool) (rd:List (Nat×Nat)):jK σ (gy σ vc v lit rd):=fun _=>rfl
theorem sS {o:Oper} (h:uL P σ o=aa x):jK σ x:=by
 unfold uL at h
 repeat' split at h
 all_goals first
  |(injection h with h;subst h;exact iY _ _ _ _)
  |cases h
theorem Bm {y:Operand} (h:wk σ y=aa x):jK σ x:=by
 unfold wk at h
 repeat' split at h
 all_goals first
  |(injection h with h;subst h;exact iY _ _ _ _)
  |cases h
theorem M8 {t:TypeId} (h:vQ P σ t=aa x):jK σ x:=by
 unfold vQ at h
 repeat' split at h
 all_goals first
  |(injection h with h;subst h;intro hw;cases hw)
  |cases h
theorem Hn {t:TypeId} {y:Operand} (h:xo P σ t y=aa x):jK σ x:=by
 unfold xo at h;split at h
 ·split at h
  ·rename_i hx;injection h with h;subst h;exact M8 hx
  ·exact Bm h
 ·exact Bm h
theorem UO {c y z:Operand} (h:HS σ c y z=aa x):jK σ x:=by
 unfold HS at h;split at h
 ·exact Bm h
 ·exact Bm h
 ·split at h
  ·injection h with h;subst h;exact iY _ _ _ _
  ·cases h
theorem H9 {t:TypeId} {cs:List Value} (h:xp σ t cs=aa x):jK σ x:=by
 unfold xp at h;injection h with h;subst h;intro hw;cases hw
theorem Tg {t:TypeId} (h:Et P σ t=aa x):jK σ x:=by
 unfold Et at h
 repeat' split at h
 all_goals first
  |exact H9 h
  |cases h
theorem Xm {t:TypeId} {y:Operand} (h:LQ σ t y=aa x):jK σ x:=by
 unfold LQ at h
 repeat' split at h
 all_goals first
  |exact H9 h
  |cases h
theorem Th {t:TypeId} {ps:List (Nat×Operand)} (h:Ep P σ t ps=aa x):jK σ x:=by
 unfold Ep at h
 repeat' split at h
 all_goals first
  |(injection h with h;subst h;exact iY _ _ _ _)
  |cases h
theorem KR {t:TypeId} {n:Nat} {ps:List (Nat×Operand)} (h:uG P σ t n ps=aa x):jK σ x:=by
 unfold uG at h
 repeat' split at h
 all_goals first
  |(injection h with h;subst h;intro hw;cases hw)
  |cases h
theorem V4 {t:TypeId} {y:Operand} (h:Bo P σ t y=aa x):jK σ x:=by
 unfold Bo at h
 repeat' split at h
 all_goals first
  |(injection h with h;subst h;exact iY _ _ _ _)
  |cases h
theorem XT {i e n:Nat} (h:Oa i e n=[]):n=0:=by
 cases n with
 |zero=>rfl
 |succ n=>simp[Oa] at h
theorem aeT {α:Type} {l:List α} {i:Nat} {a:α} (h:l[i]?=aa a):l.set i a=l:=by
 have hl:i<l.length:=(aU.1 h).1;apply oc;intro u
 by_cases he:i=u
 ·subst he;rw[j_ hl,h]
 ·rw[kD he]
theorem Tl {t:TypeId} {y z:Operand} (h:Es P σ t y z=aa x):jK σ x:=by
 unfold Es at h;split at h
 ·rename_i i e v _ _;split at h
  ·rename_i ty cs inf hi _;split at h
   ·rename_i hc;simp only[aM] at hc;injection h with h
    subst h;intro hw;have h0:=XT hw;have h1:=cQ hc.1.1;rw[h0] at h1;have h2:v.cells.toList=[]:=jd h1;simp only[h2];exact aeT (by rw[hi];rfl)
   ·cases h
  ·cases h
 ·rename_i i e q v _ _;split at h
  ·rename_i ty r inf hi _;split at h
   ·rename_i hc;simp only[aM,fo] at hc;split at h
    ·injection h with h
     subst h;intro hw;have h0:=XT hw;omega
    ·cases h
   ·cases h
  ·cases h
 ·cases h
theorem Xp {y:Operand} (h:LG σ y=aa x):jK σ x:=by
 unfold LG at h
 repeat' split at h
 all_goals first
  |(injection h with h;subst h;exact iY _ _ _ _)
  |cases h
theorem JG {neg:Bool} {t:TypeId} {y z:Operand} (h:zU P σ neg t y z=aa x):jK σ x:=by
 unfold zU at h
 repeat' split at h
 all_goals first
  |(injection h with h;subst h;exact iY _ _ _ _)
  |cases h
theorem JF {neg:Bool} {t:TypeId} {y z:Operand} (h:z4 P σ neg t y z=aa x):jK σ x:=by
 unfold z4 at h;split at h
 ·split at h
  ·split at h
   ·split at h
    ·injection h with h;subst h;exact iY _ _ _ _
    ·cases h
   ·cases h
  ·cases h
 ·cases h
theorem Xh {op:BinOp} {y z:Operand} (h:OX σ op y z=aa x):jK σ x:=by
 unfold OX at h
 repeat' split at h
 all_goals first
  |(injection h with h;subst h;exact iY _ _ _ _)
  |cases h
theorem Xe {y z:Operand} (h:Pm σ y z=aa x):jK σ x:=by
 unfold Pm at h
 repeat' split at h
 all_goals first
  |(injection h with h;subst h;exact iY _ _ _ _)
  |cases h
theorem Jx {own:Option (Option (SB R))->Bool} {neg:Bool} {t:TypeId} {y z:Operand} (h:zO P σ own neg t y z=aa x):jK σ x:=by
 unfold zO at h
 repeat' split at h
 all_goals first
  |(injection h with h;subst h;exact iY _ _ _ _)
  |cases h
theorem Kk {t:TypeId} {n:Nat} {ps:List (Nat×Operand)} (h:uU P σ t n ps=aa x):jK σ x:=by
 unfold uU at h
 repeat' split at h
 all_goals first
  |(injection h with h;subst h;intro hw;cases hw)
  |cases h
theorem Kf {t:TypeId} {y z:Operand} (h:xf P σ t y z=aa x):jK σ x:=by
 unfold xf at h
 repeat' split at h
 all_goals first
  |(injection h with h;subst h;exact iY _ _ _ _)
  |cases h
theorem Xa {o:Oper} {op:BinOp} {t:TypeId} {y z:Operand} (h:LX P T σ o op t y z=aa x):jK σ x:=by
 unfold LX at h;split at h
 ·split at h
  ·exact sS h
  ·exact Xh h
 ·split at h
  ·exact Xe h
  ·cases h
 ·split at h
  ·exact JG h
  ·exact JG h
  ·cases h
 ·split at h
  ·exact JF h
  ·exact JF h
  ·cases h
 ·split at h
  ·exact Jx h
  ·exact Jx h
  ·cases h
 ·exact sS h
theorem XB {y:Operand} (h:LO σ y=aa x):jK σ x:=by
 unfold LO at h
 repeat' split at h
 all_goals first
  |(injection h with h;subst h;exact iY _ _ _ _)
  |cases h
theorem Tj {t:TypeId} {y:Operand} {lo hi mx:Option Operand} (h:HP P σ t y lo hi mx=aa x):jK σ x:=by
 unfold HP at h
 repeat' split at h
 all_goals first
  |(injection h with h;subst h;exact iY _ _ _ _)
  |(injection h with h;subst h;intro hw;cases hw)
  |cases h
theorem Mb {t:TypeId} {y:Operand} {k:Nat} (h:wE P σ t y k=aa x):jK σ x:=by
 unfold wE at h
 repeat' split at h
 all_goals first
  |(injection h with h;subst h;exact iY _ _ _ _)
  |cases h
theorem Tz {t:TypeId} {y:Operand} {k:Nat} (h:Eu P σ t y k=aa x):jK σ x:=by
 unfold Eu at h
 repeat' split at h
 all_goals first
  |(injection h with h;subst h;exact iY _ _ _ _)
  |cases h
theorem L8 {t:TypeId} {y z:Operand} (h:yG P σ t y z=aa x):jK σ x:=by
 unfold yG at h
 repeat' split at h
 all_goals first
  |(injection h with h;subst h;exact iY _ _ _ _)
  |cases h
theorem N6 {t:TypeId} {y z:Operand} (h:AW P σ t y z=aa x):jK σ x:=by
 unfold AW at h
 repeat' split at h
 all_goals first
  |(injection h with h;subst h;exact iY _ _ _ _)
  |cases h
theorem Oo {t:TypeId} {y z:Operand} (h:AS P σ t y z=aa x):jK σ x:=by
 unfold AS at h
 repeat' split at h
 all_goals first
  |(injection h with h;subst h;exact iY _ _ _ _)
  |cases h
theorem OO {y:Operand} {k:Nat} (h:zP σ y k=aa x):jK σ x:=by
 unfold zP at h
 repeat' split at h
 all_goals first
  |(injection h with h;subst h;exact iY _ _ _ _)
  |cases h
theorem Me {t:TypeId} {y z:Operand} (h:yX P σ t y z=aa x):jK σ x:=by
 unfold yX at h
 repeat' split at h
 all_goals first
  |(injection h with h;subst h;intro hw;cases hw)
  |cases h
theorem Xg {t:TypeId} {y:Operand} (h:LZ P σ t y=aa x):jK σ x:=by
 unfold LZ at h
 repeat' split at h
 all_goals first
  |(injection h with h;subst h;exact iY _ _ _ _)
  |cases h
theorem Rq {t t2:TypeId} {y z:Operand} (h:zp P σ t t2 y z=aa x):jK σ x:=by
 unfold zp at h;split at h
 ·split at h
  ·split at h
   ·injection h with h;subst h;intro hw;cases hw
   ·cases h
  ·split at h
   ·split at h
    ·injection h with h;subst h;intro hw;cases hw
    ·cases h
   ·cases h
  ·cases h
 ·cases h
theorem Ve (hT:cN D P T) {f:Operand} {args:List Operand} {b:Bool} (h:Fh T σ f args b=aa x):jK σ x:=by
 unfold Fh at h;split at h
 ·split at h
  ·rename_i p hp;exact((Ct hT hp).ok b).still _ _ _ h
  ·cases h
 ·cases h
theorem R8 (hT:cN D P T) {r:Operand} {name:String} {args:List Operand} {b:Bool} (h:zu P T σ r name args b=aa x):jK σ x:=by
 unfold zu at h;split at h
 ·split at h
  ·split at h
   ·rename_i p _ hp;exact((Ct hT hp).ok b).still _ _ _ h
   ·cases h
  ·cases h
 ·cases h
theorem Xy (hT:cN D P T) {f:Operand} {args:List Operand} {b:Bool} (h:Fh T σ f args b=aa x):∀ i,i<σ.hp.length->Qp x.wr i=ao->x.hp[i]?=σ.hp[i]?:=by
 unfold Fh at h;split at h
 ·split at h
  ·rename_i p hp;exact(Ct hT hp).Iy b _ _ _ h
  ·cases h
 ·cases h
theorem Tk (hT:cN D P T) {r:Operand} {name:String} {args:List Operand} {b:Bool} (h:zu P T σ r name args b=aa x):∀ i,i<σ.hp.length->Qp x.wr i=ao->x.hp[i]?=σ.hp[i]?:=by
 unfold zu at h;split at h
 ·split at h
  ·split at h
   ·rename_i p _ hp;exact(Ct hT hp).Iy b _ _ _ h
   ·cases h
  ·cases h
 ·cases h
theorem M4 {fn:Fn} {fi ca:List Operand} (h:A9 σ fn fi ca=aa x):jK σ x:=by
 unfold A9 at h;split at h
 ·injection h with h;subst h;exact iY _ _ _ _
 ·cases h
theorem Te {t:TypeId} {y:Operand} (h:Eo P T σ t y=aa x):jK σ x:=by
 unfold Eo at h;split at h
 ·rename_i hx;injection h with h;subst h;exact V4 hx
 ·repeat' split at h
  all_goals first
   |(injection h with h;subst h;exact iY _ _ _ _)
   |cases h
theorem acm (hT:cN D P T) {o:Oper} {b:Bool} (h:ME P T σ o b=aa x):jK σ x:=by
 obtain⟨dst,op,ty,pos,after,guard⟩:=o;unfold ME at h;simp only at h;split at h
 ·exact Hn h
 ·exact Hn h
 ·exact UO h
 ·exact Tg h
 ·exact Xm h
 ·exact Th h
 ·split at h
  ·rename_i hx;injection h with h;subst h;exact KR hx
  ·exact Kk h
 ·exact Te h
 ·split at h
  ·exact Tl h
  ·cases h
 ·exact Xp h
 ·exact Xa h
 ·split at h
  ·exact XB h
  ·exact sS h
 ·exact Tj h
 ·exact Mb h
 ·exact Tz h
 ·split at h
  ·exact N6 h
  ·split at h
   ·exact Kf h
   ·exact L8 h
 ·split at h
  ·exact Oo h
  ·exact sS h
 ·exact OO h
 ·exact Me h
 ·rename_i callee args ts;split at h
  ·exact Ve hT h
  ·split at h
   ·exact Rq h
   ·split at h
    ·exact Xg h
    ·exact sS h
   ·exact sS h
  ·exact R8 hT h
 ·exact M4 h
 ·exact sS h
def abH (o:Oper):Bool :=
 match o with
 |⟨_,.call ⟨.value _,_,_⟩,_,_,_,_⟩=>ao
 |⟨_,.call ⟨.invoke _ _,_,_⟩,_,_,_,_⟩=>ao
 |_=>an
def VS (o:Oper):Bool :=
 match o with
 |⟨_,.call ⟨.builtin .append,⟨[_,_]⟩,⟨[_,_]⟩⟩,_,_,_,_⟩=>ao
 |_=>an
theorem Tf {t t2:TypeId} {y z:Operand} (h:zp P σ t t2 y z=aa x):∀ i,i<σ.hp.length->IW x.wr i=an->x.hp[i]?=σ.hp[i]?:=by
 unfold zp at h;split at h
 ·split at h
  ·split at h
   ·injection h with h;subst h;intro i hi _;exact da hi
   ·cases h
  ·split at h
   ·split at h
    ·injection h with h
     subst h;intro j hj hm;simp only[IW,Bool.or_eq_false_iff] at hm;simp only;rw[da (by simpa using hj),kD]
     intro e;rw[e] at hm;simp at hm
    ·cases h
   ·cases h
  ·cases h
 ·cases h
def LU (o:Oper) (wr:List (Nat×Nat)) (b:Nat):Bool:=(abH o&&Qp wr b)||(VS o && !IW wr b)
theorem ad8 (hT:cN D P T) {o:Oper} {b:Bool} (h:ME P T σ o b=aa x):∀ i,i<σ.hp.length->LU o x.wr i=ao->x.hp[i]?=σ.hp[i]?:=by
 intro i hi hk;simp only[LU,Bool.or_eq_true,aM] at hk;rcases hk with⟨hc,hk⟩|⟨hc,hk⟩
 ·unfold abH at hc;split at hc
  ·exact Xy hT h i hi hk
  ·exact Tk hT h i hi hk
  ·cases hc
 ·unfold VS at hc;split at hc
  ·exact Tf h i hi (by simpa using hk)
  ·cases hc
end
end Rx
end Go.Proofs.YtjlomlgdgpoepaaGreat
