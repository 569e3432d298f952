import Derived.Test.YtjlomlgdgpoepaaGreatZma
import Derived.Below
import Derived.Deep.Slices
import Derived.ChangeArms
import Derived.WideShapes
import Derived.DataReads
import Derived.OpenShut
import Derived.ProofKit
import Derived.Test.YtjlomlgdgpoepaaGreatProg
import Derived.KernelRfl
set_option linter.unusedVariables false
set_option linter.unusedSimpArgs false
namespace Go.Proofs.YtjlomlgdgpoepaaGreat
open _root_.Array renaming getD→Dz,getElem?_eq_some_iff→vY,getElem?_setIfInBounds_ne→Ac,mem_toList_iff→IM,mk→aO
open _root_.Bool renaming and_eq_true→aL,and_self→SR,false_and→B4,false_eq_true→fu,false→ao,not_eq_true'→mM,or_eq_true→jL,true_and→ji,true→aq
open _root_.Classical renaming axiomOfChoice→Wm,byContradiction→iy,epsilon_spec→W2
open _root_.False renaming elim→kG
open _root_.Go renaming undef→vq
open _root_.Go.Act renaming eval→B2,put→B3
open _root_.Go.DataW renaming trod→DA
open _root_.Go.IntKind renaming i64→av,wrap_i64→Fk,wrap→cr
open _root_.Go.Region renaming binds→KJ,ready→KL,wanted→kz
open _root_.Go.Value renaming agg→bE,bool→aD,cells→np,okWide→Wc
open _root_.Int renaming not_lt→IN
open _root_.List renaming append_nil→A_,cons_ne_nil→N3,drop_drop→se,drop_eq_nil_iff→IL,drop_zero→sf,eq_nil_of_length_eq_zero→iQ,eq_nil_or_concat→Hz,ext_getElem?→nU,getD_eq_getElem?_getD→ax,getElem?_append_left→db,getElem?_append_right→dU,getElem?_cons_succ→bH,getElem?_cons_zero→cf,getElem?_drop→oL,getElem?_eq_getElem→bj,getElem?_eq_none→dg,getElem?_eq_some_iff→aU,getElem?_map→gh,getElem?_range→sH,getElem?_take_of_lt→Fj,getElem?_take→oJ,getElem?_toArray→jA,length_append→bJ,length_cons→cI,length_set→e_,length_singleton→qW,length_take→eu,map_cons→gC,mem_append→b9,mem_cons_of_mem→eo,mem_cons_self→bO,mem_cons→bR,mem_map→o_,mem_of_getElem?→lu,mem_range→RB,mem_singleton→ib,nodup_append→ch,range→oi,replicate→ld,sum_append→P8,take_add→vZ,take_append_of_le_length→Be,take_length→kC,take_of_length_le→jl,take_zero→sc
open _root_.Nat renaming add_assoc→jh,add_comm→sC,add_sub_cancel_left→Fz,add_sub_cancel→mb,add_zero→gV,beq→fo,ble_eq→vo,ble→uJ,blt_eq→fa,blt→gU,eq_of_beq_eq_true→cR,le_of_ble_eq_true→jB,le_of_not_lt→nl,le_refl→bc,le_trans→iY,lt_of_lt_of_le→ls,lt_or_ge→cx,lt_trichotomy→nV,mod_mod_of_dvd→KM,one_pos→Gu,strongRecOn→tE,succ_mul→Wb,zero_add→b5,zero_le→dx,zero_mul→A8
open _root_.Option renaming getD_some→lG,map_some→j_,none→aj,some→aa
open _root_.Option.some renaming injEq→cu
open _root_.Or renaming inl→dN,inr→eY
open _root_.Prod.mk renaming injEq→td
namespace Rx
open Go.RowKit State
def knQ (f:Nat->Bool) (q:Nat):Bool :=
 match gU q 1000000 with
 |true=>aq
 |false=>f (q / 1000000-1)
def knS (f:Nat->Bool):Option Nat->Bool
 |none=>aq
 |some q=>knQ f q
mutual
def lY (f:Nat->Bool):Value->Bool
 |.pointer (aa a)=>f a.block
 |.slice (aa a) _ _=>f a.block&&knS f a.spot
 |.map (aa r)|.chan (aa r)=>f r
 |.agg ⟨l⟩=>Ax f l
 |.tuple ⟨l⟩=>Ax f l
 |.func _ ⟨g⟩ ⟨c⟩=>Ax f g&&Ax f c
 |.iface _ v=>lY f v
 |_=>aq
def Ax (f:Nat->Bool):List Value->Bool
 |[]=>aq
 |v::l=>lY f v&&Ax f l
end
section
variable {ρ gv:Env} {f g:Nat->Bool} {n:Nat}
theorem X4 {q:Nat} (h:knQ f q=aq) (h0:q / 1000000≠0):f (q / 1000000-1)=aq:=by
 unfold knQ at h;split at h
 ·rename_i hb;rw[fa] at hb;omega
 ·exact h
theorem abv {q:Nat} (h:q / 1000000≠0->f (q / 1000000-1)=aq):knQ f q=aq:=by
 unfold knQ;split
 ·rfl
 ·rename_i hb;refine h fun h0=>?_
  have:gU q 1000000=aq:=by rw[fa];omega
  rw[hb] at this;cases this
theorem adN {s:Option Nat} (h:∀ b,f b=aq->g b=aq) (hv:knS f s=aq):knS g s=aq:=by
 cases s with
 |none=>rfl
 |some q=>exact abv fun h0=>h _ (X4 hv h0)
theorem agc {a:Addr} {k c:Nat} (h:∀ b,f b=aq->ρ b=gv b) (ha:f a.block=aq) (hs:knS f a.spot=aq):lD ρ a k c=lD gv a k c:=by
 have hA:iE ρ a=iE gv a:=by unfold iE;rw[h _ ha]
 unfold lD;rw[hA,h _ ha];cases hq:a.spot with
 |none=>rfl
 |some q =>
  rw[hq] at hs;simp only;split
  ·rfl
  ·split
   ·rename_i h0;rw[h (q / 1000000-1) (X4 hs h0.1)]
   ·rfl
mutual
theorem U8 (h:∀ b,f b=aq->ρ b=gv b):∀ v,lY f v=aq->bW ρ v=bW gv v
 |.pointer (aa a),hv=>by
  simp only[lY] at hv;simp only[bW,iE];rw[h _ hv]
 |.pointer aj,_=>by simp[bW]
 |.slice (aa a) k c,hv=>by
  simp only[lY,aL] at hv;simp only[bW];exact agc h hv.1 hv.2
 |.slice aj _ _,_=>by simp[bW]
 |.map (aa r),hv=>by simp only[lY] at hv;simp[bW,h _ hv]
 |.map aj,_=>by simp[bW]
 |.chan (aa r),hv=>by simp only[lY] at hv;simp[bW,h _ hv]
 |.chan aj,_=>by simp[bW]
 |.agg ⟨l⟩,hv=>by simp only[lY] at hv;simp only[bW,DP h l hv]
 |.tuple ⟨l⟩,hv=>by simp only[lY] at hv;simp only[bW,DP h l hv]
 |.func fn ⟨l⟩ ⟨c⟩,hv=>by
  simp only[lY,aL] at hv;simp only[bW,DP h l hv.1,DP h c hv.2]
 |.iface t v,hv=>by simp only[lY] at hv;simp only[bW,U8 h v hv]
 |.int _ _,_=>by simp
 |.bool _,_=>by simp
 |.string _,_=>by simp
 |.float _ _,_=>by simp[bW]
 |.complex _ _ _,_=>by simp[bW]
 |.nilFunc,_=>by simp[bW]
 |.nilIface,_=>by simp[bW]
theorem DP (h:∀ b,f b=aq->ρ b=gv b):∀ l,Ax f l=aq->nz ρ l=nz gv l
 |[],_=>rfl
 |v::l,hv=>by
  simp only[Ax,aL] at hv;simp only[nz,U8 h v hv.1,DP h l hv.2]
end
mutual
theorem abC (h:∀ b,b<n->f b=aq):∀ v,fp n v=aq->lY f v=aq
 |.pointer (aa a),hv=>by simp only[fp,fa] at hv;simp only[lY];exact h _ hv
 |.pointer aj,_=>by simp[lY]
 |.slice (aa a) k c,hv=>by
  simp only[fp,aL,fa,vo] at hv;simp only[lY,aL];refine⟨h _ hv.1,?_⟩;cases hs:a.spot with
  |none=>rfl
  |some q =>
   rw[hs] at hv;simp only[E3] at hv;exact abv fun h0=>h _ (by omega)
 |.slice aj _ _,_=>by simp[lY]
 |.map (aa r),hv=>by simp only[fp,fa] at hv;simp only[lY];exact h _ hv
 |.map aj,_=>by simp[lY]
 |.chan (aa r),hv=>by simp only[fp,fa] at hv;simp only[lY];exact h _ hv
 |.chan aj,_=>by simp[lY]
 |.agg ⟨l⟩,hv=>by simp only[fp] at hv;simp only[lY];exact DJ h l hv
 |.tuple ⟨l⟩,hv=>by simp only[fp] at hv;simp only[lY];exact DJ h l hv
 |.func fn ⟨l⟩ ⟨c⟩,hv=>by
  simp only[fp,aL] at hv;simp only[lY,aL];exact⟨DJ h l hv.1,DJ h c hv.2⟩
 |.iface t v,hv=>by simp only[fp] at hv;simp only[lY];exact abC h v hv
 |.int _ _,_=>by simp[lY]
 |.bool _,_=>by simp[lY]
 |.string _,_=>by simp[lY]
 |.float _ _,_=>by simp[lY]
 |.complex _ _ _,_=>by simp[lY]
 |.nilFunc,_=>by simp[lY]
 |.nilIface,_=>by simp[lY]
theorem DJ (h:∀ b,b<n->f b=aq):∀ l,ix n l=aq->Ax f l=aq
 |[],_=>by simp[Ax]
 |v::l,hv=>by
  simp only[ix,aL] at hv;simp only[Ax,aL];exact⟨abC h v hv.1,DJ h l hv.2⟩
end
mutual
theorem UP (h:∀ b,f b=aq->g b=aq):∀ v,lY f v=aq->lY g v=aq
 |.pointer (aa a),hv=>by simp only[lY] at *;exact h _ hv
 |.pointer aj,_=>by simp[lY]
 |.slice (aa a) k c,hv=>by
  simp only[lY,aL] at *
  exact⟨h _ hv.1,adN h hv.2⟩
 |.slice aj _ _,_=>by simp[lY]
 |.map (aa r),hv=>by simp only[lY] at *;exact h _ hv
 |.map aj,_=>by simp[lY]
 |.chan (aa r),hv=>by simp only[lY] at *;exact h _ hv
 |.chan aj,_=>by simp[lY]
 |.agg ⟨l⟩,hv=>by simp only[lY] at *;exact BC h l hv
 |.tuple ⟨l⟩,hv=>by simp only[lY] at *;exact BC h l hv
 |.func fn ⟨l⟩ ⟨c⟩,hv=>by
  simp only[lY,aL] at *
  exact⟨BC h l hv.1,BC h c hv.2⟩
 |.iface t v,hv=>by simp only[lY] at *;exact UP h v hv
 |.int _ _,_=>by simp[lY]
 |.bool _,_=>by simp[lY]
 |.string _,_=>by simp[lY]
 |.float _ _,_=>by simp[lY]
 |.complex _ _ _,_=>by simp[lY]
 |.nilFunc,_=>by simp[lY]
 |.nilIface,_=>by simp[lY]
theorem BC (h:∀ b,f b=aq->g b=aq):∀ l,Ax f l=aq->Ax g l=aq
 |[],_=>by simp[Ax]
 |v::l,hv=>by
  simp only[Ax,aL] at *
  exact⟨UP h v hv.1,BC h l hv.2⟩
end
end
section
variable {R:Type} {D:fK R} {C:Ctx} {ρ gv:Env} {ft ks:Nat->Nat->Prop} {w w':World} {h hr hx h':Hp R}
theorem HM.alb (hm:HM D C ρ ft h w) {f:Nat->Bool} (qF:∀ b,f b=aq->gv b=ρ b) (hh:∀ (b:Nat) (X:SB R),h[b]?=aa (aa X)->f b=aq) (hc:∀ (b:Nat) (t:TypeId) (cs:List Value),h[b]?=aa (aa (.inl (t,cs)))->Ax f cs=aq):HM D C gv ft h w where
 at_ i B hi:=by
  obtain⟨h1,h2⟩:=hm.at_ i B hi;refine⟨?_,h2⟩;have e:=qF i (hh i B hi);rcases B with⟨t,cs⟩|⟨t,r⟩|r|x
  ·simp only[hold,e] at h1 ⊢;have:cs.map (bW gv)=cs.map (bW ρ):=by
    rw[← k_,← k_];exact DP qF cs (hc i t cs hi)
   rw[this];exact h1
  ·simp only[hold,e] at h1 ⊢;exact h1
  ·simp only[hold,e] at h1 ⊢;exact h1
  ·simp only[hold,e] at h1 ⊢;exact h1
 lt:=hm.lt
 fresh:=hm.fresh
 apart:=hm.apart
 some_:=hm.some_
 kept:=hm.kept
theorem HM.grow (hm:HM D C ρ ft h w) (k:Nat):HM D C ρ ft (h++ld k aj) w:=by
 refine hm.step (fun _=>False) (Kept.refl _ _) (fun _ _=>rfl) (by simp) ?_ ?_ ?_ ?_
 ·intro i B' hi jz;have j6:h.length≤i:=nl hi;rw[dU j6] at jz;have:=lu jz;have:=(List.mem_replicate.1 this).2;cases this
 ·intro i hi _;exact⟨db hi,fun k=>Iff.rfl⟩
 ·intro i k hi hk;obtain⟨B',jz⟩:=hm.some_ i k hk;have cl:=(aU.1 jz).1;exact absurd cl hi
 ·intro i j k hi hj GQ GG;exact hm.apart i j k GQ GG
theorem HM.akG {ρ0:Env} (hm:HM D C ρ ft h w) (m_:∀ (b:Nat) (X:SB R),hr[b]?=aa (aa X)->h[b]?=aa (aa X)) {n:Nat}
  (mE:HM D (Om w hr ft ρ0 n) gv ks hx w') (qF:∀ b,b<hx.length->ρ b=gv b) (hle:hx.length≤h.length)
  (hv:∀ (b:Nat) (X:SB R),hx[b]?=aa (aa X)->(b<hr.length->∃ Y,hr[b]?=aa (aa Y))/\(h9 X=ao∨∃ Y,hr[b]?=aa (aa Y)/\h9 Y=aq))
  (hlen:h'.length=h.length)
  (uB:∀ (b:Nat),(∃ Y,hr[b]?=aa (aa Y)/\h9 Y=ao)∨(hr.length≤b/\b<hx.length)->h'[b]?=if b<hx.length then hx[b]? else aa aj)
  (Ot:∀ (b:Nat),b<h.length->¬ ((∃ Y,hr[b]?=aa (aa Y)/\h9 Y=ao)∨(hr.length≤b/\b<hx.length))->h'[b]?=h[b]?) :
  ∃ JG,HM D C ρ JG h' w':=by
 let T:Nat->Prop:=fun b=>(∃ Y,hr[b]?=aa (aa Y)/\h9 Y=ao)∨(hr.length≤b/\b<hx.length)
 refine⟨fun b k=>(T b/\ks b k)∨(¬ T b/\ft b k),?_⟩
 have eT:∀ {b},T b->(fun k=>(T b/\ks b k)∨(¬ T b/\ft b k))=ks b:=fun {b} hb=>funext fun k=>propext ⟨fun h=>h.elim (fun h=>h.2) (fun h=>absurd hb h.1),fun h=>dN ⟨hb,h⟩⟩
 have afd:∀ b k,(∃ X,hr[b]?=aa (aa X))->ft b k->∃ j,T j/\ft j k:=fun b k ⟨X,hX⟩ hb=>by
  refine⟨b,dN ⟨X,hX,?_⟩,hb⟩;cases hX2:h9 X with
  |false=>rfl
  |true =>
   have:=(hm.at_ b X (m_ b X hX)).1;rcases X with⟨t,cs⟩|⟨t,r⟩|r|x<;>simp[h9] at hX2
   exact absurd hb (this.1 k)
 have j5:∀ i B,h'[i]?=aa (aa B)->i<h.length:=fun i B hB=>by
  have:=(aU.1 hB).1;omega
 refine hm.step T ?_ (fun _ _=>rfl) (Nat.le_of_eq hlen.symm) ?_ ?_ ?_ ?_
 ·exact⟨mE.kept.os,mE.kept.tape,mE.kept.output,mE.kept.size,fun k hk hn=>mE.kept.block k hk fun⟨b,hX,hb⟩=>hn (afd b k hX hb)⟩
 ·intro i B hi hB;have Mc:=hi (j5 i B hB);rw[uB i Mc] at hB;split at hB
  ·rename_i cl;obtain⟨g1,g2⟩:=mE.at_ i B hB;have RN:h9 B=ao:=by
    rcases(hv i B hB).2 with h1|⟨Y,hY,X2⟩
    ·exact h1
    ·rcases Mc with⟨Y',R8,Kq⟩|rI
     ·rw[hY] at R8;injection R8 with e;injection e with e;subst e;rw[X2] at Kq;cases Kq
     ·have:=(aU.1 hY).1;omega
   refine⟨?_,Cf (by omega) g2⟩
   show hold D C ρ i (fun k=>(T i/\ks i k)∨(¬ T i/\ft i k)) w' B
   rw[eT Mc];exact yR RN (Ib g1 qF cl g2)
  ·cases hB
 ·intro i hi hn;exact⟨Ot i hi hn,fun k=>⟨fun h=>h.elim (fun h=>absurd h.1 hn) (fun h=>h.2),fun h=>eY ⟨hn,h⟩⟩⟩
 ·intro i k hi hk;have Mc:T i:=by
   rcases hk with h|h
   ·exact h.1
   ·obtain⟨B,hB⟩:=hm.some_ i k h.2;exact hi (aU.1 hB).1
  have nx:ks i k:=hk.elim (fun h=>h.2) (fun h=>absurd Mc h.1)
  refine⟨?_,mE.lt i k nx,?_⟩
  ·rcases mE.fresh i k nx with⟨b,hX,hb⟩|rI
   ·exact dN (afd b k hX hb)
   ·exact eY rI
  ·obtain⟨B,hB⟩:=mE.some_ i k nx;refine⟨B,?_⟩;rw[uB i Mc,if_pos (aU.1 hB).1];exact hB
 ·intro i j k hi hj GQ GG;have key:∀ l,(l<h.length->T l)->((T l/\ks l k)∨(¬ T l/\ft l k))->ks l k:=fun l hl um=>by
   rcases um with h|h
   ·exact h.2
   ·obtain⟨B,hB⟩:=hm.some_ l k h.2;exact absurd (hl (aU.1 hB).1) h.1
  exact mE.apart i j k (key i hi GQ) (key j hj GG)
end
mutual
def aj3:Value->List Nat
 |.pointer (aa a)=>[a.block]
 |.slice (aa ⟨b,_,aa q⟩) _ _=>match fo (q / 1000000) 0 with
  |true=>[b]
  |false=>[b,q / 1000000-1]
 |.slice (aa a) _ _=>[a.block]
 |.map (aa r)|.chan (aa r)=>[r]
 |.agg ⟨l⟩=>sG l
 |.tuple ⟨l⟩=>sG l
 |.func _ ⟨f⟩ ⟨c⟩=>sG f++sG c
 |.iface _ v=>aj3 v
 |_=>[]
def sG:List Value->List Nat
 |[]=>[]
 |v::l=>aj3 v++sG l
end
def mem (l:List Nat) (i:Nat):Bool :=
 match l with
 |[]=>ao
 |j::l=>fo j i||mem l i
theorem mem_iff {l:List Nat} {i:Nat}:mem l i=aq↔i∈l:=by
 induction l with
 |nil=>simp[mem]
 |cons j l ih=>simp only[mem,jL,ih,Nat.beq_eq,bR];exact⟨fun h=>h.imp Eq.symm id,fun h=>h.imp Eq.symm id⟩
def tmpsOf:List Operand->List Nat
 |[]=>[]
 |.tmp t::l=>t::tmpsOf l
 |_::l=>tmpsOf l
structure Rec (R:Type) where
 o:Oper
 pre:List Nat
 run:Bool
 v:Value
 lit:Option Bool
 hr:Hp R
 hx:Hp R
 w:Bool
 wl:List (Nat×Nat)
section
variable {R:Type} {D:fK R} {P:Program} {T:eK R}
def IG (h:Hp R) (b:Nat):Bool :=
 match h[b]? with
 |some (aa X)=>!h9 X
 |_=>ao
def newAt (r:Rec R) (b:Nat):Bool:=uJ r.hr.length b&&gU b r.hx.length
def gL (r:Rec R) (b:Nat):Bool:=r.w&&((IG r.hr b && !Lm r.o r.wl b)||newAt r b)
def C5 (r:Rec R) (b:Nat):Bool:=IG r.hr b||newAt r b
def Ek (r:Rec R):Bool:=gU r.hr.length r.hx.length
def fU {α:Type} (h:List (Option α)) (b:Nat):Option α :=
 match h[b]? with
 |some x=>x
 |none=>aj
def content (p:Nat->Bool) (b:Nat):List (Rec R)->Nat->Option (SB R)->Option (SB R)
 |[],_,acc=>acc
 |r::l,j,acc=>content p b l (j+1) (if p j&&gL r b then fU r.hx b else acc)
def fe:List (Rec R)->Nat->Nat
 |[],n=>n
 |r::l,n=>fe l (if Ek r then r.hx.length else n)
def Pp (recs:List (Rec R)):List Nat->Nat->Bool
 |[],_=>ao
 |j::l,b=>(match recs[j]? with
  |some q=>newAt q b
  |none=>ao)||Pp recs l b
def Bz (n:Nat) (recs:List (Rec R)) (r:Rec R) (b:Nat):Bool:=gU b n||newAt r b||Pp recs r.pre b
def T7 (f:Nat->Bool):Hp R->Bool
 |[]=>aq
 |some (.inl (_,cs))::h=>Ax f cs&&T7 f h
 |_::h=>T7 f h
def allKnown (n:Nat) (all:List (Rec R)):List (Rec R)->Bool
 |[]=>aq
 |r::l=>lY (Bz n all r) r.v&&T7 (Bz n all r) r.hx&&allKnown n all l
def nj:List Oper->Nat->Nat->Option Nat
 |[],_,_=>aj
 |o::l,t,i=>match o.dst with
  |some u=>if fo u t then aa i else nj l t (i+1)
  |none=>nj l t (i+1)
def E' (ops:List Oper) (recs:List (Rec R)) (pre tms:List Nat):Nat->List (Option Value)->List (Option Value)
 |_,[]=>[]
 |t,x::l=>(if mem tms t then
   match nj ops t 0 with
   |some j=>if mem pre j then(match recs[j]? with
    |some r=>aa r.v
    |none=>aj) else if uJ recs.length j then x else aj
   |none=>x
  else aj)::E' ops recs pre tms (t+1) l
def JD (ops:List Oper) (li:List (Nat×Bool)) (recs:List (Rec R)) (pre:List Nat):List Nat->List (Nat×Bool)
 |[]=>[]
 |t::l=>(match nj ops t 0 with
  |some j=>if mem pre j then(match recs[j]? with
   |some r=>(match r.lit with
    |some b=>[(t,b)]
    |none=>[])
   |none=>[]) else[]
  |none=>match look li t with
   |some b=>[(t,b)]
   |none=>[])++JD ops li recs pre l
def FH:List (Option Value)->List Value
 |[]=>[]
 |some v::l=>v::FH l
 |none::l=>FH l
def kO (h0:Hp R) (recs:List (Rec R)) (p:Nat->Bool) (sel:Nat->Bool):Nat->Nat->Hp R
 |_,0=>[]
 |b,n+1=>(if sel b then content p b recs 0 (fU h0 b) else aj)::kO h0 recs p sel (b+1) n
def ins (j:Nat) (l:List Nat):List Nat:=if mem l j then l else j::l
def jx:List Nat->List Nat->List Nat
 |[],l=>l
 |j::m,l=>jx m (ins j l)
theorem Lp {i j:Nat} {l:List Nat}:i∈ins j l↔i=j∨i∈l:=by
 unfold ins;split
 ·rename_i h;have:=mem_iff.1 h;exact⟨eY,fun h=>h.elim (fun e=>by rw[e];exact this) id⟩
 ·simp
theorem Nl {i:Nat}:∀ {m l:List Nat},i∈jx m l↔i∈m∨i∈l
 |[],l=>by simp[jx]
 |j::m,l=>by
  simp only[jx,Nl,Lp,bR]
  constructor
  ·rintro (h|h|h)
   ·exact dN (eY h)
   ·exact dN (dN h)
   ·exact eY h
  ·rintro ((h|h)|h)
   ·exact eY (dN h)
   ·exact dN h
   ·exact eY (eY h)
def KW (recs:List (Rec R)):List Edge->Option (List Nat)
 |[]=>aa []
 |e::l =>
  match KW recs l with
  |none=>aj
  |some r=>if KJ .any e then(match recs[e.on]? with
   |some q=>aa (ins e.on (jx q.pre r))
   |none=>aj) else aa r
def G7 (recs:List (Rec R)) (pre:List Nat) (g:Option (Nat×Bool)):Nat :=
 match g with
 |none=>0
 |some (j,want) =>
  if mem pre j then
   match recs[j]? with
   |some r=>match r.o.dst with
    |some _=>match r.lit with
     |some b=>if b==want then 0 else 1
     |none=>match Lc r.v with
      |true=>1
      |false=>2
    |none=>3
   |none=>3
  else 3
def rz:Hp R->Hp R->Bool
 |[],[]=>aq
 |[],aj::hx=>rz [] hx
 |[],aa X::hx=>!h9 X&&rz [] hx
 |_::_,[]=>ao
 |none::hr,aj::hx=>rz hr hx
 |none::_,aa _::_=>ao
 |some Y::hr,aj::hx=>rz hr hx
 |some Y::hr,aa X::hx=>(!h9 X||h9 Y)&&rz hr hx
def reach (h:Hp R):Nat->List Nat->List Nat
 |0,l=>l
 |n+1,l=>reach h n (l++sG (l.flatMap fun b=>match fU h b with
  |some (.inl (_,cs))=>cs
  |_=>[]))
def S7 (o:Oper) (B:List Nat) (h:Hp R):List Nat :=
 match o.op with
 |.call ⟨.value _,_,_⟩=>reach h 2 B
 |.call ⟨.invoke _ _,_,_⟩=>reach h 2 B
 |.move _|.assign _|.fieldAddr _ _ _|.nilCheck _|.extract _ _|.makeFunc _ _ _=>[]
 |_=>B
def wS (ops:List Oper) (cq:SS R) (recs:List (Rec R)) (pre:List Nat) (o:Oper):List (Option Value):=E' ops recs pre (tmpsOf o.op.operands.toList) 0 cq.tm
def XU (ops:List Oper) (cq:SS R) (recs:List (Rec R)) (pre:List Nat) (o:Oper):Nat->Bool :=
 mem (S7 o (sG (FH (wS ops cq recs pre o))) (kO cq.hp recs (mem pre) (fun _=>aq) 0 (fe recs cq.hp.length)))
def oF (ops:List Oper) (cq:SS R) (recs:List (Rec R)) (pre:List Nat) (o:Oper):SS R :=
 ⟨wS ops cq recs pre o,JD ops cq.li recs pre (tmpsOf o.op.operands.toList),
  kO cq.hp recs (mem pre) (XU ops cq recs pre o) 0 (fe recs cq.hp.length)⟩
def aeF (n:Nat) (d:Option Tmp):Bool :=
 match d with
 |some t=>gU t n
 |none=>aq
def E5 (cq:SS R) (st:SS R) (o:Oper) (x:Out R):Bool :=
 tidy st o.dst x&&aeF cq.tm.length o.dst&&sZ st.hp.length st.hp&&ix st.hp.length (FH st.tm)&&rz st.hp x.hp
def ali (vU:List (Nat×Bool)) (d:Option Tmp):Option Bool :=
 match d with
 |some t=>look vU t
 |none=>aj
def AP (recs:List (Rec R)) (r:Rec R):List (Rec R):=recs++[r]
def Hw (P:Program) (T:eK R) (cq:SS R) (vU:List (Nat×Bool)) (o:Oper) (pre:List Nat) (tm:List (Option Value)) (li:List (Nat×Bool)) (hr:Hp R) (k:Rec R->Prop) (rW:Bool):Prop :=
 match Mp P T ⟨tm,li,hr⟩ o rW with
 |none=>od 21
 |some x =>
  if E5 cq ⟨tm,li,hr⟩ o x then
   ZX (YQ (⟨tm,li,hr⟩:SS R) o) x.vc (L7 x.hp fun hx=>fV x.v fun v =>
    match x.lit with
    |some b=>fB b fun b=>fB (!x.wr.isEmpty) fun wr=>k ⟨o,pre,aq,v,aa b,hr,hx,wr,x.wr⟩
    |none=>fB (!x.wr.isEmpty) fun wr=>match ali vU o.dst with
     |some b=>Vc (v=.bool b)/\k ⟨o,pre,aq,.bool b,aa b,hr,hx,wr,x.wr⟩
     |none=>k ⟨o,pre,aq,v,aj,hr,hx,wr,x.wr⟩)
  else od 22
def CJ (P:Program) (T:eK R) (ops:List Oper) (cq:SS R) (vU:List (Nat×Bool)) (k:List (Rec R)->Prop) (fk:Nat->Bool->Prop):List Oper->List (Rec R)->Prop
 |[],recs=>k recs
 |o::l,recs =>
  match KW recs o.after.toList with
  |none=>od 20
  |some pre=>UT pre fun pre =>
   match G7 recs pre o.guard with
   |0=>XW (wS ops cq recs pre o) fun tm=>fLi (JD ops cq.li recs pre (tmpsOf o.op.operands.toList)) fun li=>L7 (kO cq.hp recs (mem pre) (fun _=>aq) 0 (fe recs cq.hp.length)) fun hp =>
    UT (S7 o (sG (FH tm)) hp) fun sel=>L7 (kO cq.hp recs (mem pre) (mem sel) 0 (fe recs cq.hp.length)) fun hr =>
    match Hk P T (⟨tm,li,hr⟩:SS R) o with
    |none=>Hw P T cq vU o pre tm li hr (fun r=>CJ P T ops cq vU k fk l (AP recs r)) aq
    |some c=>(c=aq->Hw P T cq vU o pre tm li hr (fun r=>CJ P T ops cq vU k fk l (AP recs r)) aq) /\
     (c=ao->Hw P T cq vU o pre tm li hr (fun r=>CJ P T ops cq vU k fk l (AP recs r)) ao)
   |1=>CJ P T ops cq vU k fk l (AP recs ⟨o,pre,ao,undef,aj,[],[],ao,[]⟩)
   |2 =>
    match o.guard with
    |some (j,_)=>match recs[j]? with
     |some r=>match r.o.dst,r.v with
      |some t,.bool c=>fk t c
      |_,_=>od 23
     |none=>od 24
    |none=>od 25
   |_=>od 26
def F6 (f:Nat->Bool):Nat->Bool
 |0=>aq
 |n+1=>f n&&F6 f n
def aeW (a b:Rec R) (n:Nat):Bool:=!F6 (fun i=>!((gL a i&&C5 b i)||(gL b i&&C5 a i))) n
def aa8 (i:Nat) (a b:Rec R):Bool :=
 match b.o.dst with
 |some t=>!mem (tmpsOf a.o.op.operands.toList) t||mem b.pre i
 |none=>aq
def El (n:Nat) (i j:Nat) (a b:Rec R):Bool :=
 aa8 i a b&&(match a.o.dst,b.o.dst with
  |some t,aa u=>!fo t u
  |_,_=>aq) &&
 (mem b.pre i || !((a.w||b.w)&&aeW a b n))
def Lt (n:Nat) (i:Nat) (a:Rec R):Nat->List (Rec R)->Bool
 |_,[]=>aq
 |j,b::l=>El n i j a b&&Lt n i a (j+1) l
def BJ (n:Nat):Nat->List (Rec R)->Bool
 |_,[]=>aq
 |i,a::l=>Lt n i a (i+1) l&&BJ n (i+1) l
def Ir (ops:List Oper) (recs:List (Rec R)):Nat->List (Option Value)->List (Option Value)
 |_,[]=>[]
 |t,x::l=>(match nj ops t 0 with
  |some j=>(match recs[j]? with
   |some r=>aa r.v
   |none=>aj)
  |none=>x)::Ir ops recs (t+1) l
def aeR (ops:List Oper) (N:Nat) (recs:List (Rec R)) (li:List (Nat×Bool)):List (Nat×Bool) :=
 (recs.flatMap fun r=>match r.o.dst,r.lit with
  |some t,aa b=>if gU t N then[(t,b)] else[]
  |_,_=>[])++li.filter fun q=>match nj ops q.1 0 with
   |some _=>ao
   |none=>aq
def AN (ops:List Oper) (cq:SS R) (recs:List (Rec R)):SS R :=
 ⟨Ir ops recs 0 cq.tm,aeR ops cq.tm.length recs cq.li,kO cq.hp recs (fun _=>aq) (fun _=>aq) 0 (fe recs cq.hp.length)⟩
def Es (P:Program) (T:eK R) (ops:List Oper) (cq:SS R) (k:SS R->Prop):Nat->List (Nat×Bool)->Prop
 |0,_=>od 27
 |n+1,vU=>CJ P T ops cq vU
   (fun recs=>if BJ (fe recs cq.hp.length) 0 recs&&allKnown cq.hp.length recs recs then I6 (AN ops cq recs) k else od 28)
   (fun t c=>(c=aq->Es P T ops cq k n ((t,aq)::vU))/\(c=ao->Es P T ops cq k n ((t,ao)::vU))) ops []
end
end Rx
namespace Rx
open Go.RowKit State
section
variable {R:Type} {D:fK R} {P:Program} {T:eK R}
theorem jn {h0:Hp R} {recs:List (Rec R)} {p sel:Nat->Bool}:∀ (n b i:Nat),(kO h0 recs p sel b n).length=n/\(i<n->(kO h0 recs p sel b n)[i]?=aa (if sel (b+i) then content p (b+i) recs 0 (fU h0 (b+i)) else aj))
 |0,b,i=>⟨rfl,fun h=>by omega⟩
 |n+1,b,i=>by
  obtain⟨h1,h2⟩:=jn (h0:=h0) (recs:=recs) (p:=p) (sel:=sel) n (b+1) (i-1);refine⟨by simp[kO,h1],fun h=>?_⟩
  cases i with
  |zero=>simp[kO]
  |succ i =>
   simp only[kO,bH];have:=h2 (by omega)
   simp only[mb] at this;rw[this,show b+1+i=b+(i+1) by omega]
theorem vE {p q:Nat->Bool} {b:Nat}:∀ (recs:List (Rec R)) (j0:Nat) (acc:Option (SB R)),(∀ j r,recs[j]?=aa r->gL r b=aq->p (j0+j)=q (j0+j))->content p b recs j0 acc=content q b recs j0 acc
 |[],_,_,_=>rfl
 |r::l,j0,acc,h=>by
  simp only[content];have h0:=h 0 r (by simp)
  have e:(p j0&&gL r b)=(q j0&&gL r b):=by
   cases ht:gL r b with
   |false=>simp
   |true=>rw[← gV j0,h0 ht]
  rw[e];exact vE l (j0+1) _ fun j r' hj ht=>by
   have:=h (j+1) r' (by simpa using hj) ht
   rwa [show j0+(j+1)=j0+1+j by omega] at this
theorem J0 {p:Nat->Bool} {b:Nat}:∀ (recs:List (Rec R)) (j0:Nat) (acc:Option (SB R)) (i:Nat) (r:Rec R),recs[i]?=aa r->p (j0+i)=aq->gL r b=aq ->
  (∀ j r',recs[j]?=aa r'->i<j->p (j0+j)=aq->gL r' b=ao)->content p b recs j0 acc=fU r.hx b
 |[],_,_,i,r,hi,_,_,_=>by simp at hi
 |r0::l,j0,acc,i,r,hi,hp,ht,hn=>by
  simp only[content];cases i with
  |zero =>
   simp only[cf,cu] at hi;subst hi;rw[gV] at hp;simp only[hp,ht,SR,if_true];have:∀ (l:List (Rec R)) (j1:Nat) (acc:Option (SB R)),(∀ j r',l[j]?=aa r'->p (j1+j)=aq->gL r' b=ao)->content p b l j1 acc=acc:=by
    intro l
    induction l with
    |nil=>intro j1 acc _;rfl
    |cons r' l ih =>
     intro j1 acc h;simp only[content];have h0:=h 0 r' (by simp)
     have e:(p j1&&gL r' b)=ao:=by
      cases w_:p j1 with
      |false=>simp
      |true=>simp[h0 (by rw[gV];exact w_)]
     rw[e];exact ih (j1+1) acc fun j r'' hj R'=>h (j+1) r'' (by simpa using hj) (by rwa [show j1+(j+1)=j1+1+j by omega])
   exact this l (j0+1) _ fun j r' hj R'=>hn (j+1) r' (by simpa using hj) (by omega) (by rwa [show j0+(j+1)=j0+1+j by omega])
  |succ i =>
   simp only[bH] at hi;exact J0 l (j0+1) _ i r hi (by rwa [show j0+1+i=j0+(i+1) by omega]) ht fun j r' hj cl R'=>hn (j+1) r' (by simpa using hj) (by omega) (by rwa [show j0+(j+1)=j0+1+j by omega])
theorem uk {p:Nat->Bool} {b:Nat}:∀ (recs:List (Rec R)) (j0:Nat) (acc:Option (SB R)),content p b recs j0 acc=acc∨∃ i r,recs[i]?=aa r/\p (j0+i)=aq/\gL r b=aq/\content p b recs j0 acc=fU r.hx b
 |[],_,_=>dN rfl
 |r::l,j0,acc=>by
  simp only[content];rcases uk (p:=p) (b:=b) l (j0+1) (if p j0&&gL r b then fU r.hx b else acc) with h|⟨i,r',h1,h2,h3,h4⟩
  ·cases hc:(p j0&&gL r b) with
   |false=>rw[hc] at h;left;simpa using h
   |true =>
    rw[hc] at h;simp only[aL] at hc;exact eY ⟨0,r,by simp,by simpa using hc.1,hc.2,by simpa using h⟩
  ·exact eY ⟨i+1,r',by simpa using h1,by rwa [show j0+(i+1)=j0+1+i by omega],h3,h4⟩
theorem Kw {p:Nat->Bool} {b:Nat}:∀ (recs:List (Rec R)) (i j0:Nat) (acc:Option (SB R)),(∀ j,i≤j->p (j0+j)=ao)->content p b (recs.take i) j0 acc=content p b recs j0 acc
 |[],i,j0,acc,_=>by simp
 |r::l,0,j0,acc,h=>by
  simp only[sc];have:content p b (r::l) j0 acc=content (fun _=>ao) b (r::l) j0 acc:=vE _ _ _ fun j _ _ _=>h j (by omega)
  rw[this];have key:∀ (l:List (Rec R)) (j1:Nat),content (fun _=>ao) b l j1 acc=acc:=fun l=>by
   induction l with
   |nil=>intro _;rfl
   |cons r l ih=>intro j1;simp only[content,B4,fu,if_false];exact ih _
  rw[key]
  rfl
 |r::l,i+1,j0,acc,h=>by
  simp only[List.take_succ_cons,content];exact Kw l i (j0+1) _ fun j hj=>by have:=h (j+1) (by omega);rwa [show j0+(j+1)=j0+1+j by omega] at this
theorem Wq (l:List (Rec R)) (r:Rec R) (n:Nat):fe (l++[r]) n=if Ek r then r.hx.length else fe l n:=by
 induction l generalizing n with
 |nil=>rfl
 |cons a l ih=>simp only[List.cons_append,fe,ih]
theorem PY {recs:List (Rec R)} {b:Nat}:∀ {l:List Nat},Pp recs l b=aq->∃ j q,j∈l/\recs[j]?=aa q/\newAt q b=aq
 |[],h=>by cases h
 |j::l,h=>by
  simp only[Pp,jL] at h;rcases h with h|h
  ·split at h
   ·rename_i q hq;exact⟨j,q,bO,hq,h⟩
   ·cases h
  ·obtain⟨j',q,h1,h2,h3⟩:=PY h;exact⟨j',q,eo _ h1,h2,h3⟩
theorem Xx {f:Nat->Bool}:∀ {h:Hp R} {b:Nat} {t:TypeId} {cs:List Value},T7 f h=aq->h[b]?=aa (aa (.inl (t,cs)))->Ax f cs=aq
 |[],b,t,cs,_,hb=>by simp at hb
 |x::h,b,t,cs,hk,hb=>by
  have hr:T7 f h=aq/\(b=0->Ax f cs=aq):=by
   rcases x with _|⟨t',Cx⟩|⟨t',ro⟩|ro|x
   ·exact⟨hk,fun e=>by subst e;simp at hb⟩
   ·simp only[T7,aL] at hk;refine⟨hk.2,fun e=>?_⟩
    subst e;simp only[cf,cu,Sum.inl.injEq,td] at hb;rw[← hb.2];exact hk.1
   ·exact⟨hk,fun e=>by subst e;simp at hb⟩
   ·exact⟨hk,fun e=>by subst e;simp at hb⟩
   ·exact⟨hk,fun e=>by subst e;simp at hb⟩
  cases b with
  |zero=>exact hr.2 rfl
  |succ b=>simp only[bH] at hb;exact Xx hr.1 hb
theorem Fc {n:Nat} {all:List (Rec R)}:∀ {l:List (Rec R)} {i:Nat} {r:Rec R},allKnown n all l=aq->l[i]?=aa r->lY (Bz n all r) r.v=aq/\T7 (Bz n all r) r.hx=aq
 |[],i,r,_,h=>by simp at h
 |r0::l,i,r,h,hi=>by
  simp only[allKnown,aL] at h;cases i with
  |zero=>simp only[cf,cu] at hi;subst hi;exact h.1
  |succ i=>simp only[bH] at hi;exact Fc h.2 hi
theorem FP {recs:List (Rec R)}:∀ {es:List Edge} {pre:List Nat},KW recs es=aa pre->(∀ e∈es,KJ .any e=aq->e.on∈pre) /\
  ∀ j∈pre,∃ e∈es,KJ .any e=aq/\∃ q,recs[e.on]?=aa q/\(j=e.on∨j∈q.pre)
 |[],pre,h=>by
  simp only[KW] at h;injection h with h
  subst h;exact⟨(fun e he=>by cases he),fun j hj=>by cases hj⟩
 |e::l,pre,h=>by
  simp only[KW] at h;split at h
  ·cases h
  ·rename_i r hr;obtain⟨h1,h2⟩:=FP hr;split at h
   ·rename_i hb;split at h
    ·rename_i q hq;injection h with h
     subst h;refine⟨fun e' vQ qf=>?_,fun j hj=>?_⟩
     ·rcases bR.1 vQ with rfl|vQ
      ·exact Lp.2 (dN rfl)
      ·exact Lp.2 (eY (Nl.2 (eY (h1 e' vQ qf))))
     ·rcases Lp.1 hj with rfl|hj
      ·exact⟨e,bO,hb,q,hq,dN rfl⟩
      ·rcases Nl.1 hj with hj|hj
       ·exact⟨e,bO,hb,q,hq,eY hj⟩
       ·obtain⟨e',g1,g2,g3⟩:=h2 j hj;exact⟨e',eo _ g1,g2,g3⟩
    ·cases h
   ·rename_i hb;injection h with h
    subst h;refine⟨fun e' vQ qf=>?_,fun j hj=>?_⟩
    ·rcases bR.1 vQ with rfl|vQ
     ·exact absurd qf hb
     ·exact h1 e' vQ qf
    ·obtain⟨e',g1,g2,g3⟩:=h2 j hj;exact⟨e',eo _ g1,g2,g3⟩
theorem WU {ops:List Oper}:∀ {t i0 j:Nat},nj ops t i0=aa j->∃ k o,j=i0+k/\ops[k]?=aa o/\o.dst=aa t:=by
 induction ops with
 |nil=>intro t i0 j h;cases h
 |cons o l ih =>
  intro t i0 j h;simp only[nj] at h;split at h
  ·rename_i u hu;split at h
   ·rename_i hb;injection h with h
    have:=cR hb;subst this;exact⟨0,o,by omega,by simp,hu⟩
   ·obtain⟨k,o',h1,h2,h3⟩:=ih h;exact⟨k+1,o',by omega,by simpa using h2,h3⟩
  ·obtain⟨k,o',h1,h2,h3⟩:=ih h;exact⟨k+1,o',by omega,by simpa using h2,h3⟩
theorem Vh {ops:List Oper}:∀ {t i0 k:Nat} {o:Oper},ops[k]?=aa o->o.dst=aa t->(∀ j o',ops[j]?=aa o'->j<k->o'.dst≠aa t)->nj ops t i0=aa (i0+k):=by
 induction ops with
 |nil=>intro t i0 k o h;simp at h
 |cons o0 l ih =>
  intro t i0 k o h hd hn;simp only[nj];cases k with
  |zero =>
   simp only[cf,cu] at h;subst h;simp[hd]
  |succ k =>
   simp only[bH] at h;have h0:=hn 0 o0 (by simp) (by omega)
   have rest:=ih (i0:=i0+1) h hd fun j o' hj cl=>hn (j+1) o' (by simpa using hj) (by omega)
   rw[show i0+1+k=i0+(k+1) by omega] at rest
   cases hu:o0.dst with
   |none=>simp only;exact rest
   |some u =>
    simp only;have:fo u t=ao:=by
     cases hb:fo u t with
     |false=>rfl
     |true=>exact absurd (by rw[hu,cR hb]) h0
    rw[this];exact rest
theorem Ij {ops:List Oper} {recs:List (Rec R)} {pre tms:List Nat}:∀ {l:List (Option Value)} {t0 i:Nat} {v:Value},(E' ops recs pre tms t0 l).length=l.length /\
  ((E' ops recs pre tms t0 l)[i]?=aa (aa v)->t0+i∈tms/\((∃ j r,nj ops (t0+i) 0=aa j/\j∈pre/\recs[j]?=aa r/\v=r.v)∨(nj ops (t0+i) 0=aj/\l[i]?=aa (aa v))∨(∃ j,nj ops (t0+i) 0=aa j/\recs.length≤j/\l[i]?=aa (aa v)))):=by
 intro l
 induction l with
 |nil=>intro t0 i v;exact⟨rfl,fun h=>by simp[E'] at h⟩
 |cons x l ih =>
  intro t0 i v;obtain⟨h1,_⟩:=ih (t0:=t0+1) (i:=i) (v:=v);refine⟨by simp[E',h1],fun h=>?_⟩
  cases i with
  |zero =>
   simp only[E',cf,cu,gV] at h ⊢;split at h
   ·rename_i hm;refine⟨mem_iff.1 hm,?_⟩;split at h
    ·rename_i j hj;split at h
     ·rename_i R';split at h
      ·rename_i r hr;injection h with h
       exact dN ⟨j,r,hj,mem_iff.1 R',hr,h.symm⟩
      ·cases h
     ·split at h
      ·rename_i hle;exact eY (eY ⟨j,hj,jB hle,h⟩)
      ·cases h
    ·rename_i hj;exact eY (dN ⟨hj,h⟩)
   ·cases h
  |succ i =>
   simp only[E',bH] at h ⊢;obtain⟨_,h2⟩:=ih (t0:=t0+1) (i:=i) (v:=v);have:=h2 h
   rwa [show t0+1+i=t0+(i+1) by omega] at this
theorem ac2 {ops:List Oper} {li:List (Nat×Bool)} {recs:List (Rec R)} {pre:List Nat}:∀ {l:List Nat} {t:Nat} {b:Bool},(t,b)∈JD ops li recs pre l ->
  t∈l/\((∃ j r,nj ops t 0=aa j/\j∈pre/\recs[j]?=aa r/\r.lit=aa b)∨(nj ops t 0=aj/\(t,b)∈li)):=by
 intro l
 induction l with
 |nil=>intro t b h;cases h
 |cons u l ih =>
  intro t b h;simp only[JD] at h;rcases b9.1 h with h|h
  ·split at h
   ·rename_i j hj;split at h
    ·rename_i hp;split at h
     ·rename_i r hr;split at h
      ·rename_i b' qf;simp only[ib,td] at h;obtain⟨rfl,rfl⟩:=h;exact⟨bO,dN ⟨j,r,hj,mem_iff.1 hp,hr,qf⟩⟩
      ·cases h
     ·cases h
    ·cases h
   ·rename_i hj;split at h
    ·rename_i b' qf;simp only[ib,td] at h;obtain⟨rfl,rfl⟩:=h;exact⟨bO,eY ⟨hj,Nv qf⟩⟩
    ·cases h
  ·obtain⟨h1,h2⟩:=ih h;exact⟨eo _ h1,h2⟩
theorem abW {l:List (Option Value)} {v:Value}:∀ {i:Nat},l[i]?=aa (aa v)->v∈FH l:=by
 induction l with
 |nil=>intro i h;simp at h
 |cons x l ih =>
  intro i h;cases i with
  |zero =>
   simp only[cf,cu] at h;subst h;exact bO
  |succ i =>
   simp only[bH] at h;cases x with
   |none=>exact ih h
   |some u=>exact eo _ (ih h)
theorem rM:∀ {hr hx:Hp R} {b:Nat} {X:SB R},rz hr hx=aq->hr.length≤hx.length/\(hx[b]?=aa (aa X)->(b<hr.length->∃ Y,hr[b]?=aa (aa Y))/\(h9 X=ao∨∃ Y,hr[b]?=aa (aa Y)/\h9 Y=aq))
 |[],[],b,X,_=>⟨bc _,fun h=>by simp at h⟩
 |[],aj::hx,b,X,h=>by
  simp only[rz] at h;have ih:=fun b=>rM (b:=b) (X:=X) h
  refine⟨by simp,fun hb=>⟨fun cl=>by simp at cl,?_⟩⟩
  cases b with
  |zero=>simp at hb
  |succ b =>
   simp only[bH] at hb;rcases((ih b).2 hb).2 with h1|⟨Y,hY,_⟩
   ·exact dN h1
   ·simp at hY
 |[],aa X'::hx,b,X,h=>by
  simp only[rz,aL,mM] at h;have ih:=fun b=>rM (b:=b) (X:=X) h.2
  refine⟨by simp,fun hb=>⟨fun cl=>by simp at cl,?_⟩⟩
  cases b with
  |zero =>
   simp only[cf,cu] at hb;subst hb;exact dN h.1
  |succ b =>
   simp only[bH] at hb;rcases((ih b).2 hb).2 with h1|⟨Y,hY,_⟩
   ·exact dN h1
   ·simp at hY
 |_::_,[],b,X,h=>by simp[rz] at h
 |none::hr,aj::hx,b,X,h=>by
  simp only[rz] at h;have ih:=fun b=>rM (b:=b) (X:=X) h
  refine⟨by have:=(ih 0).1;simpa using this,fun hb=>?_⟩
  cases b with
  |zero=>simp at hb
  |succ b=>simp only[bH,cI] at hb ⊢;exact⟨fun cl=>((ih b).2 hb).1 (by omega),((ih b).2 hb).2⟩
 |none::_,aa _::_,b,X,h=>by simp[rz] at h
 |some Y::hr,aj::hx,b,X,h=>by
  simp only[rz] at h;have ih:=fun b=>rM (b:=b) (X:=X) h
  refine⟨by have:=(ih 0).1;simpa using this,fun hb=>?_⟩
  cases b with
  |zero=>simp at hb
  |succ b=>simp only[bH,cI] at hb ⊢;exact⟨fun cl=>((ih b).2 hb).1 (by omega),((ih b).2 hb).2⟩
 |some Y::hr,aa X'::hx,b,X,h=>by
  simp only[rz,aL,jL,mM] at h;have ih:=fun b=>rM (b:=b) (X:=X) h.2
  refine⟨by have:=(ih 0).1;simpa using this,fun hb=>?_⟩
  cases b with
  |zero =>
   simp only[cf,cu] at hb;subst hb;exact⟨fun _=>⟨Y,by simp⟩,h.1.imp id fun hv=>⟨Y,by simp,hv⟩⟩
  |succ b=>simp only[bH,cI] at hb ⊢;exact⟨fun cl=>((ih b).2 hb).1 (by omega),((ih b).2 hb).2⟩
theorem zE {f:Nat->Bool}:∀ {n i:Nat},F6 f n=aq->i<n->f i=aq
 |0,i,_,h=>by omega
 |n+1,i,h,hi=>by
  simp only[F6,aL] at h
  by_cases he:i=n
  ·rw[he];exact h.1
  ·exact zE h.2 (by omega)
theorem LU {n i:Nat} {a:Rec R}:∀ {l:List (Rec R)} {j k:Nat} {b:Rec R},Lt n i a j l=aq->l[k]?=aa b->El n i (j+k) a b=aq
 |[],j,k,b,_,h=>by simp at h
 |b0::l,j,k,b,h,hk=>by
  simp only[Lt,aL] at h;cases k with
  |zero=>simp only[cf,cu] at hk;subst hk;exact h.1
  |succ k =>
   simp only[bH] at hk;have:=LU h.2 hk
   rwa [show j+1+k=j+(k+1) by omega] at this
theorem JH {n:Nat}:∀ {l:List (Rec R)} {i0 i j:Nat} {a b:Rec R},BJ n i0 l=aq->l[i]?=aa a->l[j]?=aa b->i<j->El n (i0+i) (i0+j) a b=aq
 |[],_,i,j,a,b,_,h,_,_=>by simp at h
 |a0::l,i0,i,j,a,b,h,hi,hj,cl=>by
  simp only[BJ,aL] at h;cases j with
  |zero=>omega
  |succ j =>
   simp only[bH] at hj;cases i with
   |zero =>
    simp only[cf,cu] at hi;subst hi;have:=LU h.1 hj
    rwa [show i0+1+j=i0+(j+1) by omega] at this
   |succ i =>
    simp only[bH] at hi;have:=JH h.2 hi hj (by omega)
    rwa [show i0+1+i=i0+(i+1) by omega,show i0+1+j=i0+(j+1) by omega] at this
end
end Rx
namespace Rx
open Go.RowKit State
section
variable {R:Type} {D:fK R} {P:Program} {T:eK R}
structure afn (P:Program) (T:eK R) (ops:List Oper) (cq:SS R) (ahead:List (Rec R)) (i:Nat) (r:Rec R):Prop where
 o:ops[i]?=aa r.o
 pre:KW ahead r.o.after.toList=aa r.pre
 Xj:(G7 ahead r.pre r.o.guard=1/\r.v=undef/\r.lit=aj/\r.hr=[]/\r.hx=[]/\r.w=ao) ∨
  (G7 ahead r.pre r.o.guard=0/\∃ x,(∃ b,goes (Hk P T (oF ops cq ahead r.pre r.o) r.o) b/\Mp P T (oF ops cq ahead r.pre r.o) r.o b=aa x)/\E5 cq (oF ops cq ahead r.pre r.o) r.o x=aq/\x.vc /\
   r.v=x.v/\(∀ b,r.lit=aa b->x.lit=aa b∨x.v=.bool b)/\r.hr=(oF ops cq ahead r.pre r.o).hp/\r.hx=x.hp/\r.w = !x.wr.isEmpty/\r.wl=x.wr)
def C0 (P:Program) (T:eK R) (ops:List Oper) (cq:SS R) (recs:List (Rec R)):Prop:=∀ i r,recs[i]?=aa r->afn P T ops cq (recs.take i) i r
theorem C0.add {ops:List Oper} {cq:SS R} {recs:List (Rec R)} {r:Rec R} (h:C0 P T ops cq recs) (hr:afn P T ops cq recs recs.length r):C0 P T ops cq (AP recs r):=by
 intro i q hq;unfold AP at hq ⊢;rcases cx i recs.length with cl|j6
 ·rw[db cl] at hq;rw[Be (by omega)]
  exact h i q hq
 ·rw[dU j6] at hq;have:i=recs.length:=by
   rcases cx recs.length i with cl|hle
   ·rw[dg (by simp;omega)] at hq;cases hq
   ·omega
  subst this;simp at hq;subst hq;rw[List.take_left']
  ·exact hr
  ·rfl
theorem ad1 {e:Bool} {p q:Prop} (h:ZX e p q) (he:e=aq->p):p/\q:=by
 cases e with
 |true=>exact⟨he rfl,h⟩
 |false=>exact⟨h.1.out,h.2⟩
theorem Cq {ops:List Oper} {cq:SS R} {vU:List (Nat×Bool)} {k:List (Rec R)->Prop} {fk:Nat->Bool->Prop}:∀ (l:List Oper) {recs:List (Rec R)},ops.drop recs.length=l->C0 P T ops cq recs ->
  CJ P T ops cq vU k fk l recs->(∃ Iw,Iw.length=ops.length/\C0 P T ops cq Iw/\k Iw)∨∃ t c,fk t c
 |[],recs,hl,uC,h=>by
  rcases cx recs.length ops.length with cl|j6
  ·exact absurd hl (by rw[IL];omega)
  ·-- not anA apf the akN
   refine dN ⟨recs,?_,uC,h⟩;rcases cx ops.length recs.length with cl|hle
   ·have hq:recs[ops.length]?=aa (recs[ops.length]):=bj cl;have:=(uC _ _ hq).o;rw[dg (bc _)] at this;cases this
   ·omega
 |o::l,recs,hl,uC,h=>by
  have ho:ops[recs.length]?=aa o:=by
   have:=congrArg (fun m=>m[0]?) hl
   simpa [oL] using this
  have TB:∀ r:Rec R,ops.drop (AP recs r).length=l:=fun r=>by
   unfold AP;rw[bJ,qW,← se,hl]
   rfl
  simp only[CJ,VR,aaj,abS,Kj] at h;split at h
  ·exact h.elim
  ·rename_i pre hp;have yp:(⟨wS ops cq recs pre o,JD ops cq.li recs pre (tmpsOf o.op.operands.toList),kO cq.hp recs (mem pre) (mem (S7 o (sG (FH (wS ops cq recs pre o))) (kO cq.hp recs (mem pre) (fun _=>aq) 0 (fe recs cq.hp.length)))) 0 (fe recs cq.hp.length)⟩:SS R)=oF ops cq recs pre o:=rfl
   have hsh:kO cq.hp recs (mem pre) (mem (S7 o (sG (FH (wS ops cq recs pre o))) (kO cq.hp recs (mem pre) (fun _=>aq) 0 (fe recs cq.hp.length)))) 0 (fe recs cq.hp.length)=(oF ops cq recs pre o).hp:=rfl
   simp only[yp] at h;simp only[hsh] at h;split at h
   ·rename_i hg
    have one:∀ b,goes (Hk P T (oF ops cq recs pre o) o) b->Hw P T cq vU o pre (wS ops cq recs pre o) (JD ops cq.li recs pre (tmpsOf o.op.operands.toList)) (oF ops cq recs pre o).hp (fun r=>CJ P T ops cq vU k fk l (AP recs r)) b ->
      (∃ Iw,Iw.length=ops.length/\C0 P T ops cq Iw/\k Iw)∨∃ t c,fk t c:=by
     intro rW Nt h;simp only[Hw,Kj,Y1,afg] at h;have Ze:(⟨wS ops cq recs pre o,JD ops cq.li recs pre (tmpsOf o.op.operands.toList),(oF ops cq recs pre o).hp⟩:SS R)=oF ops cq recs pre o:=rfl;simp only[Ze] at h;split at h
     ·exact h.elim
     ·rename_i x hx;split at h
      ·rename_i hs;obtain⟨P0,h⟩:=ad1 h (XL hx);split at h
       ·rename_i b hb;exact Cq l (TB _) (uC.add ⟨ho,hp,eY ⟨hg,x,⟨rW,Nt,hx⟩,hs,P0,rfl,(fun c hc=>dN (by rw[hb];exact hc)),rfl,rfl,rfl,rfl⟩⟩) h
       ·rename_i hb;split at h
        ·rename_i b Jd;exact Cq l (TB _) (uC.add ⟨ho,hp,eY ⟨hg,x,⟨rW,Nt,hx⟩,hs,P0,h.1.out.symm,(fun c hc=>eY (by injection hc with hc;subst hc;exact h.1.out)),rfl,rfl,rfl,rfl⟩⟩) h.2
        ·exact Cq l (TB _) (uC.add ⟨ho,hp,eY ⟨hg,x,⟨rW,Nt,hx⟩,hs,P0,rfl,(fun c hc=>by cases hc),rfl,rfl,rfl,rfl⟩⟩) h
      ·exact h.elim
    split at h
    ·rename_i hf;exact one aq (dN ⟨hf,rfl⟩) h
    ·rename_i c hf;cases c with
     |true=>exact one aq (eY hf) (h.1 rfl)
     |false=>exact one ao (eY hf) (h.2 rfl)
   ·rename_i hg;exact Cq l (TB _) (uC.add ⟨ho,hp,dN ⟨hg,rfl,rfl,rfl,rfl,rfl⟩⟩) h
   ·split at h
    ·split at h
     ·split at h
      ·exact eY ⟨_,_,h⟩
      ·exact h.elim
     ·exact h.elim
    ·exact h.elim
   ·exact h.elim
theorem Kb {ops:List Oper} {cq:SS R} {k:SS R->Prop}:∀ (n:Nat) {vU:List (Nat×Bool)},Es P T ops cq k n vU ->
  ∃ recs,recs.length=ops.length/\C0 P T ops cq recs/\BJ (fe recs cq.hp.length) 0 recs=aq/\allKnown cq.hp.length recs recs=aq/\k (AN ops cq recs)
 |0,vU,h=>h.elim
 |n+1,vU,h=>by
  simp only[Es,JP] at h;rcases Cq ops (recs:=[]) rfl (fun i r hr=>by simp at hr) h with⟨recs,h1,h2,h3⟩|⟨t,c,h3⟩
  ·split at h3
   ·rename_i hb;rw[aL] at hb;exact⟨recs,h1,h2,hb.1,hb.2,h3⟩
   ·exact h3.elim
  ·cases c with
   |true=>exact Kb n (h3.1 rfl)
   |false=>exact Kb n (h3.2 rfl)
structure Good (P:Program) (T:eK R) (ops:List Oper) (cq:SS R) (recs:List (Rec R)):Prop where
 len:recs.length=ops.length
 all:C0 P T ops cq recs
 akR:BJ (fe recs cq.hp.length) 0 recs=aq
 known:allKnown cq.hp.length recs recs=aq
variable {ops:List Oper} {cq:SS R} {recs:List (Rec R)}
theorem Good.PU (g:Good P T ops cq recs):∀ (i:Nat) {r:Rec R} {j:Nat},recs[i]?=aa r->j∈r.pre->j<i:=by
 intro i
 induction i using tE with
 |_ i ih =>
  intro r j hr hj;obtain⟨_,h2⟩:=FP (g.all i r hr).pre;obtain⟨e,_,_,q,hq,VI⟩:=h2 j hj;have cl:e.on<i:=by
   have:=(aU.1 hq).1;rw[eu] at this;omega
  rcases VI with rfl|VI
  ·exact cl
  ·have:=ih e.on cl (r:=q) (j:=j) (by rw[Fj cl] at hq;exact hq) VI
   omega
theorem Good.ajU (g:Good P T ops cq recs) {i:Nat} {r:Rec R} (hr:recs[i]?=aa r):∀ j,i≤j->mem r.pre j=ao:=fun j hj=>by
 cases hm:mem r.pre j with
 |false=>rfl
 |true=>have:=g.PU i hr (mem_iff.1 hm);omega
theorem Good.pair (g:Good P T ops cq recs) {i j:Nat} {a b:Rec R} (hi:recs[i]?=aa a) (hj:recs[j]?=aa b) (cl:i<j):El (fe recs cq.hp.length) i j a b=aq:=by
 have:=JH g.akR hi hj cl
 simpa using this
theorem Dr {r:Rec R}:Ek r=aq↔r.hr.length<r.hx.length:=by simp[Ek,fa]
theorem zQ {r:Rec R} {b:Nat}:newAt r b=aq↔r.hr.length≤b/\b<r.hx.length:=by simp[newAt,fa]
theorem qD {h:Hp R} {b:Nat}:IG h b=aq↔∃ X,h[b]?=aa (aa X)/\h9 X=ao:=by
 unfold IG
 constructor
 ·intro hh;split at hh
  ·rename_i X hX;exact⟨X,hX,by simpa using hh⟩
  ·cases hh
 ·intro⟨X,hX,hv⟩;rw[hX];simp[hv]
theorem Good.hr (g:Good P T ops cq recs) {i:Nat} {r:Rec R} (hr:recs[i]?=aa r):r.hr=[]/\r.hx=[]/\r.w=ao ∨
  ∃ sel,r.hr=kO cq.hp recs (mem r.pre) sel 0 (fe (recs.take i) cq.hp.length):=by
 rcases(g.all i r hr).Xj with⟨_,_,_,h1,h2,h3⟩|⟨_,x,_,_,_,_,_,h1,_,_⟩
 ·exact dN ⟨h1,h2,h3⟩
 ·refine eY ⟨XU ops cq (recs.take i) r.pre r.o,?_⟩;rw[h1];simp only[oF];have hz:∀ j,i≤j->mem r.pre (0+j)=ao:=fun j hj=>by rw[b5];exact g.ajU hr j hj
  apply nU;intro b;rcases cx b (fe (recs.take i) cq.hp.length) with cl|j6
  ·rw[(jn _ 0 b).2 cl,(jn _ 0 b).2 cl,Kw recs i 0 _ hz]
  ·rw[dg (by rw[(jn _ 0 0).1];exact j6),dg (by rw[(jn _ 0 0).1];exact j6)]
theorem Good.Ew (g:Good P T ops cq recs) {i b:Nat} {r:Rec R} {X:SB R} (hr:recs[i]?=aa r) (hb:r.hr[b]?=aa (aa X)) :
  b<fe (recs.take i) cq.hp.length/\content (mem r.pre) b recs 0 (fU cq.hp b)=aa X:=by
 rcases g.hr hr with⟨h1,_⟩|⟨sel,h1⟩
 ·rw[h1] at hb;simp at hb
 ·rw[h1] at hb;have cl:b<fe (recs.take i) cq.hp.length:=by
   have:=(aU.1 hb).1
   rwa [(jn _ 0 0).1] at this
  rw[(jn _ 0 b).2 cl,b5] at hb;refine⟨cl,?_⟩;split at hb
  ·injection hb
  ·cases hb
theorem Good.hx (g:Good P T ops cq recs) {i:Nat} {r:Rec R} (hr:recs[i]?=aa r) (hT:cQ D P T):r.hr.length≤r.hx.length/\(r.w=ao->r.hx=r.hr) /\
  ∀ (b:Nat) (X:SB R),r.hx[b]?=aa (aa X)->(b<r.hr.length->∃ Y,r.hr[b]?=aa (aa Y))/\(h9 X=ao∨∃ Y,r.hr[b]?=aa (aa Y)/\h9 Y=aq):=by
 rcases(g.all i r hr).Xj with⟨_,_,_,h1,h2,h3⟩|⟨_,x,hx,hs,_,_,_,h1,h2,h3,_⟩
 ·refine⟨by rw[h1,h2];exact bc _,fun _=>by rw[h1,h2],fun b X hb=>?_⟩
  rw[h2] at hb;simp at hb
 ·simp only[E5,aL] at hs;have hb:=fun b X=>rM (b:=b) (X:=X) hs.2
  rw[h1,h2];refine⟨(hs.2 |> rM (b:=0) (X:=.inl (0,[]))).1,fun hw=>?_,fun b X=>(hb b X).2⟩
  obtain⟨rW,_,hx⟩:=hx;refine abD hT hx ?_;rw[h3] at hw
  simpa using hw
theorem Good.kept (g:Good P T ops cq recs) {i:Nat} {r:Rec R} (hr:recs[i]?=aa r) (hT:cQ D P T) {b:Nat} (hb:b<r.hr.length) (hk:Lm r.o r.wl b=aq):r.hx[b]?=r.hr[b]?:=by
 rcases(g.all i r hr).Xj with⟨_,_,_,h1,h2,h3⟩|⟨_,x,hx,hs,_,_,_,h1,h2,_,h4⟩
 ·rw[h1,h2]
 ·obtain⟨rW,_,hx⟩:=hx;rw[h1] at hb;rw[h1,h2];rw[h4] at hk;exact adX hT hx b hb hk
theorem Good.aaq (g:Good P T ops cq recs) {i:Nat} {r:Rec R} (hr:recs[i]?=aa r) (h:Ek r=aq∨r.w=aq):r.hr.length=fe (recs.take i) cq.hp.length:=by
 rcases g.hr hr with⟨h1,h2,h3⟩|⟨sel,h1⟩
 ·rcases h with h|h
  ·rw[Dr,h1,h2] at h;simp at h
  ·rw[h3] at h;cases h
 ·rw[h1,(jn _ 0 0).1]
theorem Good.aeD (g:Good P T ops cq recs) {i:Nat} {r:Rec R} (hr:recs[i]?=aa r):r.hr.length≤fe (recs.take i) cq.hp.length:=by
 rcases g.hr hr with⟨h1,_⟩|⟨sel,h1⟩
 ·rw[h1];simp
 ·rw[h1,(jn _ 0 0).1];exact bc _
theorem Good.abf (g:Good P T ops cq recs) {i:Nat} {r:Rec R} (hr:recs[i]?=aa r):fe (recs.take (i+1)) cq.hp.length=if Ek r then r.hx.length else fe (recs.take i) cq.hp.length:=by
 rw[List.take_add_one,hr];exact Wq _ _ _
theorem Good.ahW (g:Good P T ops cq recs) (i:Nat):fe (recs.take i) cq.hp.length≤fe (recs.take (i+1)) cq.hp.length:=by
 rcases cx i recs.length with cl|j6
 ·have hr:recs[i]?=aa recs[i]:=bj cl;rw[g.abf hr];split
  ·rename_i ha;have h1:=g.aaq hr (dN ha);have:=Dr.1 ha;omega
  ·exact bc _
 ·rw[jl j6,jl (by omega)]
  exact bc _
theorem Good.PK (g:Good P T ops cq recs) {i j:Nat} (h:i≤j):fe (recs.take i) cq.hp.length≤fe (recs.take j) cq.hp.length:=by
 induction j with
 |zero =>
  have:i=0:=by omega
  rw[this];exact bc _
 |succ j ih =>
  by_cases he:i=j+1
  ·rw[he];exact bc _
  ·exact iY (ih (by omega)) (g.ahW j)
theorem Good.aeH (g:Good P T ops cq recs) (i:Nat):cq.hp.length≤fe (recs.take i) cq.hp.length:=by
 have:=g.PK (dx i)
 rwa [sc] at this
theorem Good.Nc (g:Good P T ops cq recs) (i:Nat):fe (recs.take i) cq.hp.length≤fe recs cq.hp.length:=by
 rcases Nat.le_total i recs.length with h|h
 ·have:=g.PK h
  rwa [kC] at this
 ·rw[jl h];exact bc _
theorem Good.afa (g:Good P T ops cq recs) (hT:cQ D P T) {i:Nat} {r:Rec R} (hr:recs[i]?=aa r):r.hx.length≤fe (recs.take (i+1)) cq.hp.length:=by
 rw[g.abf hr];split
 ·exact bc _
 ·rename_i ha;have h1:=g.aeD hr;have:¬ r.hr.length<r.hx.length:=fun h=>ha (Dr.2 h)
  omega
theorem Good.aai (g:Good P T ops cq recs) (hT:cQ D P T) {i:Nat} {r:Rec R} (hr:recs[i]?=aa r):r.hx.length≤fe recs cq.hp.length:=iY (g.afa hT hr) (g.Nc _)
theorem Good.PN (g:Good P T ops cq recs) (hT:cQ D P T) {i b:Nat} {r:Rec R} (hr:recs[i]?=aa r) (h:newAt r b=aq):fe (recs.take i) cq.hp.length≤b/\b<fe (recs.take (i+1)) cq.hp.length:=by
 obtain⟨h1,h2⟩:=zQ.1 h;have ha:Ek r=aq:=Dr.2 (by omega)
 have h3:=g.aaq hr (dN ha);have h4:=g.afa hT hr;omega
theorem Good.Hu (g:Good P T ops cq recs) (hT:cQ D P T) {i b:Nat} {r:Rec R} (hr:recs[i]?=aa r) (h:newAt r b=aq):cq.hp.length≤b:=iY (g.aeH i) (g.PN hT hr h).1
theorem Good.aj' (g:Good P T ops cq recs) (hT:cQ D P T) {i b:Nat} {r:Rec R} (hr:recs[i]?=aa r) (h:newAt r b=aq):b<fe recs cq.hp.length:=ls (g.PN hT hr h).2 (g.Nc _)
theorem Good.Rv (g:Good P T ops cq recs) (hT:cQ D P T) {i j c:Nat} {a b:Rec R} (hi:recs[i]?=aa a) (hj:recs[j]?=aa b) (ha:newAt a c=aq) (hb:newAt b c=aq):i=j:=by
 have h1:=g.PN hT hi ha;have h2:=g.PN hT hj hb;rcases nV i j with h|h|h
 ·have:=g.PK (show i+1≤j from h)
  omega
 ·exact h
 ·have:=g.PK (show j+1≤i from h)
  omega
theorem Good.ad9 (g:Good P T ops cq recs) (hT:cQ D P T) {i b:Nat} {r:Rec R} {X:SB R} (hr:recs[i]?=aa r) (ht:gL r b=aq) (hb:fU r.hx b=aa X):h9 X=ao:=by
 have hx:r.hx[b]?=aa (aa X):=by
  unfold fU at hb;split at hb
  ·rename_i hh;rw[hh,hb]
  ·cases hb
 rcases((g.hx hr hT).2.2 b X hx).2 with h|⟨Y,hY,hv⟩
 ·exact h
 ·simp only[gL,aL,jL] at ht;rcases ht.2 with h|h
  ·obtain⟨Z,hZ,Vl⟩:=qD.1 h.1;rw[hY] at hZ;injection hZ with hZ;injection hZ with hZ
   subst hZ;rw[hv] at Vl;cases Vl
  ·have h1:=(zQ.1 h).1;have:=(aU.1 hY).1;omega
theorem Good.adr (g:Good P T ops cq recs) (hT:cQ D P T) {p:Nat->Bool} {b:Nat} {X:SB R} (h:content p b recs 0 (fU cq.hp b)=aa X) (hv:h9 X=aq):fU cq.hp b=aa X:=by
 rcases uk (p:=p) (b:=b) recs 0 (fU cq.hp b) with e|⟨i,r,hr,_,ht,e⟩
 ·rw[← e];exact h
 ·rw[e] at h;have:=g.ad9 hT hr ht h;rw[hv] at this;cases this
theorem O_ {α:Type} {h:List (Option α)} {b:Nat} {X:α} (hh:fU h b=aa X):b<h.length:=by
 unfold fU at hh;split at hh
 ·rename_i hx;exact(aU.1 hx).1
 ·cases hh
theorem Good.acg (g:Good P T ops cq recs) (hT:cQ D P T) {b:Nat} {X:SB R} (h:fU cq.hp b=aa X) (hv:h9 X=aq):∀ (i:Nat) {r:Rec R},recs[i]?=aa r->gL r b=ao:=by
 intro i
 induction i using tE with
 |_ i ih =>
  intro r hr;cases ht:gL r b with
  |false=>rfl
  |true =>
   exfalso
   simp only[gL,aL,jL] at ht;rcases ht.2 with h1|h1
   ·obtain⟨Y,hY,Vl⟩:=qD.1 h1.1;obtain⟨_,hc⟩:=g.Ew hr hY;rcases uk (p:=mem r.pre) (b:=b) recs 0 (fU cq.hp b) with e|⟨j,q,hq,hp,LQ,e⟩
    ·rw[e,h] at hc;injection hc with hc
     subst hc;rw[hv] at Vl;cases Vl
    ·rw[b5] at hp;rw[ih j (g.PU i hr (mem_iff.1 hp)) hq] at LQ;cases LQ
   ·have h2:=g.Hu hT hr h1;have:=O_ h;omega
theorem Good.M8 (g:Good P T ops cq recs) {i j:Nat} {a b:Rec R} (hi:recs[i]?=aa a) (hj:recs[j]?=aa b) (cl:i<j) (hn:mem b.pre i=ao) {c:Nat} (hc:c<fe recs cq.hp.length) :
  ¬ (gL a c=aq/\C5 b c=aq)/\¬ (gL b c=aq/\C5 a c=aq):=by
 have:=g.pair hi hj cl;simp only[El,aL,jL,mM] at this;obtain⟨_,h2⟩:=this;rcases h2 with h2|h3
 ·rw[hn] at h2;cases h2
 ·have key:(a.w=aq∨b.w=aq)->((gL a c&&C5 b c)||(gL b c&&C5 a c))=ao:=fun hw=>by
   have hw':(a.w||b.w)=aq:=by simpa using hw
   rw[hw',ji] at h3;unfold aeW at h3;simp only[Bool.not_eq_false'] at h3;have:=zE h3 hc
   simpa only [mM] using this
  refine⟨fun⟨h5,h6⟩=>?_,fun⟨h5,h6⟩=>?_⟩
  ·have hw:a.w=aq:=by simp only[gL,aL] at h5;exact h5.1
   have:=key (dN hw);rw[h5,h6] at this;simp at this
  ·have hw:b.w=aq:=by simp only[gL,aL] at h5;exact h5.1
   have:=key (eY hw);rw[h5,h6] at this;simp at this
structure Next (recs:List (Rec R)) (p:Nat->Bool) (i:Nat) (r:Rec R):Prop where
 at_:recs[i]?=aa r
 new:p i=ao
 pre:∀ j,j∈r.pre->p j=aq
 closed:∀ j q,p j=aq->recs[j]?=aa q->∀ l∈q.pre,p l=aq
variable {p:Nat->Bool} {i:Nat} {r:Rec R}
theorem Next.alone (n:Next recs p i r) (g:Good P T ops cq recs) {j:Nat} {q:Rec R} (hq:recs[j]?=aa q) (hp:p j=aq) (hm:mem r.pre j=ao) {c:Nat} (hc:c<fe recs cq.hp.length) :
  ¬ (gL q c=aq/\C5 r c=aq)/\¬ (gL r c=aq/\C5 q c=aq):=by
 rcases cx j i with cl|j6
 ·exact g.M8 hq n.at_ cl hm hc
 ·have kt:j≠i:=fun e=>by rw[e,n.new] at hp;cases hp
  have cl:i<j:=by omega
  have hn:mem q.pre i=ao:=by
   cases J8:mem q.pre i with
   |false=>rfl
   |true =>
    have:=n.closed j q hp hq i (mem_iff.1 J8);rw[n.new] at this;cases this
  obtain⟨h1,h2⟩:=g.M8 n.at_ hq cl hn hc;exact⟨h2,h1⟩
theorem Next.later (n:Next recs p i r) (g:Good P T ops cq recs) {j:Nat} {q:Rec R} (hq:recs[j]?=aa q) (hp:p j=aq) (cl:i<j):mem q.pre i=ao:=by
 cases J8:mem q.pre i with
 |false=>rfl
 |true =>
  have:=n.closed j q hp hq i (mem_iff.1 J8);rw[n.new] at this;cases this
theorem Next.sub (n:Next recs p i r) (g:Good P T ops cq recs) (hT:cQ D P T) {b:Nat} {X:SB R} (hb:r.hr[b]?=aa (aa X)):content p b recs 0 (fU cq.hp b)=aa X:=by
 obtain⟨cl,hc⟩:=g.Ew n.at_ hb;rw[← hc];refine vE recs 0 _ fun j q hq ht=>?_
 rw[b5];cases hv:h9 X with
 |true =>
  have:=g.acg hT (g.adr hT hc hv) hv j hq;rw[ht] at this;cases this
 |false =>
  cases hm:mem r.pre j with
  |true=>exact n.pre j (mem_iff.1 hm)
  |false =>
   cases hp:p j with
   |false=>rfl
   |true =>
    have adJ:b<fe recs cq.hp.length:=ls cl (g.Nc i);exact absurd ⟨ht,by simp only[C5,jL];exact dN (qD.2 ⟨X,hb,hv⟩)⟩ (n.alone g hq hp hm adJ).1
def q9 (p:Nat->Bool) (i:Nat):Nat->Bool:=fun j=>fo j i||p j
theorem zx (p:Nat->Bool) (i:Nat):q9 p i i=aq:=by simp[q9]
theorem xu (p:Nat->Bool) {i j:Nat} (h:j≠i):q9 p i j=p j:=by
 have:fo j i=ao:=by
  cases hb:fo j i with
  |false=>rfl
  |true=>exact absurd (cR hb) h
 simp[q9,this]
theorem Next.Dk (n:Next recs p i r) {b:Nat} (ht:gL r b=ao):content (q9 p i) b recs 0 (fU cq.hp b)=content p b recs 0 (fU cq.hp b):=by
 refine vE recs 0 _ fun j q hq LQ=>?_
 rw[b5];refine xu p fun e=>?_
 subst e;rw[n.at_] at hq;injection hq with hq
 subst hq;rw[ht] at LQ;cases LQ
theorem Next.WO (n:Next recs p i r) (g:Good P T ops cq recs) (hT:cQ D P T) {b:Nat} (ht:gL r b=aq):content (q9 p i) b recs 0 (fU cq.hp b)=fU r.hx b:=by
 have HU:C5 r b=aq:=by
  simp only[gL,aL,jL] at ht;simp only[C5,jL];exact ht.2.imp (fun h=>h.1) id
 have hb:b<fe recs cq.hp.length:=by
  simp only[C5,jL] at HU;rcases HU with h|h
  ·obtain⟨X,hX,_⟩:=qD.1 h;exact ls (g.Ew n.at_ hX).1 (g.Nc i)
  ·exact g.aj' hT n.at_ h
 refine J0 recs 0 _ i r n.at_ (by rw[b5];exact zx p i) ht fun j q hq cl hp=>?_
 rw[b5,xu p (by omega)] at hp
 cases LQ:gL q b with
 |false=>rfl
 |true=>exact absurd ⟨LQ,HU⟩ (g.M8 n.at_ hq cl (n.later g hq hp cl) hb).2
theorem Next.aix (n:Next recs p i r) (g:Good P T ops cq recs) (hT:cQ D P T) {b:Nat} (hb:newAt r b=aq):∀ (j:Nat) {q:Rec R},p j=aq->recs[j]?=aa q->gL q b=ao:=by
 intro j
 induction j using tE with
 |_ j ih =>
  intro q hp hq;cases ht:gL q b with
  |false=>rfl
  |true =>
   exfalso
   simp only[gL,aL,jL] at ht;rcases ht.2 with h1|h1
   ·obtain⟨Y,hY,_⟩:=qD.1 h1.1;obtain⟨_,hc⟩:=g.Ew hq hY;rcases uk (p:=mem q.pre) (b:=b) recs 0 (fU cq.hp b) with e|⟨l,q',hq',w_,LQ,e⟩
    ·rw[e] at hc;have:=O_ hc;have:=g.Hu hT n.at_ hb;omega
    ·rw[b5] at w_;rw[ih l (g.PU j hq (mem_iff.1 w_)) (n.closed j q hp hq l (mem_iff.1 w_)) hq'] at LQ;cases LQ
   ·have:=g.Rv hT n.at_ hq hb h1;rw[← this,n.new] at hp;cases hp
theorem Next.adH (n:Next recs p i r) (g:Good P T ops cq recs) (hT:cQ D P T) {b:Nat} (hb:newAt r b=aq):content p b recs 0 (fU cq.hp b)=aj:=by
 rcases uk (p:=p) (b:=b) recs 0 (fU cq.hp b) with e|⟨j,q,hq,hp,ht,e⟩
 ·rw[e];cases h:fU cq.hp b with
  |none=>rfl
  |some X =>
   have:=O_ h;have:=g.Hu hT n.at_ hb;omega
 ·rw[b5] at hp;rw[n.aix g hT hb j hp hq] at ht;cases ht
theorem Next.T4 (n:Next recs p i r) (g:Good P T ops cq recs) (hT:cQ D P T) {j:Nat} {q:Rec R} (hq:recs[j]?=aa q) (hp:p j=aq) {b:Nat} (h:Bz cq.hp.length recs q b=aq):(!newAt r b)=aq:=by
 cases hb:newAt r b with
 |false=>rfl
 |true =>
  exfalso
  simp only[Bz,jL,fa] at h;rcases h with(h|h)|h
  ·have:=g.Hu hT n.at_ hb;omega
  ·have:=g.Rv hT n.at_ hq hb h;rw[← this,n.new] at hp;cases hp
  ·obtain⟨l,q',h1,h2,h3⟩:=PY h;have:=g.Rv hT n.at_ h2 hb h3;have I8:=n.closed j q hp hq l h1;rw[← this,n.new] at I8;cases I8
theorem Next.af1 (n:Next recs p i r) (g:Good P T ops cq recs) (hT:cQ D P T) (T3:∀ b t cs,fU cq.hp b=aa (.inl (t,cs))->ix cq.hp.length cs=aq) {b:Nat} {t:TypeId} {cs:List Value}
  (h:content p b recs 0 (fU cq.hp b)=aa (.inl (t,cs))):Ax (fun b=>!newAt r b) cs=aq:=by
 rcases uk (p:=p) (b:=b) recs 0 (fU cq.hp b) with e|⟨j,q,hq,hp,ht,e⟩
 ·rw[e] at h;refine DJ (fun c hc=>?_) cs (T3 b t cs h)
  cases hb:newAt r c with
  |false=>rfl
  |true=>have:=g.Hu hT n.at_ hb;omega
 ·rw[b5] at hp;rw[e] at h;have hx:q.hx[b]?=aa (aa (.inl (t,cs))):=by
   unfold fU at h;split at h
   ·rename_i hh;rw[hh,h]
   ·cases h
  exact BC (fun c hc=>n.T4 g hT hq hp hc) cs (Xx (Fc g.known hq).2 hx)
end
end Rx
namespace Rx
open Go.RowKit State
section
variable {R:Type} {D:fK R} {P:Program} {T:eK R} {C:Ctx} {ops:List Oper} {cq:SS R} {recs:List (Rec R)} {w w':World}
theorem Good.recAt (g:Good P T ops cq recs) {j:Nat} {o:Oper} (h:ops[j]?=aa o):∃ r,recs[j]?=aa r/\r.o=o:=by
 have hl:j<recs.length:=by rw[g.len];exact(aU.1 h).1
 have hr:recs[j]?=aa recs[j]:=bj hl;refine⟨_,hr,?_⟩;have:=(g.all j _ hr).o;rw[h] at this;injection this with this
 exact this.symm
theorem Good.aip (g:Good P T ops cq recs) {i j:Nat} {a b:Oper} {t:Tmp} (hi:ops[i]?=aa a) (hj:ops[j]?=aa b) (ha:a.dst=aa t) (hb:b.dst=aa t):i=j:=by
 have key:∀ (i j:Nat) (a b:Oper),ops[i]?=aa a->ops[j]?=aa b->a.dst=aa t->b.dst=aa t->i<j->False:=by
  intro i j a b hi hj ha hb cl;obtain⟨ra,h1,h2⟩:=g.recAt hi;obtain⟨rb,h3,h4⟩:=g.recAt hj;have:=g.pair h1 h3 cl;simp only[El,aL,h2,h4,ha,hb] at this;have:=this.1;simp at this
 rcases nV i j with h|h|h
 ·exact(key i j a b hi hj ha hb h).elim
 ·exact h
 ·exact(key j i b a hj hi hb ha h).elim
theorem Good.Kl (g:Good P T ops cq recs) {i:Nat} {a:Oper} {t:Tmp} (hi:ops[i]?=aa a) (ha:a.dst=aa t):nj ops t 0=aa i:=by
 have:=Vh (i0:=0) hi ha fun j o' hj cl e=>by
  have:=g.aip hj hi e ha;omega
 rwa [b5] at this
theorem Qr {t j:Nat} (h:nj ops t 0=aa j):∃ o,ops[j]?=aa o/\o.dst=aa t:=by
 obtain⟨k,o,h1,h2,h3⟩:=WU h;rw[b5] at h1;subst h1;exact⟨o,h2,h3⟩
theorem XK {pre tms:List Nat}:∀ {l:List (Option Value)} {t0 i:Nat} {x:Option Value},l[i]?=aa x->(E' ops recs pre tms t0 l)[i]?=aa (if mem tms (t0+i) then
   match nj ops (t0+i) 0 with
   |some j=>if mem pre j then(match recs[j]? with
    |some r=>aa r.v
    |none=>aj) else if uJ recs.length j then x else aj
   |none=>x
  else aj):=by
 intro l
 induction l with
 |nil=>intro t0 i x h;simp at h
 |cons y l ih =>
  intro t0 i x h;cases i with
  |zero =>
   simp only[cf,cu] at h;subst h;simp only[E',cf,gV]
   all_goals rfl
  |succ i =>
   simp only[bH] at h;simp only[E',bH];rw[ih (t0:=t0+1) h,show t0+1+i=t0+(i+1) by omega]
theorem Ig {i j:Nat} {r:Rec R} (h:(recs.take i)[j]?=aa r):j<i/\recs[j]?=aa r:=by
 have cl:j<i:=by
  have:=(aU.1 h).1;rw[eu] at this;omega
 rw[Fj cl] at h;exact⟨cl,h⟩
theorem Good.lit (g:Good P T ops cq recs) (hT:cQ D P T) (n_:LI cq.li cq.tm):∀ (i:Nat) {r:Rec R},recs[i]?=aa r ->
  (∀ b,r.lit=aa b->r.v=.bool b/\∀ t,r.o.dst=aa t->t<cq.tm.length) /\
  ∀ x,E5 cq (oF ops cq (recs.take i) r.pre r.o) r.o x=aq->LI (oF ops cq (recs.take i) r.pre r.o).li (oF ops cq (recs.take i) r.pre r.o).tm:=by
 intro i
 induction i using tE with
 |_ i ih =>
  intro r hr;have hLI:LI (oF ops cq (recs.take i) r.pre r.o).li (oF ops cq (recs.take i) r.pre r.o).tm:=by
   intro t b Dc;simp only[oF] at Dc ⊢;obtain⟨h1,h2⟩:=ac2 Dc;rcases h2 with⟨j,q,h3,h4,h5,h6⟩|⟨h3,h4⟩
   ·obtain⟨hji,hq⟩:=Ig h5;obtain⟨o,ho,hd⟩:=Qr h3;have hqo:q.o=o:=by
     have:=(g.all j q hq).o;rw[ho] at this;injection this with this
     exact this.symm
    obtain⟨hv,ht⟩:=(ih j hji hq).1 b h6;have cl:=ht t (by rw[hqo];exact hd)
    have:=XK (ops:=ops) (recs:=recs.take i) (pre:=r.pre) (tms:=tmpsOf r.o.op.operands.toList) (t0:=0) (bj cl);rw[b5,mem_iff.2 h1,h3] at this;simp only[if_true,mem_iff.2 h4,h5,hv] at this;exact this
   ·have h5:=n_ t b h4;have:=XK (ops:=ops) (recs:=recs.take i) (pre:=r.pre) (tms:=tmpsOf r.o.op.operands.toList) (t0:=0) h5;rw[b5,mem_iff.2 h1,h3] at this;simp only[wS]
    simpa using this
  refine⟨fun b hb=>?_,fun _ _=>hLI⟩
  rcases(g.all i r hr).Xj with⟨_,_,h1,_⟩|⟨_,x,hx,hs,_,hv,Zc,_⟩
  ·rw[h1] at hb;cases hb
  ·refine⟨?_,fun t ht=>?_⟩
   ·rw[hv];rcases Zc b hb with h|h
    ·obtain⟨rW,Nt,hx⟩:=hx;exact(TE hT Nt hx (D:=D)).lit hLI b h
    ·exact h
   ·simp only[E5,aL,aeF] at hs;have:=hs.1.1.1.2;rw[ht] at this
    simpa [fa] using this
structure yQ (D:fK R) (C:Ctx) (ops:List Oper) (cq:SS R) (recs:List (Rec R)) (p:Nat->Bool) (a:Act) (w:World):Prop where
 defers:a.defers=[]
 closed:∀ j q,p j=aq->recs[j]?=aa q->∀ l∈q.pre,p l=aq
 src:∀ b t cs,fU cq.hp b=aa (.inl (t,cs))->ix cq.hp.length cs=aq
 ex:∃ ρ ft,(∀ i,i<C.n0->ρ i=C.e0 i)/\a.tmps.size=cq.tm.length /\
  (∀ t v,(∀ j,nj ops t 0=aa j->p j=ao)->cq.tm[t]?=aa (aa v)->a.tmps[t]?=aa (bW ρ v)/\fp cq.hp.length v=aq) /\
  (∀ t j q,t<cq.tm.length->nj ops t 0=aa j->p j=aq->recs[j]?=aa q->a.tmps[t]?=aa (bW ρ q.v)) /\
  HM D C ρ ft (kO cq.hp recs p (fun _=>aq) 0 (fe recs cq.hp.length)) w
theorem TK (b:Nat) (acc:Option (SB R)):∀ (l:List (Rec R)) (j1:Nat),content (fun _=>ao) b l j1 acc=acc:=by
 intro l
 induction l with
 |nil=>intro _;rfl
 |cons r l ih=>intro j1;simp only[content,B4,fu,if_false];exact ih _
theorem xA {h:Hp R} {b:Nat} (cl:b<h.length):h[b]?=aa (fU h b):=by
 unfold fU;rw[bj cl]
theorem aa9 {α:Type} {h:List (Option α)} {b:Nat} (j6:h.length≤b):fU h b=aj:=by
 unfold fU;rw[dg j6]
theorem yQ.start (g:Good P T ops cq recs) (hT:cQ D P T) {a:Act} (hm:M D C cq a w):yQ D C ops cq recs (fun _=>ao) a w:=by
 obtain⟨ρ,ft,h0,h1,h2⟩:=hm.ex;refine⟨hm.defers,(fun j q hp=>by cases hp),(fun b t cs hb=>?_),ρ,ft,h0,h1.size,fun t v _ hv=>h1.val t v hv,(fun t j q _ _ hp=>by cases hp),?_⟩
 ·have cl:=O_ hb;exact(h2.at_ b (.inl (t,cs)) (by rw[xA cl,hb])).2
 ·have hle:=g.Nc 0;rw[sc] at hle;simp only[fe] at hle;have:kO cq.hp recs (fun _=>ao) (fun _=>aq) 0 (fe recs cq.hp.length)=cq.hp++ld (fe recs cq.hp.length-cq.hp.length) aj:=by
   apply nU;intro b;rcases cx b (fe recs cq.hp.length) with cl|j6
   ·rw[(jn _ 0 b).2 cl,TK,b5];rcases cx b cq.hp.length with ZC|ahP
    ·rw[db ZC,xA ZC]
     rfl
    ·have amY:b-cq.hp.length<fe recs cq.hp.length-cq.hp.length:=by omega
     rw[dU ahP,aa9 ahP,List.getElem?_replicate,if_pos amY]
     rfl
   ·rw[dg (by rw[(jn _ 0 0).1];exact j6),dg (by rw[bJ,List.length_replicate];omega)]
  rw[this];exact h2.grow _
theorem yQ.yield {a:Act} {p:Nat->Bool} (g:Good P T ops cq recs) (hT:cQ D P T) (n_:LI cq.li cq.tm) (h:yQ D C ops cq recs p a w) {j:Nat} {q:Rec R} {b:Bool} {t:Tmp} (hq:recs[j]?=aa q) (hp:p j=aq)
  (hd:q.o.dst=aa t) (hb:q.lit=aa b):yielded ops.toArray a.tmps j=aa b:=by
 obtain⟨ρ,ft,_,_,_,h4,_⟩:=h.ex;have ho:=(g.all j q hq).o;obtain⟨hv,ht⟩:=(g.lit hT n_ j hq).1 b hb;have:=h4 t j q (ht t hd) (g.Kl ho hd) hp hq;rw[hv,VY] at this;exact HY (by unfold Lg;rw[ho];exact hd) this
theorem yQ.aiQ {a:Act} {p:Nat->Bool} (g:Good P T ops cq recs) (h:yQ D C ops cq recs p a w) {j:Nat} {q:Rec R} {t:Tmp} (hq:recs[j]?=aa q) (hp:p j=aq)
  (hd:q.o.dst=aa t) (hv:q.v=vq):yielded ops.toArray a.tmps j=aj:=by
 obtain⟨ρ,ft,_,n9,_,h4,_⟩:=h.ex;have ho:=(g.all j q hq).o;have key:a.tmps[t]?=aj∨a.tmps[t]?=aa vq:=by
  rcases cx t cq.tm.length with cl|j6
  ·right
   have:=h4 t j q cl (g.Kl ho hd) hp hq;rw[hv] at this
   simpa [vq,bW,nz] using this
  ·left
   exact Array.getElem?_eq_none (by omega)
 unfold yielded;rcases key with key|key<;>simp[ho,hd,key,vq]
theorem yQ.step {a:Act} {p:Nat->Bool} (g:Good P T ops cq recs) (hT:cQ D P T) (n_:LI cq.li cq.tm) (uA:C.n0≤cq.hp.length) (h:yQ D C ops cq recs p a w) {i:Nat} {r:Rec R} (n:Next recs p i r)
  {K:Act->World->Prop} {Q:Exit->Act->World->Prop} (hK:∀ a' w',yQ D C ops cq recs (q9 p i) a' w'->K a' w'):wpOp P ops.toArray Q i K a w:=by
 have ho:=(g.all i r n.at_).o;have RR:∀ j q,q9 p i j=aq->recs[j]?=aa q->∀ l∈q.pre,q9 p i l=aq:=by
  intro j q hp hq l hl
  by_cases Bf:l=i
  ·subst Bf;exact zx p l
  ·rw[xu p Bf]
   by_cases hj:j=i
   ·subst hj;rw[n.at_] at hq;injection hq with hq
    subst hq;exact n.pre l hl
   ·rw[xu p hj] at hp;exact h.closed j q hp hq l hl
 obtain⟨ρ,ft,h0,h1,h2,h3,h4⟩:=h.ex;have aeV:∀ b,b<cq.hp.length->newAt r b=ao:=fun b hb=>by
  cases hh:newAt r b with
  |false=>rfl
  |true=>have:=g.Hu hT n.at_ hh;omega
 have frame:∀ (nh:Env) (JG:Nat->Nat->Prop) (w':World) (v:Value),(∀ b,newAt r b=ao->nh b=ρ b) ->
   v=bW nh r.v->HM D C nh JG (kO cq.hp recs (q9 p i) (fun _=>aq) 0 (fe recs cq.hp.length)) w' ->
   yQ D C ops cq recs (q9 p i) (a.put r.o.dst v) w':=by
  intro nh JG w' v qF hv hm;have afe:∀ u,fp cq.hp.length u=aq->bW ρ u=bW nh u:=fun u hu=>na (n:=cq.hp.length) (fun b hb=>(qF b (aeV b hb)).symm) u hu
  have afs:∀ j q,p j=aq->recs[j]?=aa q->bW ρ q.v=bW nh q.v:=fun j q hp hq =>
   U8 (f:=Bz cq.hp.length recs q) (fun b hb=>(qF b (by simpa using n.T4 g hT hq hp hb)).symm) q.v (Fc g.known hq).1
  refine⟨by cases r.o.dst<;>exact h.defers,RR,h.src,nh,JG,fun b hb=>?_,?_,fun t u hd hu=>?_,fun t j q ht hd hp hq=>?_,hm⟩
  ·rw[qF b (aeV b (by omega))];exact h0 b hb
  ·cases hd:r.o.dst with
   |none=>exact h1
   |some t=>simp[B3,h1]
  ·obtain⟨k1,k2⟩:=h2 t u (fun j hj=>by
    have:=hd j hj
    by_cases hji:j=i
    ·subst hji;rw[zx] at this;cases this
    ·rwa [xu p hji] at this) hu
   refine⟨?_,k2⟩;cases xa:r.o.dst with
   |none=>simp only[B3];rw[k1,afe u k2]
   |some t' =>
    have kt:t'≠t:=fun e=>by
     subst e;have:=hd i (g.Kl ho xa);rw[zx] at this;cases this
    simp only[B3];rw[Ac kt,k1,afe u k2]
  ·by_cases hj:j=i
   ·subst hj;rw[n.at_] at hq;injection hq with hq
    subst hq;obtain⟨o,ho',hdo⟩:=Qr hd;rw[ho] at ho';injection ho' with ho'
    subst ho';simp only[hdo,B3];rw[Array.getElem?_setIfInBounds];simp[h1,ht,hv]
   ·rw[xu p hj] at hp;have k1:=h3 t j q ht hd hp hq;cases xa:r.o.dst with
    |none=>simp only[B3];rw[k1,afs j q hp hq]
    |some t' =>
     have kt:t'≠t:=fun e=>by
      subst e;rw[g.Kl ho xa] at hd;injection hd with hd
      exact hj hd.symm
     simp only[B3];rw[Ac kt,k1,afs j q hp hq]
 have guard:∀ (m:Nat),G7 (recs.take i) r.pre r.o.guard=m->m<2->kz r.o (yielded ops.toArray a.tmps)=(fo m 0):=by
  intro m hg hm;unfold G7 at hg;split at hg
  ·rename_i hgd;subst hg;simp[kz,hgd]
  ·rename_i j want hgd;split at hg
   ·rename_i hmj;split at hg
    ·rename_i q hq;obtain⟨_,hq⟩:=Ig hq;split at hg
     ·rename_i t hd;split at hg
      ·rename_i b hb;have hy:=h.yield g hT n_ hq (n.pre j (mem_iff.1 hmj)) hd hb;split at hg
       ·rename_i hbw;subst hg;simp[kz,hgd,hy]
        simpa using hbw
       ·rename_i hbw;subst hg;simp[kz,hgd,hy];have:(b==want)=ao:=by simpa using hbw
        rw[this]
        rfl
      ·split at hg
       ·rename_i hu;subst hg;have hy:=h.aiQ g hq (n.pre j (mem_iff.1 hmj)) hd (Pr hu);have e:kz r.o (yielded ops.toArray a.tmps)=((aj:Option Bool)==aa want):=by simp only[kz,hgd,hy]
        rw[e];cases want<;>rfl
       ·omega
     ·omega
    ·omega
   ·omega
 have hL:(kO cq.hp recs p (fun _=>aq) 0 (fe recs cq.hp.length)).length=fe recs cq.hp.length:=(jn _ 0 0).1
 have OH:∀ b,b<fe recs cq.hp.length->(kO cq.hp recs (q9 p i) (fun _=>aq) 0 (fe recs cq.hp.length))[b]?=aa (content (q9 p i) b recs 0 (fU cq.hp b)):=fun b hb=>by
  rw[(jn _ 0 b).2 hb,b5];simp
 have KB:∀ b,b<fe recs cq.hp.length->(kO cq.hp recs p (fun _=>aq) 0 (fe recs cq.hp.length))[b]?=aa (content p b recs 0 (fU cq.hp b)):=fun b hb=>by
  rw[(jn _ 0 b).2 hb,b5];simp
 unfold wpOp;rw[jA,ho];simp only;rcases(g.all i r n.at_).Xj with⟨hg,hv,hl,hhr,An,hw⟩|⟨hg,x,hx,hs,P0,hv,Zc,hhr,An,hw⟩
 ·rw[guard 1 hg (by omega)]
  simp only[fo,fu,if_false];have hnt:∀ b,gL r b=ao:=fun b=>by simp[gL,hw]
  have S4:kO cq.hp recs (q9 p i) (fun _=>aq) 0 (fe recs cq.hp.length)=kO cq.hp recs p (fun _=>aq) 0 (fe recs cq.hp.length):=by
   apply nU;intro b;rcases cx b (fe recs cq.hp.length) with cl|j6
   ·rw[OH b cl,KB b cl,n.Dk (hnt _)]
   ·rw[dg (by rw[(jn _ 0 0).1];exact j6),dg (by rw[(jn _ 0 0).1];exact j6)]
  refine hK _ _ (frame ρ ft w undef (fun _ _=>rfl) ?_ ?_)
  ·rw[hv];simp[undef,bW,nz]
  ·rw[S4];exact h4
 ·rw[guard 0 hg (by omega)]
  simp only[fo,if_true]
  left
  have hsx:=hs;simp only[E5,aL] at hsx;obtain⟨⟨⟨⟨k1,k2⟩,k3⟩,k4⟩,k5⟩:=hsx;simp only[tidy,aL] at k1;obtain⟨rW,Nt,hx⟩:=hx;have uC:=TE hT Nt hx (D:=D);have hLI:=(g.lit hT n_ i n.at_).2 x hs;have AM:=g.hx n.at_ hT;have hrN:r.hr.length≤fe recs cq.hp.length:=iY (g.aeD n.at_) (g.Nc i);have hxN:r.hx.length≤fe recs cq.hp.length:=g.aai hT n.at_;have m_:∀ (b:Nat) (X:SB R),r.hr[b]?=aa (aa X)->(kO cq.hp recs p (fun _=>aq) 0 (fe recs cq.hp.length))[b]?=aa (aa X):=fun b X hb=>by
   have cl:b<fe recs cq.hp.length:=by
    have:=(aU.1 hb).1;omega
   rw[KB b cl,n.sub g hT hb]
  rw[← hhr] at k3 k4 k5;have ak0:=h4.sub m_ k3 0;have hTM:TM ρ r.hr.length (oF ops cq (recs.take i) r.pre r.o).tm a:=by
   refine⟨?_,fun t v xW=>?_⟩
   ·simp only[oF,wS];rw[(Ij (t0:=0) (i:=0) (v:=undef)).1,h1]
   ·have j5:fp r.hr.length v=aq:=wY.1 k4 v (abW xW);simp only[oF,wS] at xW;have I1:t<cq.tm.length:=by
     have:=(aU.1 xW).1
     rwa [(Ij (t0:=0) (i:=0) (v:=undef)).1] at this
    obtain⟨_,hh⟩:=(Ij (t0:=0) (i:=t) (v:=v)).2 xW;rw[b5] at hh;rcases hh with⟨j,q,g1,g2,g3,g4⟩|⟨g1,g2⟩|⟨j,g1,g2,g3⟩
    ·obtain⟨_,hq⟩:=Ig g3;have:=h3 t j q I1 g1 (n.pre j g2) hq;rw[← g4] at this;exact⟨this,j5⟩
    ·exact⟨(h2 t v (fun j hj=>by rw[g1] at hj;cases hj) g2).1,j5⟩
    ·have hlen:i<recs.length:=(aU.1 n.at_).1;have hij:i≤j:=by
      rw[eu] at g2;omega
     refine⟨(h2 t v (fun j' LR=>?_) g3).1,j5⟩
     rw[g1] at LR;injection LR with LR
     subst LR;cases R':p j with
     |false=>rfl
     |true =>
      exfalso
      rcases cx i j with cl|j6
      ·obtain⟨o,hoj,hdo⟩:=Qr g1;obtain⟨q,hq,hqo⟩:=g.recAt hoj;have Sk:=g.pair n.at_ hq cl;simp only[El,aL] at Sk;have UJ:=Sk.1.1;simp only[aa8,hqo,hdo,jL,mM] at UJ;have hmt:mem (tmpsOf r.o.op.operands.toList) t=aq:=mem_iff.2 (by
        have:=((Ij (t0:=0) (i:=t) (v:=v)).2 xW).1
        rwa [b5] at this)
       rcases UJ with UJ|UJ
       ·rw[hmt] at UJ;cases UJ
       ·have:=h.closed j q R' hq i (mem_iff.1 UJ);rw[n.new] at this;cases this
      ·have:j=i:=by omega
       subst this;rw[n.new] at R';cases R'
  have nR:=uC.run (Om w r.hr ft ρ 0) ρ _ a w K Q (by rw[← hhr];exact hTM) hLI (by rw[← hhr];exact ak0) P0
  refine nR fun gv ks w' ajT mE=>?_
  rw[← hhr] at ajT;rw[← An] at mE;have J8:HM D C (fun b=>if newAt r b then gv b else ρ b) ft (kO cq.hp recs p (fun _=>aq) 0 (fe recs cq.hp.length)) w:=by
   have cl:∀ (b:Nat) (X:SB R),(kO cq.hp recs p (fun _=>aq) 0 (fe recs cq.hp.length))[b]?=aa (aa X)->content p b recs 0 (fU cq.hp b)=aa X:=fun b X hb=>by
    have cl:=(aU.1 hb).1;rw[hL] at cl;rw[KB b cl] at hb;injection hb
   refine h4.alb (f:=fun b=>!newAt r b) (fun b hb=>?_) (fun b X hb=>?_) (fun b t cs hb=>n.af1 g hT h.src (cl b _ hb))
   ·have:newAt r b=ao:=by simpa using hb
    simp[this]
   ·cases hnb:newAt r b with
    |false=>rfl
    |true =>
     have:=cl b X hb;rw[n.adH g hT hnb] at this;cases this
  have QP:∀ b,b<r.hx.length->(if newAt r b then gv b else ρ b)=gv b:=fun b hb=>by
   split
   ·rfl
   ·rename_i hnb;refine(ajT b ?_).symm;refine iy fun j6=>hnb (zQ.2 ⟨by omega,hb⟩)
  have hex:∃ JG,HM D C (fun b=>if newAt r b then gv b else ρ b) JG (kO cq.hp recs (q9 p i) (fun _=>aq) 0 (fe recs cq.hp.length)) w':=by
   refine J8.akG m_ (n:=0) (h':=kO cq.hp recs (q9 p i) (fun _=>aq) 0 (fe recs cq.hp.length)) mE QP (by rw[hL];exact hxN) AM.2.2
    (by rw[(jn _ 0 0).1,hL]) (fun b hb=>?_) (fun b hb hn=>?_)
   ·-- aml may have am8
    have hbN:b<fe recs cq.hp.length:=by
     rcases hb with⟨Y,hY,_⟩|hb
     ·have:=(aU.1 hY).1;omega
     ·omega
    by_cases hkp:∃ Y,r.hr[b]?=aa (aa Y)/\Lm r.o r.wl b=aq
    ·obtain⟨Y,hY,hk⟩:=hkp;have cl:=(aU.1 hY).1;have hxe:=g.kept n.at_ hT cl hk;have hlx:b<r.hx.length:=ls cl AM.1;have hnt:gL r b=ao:=by
      have hnw:newAt r b=ao:=by
       cases hh:newAt r b with
       |false=>rfl
       |true=>have:=(zQ.1 hh).1;omega
      simp[gL,hk,hnw]
     rw[if_pos hlx,OH b hbN,n.Dk hnt,n.sub g hT hY,hxe,hY]
    ·by_cases UM:r.w=aq
     ·have ht:gL r b=aq:=by
       simp only[gL,UM,ji,jL,aL,mM];rcases hb with hb|hb
       ·refine dN ⟨qD.2 hb,?_⟩;obtain⟨Y,hY,_⟩:=hb;cases hk:Lm r.o r.wl b with
        |false=>rfl
        |true=>exact absurd ⟨Y,hY,hk⟩ hkp
       ·exact eY (zQ.2 hb)
      rw[OH b hbN,n.WO g hT ht];split
      ·rename_i cl;rw[xA cl]
      ·rename_i j6;rw[aa9 (by omega)]
     ·have rU:r.w=ao:=by cases hh:r.w<;>simp_all
      have hxe:=AM.2.1 rU;rcases hb with⟨Y,hY,X2⟩|hb
      ·have cl:=(aU.1 hY).1;rw[if_pos (by rw[hxe];exact cl),OH b hbN,n.Dk (by simp[gL,rU]),n.sub g hT hY,hxe,hY]
      ·rw[hxe] at hb;omega
   ·rw[hL] at hb;have hnt:gL r b=ao:=by
     cases ht:gL r b with
     |false=>rfl
     |true =>
      simp only[gL,aL,jL] at ht;rcases ht.2 with h5|h5
      ·exact absurd (dN (qD.1 h5.1)) hn
      ·exact absurd (eY (zQ.1 h5)) hn
    rw[OH b hb,KB b hb,n.Dk hnt]
  obtain⟨JG,Zg⟩:=hex;refine hK _ _ (frame _ JG _ _ (fun b hb=>by simp[hb]) ?_ Zg)
  rw[hv];exact(na (n:=r.hx.length) QP _ (by rw[An];exact k1.1)).symm
theorem Good.akB (g:Good P T ops cq recs) (hT:cQ D P T) {i:Nat} {r:Rec R} (hr:recs[i]?=aa r):fp (fe recs cq.hp.length) r.v=aq:=by
 have hN:=g.aai hT hr;rcases(g.all i r hr).Xj with⟨_,hv,_⟩|⟨_,x,_,hs,_,hv,_,_,An,_⟩
 ·rw[hv];simp[undef,fp,ix]
 ·simp only[E5,aL,tidy] at hs;rw[hv];rw[An] at hN;exact Bp hN _ hs.1.1.1.1.1
def u_ (f:Nat->Bool):Nat->Nat
 |0=>0
 |n+1=>(if f n then 0 else 1)+u_ f n
theorem Gj {f h:Nat->Bool}:∀ {n:Nat},(∀ j,j<n->f j=h j)->u_ f n=u_ h n
 |0,_=>rfl
 |n+1,hh=>by simp only[u_];rw[hh n (by omega),Gj (fun j hj=>hh j (by omega))]
theorem RZ {f:Nat->Bool} {i:Nat}:∀ {n:Nat},i<n->f i=ao->u_ (q9 f i) n+1=u_ f n
 |0,h,_=>by omega
 |n+1,h,hf=>by
  simp only[u_]
  by_cases he:i=n
  ·subst he;rw[zx,hf,Gj (f:=q9 f i) (h:=f) (fun j hj=>xu f (by omega))]
   simp;omega
  ·rw[xu f (Ne.symm he)];have:=RZ (n:=n) (by omega) hf
   omega
theorem RQ {f:Nat->Bool} {i:Nat}:∀ {n:Nat},i<n->f i=ao->0<u_ f n
 |0,h,_=>by omega
 |n+1,h,hf=>by
  simp only[u_]
  by_cases he:i=n
  ·subst he;rw[hf];simp;omega
  ·have:=RQ (n:=n) (by omega) hf;omega
def mX (listed:Array Bool):Nat->Bool:=fun j=>listed.getD j ao
theorem Ei:∀ {l:List (Option Value)} {t0 i:Nat},(Ir ops recs t0 l).length=l.length/\∀ x,l[i]?=aa x->(Ir ops recs t0 l)[i]?=aa (match nj ops (t0+i) 0 with
  |some j=>(match recs[j]? with
   |some r=>aa r.v
   |none=>aj)
  |none=>x):=by
 intro l
 induction l with
 |nil=>intro t0 i;exact⟨rfl,fun x h=>by simp at h⟩
 |cons y l ih =>
  intro t0 i;refine⟨by simp[Ir,(ih (t0:=t0+1) (i:=0)).1],fun x h=>?_⟩
  cases i with
  |zero =>
   simp only[cf,cu] at h;subst h;simp only[Ir,cf,gV]
   all_goals rfl
  |succ i =>
   simp only[bH] at h;simp only[Ir,bH];rw[(ih (t0:=t0+1) (i:=i)).2 x h,show t0+1+i=t0+(i+1) by omega]
theorem yQ.done {a:Act} {p:Nat->Bool} (g:Good P T ops cq recs) (hT:cQ D P T) (n_:LI cq.li cq.tm) (h:yQ D C ops cq recs p a w) (p_:∀ j,j<ops.length->p j=aq):M D C (AN ops cq recs) a w:=by
 obtain⟨ρ,ft,h0,h1,h2,h3,h4⟩:=h.ex;have hp:∀ j r,recs[j]?=aa r->p j=aq:=fun j r hr=>p_ j (by rw[← g.len];exact(aU.1 hr).1)
 have S4:kO cq.hp recs p (fun _=>aq) 0 (fe recs cq.hp.length)=(AN ops cq recs).hp:=by
  simp only[AN];apply nU;intro b;rcases cx b (fe recs cq.hp.length) with cl|j6
  ·rw[(jn _ 0 b).2 cl,(jn _ 0 b).2 cl];simp only[if_true]
   congr 1
   exact vE recs 0 _ fun j r hr _=>by rw[b5];exact hp j r hr
  ·rw[dg (by rw[(jn _ 0 0).1];exact j6),dg (by rw[(jn _ 0 0).1];exact j6)]
 have hhl:(AN ops cq recs).hp.length=fe recs cq.hp.length:=by rw[← S4,(jn _ 0 0).1]
 rw[S4] at h4;refine⟨h.defers,fun t b Dc=>?_,ρ,ft,h0,⟨?_,fun t v xW=>?_⟩,h4⟩
 ·simp only[AN,aeR] at Dc ⊢;rcases b9.1 Dc with Dc|Dc
  ·obtain⟨r,hr,Dc⟩:=List.mem_flatMap.1 Dc;obtain⟨j,hj,hj2⟩:=List.mem_iff_getElem.1 hr;have uX:recs[j]?=aa r:=by rw[bj hj,hj2]
   split at Dc
   ·rename_i u c hd Zc;split at Dc
    ·simp only[ib,td] at Dc;obtain⟨rfl,rfl⟩:=Dc;obtain⟨hv,ht⟩:=(g.lit hT n_ j uX).1 b Zc;have cl:=ht t hd;have:=(Ei (ops:=ops) (recs:=recs) (l:=cq.tm) (t0:=0) (i:=t)).2 _ (bj cl);rw[b5,g.Kl (g.all j r uX).o hd] at this;simp only[uX,hv] at this;exact this
    ·simp at Dc
   ·simp at Dc
  ·obtain⟨h5,h6⟩:=List.mem_filter.1 Dc;have:=(Ei (ops:=ops) (recs:=recs) (l:=cq.tm) (t0:=0) (i:=t)).2 _ (n_ t b h5);rw[b5] at this;cases hd:nj ops t 0 with
   |none=>rw[hd] at this;exact this
   |some j=>rw[hd] at h6;cases h6
 ·simp only[AN];rw[(Ei (t0:=0) (i:=0)).1];exact h1
 ·simp only[AN] at xW;have I1:t<cq.tm.length:=by
   have:=(aU.1 xW).1
   rwa [(Ei (t0:=0) (i:=0)).1] at this
  rw[(Ei (ops:=ops) (recs:=recs) (l:=cq.tm) (t0:=0) (i:=t)).2 _ (bj I1),b5] at xW;rw[hhl];cases hd:nj ops t 0 with
  |none =>
   rw[hd] at xW;injection xW with xW
   obtain⟨k1,k2⟩:=h2 t v (fun j hj=>by rw[hd] at hj;cases hj) (by rw[bj I1];exact congrArg aa xW)
   have hle:=g.Nc 0;rw[sc] at hle;exact⟨k1,Bp hle v k2⟩
  |some j =>
   rw[hd] at xW;simp only at xW;split at xW
   ·rename_i r hr;injection xW with xW
    injection xW with xW
    subst xW;exact⟨h3 t j r I1 hd (hp j r hr) hr,g.akB hT hr⟩
   ·cases xW
theorem O5 {listed:Array Bool} {i j:Nat} (hi:i<listed.size):mX (listed.setIfInBounds i aq) j=q9 (mX listed) i j:=by
 unfold mX
 by_cases he:j=i
 ·subst he;rw[zx];simp[Dz,hi]
 ·rw[xu _ he];exact getD_set_ne ao (Ne.symm he)
theorem ahd (g:Good P T ops cq recs) (hT:cQ D P T) (n_:LI cq.li cq.tm) (uA:C.n0≤cq.hp.length) {Q:Exit->Act->World->Prop} (hQ:∀ a w,M D C (AN ops cq recs) a w->Q .normal a w) :
  ∀ (fuel:Nat) (listed:Array Bool) (a:Act) (w:World),listed.size=ops.length->u_ (mX listed) ops.length≤fuel->yQ D C ops cq recs (mX listed) a w->wpAny P .any ops.toArray Q fuel listed a w:=by
 have ae5:∀ (listed:Array Bool) (a:Act) (w:World),listed.size=ops.length->yQ D C ops cq recs (mX listed) a w->KL .any ops.toArray listed=[]->Q .normal a w:=by
  intro listed a w n9 hi hr;refine hQ a w (hi.done g hT n_ fun j=>?_)
  induction j using tE with
  |_ j ih =>
   intro hj;cases hp:mX listed j with
   |true=>rfl
   |false =>
    exfalso
    have ho:ops[j]?=aa ops[j]:=bj hj;obtain⟨r,hrr,hro⟩:=g.recAt ho;have:j∈KL .any ops.toArray listed:=by
     refine mem_ready.2 ⟨?_,ops[j],by rw[jA,ho],fun e he hb=>?_⟩
     ·unfold mX at hp;simp only[Dz,n9,hj,dif_pos] at hp ⊢;exact hp
     ·have h1:=(FP (g.all j r hrr).pre).1 e (by rw[hro];exact IM.2 he) hb
      have cl:=g.PU j hrr h1;exact ih e.on cl (by omega)
    rw[hr] at this;cases this
 intro fuel
 induction fuel with
 |zero =>
  intro listed a w n9 hle hi;have p_:∀ j,j<ops.length->mX listed j=aq:=fun j hj=>by
   cases hp:mX listed j with
   |true=>rfl
   |false=>have:=RQ hj hp;omega
  have hr:KL .any ops.toArray listed=[]:=by
   refine List.eq_nil_iff_forall_not_mem.2 fun j hj=>?_
   obtain⟨h1,o,h2,_⟩:=mem_ready.1 hj;have cl:j<ops.length:=by
    rw[jA] at h2;exact(aU.1 h2).1
   have:=p_ j cl;unfold mX at this;simp only[Dz,n9,cl,dif_pos] at this h1;rw[this] at h1;cases h1
  exact⟨hr,ae5 listed a w n9 hi hr⟩
 |succ fuel ih =>
  intro listed a w n9 hle hi;refine⟨ae5 listed a w n9 hi,fun i hir=>?_⟩
  obtain⟨h1,o,h2,h3⟩:=mem_ready.1 hir;rw[jA] at h2;have cl:i<ops.length:=(aU.1 h2).1;obtain⟨r,hrr,hro⟩:=g.recAt h2;have uB:mX listed i=ao:=by
   unfold mX;simp only[Dz,n9,cl,dif_pos] at h1 ⊢;exact h1
  have hn:Next recs (mX listed) i r:=by
   refine⟨hrr,uB,fun j hj=>?_,hi.closed⟩
   obtain⟨e,he,hb,q,hq,VI⟩:=(FP (g.all i r hrr).pre).2 j hj;have mK:=h3 e (by rw[hro] at he;exact IM.1 he) hb
   rcases VI with rfl|VI
   ·exact mK
   ·exact hi.closed e.on q mK (Ig hq).2 j VI
  refine hi.step g hT n_ uA hn fun a' w' lR=>ih _ a' w' (by simpa using n9) ?_ ?_
  ·have e:u_ (mX (listed.setIfInBounds i aq)) ops.length=u_ (q9 (mX listed) i) ops.length:=Gj fun j _=>O5 (by omega)
   have:=RZ cl uB;omega
  ·have e:mX (listed.setIfInBounds i aq)=q9 (mX listed) i:=funext fun j=>O5 (by omega)
   rw[e];exact lR
theorem Xh (hT:cQ D P T) (LS:P.follows .mixedOrders=aq) {id:Nat} {k:SS R->Prop} {m:Nat} {vU:List (Nat×Bool)} {a:Act} {Q:Exit->Act->World->Prop} (h:Es P T ops cq k m vU) (hm:M D C cq a w) (hn:C.n0≤cq.hp.length)
  (hK:∀ nJ a' w',k nJ->C.n0≤nJ.hp.length->M D C nJ a' w'->Q .normal a' w'):(Code.region id ops.toArray aq).wp P Q a w:=by
 obtain⟨recs,h1,h2,h3,xb,h4⟩:=Kb m h;have g:Good P T ops cq recs:=⟨h1,h2,h3,xb⟩;refine wp_region_any LS ?_;have mE:M D C cq a { w with drawn:=w.drawn+1 }:=by
  obtain⟨ρ,ft,q0,q1,q2⟩:=hm.ex;exact⟨hm.defers,hm.li,ρ,ft,q0,q1,q2.same rfl rfl rfl rfl⟩
 have hz:mX (Array.replicate ops.toArray.size ao)=fun _=>ao:=by
  funext j
  unfold mX;simp only[Dz];split
  ·simp
  ·rfl
 refine ahd g hT hm.li hn (fun a' w' hM=>hK _ a' w' h4 ?_ hM) _ _ a _ (by simp) ?_ ?_
 ·have:=g.aeH recs.length;rw[kC] at this;simp only[AN];rw[(jn _ 0 0).1];omega
 ·rw[hz];have:∀ n,u_ (fun _=>ao) n≤n:=fun n=>by
   induction n with
   |zero=>simp[u_]
   |succ n ih=>simp only[u_];simp;omega
  simpa using this ops.length
 ·rw[hz];exact yQ.start g hT mE
end
end Rx
namespace Rx
open Go.RowKit State
section
variable {R:Type} {D:fK R} {P:Program} {T:eK R} {C:Ctx} {w w':World}
def rx (D:fK R) (P:Program) (T:eK R) (root:Code) (n0:Nat) (k:Exit->SS R->Prop):Nat->List (It R)->SS R->Prop
 |0,todo,σ=>At D P root n0 k todo σ
 |n+1,todo,σ =>
  match todo with
  |[]=>k .normal σ
  |.inr (.inl _)::r=>rx D P T root n0 k n r σ
  |.inr (.inr J)::r=>aY (J σ)
  |.inl p::r =>
   match iW root p with
   |none=>od 5
   |some c =>
    match c with
    |.skip=>rx D P T root n0 k n r σ
    |.label _=>rx D P T root n0 k n r σ
    |.seq _ _=>rx D P T root n0 k n (.inl (p++[0]) :: .inl (p++[1])::r) σ
    |.block id _=>rx D P T root n0 k n (.inl (p++[0]) :: .inr (.inl id)::r) σ
    |.cond x _ _ =>
     match F5 σ.li x with
     |some aq=>rx D P T root n0 k n (.inl (p++[0])::r) σ
     |some ao=>rx D P T root n0 k n (.inl (p++[1])::r) σ
     |none =>
      match x with
      |.tmp t=>match σ.tm[t]? with
       |some (aa (.bool b)) =>
        (b=aq->I6 (assume σ t aq) fun σ=>rx D P T root n0 k n (.inl (p++[0])::r) σ) /\
        (b=ao->I6 (assume σ t ao) fun σ=>rx D P T root n0 k n (.inl (p++[1])::r) σ)
       |_=>od 6
      |_=>od 7
    |.exit id =>
     match Dv id r with
     |some r'=>rx D P T root n0 k n r' σ
     |none=>k (.exit id) σ
    |.ret=>k .ret σ
    |.region _ ⟨ops⟩ ao=>vL P T ops ops σ fun nJ=>rx D P T root n0 k n r nJ
    |.region _ ⟨ops⟩ aq=>Es P T ops σ (fun nJ=>rx D P T root n0 k n r nJ) (ops.length+1) []
    |_=>At D P root n0 k (.inl p::r) σ
theorem cW (hT:cQ D P T) (LS:P.follows .mixedOrders=aq) {root:Code} {n0:Nat} {k:Exit->SS R->Prop}:∀ (n:Nat) {todo:List (It R)} {σ:SS R},rx D P T root n0 k n todo σ->At D P root n0 k todo σ
 |0,todo,σ,h=>h
 |n+1,todo,σ,h=>by
  refine⟨fun C a w hC hn hm=>?_⟩
  have ih:∀ {todo:List (It R)} {σ:SS R} {a:Act} {w:World},rx D P T root n0 k n todo σ->n0≤σ.hp.length->M D C σ a w->py D P C root k todo .normal a w:=fun h hn hm=>(cW hT LS n h).run C _ _ hC hn hm
  unfold rx at h;simp only[JP] at h;split at h
  ·exact⟨σ,h,hm⟩
  ·rename_i id r;show py D P C root k r .normal a w
   exact ih h hn hm
  ·rename_i J r;exact⟨σ,h.out,by rw[hC];exact hn,hm⟩
  ·rename_i p r;split at h
   ·exact h.elim
   ·rename_i c hc;simp only[py,hc];have sub:∀ (i:Nat) (d:Code),iW c [i]=aa d->iW root (p++[i])=aa d:=fun i d hd=>by rw[oc p root c [i] hc];exact hd
    split at h
    ·exact wp_skip (ih h hn hm)
    ·exact wp_label (ih h hn hm)
    ·rename_i x y;have h1:=ih h hn hm;simp only[py,sub 0 x (by simp[iW])] at h1
     refine wp_seq (wp_mono h1 fun e a' w' h2=>?_)
     cases e with
     |normal =>
      simp only[sub 1 y (by simp[iW])] at h2
      exact h2
     |_=>exact h2
    ·rename_i id x;have h1:=ih h hn hm;simp only[py,sub 0 x (by simp[iW])] at h1
     exact wp_block h1
    ·rename_i x y z;split at h
     ·rename_i hl;have h1:=ih h hn hm;simp only[py,sub 0 y (by simp[iW])] at h1
      obtain⟨ρ,ft,_,g1,_⟩:=hm.ex;have:=(ew g1 (ym hm.li hl)).1;exact wp_cond_true (by simpa using this) h1
     ·rename_i hl;have h1:=ih h hn hm;simp only[py,sub 1 z (by simp[iW])] at h1
      obtain⟨ρ,ft,_,g1,_⟩:=hm.ex;have:=(ew g1 (ym hm.li hl)).1;exact wp_cond_false (by simpa using this) h1
     ·split at h
      ·rename_i t _;split at h
       ·rename_i b hb;have ht:=Zi hm hb;have he:a.eval (.tmp t)=.bool b:=by simp[B2,ht]
        cases b with
        |true =>
         have h1:=ih (h.1 rfl) (by simpa [assume] using hn) (hm.assume hb)
         simp only[py,sub 0 y (by simp[iW])] at h1
         exact wp_cond_true he h1
        |false =>
         have h1:=ih (h.2 rfl) (by simpa [assume] using hn) (hm.assume hb)
         simp only[py,sub 1 z (by simp[iW])] at h1
         exact wp_cond_false he h1
       ·exact h.elim
      ·exact h.elim
    ·rename_i id;refine wp_exit (Fb ?_);split at h
     ·rename_i r' w_;rw[w_];exact ih h hn hm
     ·rename_i w_;rw[w_];exact⟨σ,h,hm⟩
    ·exact wp_ret (Hv ⟨σ,h,hm⟩)
    ·rename_i id ops;refine wp_region_list ?_;exact FL hT ops h hm (by omega) fun nJ a' w' h' xU mE=>ih h' (by omega) mE
    ·rename_i id ops;exact Xh hT LS h hm (by omega) fun nJ a' w' h' xU mE=>ih h' (by omega) mE
    ·have:=h.run C a w hC hn hm
     simpa only [py,hc] using this
end
end Rx
namespace Rx
open Go.RowKit State
def CE (s:Nat->Nat) (q:Nat):Nat :=
 match gU q 1000000 with
 |true=>q
 |false=>q%1000000+1000000*(s (q / 1000000-1)+1)
def vW (s:Nat->Nat) (a:Addr):Addr :=
 match a with
 |⟨b,o,aj⟩=>⟨s b,o,aj⟩
 |⟨b,o,aa q⟩=>⟨s b,o,aa (CE s q)⟩
mutual
def gg (s:Nat->Nat):Value->Value
 |.pointer (aa a)=>.pointer (aa (vW s a))
 |.slice (aa a) n c=>.slice (aa (vW s a)) n c
 |.map (aa r)=>.map (aa (s r))
 |.chan (aa r)=>.chan (aa (s r))
 |.agg ⟨l⟩=>.agg ⟨lQ s l⟩
 |.tuple ⟨l⟩=>.tuple ⟨lQ s l⟩
 |.func fn ⟨f⟩ ⟨c⟩=>.func fn ⟨lQ s f⟩ ⟨lQ s c⟩
 |.iface t v=>.iface t (gg s v)
 |v=>v
def lQ (s:Nat->Nat):List Value->List Value
 |[]=>[]
 |v::l=>gg s v::lQ s l
end
def J3 (p:Nat->Bool) (q:Nat):Bool :=
 match gU q 1000000 with
 |true=>aq
 |false=>p (q / 1000000-1)
def LO (p:Nat->Bool) (a:Addr):Bool :=
 match a with
 |⟨b,_,aj⟩=>p b
 |⟨b,_,aa q⟩=>p b&&J3 p q
mutual
def mI (p:Nat->Bool):Value->Bool
 |.pointer (aa a)=>LO p a
 |.slice (aa a) _ _=>LO p a
 |.map (aa r)|.chan (aa r)=>p r
 |.agg ⟨l⟩=>zO p l
 |.tuple ⟨l⟩=>zO p l
 |.func _ ⟨f⟩ ⟨c⟩=>zO p f&&zO p c
 |.iface _ v=>mI p v
 |_=>aq
def zO (p:Nat->Bool):List Value->Bool
 |[]=>aq
 |v::l=>mI p v&&zO p l
end
section
variable {ρ gv:Env} {s u:Nat->Nat} {p:Nat->Bool} {n m:Nat}
theorem pX {a b:Nat}:gU a b=aq↔a<b:=by rw[fa]
theorem uu {q:Nat} (s:Nat->Nat) (h:q<1000000):CE s q=q:=by
 unfold CE;rw[pX.2 h]
theorem E7 {q:Nat} (s:Nat->Nat) (h:¬ q<1000000):CE s q=q%1000000+1000000*(s (q / 1000000-1)+1):=by
 unfold CE;split
 ·rename_i hb;exact absurd (pX.1 hb) h
 ·rfl
theorem agt (s:Nat->Nat) (q:Nat):CE s q%1000000=q%1000000:=by
 by_cases h:q<1000000
 ·rw[uu s h]
 ·rw[E7 s h];omega
theorem Q2 (s:Nat->Nat) (q:Nat):CE s q / 1000000=if q / 1000000=0 then 0 else s (q / 1000000-1)+1:=by
 by_cases h:q<1000000
 ·rw[uu s h,if_pos (by omega)];omega
 ·rw[E7 s h,if_neg (by omega)];omega
theorem ag3 (s u:Nat->Nat) (q:Nat):CE s (CE u q)=CE (fun i=>s (u i)) q:=by
 by_cases h:q<1000000
 ·rw[uu u h,uu s h,uu _ h]
 ·rw[E7 u h,E7 _ h,E7 s (by omega)]
  have e1:(q%1000000+1000000*(u (q / 1000000-1)+1))%1000000=q%1000000:=by omega
  have e2:(q%1000000+1000000*(u (q / 1000000-1)+1)) / 1000000-1=u (q / 1000000-1):=by omega
  rw[e1,e2]
theorem acu (s:Nat->Nat) (e q:Nat):cellOf e (aa (CE s q))=cellOf e (aa q):=by
 have h:=agt s q;simp only[cellOf,h];rw[← KM (CE s q) (by decide:1000∣1000000),h,KM q (by decide:1000∣1000000)]
theorem X1 (a:Addr):iE ρ (vW s a)=iE (fun i=>ρ (s i)) a:=by
 obtain⟨b,o,q⟩:=a;cases q with
 |none=>rfl
 |some q=>simp only[vW,iE,acu]
theorem zV (ρ:Env) (b o q k c:Nat):lD ρ ⟨b,o,aa q⟩ k c=if(ρ b).nil=aq then .slice aj k 0
  else if q / 1000000≠0/\(ρ b).cap≤o then .slice (aa ⟨(ρ (q / 1000000-1)).lB,(ρ (q / 1000000-1)).off,aj⟩) k 0
  else .slice (aa (iE ρ ⟨b,o,aa q⟩)) k ((ρ b).cap-o):=rfl
theorem afK (a:Addr) (k c:Nat):lD ρ (vW s a) k c=lD (fun i=>ρ (s i)) a k c:=by
 have h:=X1 (ρ:=ρ) (s:=s) a;obtain⟨b,o,q⟩:=a;cases q with
 |none=>simp only[vW,lD] at *;rw[h]
 |some q =>
  show lD ρ ⟨s b,o,aa (CE s q)⟩ k c=_
  have h:iE ρ ⟨s b,o,aa (CE s q)⟩=_:=h;rw[zV,zV,h,Q2]
  by_cases hn:(ρ (s b)).nil=aq
  ·rw[if_pos hn,if_pos hn]
  ·rw[if_neg hn,if_neg hn]
   by_cases h0:q / 1000000=0
   ·rw[if_pos h0,if_neg (by simp),if_neg (by simp[h0])]
   ·rw[if_neg h0]
    by_cases hc:(ρ (s b)).cap≤o
    ·rw[if_pos ⟨by omega,hc⟩,if_pos ⟨h0,hc⟩];rfl
    ·rw[if_neg (fun hh=>hc hh.2),if_neg (fun hh=>hc hh.2)]
mutual
theorem CX:∀ v,bW ρ (gg s v)=bW (fun i=>ρ (s i)) v
 |.pointer (aa a)=>by simp only[gg,bW,X1]
 |.pointer aj=>by simp[gg,bW]
 |.slice (aa a) k c=>by simp only[gg,bW,afK]
 |.slice aj _ _=>by simp[gg,bW]
 |.map (aa r)=>by simp[gg,bW]
 |.map aj=>by simp[gg,bW]
 |.chan (aa r)=>by simp[gg,bW]
 |.chan aj=>by simp[gg,bW]
 |.agg ⟨l⟩=>by simp only[gg,bW,BZ l]
 |.tuple ⟨l⟩=>by simp only[gg,bW,BZ l]
 |.func fn ⟨f⟩ ⟨c⟩=>by simp only[gg,bW,BZ f,BZ c]
 |.iface t v=>by simp only[gg,bW,CX v]
 |.int _ _=>by simp[gg]
 |.bool _=>by simp[gg]
 |.string _=>by simp[gg]
 |.float _ _=>by simp[gg,bW]
 |.complex _ _ _=>by simp[gg,bW]
 |.nilFunc=>by simp[gg,bW]
 |.nilIface=>by simp[gg,bW]
theorem BZ:∀ l,nz ρ (lQ s l)=nz (fun i=>ρ (s i)) l
 |[]=>by simp[lQ,nz]
 |v::l=>by simp only[lQ,nz,CX v,BZ l]
end
theorem rR {a:Addr} (h:LO p a=aq):p a.block=aq/\∀ q,a.spot=aa q->J3 p q=aq:=by
 obtain⟨b,o,q⟩:=a;cases q with
 |none=>exact⟨h,fun q e=>by cases e⟩
 |some q =>
  simp only[LO,aL] at h;exact⟨h.1,fun q' e=>by injection e with e;subst e;exact h.2⟩
theorem Qy {q:Nat} (h:J3 p q=aq) (h0:q / 1000000≠0):p (q / 1000000-1)=aq:=by
 unfold J3 at h;split at h
 ·rename_i hb;have:=pX.1 hb;omega
 ·exact h
theorem ah' {q:Nat} (p:Nat->Bool) (h:q<1000000):J3 p q=aq:=by
 unfold J3;rw[pX.2 h]
theorem aau {q:Nat} (p:Nat->Bool) (h:¬ q<1000000):J3 p q=p (q / 1000000-1):=by
 unfold J3;split
 ·rename_i hb;exact absurd (pX.1 hb) h
 ·rfl
theorem aii {p':Nat->Bool} {t:Nat} (h:∀ i,p i=aq->p' (s i)=aq) (ht:J3 p t=aq):J3 p' (CE s t)=aq:=by
 by_cases hq:t<1000000
 ·rw[uu s hq];exact ah' p' hq
 ·rw[aau p hq] at ht;have j6:¬ CE s t<1000000:=by rw[E7 s hq];omega
  rw[aau p' j6,Q2,if_neg (by omega)]
  exact h _ ht
theorem X9 {a:Addr} (h:∀ i,p i=aq->ρ i=gv i) (ha:LO p a=aq):iE ρ a=iE gv a:=by
 unfold iE;rw[h _ (rR ha).1]
theorem afS {a:Addr} {k c:Nat} (h:∀ i,p i=aq->ρ i=gv i) (ha:LO p a=aq):lD ρ a k c=lD gv a k c:=by
 unfold lD;rw[X9 h ha,h _ (rR ha).1];cases hs:a.spot with
 |none=>rfl
 |some q =>
  simp only;split
  ·rfl
  ·split
   ·rename_i hq;rw[h (q / 1000000-1) (Qy ((rR ha).2 q hs) hq.1)]
   ·rfl
mutual
theorem aaz (h:∀ i,p i=aq->ρ i=gv i):∀ v,mI p v=aq->bW ρ v=bW gv v
 |.pointer (aa a),hv=>by simp only[mI] at hv;simp only[bW,X9 h hv]
 |.pointer aj,_=>by simp[bW]
 |.slice (aa a) k c,hv=>by simp only[mI] at hv;simp only[bW,afS h hv]
 |.slice aj _ _,_=>by simp[bW]
 |.map (aa r),hv=>by simp only[mI] at hv;simp[bW,h _ hv]
 |.map aj,_=>by simp[bW]
 |.chan (aa r),hv=>by simp only[mI] at hv;simp[bW,h _ hv]
 |.chan aj,_=>by simp[bW]
 |.agg ⟨l⟩,hv=>by simp only[mI] at hv;simp only[bW,BW h l hv]
 |.tuple ⟨l⟩,hv=>by simp only[mI] at hv;simp only[bW,BW h l hv]
 |.func fn ⟨f⟩ ⟨c⟩,hv=>by
  simp only[mI,aL] at hv;simp only[bW,BW h f hv.1,BW h c hv.2]
 |.iface t v,hv=>by simp only[mI] at hv;simp only[bW,aaz h v hv]
 |.int _ _,_=>by simp
 |.bool _,_=>by simp
 |.string _,_=>by simp
 |.float _ _,_=>by simp[bW]
 |.complex _ _ _,_=>by simp[bW]
 |.nilFunc,_=>by simp[bW]
 |.nilIface,_=>by simp[bW]
theorem BW (h:∀ i,p i=aq->ρ i=gv i):∀ l,zO p l=aq->nz ρ l=nz gv l
 |[],_=>rfl
 |v::l,hv=>by
  simp only[zO,aL] at hv;simp only[nz,aaz h v hv.1,BW h l hv.2]
end
theorem Xa (a:Addr):vW s (vW u a)=vW (fun i=>s (u i)) a:=by
 obtain⟨b,o,q⟩:=a;cases q with
 |none=>rfl
 |some q=>simp only[vW];rw[ag3]
mutual
theorem aew:∀ v,gg s (gg u v)=gg (fun i=>s (u i)) v
 |.pointer (aa a)=>by simp only[gg,Xa]
 |.pointer aj=>by simp[gg]
 |.slice (aa a) k c=>by simp only[gg,Xa]
 |.slice aj _ _=>by simp[gg]
 |.map (aa r)=>by simp[gg]
 |.map aj=>by simp[gg]
 |.chan (aa r)=>by simp[gg]
 |.chan aj=>by simp[gg]
 |.agg ⟨l⟩=>by simp only[gg,BX l]
 |.tuple ⟨l⟩=>by simp only[gg,BX l]
 |.func fn ⟨f⟩ ⟨c⟩=>by simp only[gg,BX f,BX c]
 |.iface t v=>by simp only[gg,aew v]
 |.int _ _=>by simp[gg]
 |.bool _=>by simp[gg]
 |.string _=>by simp[gg]
 |.float _ _=>by simp[gg]
 |.complex _ _ _=>by simp[gg]
 |.nilFunc=>by simp[gg]
 |.nilIface=>by simp[gg]
theorem BX:∀ l,lQ s (lQ u l)=lQ (fun i=>s (u i)) l
 |[]=>by simp[lQ]
 |v::l=>by simp only[lQ,aew v,BX l]
end
theorem abL {a:Addr} (h:∀ i,p i=aq->s i=i) (ha:LO p a=aq):vW s a=a:=by
 have h1:=(rR ha).1;have h2:=(rR ha).2;obtain⟨b,o,q⟩:=a;cases q with
 |none=>simp only[vW];rw[h b h1]
 |some q =>
  simp only[vW];rw[h b h1]
  congr 2
  by_cases hq:q<1000000
  ·exact uu s hq
  ·rw[E7 s hq,h _ (Qy (h2 q rfl) (by omega))]
   omega
mutual
theorem afm (h:∀ i,p i=aq->s i=i):∀ v,mI p v=aq->gg s v=v
 |.pointer (aa a),hv=>by simp only[mI] at hv;simp only[gg,abL h hv]
 |.pointer aj,_=>by simp[gg]
 |.slice (aa a) k c,hv=>by simp only[mI] at hv;simp only[gg,abL h hv]
 |.slice aj _ _,_=>by simp[gg]
 |.map (aa r),hv=>by simp only[mI] at hv;simp[gg,h _ hv]
 |.map aj,_=>by simp[gg]
 |.chan (aa r),hv=>by simp only[mI] at hv;simp[gg,h _ hv]
 |.chan aj,_=>by simp[gg]
 |.agg ⟨l⟩,hv=>by simp only[mI] at hv;simp only[gg,D3 h l hv]
 |.tuple ⟨l⟩,hv=>by simp only[mI] at hv;simp only[gg,D3 h l hv]
 |.func fn ⟨f⟩ ⟨c⟩,hv=>by
  simp only[mI,aL] at hv;simp only[gg,D3 h f hv.1,D3 h c hv.2]
 |.iface t v,hv=>by simp only[mI] at hv;simp only[gg,afm h v hv]
 |.int _ _,_=>by simp[gg]
 |.bool _,_=>by simp[gg]
 |.string _,_=>by simp[gg]
 |.float _ _,_=>by simp[gg]
 |.complex _ _ _,_=>by simp[gg]
 |.nilFunc,_=>by simp[gg]
 |.nilIface,_=>by simp[gg]
theorem D3 (h:∀ i,p i=aq->s i=i):∀ l,zO p l=aq->lQ s l=l
 |[],_=>by simp[lQ]
 |v::l,hv=>by
  simp only[zO,aL] at hv;simp only[lQ,afm h v hv.1,D3 h l hv.2]
end
theorem agw {a:Addr} {k c:Nat} (h:∀ i,i<n->s i<m) (hv:fp n (.slice (aa a) k c)=aq):fp m (.slice (aa (vW s a)) k c)=aq:=by
 obtain⟨b,o,q⟩:=a;simp only[fp,aL,fa,vo] at hv ⊢;cases q with
 |none =>
  simp only[vW,E3];exact⟨h b hv.1,dx _⟩
 |some q =>
  simp only[vW,E3] at hv ⊢;refine⟨h b hv.1,?_⟩;rw[Q2];split
  ·omega
  ·rename_i h0;have:=h (q / 1000000-1) (by omega)
   omega
theorem agr {a:Addr} (h:∀ i,i<n->s i<m) (hv:fp n (.pointer (aa a))=aq):fp m (.pointer (aa (vW s a)))=aq:=by
 obtain⟨b,o,q⟩:=a;simp only[fp,fa] at hv ⊢;cases q<;>exact h b hv
mutual
theorem abP (h:∀ i,i<n->s i<m):∀ v,fp n v=aq->fp m (gg s v)=aq
 |.pointer (aa a),hv=>by simp only[gg];exact agr h hv
 |.pointer aj,_=>by simp[gg,fp]
 |.slice (aa a) k c,hv=>by simp only[gg];exact agw h hv
 |.slice aj _ _,_=>by simp[gg,fp]
 |.map (aa r),hv=>by simp only[gg,fp,fa] at *;exact h r hv
 |.map aj,_=>by simp[gg,fp]
 |.chan (aa r),hv=>by simp only[gg,fp,fa] at *;exact h r hv
 |.chan aj,_=>by simp[gg,fp]
 |.agg ⟨l⟩,hv=>by simp only[gg,fp] at *;exact v7 h l hv
 |.tuple ⟨l⟩,hv=>by simp only[gg,fp] at *;exact v7 h l hv
 |.func fn ⟨f⟩ ⟨c⟩,hv=>by
  simp only[gg,fp,aL] at *
  exact⟨v7 h f hv.1,v7 h c hv.2⟩
 |.iface t v,hv=>by simp only[gg,fp] at *;exact abP h v hv
 |.int _ _,_=>by simp[gg,fp]
 |.bool _,_=>by simp[gg,fp]
 |.string _,_=>by simp[gg,fp]
 |.float _ _,_=>by simp[gg,fp]
 |.complex _ _ _,_=>by simp[gg,fp]
 |.nilFunc,_=>by simp[gg,fp]
 |.nilIface,_=>by simp[gg,fp]
theorem v7 (h:∀ i,i<n->s i<m):∀ l,ix n l=aq->ix m (lQ s l)=aq
 |[],_=>by simp[lQ,ix]
 |v::l,hv=>by
  simp only[ix,aL] at hv;simp only[lQ,ix,aL];exact⟨abP h v hv.1,v7 h l hv.2⟩
end
mutual
theorem abY:∀ v,mI (fun i=>gU i n) v=aq->fp n v=aq
 |.pointer (aa a),hv=>by
  simp only[mI] at hv
  simpa [fp] using(rR hv).1
 |.pointer aj,_=>by simp[fp]
 |.slice (aa a) k c,hv=>by
  simp only[mI] at hv;have h1:=(rR hv).1;have h2:=(rR hv).2;simp only[fa] at h1;simp only[fp,aL,fa,vo];refine⟨h1,?_⟩;cases hs:a.spot with
  |none=>simp[E3]
  |some q =>
   simp only[E3]
   by_cases h0:q / 1000000=0
   ·omega
   ·have:=Qy (h2 q hs) h0;simp only[fa] at this;omega
 |.slice aj _ _,_=>by simp[fp]
 |.map (aa r),hv=>by simpa [mI,fp] using hv
 |.map aj,_=>by simp[fp]
 |.chan (aa r),hv=>by simpa [mI,fp] using hv
 |.chan aj,_=>by simp[fp]
 |.agg ⟨l⟩,hv=>by simp only[mI] at hv;simp only[fp];exact Bv l hv
 |.tuple ⟨l⟩,hv=>by simp only[mI] at hv;simp only[fp];exact Bv l hv
 |.func fn ⟨f⟩ ⟨c⟩,hv=>by
  simp only[mI,aL] at hv;simp only[fp,aL];exact⟨Bv f hv.1,Bv c hv.2⟩
 |.iface t v,hv=>by simp only[mI] at hv;simp only[fp];exact abY v hv
 |.int _ _,_=>by simp[fp]
 |.bool _,_=>by simp[fp]
 |.string _,_=>by simp[fp]
 |.float _ _,_=>by simp[fp]
 |.complex _ _ _,_=>by simp[fp]
 |.nilFunc,_=>by simp[fp]
 |.nilIface,_=>by simp[fp]
theorem Bv:∀ l,zO (fun i=>gU i n) l=aq->ix n l=aq
 |[],_=>by simp[ix]
 |v::l,hv=>by
  simp only[zO,aL] at hv;simp only[ix,aL];exact⟨abY v hv.1,Bv l hv.2⟩
end
end
mutual
def pw (k:Nat):Value->Value
 |.slice (aa ⟨b,o,aa q⟩) n c=>match gU b k with
  |true=>.slice (aa ⟨b,o,aa q⟩) n c
  |false=>.slice aj n 0
 |.agg ⟨l⟩=>.agg ⟨w7 k l⟩
 |.tuple ⟨l⟩=>.tuple ⟨w7 k l⟩
 |.func fn ⟨f⟩ ⟨c⟩=>.func fn ⟨w7 k f⟩ ⟨w7 k c⟩
 |.iface t v=>.iface t (pw k v)
 |v=>v
def w7 (k:Nat):List Value->List Value
 |[]=>[]
 |v::l=>pw k v::w7 k l
end
def Ud:Place:=⟨0,0,0,aq⟩
def xo (ρ:Env) (k:Nat):Env:=fun i=>if i<k then ρ i else Ud
section
variable {ρ:Env} {k:Nat}
theorem xM {i:Nat} (h:i<k):xo ρ k i=ρ i:=by simp[xo,h]
theorem X0 {i:Nat} (h:¬ i<k):xo ρ k i=Ud:=by simp[xo,h]
mutual
theorem Kc:∀ v,fp k (pw k v)=aq->bW ρ (pw k v)=bW (xo ρ k) v
 |.pointer (aa a),hv=>by
  simp only[pw] at hv ⊢;exact na (n:=k) (fun i hi=>(xM hi).symm) _ hv
 |.pointer aj,_=>by simp[pw,bW]
 |.slice (aa ⟨b,o,aj⟩) n c,hv=>by
  simp only[pw] at hv ⊢;exact na (n:=k) (fun i hi=>(xM hi).symm) _ hv
 |.slice (aa ⟨b,o,aa q⟩) n c,hv=>by
  simp only[pw] at hv ⊢;split
  ·rename_i hb;rw[hb] at hv;exact na (n:=k) (fun i hi=>(xM hi).symm) _ hv
  ·rename_i hb;have j6:¬ b<k:=fun h=>by rw[pX.2 h] at hb;cases hb
   simp only[bW,lD];rw[X0 j6]
   rfl
 |.slice aj _ _,_=>by simp[pw,bW]
 |.map (aa r),hv=>by
  simp only[pw] at hv ⊢;exact na (n:=k) (fun i hi=>(xM hi).symm) _ hv
 |.map aj,_=>by simp[pw,bW]
 |.chan (aa r),hv=>by
  simp only[pw] at hv ⊢;exact na (n:=k) (fun i hi=>(xM hi).symm) _ hv
 |.chan aj,_=>by simp[pw,bW]
 |.agg ⟨l⟩,hv=>by simp only[pw,fp] at hv;simp only[pw,bW,DI l hv]
 |.tuple ⟨l⟩,hv=>by simp only[pw,fp] at hv;simp only[pw,bW,DI l hv]
 |.func fn ⟨f⟩ ⟨c⟩,hv=>by
  simp only[pw,fp,aL] at hv;simp only[pw,bW,DI f hv.1,DI c hv.2]
 |.iface t v,hv=>by simp only[pw,fp] at hv;simp only[pw,bW,Kc v hv]
 |.int _ _,_=>by simp[pw]
 |.bool _,_=>by simp[pw]
 |.string _,_=>by simp[pw]
 |.float _ _,_=>by simp[pw,bW]
 |.complex _ _ _,_=>by simp[pw,bW]
 |.nilFunc,_=>by simp[pw,bW]
 |.nilIface,_=>by simp[pw,bW]
theorem DI:∀ l,ix k (w7 k l)=aq->nz ρ (w7 k l)=nz (xo ρ k) l
 |[],_=>by simp[w7,nz]
 |v::l,hv=>by
  simp only[w7,ix,aL] at hv;simp only[w7,nz,Kc v hv.1,DI l hv.2]
end
end
def AH:List Value->List aT->Bool
 |[],[]=>aq
 |.int _ _::tm,c::cs=>c.i.isEmpty&&AH tm cs
 |.bool _::tm,c::cs=>c.b.isEmpty&&AH tm cs
 |.string _::tm,c::cs=>c.s.isEmpty&&AH tm cs
 |_,_=>ao
structure Tx (r:Row):Prop where
 n:r.n=0
 ne:0<r.tm.length
 ez:AH r.tm r.ez=aq
theorem RW:∀ {tm:List Value} {cs:List aT},AH tm cs=aq->cs.length=tm.length/\∀ (f:Nat) (t:Value) (c:aT),tm[f]?=aa t->cs[f]?=aa c->jJ t c 0
 |[],[],_=>⟨rfl,fun f t c h=>by simp at h⟩
 |[],_::_,h=>by simp[AH] at h
 |v::tm,[],h=>by cases v<;>simp[AH] at h
 |v::tm,c::cs,h=>by
  have:jJ v c 0/\AH tm cs=aq:=by
   cases v<;>simp only[AH,aL,List.isEmpty_iff] at h<;>first|exact⟨by simp[jJ,h.1],h.2⟩|cases h
  obtain⟨h1,h2⟩:=RW this.2;refine⟨by simp[h1],fun f t c' ht hc=>?_⟩
  cases f with
  |zero =>
   simp only[cf,cu] at ht hc;subst ht;subst hc;exact this.1
  |succ f =>
   simp only[bH] at ht hc;exact h2 f t c' ht hc
section
variable {R:Type} {D:fK R} {C:Ctx} {ρ ρn:Env} {ft:Nat->Nat->Prop} {w:World} {h hn:Hp R}
theorem aa7 {b:Nat} {F:Nat->Prop} {t:TypeId} {r:Row} (hr:Tx r) (hp:ρ b=Ud) (hF:∀ k,¬ F k):hold D C ρ b F w (.inr (.inl (t,r))):=by
 obtain⟨c1,c2⟩:=RW hr.ez;simp only[hold,hp,Ud];refine⟨fun k=>⟨fun hk=>absurd hk (hF k),fun hk=>by cases hk.1⟩,hr.ne,by rw[hr.n];exact bc _,dx _,by simp,#[],(fun hk=>by cases hk),⟨c1,fun f t c ht hc=>by rw[hr.n];exact c2 f t c ht hc,fun f t c e _ _ he=>by rw[hr.n] at he;omega⟩⟩
def BE (n:Nat) (c:aT):aT:=⟨c.i.take n,c.b.take n,c.s.take n⟩
structure Zs (r' r:Row):Prop where
 tm:r'.tm=r.tm
 n:r'.n≤r.n
 ez:r'.ez=r.ez.map (BE r'.n)
theorem Zt {t:Value} {c:aT} {n m:Nat} (h:jJ t c n) (hm:m≤n):jJ t (BE m c) m:=by
 cases t<;>simp only[jJ,BE] at h ⊢<;>first|exact h|(rw[eu];omega)
theorem VL {t:Value} {c:aT} {m e:Nat} (h:e<m):gD t (BE m c) e=gD t c e:=by
 cases t<;>simp only[gD,BE,ax,oJ,h,if_true]
theorem oe.lt {r' r:Row} {arr:Array Value} {o:Nat} (h:oe r arr o) (hl:Zs r' r):oe r' arr o where
 len:=by rw[hl.ez,hl.tm,List.length_map];exact h.len
 I_ f t c ht hc:=by
  rw[hl.tm] at ht;rw[hl.ez,gh] at hc;cases Db:r.ez[f]? with
  |none=>rw[Db] at hc;cases hc
  |some c0 =>
   rw[Db] at hc;injection hc with hc
   subst hc;exact Zt (h.I_ f t c0 ht Db) hl.n
 cell f t c e ht hc he:=by
  rw[hl.tm] at ht ⊢;rw[hl.ez,gh] at hc;cases Db:r.ez[f]? with
  |none=>rw[Db] at hc;cases hc
  |some c0 =>
   rw[Db] at hc;injection hc with hc
   subst hc;rw[VL he];exact h.cell f t c0 e ht Db (ls he hl.n)
def FE (r' r:Row):Prop:=r'=r∨Zs r' r
def Lk (y x:(TypeId×Row) ⊕ Row ⊕ R):Prop :=
 match y,x with
 |.inl (t,r),.inl (t',r')=>t'=t/\FE r' r
 |.inl _,.inr _=>False
 |.inr _,.inl _=>False
 |.inr y,.inr x=>y=x
def OQ (ρ ρn:Env) (n:Nat) (Y X:SB R):Prop :=
 match Y,X with
 |.inl (t,cs),.inl (t',Cx)=>t=t'/\Cx.map (bW ρn)=cs.map (bW ρ)/\ix n Cx=aq
 |.inl _,_=>False
 |.inr _,.inl _=>False
 |.inr y,.inr x=>Lk y x
theorem Lk.refl (y:(TypeId×Row) ⊕ Row ⊕ R):Lk y y:=by
 rcases y with⟨t,r⟩|r|x
 ·exact⟨rfl,dN rfl⟩
 ·rfl
 ·rfl
theorem RY {i b:Nat} {F:Nat->Prop} {Y X:SB R} {n:Nat} (hh:hold D C ρ i F w Y) (hl:OQ ρ ρn n Y X) (hp:ρn b=ρ i):hold D C ρn b F w X/\inside n X:=by
 rcases Y with⟨t,cs⟩|Y
 ·rcases X with⟨t',Cx⟩|X
  ·obtain⟨rfl,h2,h3⟩:=hl;simp only[hold] at hh ⊢;rw[hp,h2];exact⟨hh,h3⟩
  ·cases hl
 ·rcases X with⟨t',Cx⟩|X
  ·cases hl
  ·replace hl:Lk Y X:=hl
   rcases Y with⟨t,r⟩|Y<;>rcases X with⟨t',r'⟩|X
   ·have hq:t'=t/\(r'=r∨Zs r' r):=hl;clear hl;obtain⟨e1,e2⟩:=hq;subst e1;rcases e2 with e3|hl
    ·subst e3;simp only[hold] at hh ⊢;rw[hp];exact⟨hh,trivial⟩
    ·simp only[hold] at hh ⊢;rw[hp];obtain⟨h1,h2,h3,h4,h5,arr,h6,h7⟩:=hh;exact⟨⟨h1,by rw[hl.tm];exact h2,iY hl.n h3,h4,h5,arr,by rw[hl.tm];exact h6,h7.lt hl⟩,trivial⟩
   ·exact kG hl
   ·exact kG hl
   ·have hl:Y=X:=hl;subst hl;rcases Y with r|x
    ·simp only[hold] at hh ⊢;rw[hp];exact⟨hh,trivial⟩
    ·simp only[hold] at hh ⊢;rw[hp];exact⟨hh,trivial⟩
theorem HM.rename (hm:HM D C ρ ft h w) (s:Nat->Nat)
  (hb:∀ (b:Nat) (X:SB R),hn[b]?=aa (aa X)->(ρn b=ρ (s b)/\∃ Y,h[s b]?=aa (aa Y)/\OQ ρ ρn hn.length Y X)∨(h.length≤s b/\ρn b=Ud/\∃ t r,X=.inr (.inl (t,r))/\Tx r))
  (hi:∀ (b b':Nat) (X X':SB R),s b<h.length->hn[b]?=aa (aa X)->hn[b']?=aa (aa X')->s b=s b'->b=b') :
  HM D C ρn (fun b k=>(∃ X,hn[b]?=aa (aa X))/\ft (s b) k) hn w where
 at_ b X hX:=by
  rcases hb b X hX with⟨h1,Y,hY,hl⟩|⟨j6,hp,t,r,rfl,hr⟩
  rotate_left
  ·exact⟨aa7 hr hp fun k hk=>by
    obtain⟨B,hB⟩:=hm.some_ _ k hk.2;have:=(aU.1 hB).1;omega,trivial⟩
  have:=RY (hm.at_ (s b) Y hY).1 hl h1;have e:(fun k=>(∃ X,hn[b]?=aa (aa X))/\ft (s b) k)=ft (s b):=funext fun k=>propext ⟨fun h=>h.2,fun h=>⟨⟨X,hX⟩,h⟩⟩
  rw[e];exact this
 lt b k hk:=hm.lt _ k hk.2
 fresh b k hk:=hm.fresh _ k hk.2
 apart b b' k hk nx:=by
  obtain⟨⟨X,hX⟩,h1⟩:=hk;obtain⟨⟨X',hX'⟩,h2⟩:=nx;have cl:s b<h.length:=by
   obtain⟨B,hB⟩:=hm.some_ _ k h1;exact(aU.1 hB).1
  exact hi b b' X X' cl hX hX' (hm.apart _ _ k h1 h2)
 some_ b k hk:=hk.1
 kept:=hm.kept
def yG (s:Nat->Nat):SB R->SB R
 |.inl (t,cs)=>.inl (t,lQ s cs)
 |.inr x=>.inr x
theorem rH {ρ:Env} {s:Nat->Nat} (l:List Value):(lQ s l).map (bW ρ)=l.map (bW (fun i=>ρ (s i))):=by rw[← k_,← k_,BZ]
end
end Rx
namespace Rx
open Go.RowKit State
def nth:List Nat->Nat->Nat
 |[],_=>0
 |a::_,0=>a
 |_::l,i+1=>nth l i
def pos:List Nat->Nat->Nat
 |[],_=>0
 |a::l,b=>match fo a b with
  |true=>0
  |false=>pos l b+1
def vT:List Nat->Bool
 |[]=>aq
 |a::l=>!mem l a&&vT l
theorem Hl:∀ {s:List Nat} {i:Nat},i<s.length->nth s i∈s
 |[],i,h=>by simp at h
 |a::l,0,_=>by simp[nth]
 |a::l,i+1,h=>by
  simp only[nth];exact eo _ (Hl (by simpa using h))
theorem ow:∀ {s:List Nat} {b:Nat},b∈s->nth s (pos s b)=b/\pos s b<s.length
 |[],b,h=>by cases h
 |a::l,b,h=>by
  simp only[pos];split
  ·rename_i hb;exact⟨cR hb,by simp⟩
  ·rename_i hb;have hl:b∈l:=by
    rcases bR.1 h with rfl|h
    ·simp at hb
    ·exact h
   obtain⟨h1,h2⟩:=ow hl;exact⟨by simpa [nth] using h1,by simp;omega⟩
theorem Yf:∀ {s:List Nat} {i:Nat},vT s=aq->i<s.length->pos s (nth s i)=i
 |[],i,_,h=>by simp at h
 |a::l,0,_,_=>by simp[nth,pos]
 |a::l,i+1,hn,h=>by
  simp only[vT,aL,mM] at hn;have hi:i<l.length:=by simpa using h
  have hm:=Hl hi;simp only[nth,pos];have kt:fo a (nth l i)=ao:=by
   cases hb:fo a (nth l i) with
   |false=>rfl
   |true =>
    rw[← cR hb] at hm;rw[mem_iff.2 hm] at hn;simp at hn
  rw[kt];simp only;rw[Yf hn.2 hi]
section
variable {R:Type} {D:fK R} {P:Program} {T:eK R} {C:Ctx} {ρ gv:Env} {ft ks:Nat->Nat->Prop} {w w':World} {h hr hx h':Hp R}
theorem BL {a b:Nat} (h:a<b):gU a b=aq:=pX.2 h
theorem zo {a b:Nat} (h:¬ a<b):gU a b=ao:=by
 cases hb:gU a b with
 |false=>rfl
 |true=>exact absurd (pX.1 hb) h
theorem fD {α:Type} {l:List α} {k:Nat} (h:l.length=k):cut l 0 k=l:=by subst h;exact afW l
def Jy:Value->Value
 |.slice (aa ⟨b,0,aa q⟩) n c=>match fo (q / 1000000) (b+1)&&fo (q%1000) 0 with
  |true=>.slice (aa ⟨b,0,aa (q%1000000)⟩) n c
  |false=>.slice (aa ⟨b,0,aa q⟩) n c
 |v=>v
theorem My (ρ:Env) (v:Value):bW ρ (Jy v)=bW ρ v:=by
 unfold Jy;split
 ·rename_i b q n c;split
  ·rename_i h;simp only[aL] at h;have h1:=cR h.1;have h2:=cR h.2;simp only[bW,zV]
   by_cases hn:(ρ b).nil=aq
   ·rw[if_pos hn,if_pos hn]
   ·rw[if_neg hn,if_neg hn,if_neg (fun h=>h.1 (by omega))]
    by_cases hc:(ρ b).cap≤0
    ·rw[if_pos ⟨by omega,hc⟩,show q / 1000000-1=b by omega]
     have h3:q%1000000%1000=0:=by omega
     have h4:(ρ b).cap=0:=by omega
     simp only[iE,cellOf,A8,b5,h3,h4,gV]
    ·rw[if_neg (fun h=>hc h.2)]
     have h3:q%1000000%1000=q%1000:=by omega
     simp only[iE,cellOf,A8,b5,h3]
  ·rfl
 ·rfl
theorem M5 (m:Nat) (v:Value):fp m (Jy v)=fp m v:=by
 unfold Jy;split
 ·rename_i b q n c;split
  ·rename_i h;simp only[aL] at h;have h1:=cR h.1;rw[Bool.eq_iff_iff];simp only[fp,E3,aL,fa,vo];omega
  ·rfl
 ·rfl
def IC:List Value->List Value
 |[]=>[]
 |v::l=>Jy v::IC l
theorem JI (ρ:Env):∀ l:List Value,(IC l).map (bW ρ)=l.map (bW ρ)
 |[]=>rfl
 |v::l=>by simp only[IC,gC,My,JI ρ l]
theorem J7 (m:Nat):∀ l:List Value,ix m (IC l)=ix m l
 |[]=>rfl
 |v::l=>by simp only[IC,ix,M5,J7 m l]
structure ala (k:Nat) (s:Nat->Nat) (hp:Hp R) (j:Nat) (t:TypeId) (cs:List Value):Prop where
 ex:∃ Cx,fU hp j=aa (.inl (t,Cx))/\IC Cx=IC (w7 k (lQ s cs))
def AL (k:Nat) (s:Nat->Nat) (hp:Hp R) (j:Nat):SB R->Prop
 |.inl (t,cs)=>fU hp j=aa (.inl (t,w7 k (lQ s cs)))∨ala k s hp j t cs
 |.inr (.inl (t,r'))=>match gU j k with
  |true=>∃ r,fU hp j=aa (.inr (.inl (t,r)))/\FE r' r
  |false=>Tx r'
 |.inr (.inr x)=>fU hp j=aa (.inr (.inr x))
def tW (k:Nat) (s:Nat->Nat) (hp:Hp R):Nat->Hp R->Prop
 |_,[]=>True
 |b,aj::l=>tW k s hp (b+1) l
 |b,aa X::l=>AL k s hp (s b) X/\tW k s hp (b+1) l
def yW (k:Nat) (s:Nat->Nat):Nat->Hp R->List Nat
 |_,[]=>[]
 |b,aj::l=>yW k s (b+1) l
 |b,aa _::l=>match gU (s b) k with
  |true=>s b::yW k s (b+1) l
  |false=>yW k s (b+1) l
theorem tW.get {k:Nat} {s:Nat->Nat} {hp:Hp R}:∀ {b:Nat} {l:Hp R} {i:Nat} {X:SB R},tW k s hp b l->l[i]?=aa (aa X)->AL k s hp (s (b+i)) X
 |b,[],i,X,_,hi=>by simp at hi
 |b,aj::l,i,X,h,hi=>by
  cases i with
  |zero=>simp at hi
  |succ i =>
   simp only[bH] at hi;have:=tW.get (b:=b+1) h hi
   rwa [show b+1+i=b+(i+1) by omega] at this
 |b,aa Y::l,i,X,h,hi=>by
  cases i with
  |zero =>
   simp only[cf,cu] at hi;subst hi;exact h.1
  |succ i =>
   simp only[bH] at hi;have:=tW.get (b:=b+1) h.2 hi
   rwa [show b+1+i=b+(i+1) by omega] at this
theorem HI {k:Nat} {s:Nat->Nat}:∀ {b:Nat} {l:Hp R} {i:Nat} {X:SB R},s (b+i)<k->l[i]?=aa (aa X)->s (b+i)∈yW k s b l
 |b,[],i,X,_,hi=>by simp at hi
 |b,aj::l,i,X,hk,hi=>by
  cases i with
  |zero=>simp at hi
  |succ i =>
   simp only[bH] at hi;rw[show b+(i+1)=b+1+i by omega] at hk ⊢
   exact HI (s:=s) (b:=b+1) hk hi
 |b,aa Y::l,i,X,hk,hi=>by
  simp only[yW];cases i with
  |zero =>
   simp only[gV] at hk ⊢;rw[pX.2 hk];exact bO
  |succ i =>
   simp only[bH] at hi;rw[show b+(i+1)=b+1+i by omega] at hk ⊢
   have:=HI (s:=s) (b:=b+1) hk hi;split
   ·exact eo _ this
   ·exact this
theorem Ny {k:Nat} {s:Nat->Nat}:∀ {b:Nat} {l:Hp R} {i j:Nat} {X Y:SB R},vT (yW k s b l)=aq->s (b+i)<k->l[i]?=aa (aa X)->l[j]?=aa (aa Y)->s (b+i)=s (b+j)->i=j
 |b,[],i,j,X,Y,_,_,hi,_,_=>by simp at hi
 |b,aj::l,i,j,X,Y,hn,hk,hi,hj,he=>by
  cases i with
  |zero=>simp at hi
  |succ i =>
   cases j with
   |zero=>simp at hj
   |succ j =>
    simp only[bH] at hi hj;rw[show b+(i+1)=b+1+i by omega] at hk he
    rw[show b+(j+1)=b+1+j by omega] at he
    rw[Ny (b:=b+1) (s:=s) hn hk hi hj he]
 |b,aa Z::l,i,j,X,Y,hn,hk,hi,hj,he=>by
  have xU:vT (yW k s (b+1) l)=aq/\(s b<k->¬ s b∈yW k s (b+1) l):=by
   simp only[yW] at hn;split at hn
   ·simp only[vT,aL,mM] at hn;exact⟨hn.2,fun _ hm=>by rw[mem_iff.2 hm] at hn;simp at hn⟩
   ·rename_i hb;exact⟨hn,fun cl=>by rw[pX.2 cl] at hb;cases hb⟩
  cases i with
  |zero =>
   cases j with
   |zero=>rfl
   |succ j =>
    simp only[bH] at hj;simp only[gV] at hk he;rw[show b+(j+1)=b+1+j by omega] at he
    have:=HI (s:=s) (b:=b+1) (k:=k) (by rw[← he];exact hk) hj
    rw[← he] at this;exact absurd this (xU.2 hk)
  |succ i =>
   simp only[bH] at hi;rw[show b+(i+1)=b+1+i by omega] at hk he
   cases j with
   |zero =>
    simp only[gV] at he;have:=HI (s:=s) (b:=b+1) hk hi;rw[he] at this hk;exact absurd this (xU.2 hk)
   |succ j =>
    simp only[bH] at hj;rw[show b+(j+1)=b+1+j by omega] at he
    rw[Ny (b:=b+1) (s:=s) xU.1 hk hi hj he]
theorem q8 {b:Nat} {X:SB R} (hb:fU h b=aa X):h[b]?=aa (aa X):=by
 unfold fU at hb;split at hb
 ·rename_i hh;rw[hh,hb]
 ·cases hb
theorem JX {b:Nat} {X:SB R} (hb:h[b]?=aa (aa X)):fU h b=aa X:=by
 unfold fU;rw[hb]
theorem afT {n:Nat} {s:Nat->Nat} {ρn:Env} {X:SB R} (qF:∀ b,ρn b=ρ (s b)) (hi:inside n X):OQ ρ ρn n (yG s X) X:=by
 have e:ρn=fun b=>ρ (s b):=funext qF
 rcases X with⟨t,cs⟩|X
 ·refine⟨rfl,?_,hi⟩;rw[rH,e]
 ·exact Lk.refl X
theorem AL.amp {n:Nat} {s:Nat->Nat} {ρn:Env} {X:SB R} {hp:Hp R} {j:Nat} (h:AL hp.length s hp j X) (j5:∀ Y,hp[j]?=aa (aa Y)->inside hp.length Y) (qF:∀ b,ρn b=xo ρ hp.length (s b)) (hi:inside n X) :
  (j<hp.length/\∃ Y,hp[j]?=aa (aa Y)/\OQ ρ ρn n Y X)∨(hp.length≤j/\∃ t r,X=.inr (.inl (t,r))/\Tx r):=by
 have lt:∀ {Y},hp[j]?=aa (aa Y)->j<hp.length:=fun hY=>(aU.1 hY).1
 rcases X with⟨t,cs⟩|⟨t,r'⟩|x
 ·have hT:∃ Cx,fU hp j=aa (.inl (t,Cx))/\IC Cx=IC (w7 hp.length (lQ s cs)):=by
   rcases h with h|⟨⟨Cx,h1,h2⟩⟩
   ·exact⟨_,h,rfl⟩
   ·exact⟨Cx,h1,h2⟩
  obtain⟨Cx,h1,h2⟩:=hT;have hY:=q8 h1;refine dN ⟨lt hY,_,hY,rfl,?_,hi⟩;have ahz:=j5 _ hY;simp only[inside] at ahz;have amr:ix hp.length (w7 hp.length (lQ s cs))=aq:=by rw[← J7,← h2,J7];exact ahz
  rw[← JI ρ Cx,h2,JI,← k_,← k_,DI _ amr,BZ]
  congr 1
  exact funext qF
 ·simp only[AL] at h;split at h
  ·obtain⟨r,h1,h2⟩:=h;exact dN ⟨lt (q8 h1),_,q8 h1,⟨rfl,h2⟩⟩
  ·rename_i hb;refine eY ⟨?_,t,r',rfl,h⟩;rcases cx j hp.length with h'|h'
   ·rw[pX.2 h'] at hb;cases hb
   ·exact h'
 ·exact dN ⟨lt (q8 h),_,q8 h,by cases x<;>rfl⟩
theorem HM.Vp {s:Nat->Nat} {hp hn:Hp R} (hm:HM D C ρ ft hp w) (h2:tW hp.length s hp 0 hn) (h3:vT (yW hp.length s 0 hn)=aq) (h5:sZ hn.length hn=aq) :
  HM D C (fun b=>xo ρ hp.length (s b)) (fun b k=>(∃ X,hn[b]?=aa (aa X))/\ft (s b) k) hn w:=by
 refine hm.rename s (fun b X hX=>?_) fun b b' X X' cl hX hX' he=>Ny (b:=0) h3 (by simpa using cl) hX hX' (by simpa using he)
 have:=h2.get hX;rw[b5] at this;rcases this.amp (fun Y hY=>(hm.at_ _ Y hY).2) (fun _=>rfl) (BN h5 hX) with⟨cl,Y,hY,hl⟩|⟨j6,t,r,rfl,hr⟩
 ·exact dN ⟨xM cl,Y,hY,hl⟩
 ·exact eY ⟨j6,X0 (by omega),t,r,rfl,hr⟩
structure Ends (n:Nat) (x:Out R) (v:Value) (hp:Hp R):Prop where
 ex:∃ s:List Nat,v=pw hp.length (gg (nth s) x.v)/\fp hp.length v=aq/\tW hp.length (nth s) hp 0 x.hp/\vT (yW hp.length (nth s) 0 x.hp)=aq/\F6 (fun i=>fo (nth s i) i) n=aq/\uJ n hp.length=aq/\sZ x.hp.length x.hp=aq
theorem HM.ends {n:Nat} {x:Out R} {v:Value} {hp:Hp R} (he:Ends n x v hp) (hm:HM D C ρ ft hp w) :
  ∃ gv ks,(∀ i,i<n->gv i=ρ i)/\bW ρ v=bW gv x.v/\HM D C gv ks x.hp w:=by
 obtain⟨s,h1,Si,h2,h3,h4,Kp,h5⟩:=he.ex;refine⟨fun b=>xo ρ hp.length (nth s b),_,fun i hi=>?_,?_,hm.Vp h2 h3 h5⟩
 ·have:=zE h4 hi;show xo ρ hp.length (nth s i)=ρ i
  rw[cR this];have:=jB Kp;exact xM (by omega)
 ·rw[h1] at Si ⊢;rw[Kc _ Si,CX]
theorem v8 {f : FuncId} {fn : Func} {root : Code} {on : List Value → Hp R → Prop} {spec : Prim R} (hf : P.funcs[f]? = aa fn) (hb : fn.body = aa root) (ZM : (fn.name == "runtime.NumGoroutine") = ao)
  (H:∀ args hh x,spec args hh=aa x->hh.length≤x.hp.length/\(∀ b,x.lit=aa b->x.v=.bool b)/\(x.wr=[]->x.hp=hh) /\
   (on args hh->x.vc->At D P root hh.length (iD P fn.results.toList (Ends hh.length x)) [.inl []] ⟨vn args++ld (fn.ntmps-args.length) aj,[],hh⟩)):rB D P f on spec where
 known:=⟨fn,hf,ZM,by rw[hb];rfl⟩
 run args hh x mK hx C ρ ft w hm hv hi:=by
  obtain⟨_,_,_,h4⟩:=H args hh x hx;refine(MH hf hb (h4 mK hv) hm hi).mono fun e w' ⟨gv,ks,v,w_,g1,g2,g3,g4⟩=>?_
  obtain⟨nh,JG,q1,q2,q3⟩:=g4.ends g3;exact⟨nh,JG,fun i hi=>(q1 i hi).trans (g1 i hi),by rw[g2,q2],q3⟩
 len args hh x hx:=(H args hh x hx).1
 lit args hh x hx:=(H args hh x hx).2.1
 still args hh x hx:=(H args hh x hx).2.2.1
def Sub (hr h:Hp R):Prop:=∀ (b:Nat) (X:SB R),hr[b]?=aa (aa X)->h[b]?=aa (aa X)∨∃ t r,X=.inr (.inr (.inl r))/\h[b]?=aa (aa (.inr (.inl (t,r))))
def AR (hr:Hp R) (b:Nat):Prop:=∃ X,hr[b]?=aa (aa X)/\h9 X=ao
def Tu (w:World) (hr:Hp R) (ft:Nat->Nat->Prop) (ρ:Env) (n:Nat):Ctx:=⟨w,fun k=>∃ b,AR hr b/\ft b k,ρ,n⟩
theorem HM.amt (hm:HM D C ρ ft h w) (m_:Sub hr h) (hlen:hr.length=h.length) (n:Nat):HM D (Tu w hr ft ρ n) ρ (fun b k=>AR hr b/\ft b k) hr w where
 at_ i B hB:=by
  rcases m_ i B hB with hi|⟨t,r,rfl,hi⟩
  ·obtain⟨h1,h2⟩:=hm.at_ i B hi;refine⟨?_,by rw[hlen];exact h2⟩
   cases hv:h9 B with
   |false =>
    have e:(fun k=>AR hr i/\ft i k)=ft i:=funext fun k=>propext ⟨fun h=>h.2,fun h=>⟨⟨B,hB,hv⟩,h⟩⟩
    rw[e];exact yR hv h1
   |true =>
    rcases B with⟨t,cs⟩|⟨t,r⟩|r|x<;>simp[h9] at hv
    obtain⟨g1,g2,g3,g4,g5,arr,g6,g7⟩:=h1;refine⟨fun k hk=>?_,g2,g3,g4,g5,arr,fun hn h0=>?_,g7⟩
    ·exact g1 k hk.2
    ·obtain⟨q1,q2,t,fz,q3⟩:=g6 hn h0;refine⟨ls q1 hm.kept.size,fun⟨b,_,hb⟩=>?_,t,fz,by rw[← q3];exact hm.kept.block _ q1 q2⟩
     rcases hm.fresh b _ hb with hu|j6
     ·exact q2 hu
     ·omega
  ·obtain⟨h1,h2⟩:=hm.at_ i _ hi;obtain⟨g1,g2,g3,g4,g5,arr,g6,g7⟩:=h1;have CC:¬ AR hr i:=fun⟨X,hX,hv⟩=>by
    rw[hB] at hX;injection hX with hX;injection hX with hX
    subst hX;simp[h9] at hv
   refine⟨⟨fun k hk=>CC hk.1,g2,g3,g4,g5,arr,fun hn _=>?_,g7⟩,trivial⟩
   obtain⟨q1,q2⟩:=g6 hn;have LY:ft i (ρ i).lB:=(g1 _).2 ⟨hn,rfl⟩;refine⟨hm.lt i _ LY,fun⟨b,hb,hbk⟩=>?_,t,(0,0),q1⟩
   rw[hm.apart b i _ hbk LY] at hb;exact CC hb
 lt i k hk:=hm.lt i k hk.2
 fresh i k hk:=dN ⟨i,hk.1,hk.2⟩
 apart i j k hi hj:=hm.apart i j k hi.2 hj.2
 some_ i k hk:=by obtain⟨X,hX,_⟩:=hk.1;exact⟨X,hX⟩
 kept:=Kept.refl _ _
theorem HM.aj4 (hm:HM D C ρ ft h w) (m_:Sub hr h) (hlen:hr.length=h.length) {n:Nat}
  (mE:HM D (Tu w hr ft ρ n) gv ks hx w') (qF:∀ b,b<h.length->gv b=ρ b) (hlx:h.length≤hx.length)
  (hv:∀ (b:Nat) (X:SB R),hx[b]?=aa (aa X)->h9 X=ao∨∃ Y,hr[b]?=aa (aa Y)/\h9 Y=aq)
  (akY:h'.length=hx.length) (uB:∀ (b:Nat),AR hr b∨h.length≤b->h'[b]?=hx[b]?) (Ot:∀ (b:Nat),b<h.length->¬ AR hr b->h'[b]?=h[b]?) :
  HM D C gv (fun b k=>((AR hr b∨h.length≤b)/\ks b k)∨(¬ (AR hr b∨h.length≤b)/\ft b k)) h' w':=by
 refine hm.step (AR hr) ⟨mE.kept.os,mE.kept.tape,mE.kept.output,mE.kept.size,fun k hk hn=>mE.kept.block k hk hn⟩ qF (by omega) ?_ ?_ ?_ ?_
 ·intro i B hi hB;have E4:AR hr i∨h.length≤i:=by
   rcases cx i h.length with cl|rI
   ·exact dN (hi cl)
   ·exact eY rI
  rw[uB i E4] at hB;obtain⟨g1,g2⟩:=mE.at_ i B hB;have RN:h9 B=ao:=by
   rcases hv i B hB with h1|⟨Y,hY,X2⟩
   ·exact h1
   ·rcases E4 with⟨Y',R8,Kq⟩|rI
    ·rw[hY] at R8;injection R8 with e;injection e with e;subst e;rw[X2] at Kq;cases Kq
    ·have:=(aU.1 hY).1;omega
  refine⟨?_,by rw[akY];exact g2⟩
  have e:(fun k=>((AR hr i∨h.length≤i)/\ks i k)∨(¬ (AR hr i∨h.length≤i)/\ft i k))=ks i:=funext fun k=>propext ⟨fun h=>h.elim (fun h=>h.2) (fun h=>absurd E4 h.1),fun h=>dN ⟨E4,h⟩⟩
  rw[e];exact yR RN g1
 ·intro i hi hn;refine⟨Ot i hi hn,fun k=>?_⟩
  have:¬ (AR hr i∨h.length≤i):=fun hh=>hh.elim hn (fun h=>by omega)
  exact⟨fun h=>h.elim (fun h=>absurd h.1 this) (fun h=>h.2),fun h=>eY ⟨this,h⟩⟩
 ·intro i k hi hk;have E4:AR hr i∨h.length≤i:=by
   rcases cx i h.length with cl|rI
   ·exact dN (hi cl)
   ·exact eY rI
  have nx:ks i k:=hk.elim (fun h=>h.2) (fun h=>absurd E4 h.1)
  refine⟨?_,mE.lt i k nx,?_⟩
  ·rcases mE.fresh i k nx with⟨b,hb,hbk⟩|rI
   ·exact dN ⟨b,hb,hbk⟩
   ·exact eY rI
  ·obtain⟨B,hB⟩:=mE.some_ i k nx;exact⟨B,by rw[uB i E4];exact hB⟩
 ·intro i j k hi hj GQ GG;have Mc:AR hr i∨h.length≤i:=by
   rcases cx i h.length with cl|rI
   ·exact dN (hi cl)
   ·exact eY rI
  have hTj:AR hr j∨h.length≤j:=by
   rcases cx j h.length with cl|rI
   ·exact dN (hj cl)
   ·exact eY rI
  exact mE.apart i j k (GQ.elim (fun h=>h.2) (fun h=>absurd Mc h.1)) (GG.elim (fun h=>h.2) (fun h=>absurd hTj h.1))
def FF (z:Bool):SB R->SB R
 |.inr (.inl (t,r))=>match z with
  |true=>.inr (.inr (.inl r))
  |false=>.inr (.inl (t,r))
 |B=>B
def o7 (z:Nat->Bool) (u:Nat->Nat) (h:Hp R):Nat->List Nat->Hp R
 |_,[]=>[]
 |i,b::l=>(match fU h b with
  |some B=>aa (yG u (FF (z i) B))
  |none=>aj)::o7 z u h (i+1) l
def O6 (s:List Nat) (h:Hp R):List Nat->Bool
 |[]=>aq
 |b::l=>gU b h.length&&(match fU h b with
  |some (.inl (_,cs))=>zO (mem s) cs
  |_=>aq)&&O6 s h l
def L0:List Nat->List Nat->List Nat
 |[],_=>[]
 |a::l,seen=>if mem seen a then L0 l seen else a::L0 l (a::seen)
def qq (s:List Nat) (n i:Nat):Nat:=if gU i s.length then nth s i else n+(i-s.length)
def Ky (f:Nat->Nat):Option (SB R)->Option (SB R)
 |some B=>aa (yG f B)
 |none=>aj
def yo (s:List Nat) (f:Nat->Nat) (hl hx:Hp R):Nat->Hp R->Hp R
 |_,[]=>[]
 |b,x::h=>(if mem s b&&IG hl (pos s b) then Ky f (fU hx (pos s b)) else x)::yo s f hl hx (b+1) h
def yE (f:Nat->Nat):Hp R->Hp R
 |[]=>[]
 |x::l=>Ky f x::yE f l
def Dw (z:Nat->Bool) (d:Nat) (spec:Prim R):Prim R:=fun args h =>
 UT (L0 (reach h d (sG args)) []) fun s =>
  if zO (mem s) args&&O6 s h s&&vT s then
   L7 (o7 z (pos s) h 0 s) fun hl =>
    match spec (lQ (pos s) args) hl with
    |some x=>if rz hl x.hp&&fp x.hp.length x.v then
      aa ⟨x.vc,gg (qq s h.length) x.v,x.lit,yo s (qq s h.length) hl x.hp 0 h++yE (qq s h.length) (x.hp.drop s.length),[],match x.wr with
       |[]=>[]
       |_=>[(0,0)]⟩
     else aj
    |none=>aj
  else aj
def Yy (z:Nat->Bool) (d:Nat) (when:List Value->Hp R->Option Bool) (args:List Value) (h:Hp R):Option Bool :=
 UT (L0 (reach h d (sG args)) []) fun s=>L7 (o7 z (pos s) h 0 s) fun hl=>when (lQ (pos s) args) hl
def bM (z:Nat->Bool) (d:Nat) (c:je R):je R:=⟨Yy z d c.when,Dw z d c.yes,Dw z d c.no⟩
mutual
theorem afj {p q:Nat->Bool} {s:Nat->Nat} (h:∀ i,p i=aq->q (s i)=aq):∀ v,mI p v=aq->mI q (gg s v)=aq
 |.pointer (aa a),hv=>by simp only[gg,mI] at *;exact abh h hv
 |.pointer aj,_=>by simp[gg,mI]
 |.slice (aa a) k c,hv=>by simp only[gg,mI] at *;exact abh h hv
 |.slice aj _ _,_=>by simp[gg,mI]
 |.map (aa r),hv=>by simp only[gg,mI] at *;exact h r hv
 |.map aj,_=>by simp[gg,mI]
 |.chan (aa r),hv=>by simp only[gg,mI] at *;exact h r hv
 |.chan aj,_=>by simp[gg,mI]
 |.agg ⟨l⟩,hv=>by simp only[gg,mI] at *;exact EW h l hv
 |.tuple ⟨l⟩,hv=>by simp only[gg,mI] at *;exact EW h l hv
 |.func fn ⟨f⟩ ⟨c⟩,hv=>by
  simp only[gg,mI,aL] at *
  exact⟨EW h f hv.1,EW h c hv.2⟩
 |.iface t v,hv=>by simp only[gg,mI] at *;exact afj h v hv
 |.int _ _,_=>by simp[gg,mI]
 |.bool _,_=>by simp[gg,mI]
 |.string _,_=>by simp[gg,mI]
 |.float _ _,_=>by simp[gg,mI]
 |.complex _ _ _,_=>by simp[gg,mI]
 |.nilFunc,_=>by simp[gg,mI]
 |.nilIface,_=>by simp[gg,mI]
theorem EW {p q:Nat->Bool} {s:Nat->Nat} (h:∀ i,p i=aq->q (s i)=aq):∀ l,zO p l=aq->zO q (lQ s l)=aq
 |[],_=>by simp[lQ,zO]
 |v::l,hv=>by
  simp only[zO,aL] at hv;simp only[lQ,zO,aL];exact⟨afj h v hv.1,EW h l hv.2⟩
theorem abh {p q:Nat->Bool} {s:Nat->Nat} (h:∀ i,p i=aq->q (s i)=aq) {a:Addr} (ha:LO p a=aq):LO q (vW s a)=aq:=by
 have h1:=(rR ha).1;have h2:=(rR ha).2;obtain⟨b,o,t⟩:=a;cases t with
 |none=>exact h b h1
 |some t =>
  have h3:J3 q (CE s t)=aq:=aii h (h2 t rfl);simp only[vW,LO];rw[h b h1,h3]
  rfl
end
theorem rX {z:Nat->Bool} {u:Nat->Nat} {h:Hp R}:∀ {l:List Nat} {i0 i:Nat},(o7 z u h i0 l).length=l.length/\(i<l.length->(o7 z u h i0 l)[i]?=aa (match fU h (nth l i) with
  |some B=>aa (yG u (FF (z (i0+i)) B))
  |none=>aj))
 |[],i0,i=>⟨rfl,fun h=>by simp at h⟩
 |b::l,i0,i=>by
  obtain⟨h1,h2⟩:=rX (z:=z) (u:=u) (h:=h) (l:=l) (i0:=i0+1) (i:=i-1);refine⟨by simp[o7,h1],fun hl=>?_⟩
  cases i with
  |zero=>simp only[o7,cf,nth,gV]
  |succ i =>
   simp only[cI] at hl;have:=h2 (by omega)
   simp only[o7,bH,nth];simp only[mb] at this;rw[this,show i0+1+i=i0+(i+1) by omega]
theorem CI {s:List Nat} {h:Hp R}:∀ {l:List Nat} {b:Nat},O6 s h l=aq->b∈l->b<h.length/\∀ t cs,fU h b=aa (.inl (t,cs))->zO (mem s) cs=aq
 |[],b,_,hb=>by cases hb
 |a::l,b,hs,hb=>by
  simp only[O6,aL,fa] at hs;rcases bR.1 hb with rfl|hb
  ·refine⟨hs.1.1,fun t cs e=>?_⟩
   have:=hs.1.2;rw[e] at this;exact this
  ·exact CI hs.2 hb
theorem nC {s:List Nat} {f:Nat->Nat} {hl hx:Hp R}:∀ {h:Hp R} {b0 b:Nat},(yo s f hl hx b0 h).length=h.length/\(b<h.length->(yo s f hl hx b0 h)[b]?=aa (if mem s (b0+b)&&IG hl (pos s (b0+b)) then Ky f (fU hx (pos s (b0+b))) else fU h b))
 |[],b0,b=>⟨rfl,fun h=>by simp at h⟩
 |x::h,b0,b=>by
  obtain⟨h1,h2⟩:=nC (s:=s) (f:=f) (hl:=hl) (hx:=hx) (h:=h) (b0:=b0+1) (b:=b-1);refine⟨by simp[yo,h1],fun cl=>?_⟩
  cases b with
  |zero=>simp[yo,fU]
  |succ b =>
   simp only[cI] at cl;have:=h2 (by omega)
   simp only[yo,bH];simp only[mb] at this;rw[this,show b0+1+b=b0+(b+1) by omega]
   simp[fU]
theorem uW {f:Nat->Nat}:∀ {l:Hp R} {i:Nat},(yE f l).length=l.length/\(yE f l)[i]?=(l[i]?).map (Ky f)
 |[],i=>⟨rfl,by simp[yE]⟩
 |x::l,i=>by
  obtain⟨h1,h2⟩:=uW (f:=f) (l:=l) (i:=i-1);refine⟨by simp[yE,h1],?_⟩
  cases i with
  |zero=>simp[yE]
  |succ i=>simp only[yE,bH];simpa using h2
end
end Rx
namespace Rx
open Go.RowKit State
def aaJ:Option Code->Bool
 |some (.loop _)=>aq
 |_=>ao
section
variable {R:Type} {D:fK R} {P:Program} {C:Ctx} {w:World}
def HR:List (Option Value)->List (Option Value)
 |[]=>[]
 |some v::l=>aa (Jy v)::HR l
 |none::l=>aj::HR l
theorem UQ {k:Nat} {u:Nat->Nat} {tm:List (Option Value)}:∀ {ts:List Nat} {vs:List Value} {i:Nat} {v:Value},HR (HJ tm ts)=HR (vn (w7 k (lQ u vs)))->slot ts vs i=aa v->∃ v',tm[i]?=aa (aa v')/\Jy v'=Jy (pw k (gg u v))
 |[],_,i,v,_,h=>by simp[slot] at h
 |_::_,[],i,v,_,h=>by simp[slot] at h
 |t::ts,x::vs,i,v,hv,h=>by
  simp only[HJ,vn,lQ,w7] at hv;simp only[slot] at h;cases hm:tm[t]? with
  |none=>rw[hm] at hv;simp only[HR] at hv;injection hv with h1 h2;cases h1
  |some o =>
   cases o with
   |none=>rw[hm] at hv;simp only[HR] at hv;injection hv with h1 h2;cases h1
   |some v' =>
    rw[hm] at hv;simp only[HR] at hv;injection hv with h1 h2
    injection h1 with h1
    split at h
    ·rename_i hb;have:=cR hb;subst this;injection h with h
     subst h;exact⟨v',hm,h1⟩
    ·exact UQ h2 h
structure j4 (R:Type) (n0 N:Nat) (ts:List Nat) (vs:List Value) (h:Hp R) (tv:List (Option Value)) (hp:Hp R) (tl:Nat):Prop where
 ex:∃ s:List Nat,HR tv=HR (vn (w7 hp.length (lQ (nth s) vs)))/\tW hp.length (nth s) hp 0 h/\vT (yW hp.length (nth s) 0 h)=aq/\F6 (fun i=>fo (nth s i) i) n0=aq/\uJ n0 hp.length=aq/\tl=N
theorem Ua:∀ {ts:List Nat} {vs:List Value} {i:Nat} {v:Value},slot ts vs i=aa v->v∈vs
 |[],_,i,v,h=>by simp[slot] at h
 |_::_,[],i,v,h=>by simp[slot] at h
 |t::ts,x::vs,i,v,h=>by
  simp only[slot] at h;split at h
  ·injection h with h;subst h;exact bO
  ·exact eo _ (Ua h)
theorem M.ZV {σ:SS R} {a:Act} {n0 N:Nat} {ts:List Nat} {vs:List Value} {h:Hp R} (hC:C.n0=n0) (hm:M D C σ a w) (hf:j4 R n0 N ts vs h (HJ σ.tm ts) σ.hp σ.tm.length) (hv:ix h.length vs=aq) (hi:sZ h.length h=aq):M D C ⟨frame ts vs 0 N,[],h⟩ a w:=by
 obtain⟨ρ,ft,h0,h1,h2⟩:=hm.ex;obtain⟨s,f1,f2,f3,f4,f5,f6⟩:=hf.ex;refine⟨hm.defers,fun t b hb=>(by cases hb),fun b=>xo ρ σ.hp.length (nth s b),_,fun i lR=>?_,⟨?_,fun t v ht=>?_⟩,h2.Vp f2 f3 hi⟩
 ·have:=zE f4 (by omega:i<n0)
  show xo ρ σ.hp.length (nth s i)=C.e0 i
  rw[cR this];have:=jB f5;rw[xM (by omega),h0 i lR]
 ·rw[h1.size,f6,(FG ts vs N 0 0).1]
 ·have hl:t<N:=by have:=(aU.1 ht).1;rw[(FG ts vs N 0 0).1] at this;exact this
  rw[(FG ts vs N 0 t).2 hl,b5] at ht;injection ht with ht
  obtain⟨v',g1,e1⟩:=UQ f1 ht;obtain⟨g2,g3⟩:=h1.val t _ g1;refine⟨?_,wY.1 hv v (Ua ht)⟩;have g4:fp σ.hp.length (pw σ.hp.length (gg (nth s) v))=aq:=by rw[← M5,← e1,M5];exact g3
  rw[g2,← My ρ v',e1,My,Kc _ g4,CX]
theorem lC {root:Code} {n0:Nat} {k:Exit->SS R->Prop} {p:List Nat} {r:List (It R)} {σ:SS R} (hc:aaJ (iW root p)=aq) {ι:Type} (I:ι->Prop) (ts:List Nat) (V:ι->List Value) (H:ι->Hp R) (μ:ι->Nat) (N:Nat)
  (j5:∀ i,I i->ix (H i).length (V i)=aq/\sZ (H i).length (H i)=aq/\n0≤(H i).length)
  (h0:∃ i,I i/\j4 R n0 N ts (V i) (H i) (HJ σ.tm ts) σ.hp σ.tm.length)
  (step:∀ i,I i->At D P root n0 k (.inl (p++[0]) :: .inr (.inr fun nJ=>∃ j,I j/\μ j<μ i/\j4 R n0 N ts (V j) (H j) (HJ nJ.tm ts) nJ.hp nJ.tm.length)::r) ⟨frame ts (V i) 0 N,[],H i⟩) :
  At D P root n0 k (.inl p::r) σ:=by
 have Db:∃ body,iW root p=aa (.loop body):=by
  unfold aaJ at hc;split at hc
  ·exact⟨_,by assumption⟩
  ·cases hc
 obtain⟨body,hc⟩:=Db;refine⟨fun C a w hC hn hm=>?_⟩
 simp only[py,hc];obtain⟨i0,hI0,hf0⟩:=h0;obtain⟨q1,q2,_⟩:=j5 i0 hI0;have key:∀ (i:ι) (a:Act) (w:World),I i->M D C ⟨frame ts (V i) 0 N,[],H i⟩ a w->(Code.loop body).wp P (py D P C root k r) a w:=by
  intro i a w hI hM
  have least:∀ (a:Act) (w:World),(∃ i,I i/\M D C ⟨frame ts (V i) 0 N,[],H i⟩ a w) ->
    ∃ n i,μ i=n/\I i/\M D C ⟨frame ts (V i) 0 N,[],H i⟩ a w/\∀ j,I j->M D C ⟨frame ts (V j) 0 N,[],H j⟩ a w->n≤μ j:=by
   intro a w ⟨i,hI,hM⟩;have:∀ (n:Nat) (i:ι),μ i=n->I i->M D C ⟨frame ts (V i) 0 N,[],H i⟩ a w->∃ n i,μ i=n/\I i/\M D C ⟨frame ts (V i) 0 N,[],H i⟩ a w/\∀ j,I j->M D C ⟨frame ts (V j) 0 N,[],H j⟩ a w->n≤μ j:=by
    intro n
    induction n using tE with
    |_ n ih =>
     intro i hn hI hM
     by_cases hex:∃ j,I j/\M D C ⟨frame ts (V j) 0 N,[],H j⟩ a w/\μ j<n
     ·obtain⟨j,hJ,hMj,cl⟩:=hex;exact ih (μ j) cl j rfl hJ hMj
     ·exact⟨n,i,hn,hI,hM,fun j hJ hMj=>nl fun cl=>hex ⟨j,hJ,hMj,cl⟩⟩
   exact this _ i rfl hI hM
  have spec:=fun a w h=>W2 (p:=fun n=>∃ i,μ i=n/\I i/\M D C ⟨frame ts (V i) 0 N,[],H i⟩ a w/\∀ j,I j->M D C ⟨frame ts (V j) 0 N,[],H j⟩ a w->n≤μ j) (least a w h)
  refine wp_loop (fun a w=>∃ i,I i/\M D C ⟨frame ts (V i) 0 N,[],H i⟩ a w) (fun a w=>Classical.epsilon fun n=>∃ i,μ i=n/\I i/\M D C ⟨frame ts (V i) 0 N,[],H i⟩ a w/\∀ j,I j->M D C ⟨frame ts (V j) 0 N,[],H j⟩ a w->n≤μ j) ⟨i,hI,hM⟩ ?_
  intro a w ⟨i,hI,hM⟩;obtain⟨i',e1,hI',XQ,apa⟩:=spec a w ⟨i,hI,hM⟩;obtain⟨_,_,xU⟩:=j5 i' hI';have ZU:=(step i' hI').run C a w hC xU XQ;simp only[py] at ZU;rw[show iW root (p++[0])=aa body by rw[oc p root _ [0] hc];simp[iW]] at ZU
  refine wp_mono ZU fun e a' w' h=>?_
  cases e with
  |normal =>
   obtain⟨nJ,⟨j,hJ,cl,E6⟩,_,hM2⟩:=h;obtain⟨g1,g2,_⟩:=j5 j hJ;have hM3:=hM2.ZV hC E6 g1 g2;refine⟨⟨j,hJ,hM3⟩,?_⟩;obtain⟨i2,e2,_,_,alh⟩:=spec a' w' ⟨j,hJ,hM3⟩;have:=alh j hJ hM3;omega
  |_=>exact h
 exact key i0 a w hI0 (hm.ZV hC hf0 q1 q2)
end
end Rx
namespace Rx
open Go.RowKit State
section
variable {R:Type} {D:fK R} {P:Program} {T:eK R} {C:Ctx} {w w':World}
def eqP:List Nat->List Nat->Bool
 |[],[]=>aq
 |a::l,b::r=>fo a b&&eqP l r
 |_,_=>ao
def ah5:List (List Nat)->List Nat->Bool
 |[],_=>ao
 |q::l,p=>eqP q p||ah5 l p
def E_ (S:List (List Nat)) (D:fK R) (P:Program) (T:eK R) (root:Code) (n0:Nat) (k:Exit->SS R->Prop):Nat->List (It R)->SS R->Prop
 |0,todo,σ=>At D P root n0 k todo σ
 |n+1,todo,σ =>
  match todo with
  |[]=>k .normal σ
  |.inr (.inl _)::r=>E_ S D P T root n0 k n r σ
  |.inr (.inr J)::r=>aY (J σ)
  |.inl p::r =>
   if ah5 S p then At D P root n0 k (.inl p::r) σ else
   match iW root p with
   |none=>od 5
   |some c =>
    match c with
    |.skip=>E_ S D P T root n0 k n r σ
    |.label _=>E_ S D P T root n0 k n r σ
    |.seq _ _=>E_ S D P T root n0 k n (.inl (p++[0]) :: .inl (p++[1])::r) σ
    |.block id _=>E_ S D P T root n0 k n (.inl (p++[0]) :: .inr (.inl id)::r) σ
    |.cond x _ _ =>
     match F5 σ.li x with
     |some aq=>E_ S D P T root n0 k n (.inl (p++[0])::r) σ
     |some ao=>E_ S D P T root n0 k n (.inl (p++[1])::r) σ
     |none =>
      match x with
      |.tmp t=>match σ.tm[t]? with
       |some (aa (.bool b)) =>
        (b=aq->I6 (assume σ t aq) fun σ=>E_ S D P T root n0 k n (.inl (p++[0])::r) σ) /\
        (b=ao->I6 (assume σ t ao) fun σ=>E_ S D P T root n0 k n (.inl (p++[1])::r) σ)
       |_=>od 6
      |_=>od 7
    |.exit id =>
     match Dv id r with
     |some r'=>E_ S D P T root n0 k n r' σ
     |none=>k (.exit id) σ
    |.ret=>k .ret σ
    |.region _ ⟨ops⟩ ao=>vL P T ops ops σ fun nJ=>E_ S D P T root n0 k n r nJ
    |.region _ ⟨ops⟩ aq=>Es P T ops σ (fun nJ=>E_ S D P T root n0 k n r nJ) (ops.length+1) []
    |_=>At D P root n0 k (.inl p::r) σ
theorem mB (S:List (List Nat)) (hT:cQ D P T) (LS:P.follows .mixedOrders=aq) {root:Code} {n0:Nat} {k:Exit->SS R->Prop}:∀ (n:Nat) {todo:List (It R)} {σ:SS R},E_ S D P T root n0 k n todo σ->At D P root n0 k todo σ
 |0,todo,σ,h=>h
 |n+1,todo,σ,h=>by
  refine⟨fun C a w hC hn hm=>?_⟩
  have ih:∀ {todo:List (It R)} {σ:SS R} {a:Act} {w:World},E_ S D P T root n0 k n todo σ->n0≤σ.hp.length->M D C σ a w->py D P C root k todo .normal a w:=fun h hn hm=>(mB S hT LS n h).run C _ _ hC hn hm
  unfold E_ at h;simp only[JP] at h;split at h
  ·exact⟨σ,h,hm⟩
  ·rename_i id r;show py D P C root k r .normal a w
   exact ih h hn hm
  ·rename_i J r;exact⟨σ,h.out,by rw[hC];exact hn,hm⟩
  ·rename_i p r;split at h
   ·exact h.run C a w hC hn hm
   split at h
   ·exact h.elim
   ·rename_i c hc;simp only[py,hc];have sub:∀ (i:Nat) (d:Code),iW c [i]=aa d->iW root (p++[i])=aa d:=fun i d hd=>by rw[oc p root c [i] hc];exact hd
    split at h
    ·exact wp_skip (ih h hn hm)
    ·exact wp_label (ih h hn hm)
    ·rename_i x y;have h1:=ih h hn hm;simp only[py,sub 0 x (by simp[iW])] at h1
     refine wp_seq (wp_mono h1 fun e a' w' h2=>?_)
     cases e with
     |normal =>
      simp only[sub 1 y (by simp[iW])] at h2
      exact h2
     |_=>exact h2
    ·rename_i id x;have h1:=ih h hn hm;simp only[py,sub 0 x (by simp[iW])] at h1
     exact wp_block h1
    ·rename_i x y z;split at h
     ·rename_i hl;have h1:=ih h hn hm;simp only[py,sub 0 y (by simp[iW])] at h1
      obtain⟨ρ,ft,_,g1,_⟩:=hm.ex;have:=(ew g1 (ym hm.li hl)).1;exact wp_cond_true (by simpa using this) h1
     ·rename_i hl;have h1:=ih h hn hm;simp only[py,sub 1 z (by simp[iW])] at h1
      obtain⟨ρ,ft,_,g1,_⟩:=hm.ex;have:=(ew g1 (ym hm.li hl)).1;exact wp_cond_false (by simpa using this) h1
     ·split at h
      ·rename_i t _;split at h
       ·rename_i b hb;have ht:=Zi hm hb;have he:a.eval (.tmp t)=.bool b:=by simp[B2,ht]
        cases b with
        |true =>
         have h1:=ih (h.1 rfl) (by simpa [assume] using hn) (hm.assume hb)
         simp only[py,sub 0 y (by simp[iW])] at h1
         exact wp_cond_true he h1
        |false =>
         have h1:=ih (h.2 rfl) (by simpa [assume] using hn) (hm.assume hb)
         simp only[py,sub 1 z (by simp[iW])] at h1
         exact wp_cond_false he h1
       ·exact h.elim
      ·exact h.elim
    ·rename_i id;refine wp_exit (Fb ?_);split at h
     ·rename_i r' w_;rw[w_];exact ih h hn hm
     ·rename_i w_;rw[w_];exact⟨σ,h,hm⟩
    ·exact wp_ret (Hv ⟨σ,h,hm⟩)
    ·rename_i id ops;refine wp_region_list ?_;exact FL hT ops h hm (by omega) fun nJ a' w' h' xU mE=>ih h' (by omega) mE
    ·rename_i id ops;exact Xh hT LS h hm (by omega) fun nJ a' w' h' xU mE=>ih h' (by omega) mE
    ·have:=h.run C a w hC hn hm
     simpa only [py,hc] using this
theorem At.C4 {root:Code} {n0:Nat} {k:Exit->SS R->Prop} {todo:List (It R)} {tm:List (Option Value)} {li:List (Nat×Bool)} {hp:Hp R} (li':List (Nat×Bool)) (hl:∀ x∈li',tm[x.1]?=aa (aa (.bool x.2)))
  (h:At D P root n0 k todo ⟨tm,li',hp⟩):At D P root n0 k todo ⟨tm,li,hp⟩ :=
 ⟨fun C a w hC hn hm=>h.run C a w hC hn ⟨hm.defers,fun t b hb=>hl (t,b) hb,hm.ex⟩⟩
end
end Rx
namespace Rx
open Go.RowKit State
def FN (ts:List Nat):Nat->List (Option Value)->List (Option Value)
 |_,[]=>[]
 |i,x::l=>(match mem ts i with
  |true=>x
  |false=>aj)::FN ts (i+1) l
section
variable {R:Type} {D:fK R} {P:Program} {T:eK R} {C:Ctx} {w w':World}
theorem Jz (ts:List Nat):∀ (l:List (Option Value)) (i j:Nat),(FN ts i l).length=l.length/\∀ v,(FN ts i l)[j]?=aa (aa v)->l[j]?=aa (aa v)
 |[],i,j=>⟨rfl,fun v h=>by simp[FN] at h⟩
 |x::l,i,j=>by
  obtain⟨h1,h2⟩:=Jz ts l (i+1) (j-1);refine⟨by simp[FN,h1],fun v h=>?_⟩
  cases j with
  |zero =>
   simp only[FN,cf,cu] at h ⊢;split at h
   ·exact h
   ·cases h
  |succ j =>
   simp only[FN,bH] at h ⊢;simp only[mb] at h2;exact h2 v h
theorem M.H0 {σ:SS R} {a:Act} {ts:List Nat} (hm:M D C σ a w):M D C ⟨FN ts 0 σ.tm,[],σ.hp⟩ a w:=by
 obtain⟨ρ,ft,h0,h1,h2⟩:=hm.ex;exact⟨hm.defers,fun t b hb=>(by cases hb),ρ,ft,h0,⟨by rw[h1.size,(Jz ts σ.tm 0 0).1],fun t v ht=>h1.val t v ((Jz ts σ.tm 0 t).2 v ht)⟩,h2⟩
theorem At.fit {root:Code} {n0:Nat} {k:Exit->SS R->Prop} {todo:List (It R)} {σ:SS R} (ts:List Nat) (V:List Value) (H:Hp R) (N:Nat) (j5:ix H.length V=aq/\sZ H.length H=aq/\n0≤H.length)
  (hf:j4 R n0 N ts V H (HJ σ.tm ts) σ.hp σ.tm.length) (h:At D P root n0 k todo ⟨frame ts V 0 N,[],H⟩):At D P root n0 k todo σ :=
 ⟨fun C a w hC _ hm=>h.run C a w hC j5.2.2 (hm.ZV hC hf j5.1 j5.2.1)⟩
end
end Rx
namespace Rx
open Go.RowKit State
section
variable {R:Type} {D:fK R} {P:Program} {T:eK R}
theorem zZ {z:Nat->Bool} {d:Nat} {spec:Prim R} {args:List Value} {h:Hp R} {y:Out R} (hy:Dw z d spec args h=aa y) :
  ∃ s x,s=L0 (reach h d (sG args)) []/\zO (mem s) args=aq/\O6 s h s=aq/\vT s=aq/\spec (lQ (pos s) args) (o7 z (pos s) h 0 s)=aa x/\rz (o7 z (pos s) h 0 s) x.hp=aq/\fp x.hp.length x.v=aq /\
   y=⟨x.vc,gg (qq s h.length) x.v,x.lit,yo s (qq s h.length) (o7 z (pos s) h 0 s) x.hp 0 h++yE (qq s h.length) (x.hp.drop s.length),[],match x.wr with
    |[]=>[]
    |_=>[(0,0)]⟩:=by
 simp only[Dw,VR,Kj] at hy;split at hy
 ·rename_i hc;simp only[aL] at hc;split at hy
  ·rename_i x hx;split at hy
   ·rename_i hb;simp only[aL] at hb;injection hy with hy
    exact⟨_,x,rfl,hc.1.1,hc.1.2,hc.2,hx,hb.1,hb.2,hy.symm⟩
   ·cases hy
  ·cases hy
 ·cases hy
theorem M3 {s:List Nat} {n i:Nat} (h:i<s.length):qq s n i=nth s i:=by
 unfold qq;rw[pX.2 h];rfl
theorem acT {s:List Nat} {n i:Nat} (h:¬ i<s.length):qq s n i=n+(i-s.length):=by
 unfold qq;split
 ·rename_i hb;exact absurd (pX.1 hb) h
 ·rfl
theorem IF {f:Nat->Nat} {x:Option (SB R)} {X:SB R} (h:Ky f x=aa X):∃ Y,x=aa Y/\X=yG f Y:=by
 cases x with
 |none=>cases h
 |some Y=>injection h with h;exact⟨Y,rfl,h.symm⟩
theorem FO {f:Nat->Nat} {B:SB R}:h9 (yG f B)=h9 B:=by
 rcases B with⟨t,cs⟩|B<;>rfl
def liftOn (z:Nat->Bool) (d:Nat) (on:List Value->Hp R->Prop) (args:List Value) (h:Hp R):Prop :=
 on (lQ (pos (L0 (reach h d (sG args)) [])) args) (o7 z (pos (L0 (reach h d (sG args)) [])) h 0 (L0 (reach h d (sG args)) []))
theorem ad8 {f:FuncId} {on:List Value->Hp R->Prop} {spec:Prim R} (z:Nat->Bool) (d:Nat) (ok:rB D P f on spec):rB D P f (liftOn z d on) (Dw z d spec) where
 known:=ok.known
 len args h y hy:=by
  obtain⟨s,x,_,_,_,_,_,_,_,rfl⟩:=zZ hy;simp only[bJ];have:=(nC (s:=s) (f:=qq s h.length) (hl:=o7 z (pos s) h 0 s) (hx:=x.hp) (h:=h) (b0:=0) (b:=0)).1;omega
 lit args h y hy b hb:=by
  obtain⟨s,x,_,_,_,_,hx,_,_,rfl⟩:=zZ hy;have:=ok.lit _ _ _ hx b hb;simp only[this,gg]
 still args h y hy hw:=by
  obtain⟨s,x,hs0,h1,h2,h3,hx,h5,h6,rfl⟩:=zZ hy;have hw':x.wr=[]:=by
   simp only at hw;split at hw
   ·assumption
   ·cases hw
  have he:=ok.still _ _ _ hx hw';simp only[he];have n_:(o7 z (pos s) h 0 s).length=s.length:=(rX (i0:=0) (i:=0)).1;have hd:(o7 z (pos s) h 0 s).drop s.length=[]:=by rw[IL];omega
  rw[hd];simp only[yE,A_];apply nU;intro b;rcases cx b h.length with cl|j6
  ·rw[(nC (b0:=0) (b:=b)).2 cl,b5];split
   ·rename_i hc;simp only[aL] at hc;have hm:=mem_iff.1 hc.1;obtain⟨p1,p2⟩:=ow hm;obtain⟨X,hX,hv⟩:=qD.1 hc.2;have hg:=(rX (z:=z) (u:=pos s) (h:=h) (l:=s) (i0:=0) (i:=pos s b)).2 p2;rw[hX,p1] at hg;injection hg with hg
    cases hb:fU h b with
    |none=>rw[hb] at hg;cases hg
    |some B =>
     rw[hb] at hg;simp only at hg;injection hg with hg
     rw[JX hX,xA cl,hb,hg];simp only[Ky];have hfr:FF (z (0+pos s b)) B=B:=by
      rcases B with⟨t,cs⟩|⟨t,r⟩|r|q
      ·rfl
      ·cases hz:z (0+pos s b) with
       |false=>rfl
       |true =>
        rw[hz] at hg;rw[hg] at hv;simp[FF,yG,h9] at hv
      ·rfl
      ·rfl
     rw[hfr]
     congr 2
     rcases B with⟨t,cs⟩|B
     ·simp only[yG];rw[BX,D3 (p:=mem s)]
      ·intro i hi;obtain⟨q1,q2⟩:=ow (mem_iff.1 hi);rw[M3 q2,q1]
      ·exact(CI h2 hm).2 t cs hb
     ·rfl
   ·rw[xA cl]
  ·rw[dg j6,dg (by rw[(nC (b0:=0) (b:=0)).1];exact j6)]
 run args h y mK hy C ρ ft w hm P0 j5:=by
  obtain⟨s,x,hs0,h1,h2,h3,hx,h5,h6,rfl⟩:=zZ hy;simp only at P0 ⊢;unfold liftOn at mK;rw[← hs0] at mK;have n_:(o7 z (pos s) h 0 s).length=s.length:=(rX (i0:=0) (i:=0)).1;have AM:s.length≤x.hp.length:=by rw[← n_];exact(rM (b:=0) (X:=.inl (0,[])) h5).1
  have adQ:∀ b,b∈s->b<h.length:=fun b hb=>(CI h2 hb).1
  let hr:Hp R:=(oi h.length).map fun b=>if mem s b then(match fU h b with
   |some B=>aa (FF (z (pos s b)) B)
   |none=>aj) else aj
  have hrl:hr.length=h.length:=by simp[hr]
  have Ew:∀ (b:Nat) (X:SB R),hr[b]?=aa (aa X)->b∈s/\∃ B,fU h b=aa B/\X=FF (z (pos s b)) B:=by
   intro b X hX;have cl:b<h.length:=by
    have:=(aU.1 hX).1;omega
   simp only[hr,gh,sH cl,j_] at hX;split at hX
   ·rename_i CH;refine⟨mem_iff.1 CH,?_⟩;cases hb:fU h b with
    |none=>rw[hb] at hX;simp at hX
    |some B=>rw[hb] at hX;simp at hX;exact⟨B,rfl,hX.symm⟩
   ·simp at hX
  have Zb:∀ (b:Nat) (B:SB R),b∈s->fU h b=aa B->hr[b]?=aa (aa (FF (z (pos s b)) B)):=by
   intro b B hb hB;simp only[hr,gh,sH (adQ b hb),j_,mem_iff.2 hb,if_true,hB]
  have m_:Sub hr h:=by
   intro b X hX;obtain⟨_,B,hB,rfl⟩:=Ew b X hX;have jz:=q8 hB;rcases B with⟨t,cs⟩|⟨t,r⟩|r|q
   ·exact dN jz
   ·cases hz:z (pos s b) with
    |false=>exact dN jz
    |true=>exact eY ⟨t,r,rfl,jz⟩
   ·exact dN jz
   ·exact dN jz
  have akW:=hm.amt m_ hrl 0;have hpn:∀ i,i<s.length->pos s (nth s i)=i:=fun i hi=>Yf h3 hi
  have amG:HM D (Tu w hr ft ρ 0) (fun i=>ρ (nth s i)) (fun b k=>(∃ X,(o7 z (pos s) h 0 s)[b]?=aa (aa X))/\(AR hr (nth s b)/\ft (nth s b) k)) (o7 z (pos s) h 0 s) w:=by
   refine akW.rename (nth s) (fun i X hX=>dN ⟨rfl,?_⟩) fun i j X Y _ hX hY he=>?_
   ·have hi:i<s.length:=by have:=(aU.1 hX).1;omega
    have hg:=(rX (z:=z) (u:=pos s) (h:=h) (l:=s) (i0:=0) (i:=i)).2 hi;rw[hX,b5] at hg;injection hg with hg
    cases hb:fU h (nth s i) with
    |none=>rw[hb] at hg;cases hg
    |some B =>
     rw[hb] at hg;simp only at hg;injection hg with hg
     have hq:=Zb (nth s i) B (Hl hi) hb;rw[hpn i hi] at hq;refine⟨_,hq,?_⟩;rw[hg];rcases B with⟨t,cs⟩|B
     ·have akr:=(CI h2 (Hl hi)).2 t cs hb;refine⟨rfl,?_,?_⟩
      ·rw[rH,← k_,← k_];refine BW (p:=mem s) (fun b hb=>?_) cs akr
       rw[(ow (mem_iff.1 hb)).1]
      ·rw[n_];refine Bv _ (EW (p:=mem s) (q:=fun i=>gU i s.length) (fun b hb=>pX.2 (ow (mem_iff.1 hb)).2) cs akr)
     ·rcases B with⟨t,r⟩|r|q
      ·cases hz:z i
       ·exact⟨rfl,dN rfl⟩
       ·rfl
      ·rfl
      ·rfl
   ·have hi:i<s.length:=by have:=(aU.1 hX).1;omega
    have hj:j<s.length:=by have:=(aU.1 hY).1;omega
    rw[← hpn i hi,he,hpn j hj]
  have hargs:args.map (bW ρ)=(lQ (pos s) args).map (bW (fun i=>ρ (nth s i))):=by
   rw[rH,← k_,← k_];refine BW (p:=mem s) (fun b hb=>?_) args h1
   rw[(ow (mem_iff.1 hb)).1]
  rw[hargs];have amX:ix (o7 z (pos s) h 0 s).length (lQ (pos s) args)=aq:=by
   rw[n_];exact Bv _ (EW (p:=mem s) (q:=fun i=>gU i s.length) (fun b hb=>pX.2 (ow (mem_iff.1 hb)).2) args h1)
  refine(ok.run _ _ _ mK hx _ _ _ w amG P0 amX).mono fun e w' ⟨gv,ks,g1,g2,g3⟩=>?_
  rw[n_] at g1
  let tB:Nat->Nat:=fun b=>if mem s b then pos s b else s.length+(b-h.length)
  let nh:Env:=fun b=>if b<h.length then ρ b else gv (s.length+(b-h.length))
  let Mf:Hp R:=(oi (h.length+(x.hp.length-s.length))).map fun b=>if b<h.length then(if mem s b then Ky (qq s h.length) (fU x.hp (pos s b)) else aj) else Ky (qq s h.length) (fU x.hp (s.length+(b-h.length)))
  have Zh:Mf.length=h.length+(x.hp.length-s.length):=by simp[Mf]
  have Q5:∀ (b:Nat),b<h.length+(x.hp.length-s.length)->Mf[b]?=aa (if b<h.length then(if mem s b then Ky (qq s h.length) (fU x.hp (pos s b)) else aj) else Ky (qq s h.length) (fU x.hp (s.length+(b-h.length)))):=fun b hb=>by
   simp only[Mf,gh,sH hb,j_]
  have Lr:∀ (b:Nat) (X:SB R),Mf[b]?=aa (aa X)->∃ Y,x.hp[tB b]?=aa (aa Y)/\X=yG (qq s h.length) Y/\nh b=gv (tB b)/\(b<h.length->b∈s)/\(h.length≤b->¬ b∈s):=by
   intro b X hX;have cl:b<h.length+(x.hp.length-s.length):=by
    have:=(aU.1 hX).1;omega
   rw[Q5 b cl] at hX;injection hX with hX
   split at hX
   ·rename_i hb;split at hX
    ·rename_i CH;obtain⟨Y,hY,rfl⟩:=IF hX;obtain⟨p1,p2⟩:=ow (mem_iff.1 CH);refine⟨Y,?_,rfl,?_,fun _=>mem_iff.1 CH,fun j6=>by omega⟩
     ·simp only[tB,CH,if_true];exact q8 hY
     ·simp only[tB,CH,if_true,nh,hb];rw[g1 _ p2,p1]
    ·cases hX
   ·rename_i hb;obtain⟨Y,hY,rfl⟩:=IF hX;have hns:¬ b∈s:=fun hh=>hb (adQ b hh)
    have CH:mem s b=ao:=by
     cases hh:mem s b with
     |false=>rfl
     |true=>exact absurd (mem_iff.1 hh) hns
    refine⟨Y,?_,rfl,?_,fun cl=>absurd cl hb,fun _=>hns⟩
    ·simp only[tB,CH,fu,if_false];exact q8 hY
    ·simp only[tB,CH,fu,if_false,nh,hb]
  have adW:∀ i,i<x.hp.length->nh (qq s h.length i)=gv i/\qq s h.length i<h.length+(x.hp.length-s.length):=by
   intro i hi
   by_cases hs:i<s.length
   ·rw[M3 hs];have:=adQ _ (Hl hs);refine⟨?_,by omega⟩
    simp only[nh,this,if_true];exact(g1 i hs).symm
   ·rw[acT hs];refine⟨?_,by omega⟩
    simp only[nh];rw[if_neg (by omega)]
    congr 1
    omega
  have Zg:HM D (Tu w hr ft ρ 0) nh (fun b k=>(∃ X,Mf[b]?=aa (aa X))/\ks (tB b) k) Mf w':=by
   refine g3.rename tB (fun b X hX=>dN ?_) fun b b' X X' _ hX hX' he=>?_
   ·obtain⟨Y,hY,rfl,qF,_⟩:=Lr b X hX;refine⟨qF,Y,hY,?_⟩;rcases Y with⟨t,cs⟩|Y
    ·have Ht:=(g3.at_ _ _ hY).2;simp only[inside] at Ht;refine⟨rfl,?_,?_⟩
     ·rw[rH,← k_,← k_];exact qi (n:=x.hp.length) (fun i hi=>(adW i hi).1) cs Ht
     ·rw[Zh];exact v7 (n:=x.hp.length) (fun i hi=>(adW i hi).2) cs Ht
    ·exact Lk.refl Y
   ·obtain⟨_,_,_,_,a1,a2⟩:=Lr b X hX;obtain⟨_,_,_,_,b1,b2⟩:=Lr b' X' hX';simp only[tB] at he;rcases cx b h.length with c1|c1<;>rcases cx b' h.length with c2|c2
    ·rw[mem_iff.2 (a1 c1),mem_iff.2 (b1 c2)] at he;simp only[if_true] at he;rw[← (ow (a1 c1)).1,he,(ow (b1 c2)).1]
    ·have:=(ow (a1 c1)).2;have CH:mem s b'=ao:=by
      cases hh:mem s b' with
      |false=>rfl
      |true=>exact absurd (mem_iff.1 hh) (b2 c2)
     rw[mem_iff.2 (a1 c1),CH] at he;simp at he;omega
    ·have:=(ow (b1 c2)).2;have CH:mem s b=ao:=by
      cases hh:mem s b with
      |false=>rfl
      |true=>exact absurd (mem_iff.1 hh) (a2 c1)
     rw[mem_iff.2 (b1 c2),CH] at he;simp at he;omega
    ·have CH:mem s b=ao:=by
      cases hh:mem s b with
      |false=>rfl
      |true=>exact absurd (mem_iff.1 hh) (a2 c1)
     have am1:mem s b'=ao:=by
      cases hh:mem s b' with
      |false=>rfl
      |true=>exact absurd (mem_iff.1 hh) (b2 c2)
     rw[CH,am1] at he;simp at he;omega
  have hbk:=fun b X=>rM (b:=b) (X:=X) h5
  have V6:∀ b,AR hr b↔(b∈s/\IG (o7 z (pos s) h 0 s) (pos s b)=aq):=by
   intro b
   constructor
   ·intro⟨X,hX,hv⟩;obtain⟨hb,B,hB,rfl⟩:=Ew b X hX;refine⟨hb,qD.2 ?_⟩;obtain⟨p1,p2⟩:=ow hb;have hg:=(rX (z:=z) (u:=pos s) (h:=h) (l:=s) (i0:=0) (i:=pos s b)).2 p2;rw[p1,hB,b5] at hg;exact⟨_,hg,by rw[FO];exact hv⟩
   ·intro⟨hb,hh⟩;obtain⟨X,hX,hv⟩:=qD.1 hh;obtain⟨p1,p2⟩:=ow hb;have hg:=(rX (z:=z) (u:=pos s) (h:=h) (l:=s) (i0:=0) (i:=pos s b)).2 p2;rw[hX,p1,b5] at hg;injection hg with hg
    cases hB:fU h b with
    |none=>rw[hB] at hg;cases hg
    |some B =>
     rw[hB] at hg;simp only at hg;injection hg with hg
     refine⟨_,Zb b B hb hB,?_⟩;rw[hg,FO] at hv;exact hv
  have agf:=hm.aj4 m_ hrl (n:=0) (h':=yo s (qq s h.length) (o7 z (pos s) h 0 s) x.hp 0 h++yE (qq s h.length) (x.hp.drop s.length)) Zg
   (fun b hb=>by simp only[nh,hb,if_true]) (by rw[Zh];omega) ?_ ?_ ?_ ?_
  ·refine⟨nh,_,fun i hi=>by simp only[nh,hi,if_true],?_,agf⟩
   rw[g2,CX,na (n:=x.hp.length) (fun i hi=>(adW i hi).1) x.v h6]
  ·intro b X hX;obtain⟨Y,hY,rfl,_,a1,a2⟩:=Lr b X hX;rw[FO];rcases((hbk _ Y).2 hY).2 with h7|⟨Z,hZ,hv⟩
   ·exact dN h7
   ·right
    rcases cx b h.length with c1|c1
    ·have hb:=a1 c1;obtain⟨p1,p2⟩:=ow hb;simp only[tB,mem_iff.2 hb,if_true] at hZ;have hg:=(rX (z:=z) (u:=pos s) (h:=h) (l:=s) (i0:=0) (i:=pos s b)).2 p2;rw[hZ,p1,b5] at hg;injection hg with hg
     cases hB:fU h b with
     |none=>rw[hB] at hg;cases hg
     |some B =>
      rw[hB] at hg;simp only at hg;injection hg with hg
      refine⟨_,Zb b B hb hB,?_⟩;rw[hg,FO] at hv;exact hv
    ·have CH:mem s b=ao:=by
      cases hh:mem s b with
      |false=>rfl
      |true=>exact absurd (mem_iff.1 hh) (a2 c1)
     simp only[tB,CH,fu,if_false] at hZ;have:=(aU.1 hZ).1;omega
  ·rw[bJ,(nC (b0:=0) (b:=0)).1,uW (i:=0) |>.1,Zh,List.length_drop]
  ·intro b hb;rcases cx b h.length with c1|c1
   ·have ho:AR hr b:=hb.elim id fun j6=>by omega
    obtain⟨hbs,hoa⟩:=(V6 b).1 ho;rw[db (by rw[(nC (b0:=0) (b:=0)).1];exact c1),(nC (b0:=0) (b:=b)).2 c1,b5,Q5 b (by omega)]
    rw[mem_iff.2 hbs,hoa];simp only[SR,if_true,c1]
   ·rw[dU (by rw[(nC (b0:=0) (b:=0)).1];exact c1),(nC (b0:=0) (b:=0)).1,uW.2,oL]
    rcases cx b (h.length+(x.hp.length-s.length)) with c2|c2
    ·rw[Q5 b c2,if_neg (by omega)]
     have:s.length+(b-h.length)<x.hp.length:=by omega
     rw[xA this]
     rfl
    ·rw[dg (by omega),dg (by rw[Zh];omega)]
     rfl
  ·intro b hb hn;rw[db (by rw[(nC (b0:=0) (b:=0)).1];exact hb),(nC (b0:=0) (b:=b)).2 hb,b5]
   split
   ·rename_i hc;simp only[aL] at hc;exact absurd ((V6 b).2 ⟨mem_iff.1 hc.1,hc.2⟩) hn
   ·rw[xA hb]
theorem JB {f:FuncId} {c:je R} (z:Nat->Bool) (d:Nat) (ok:ck D P f c):ck D P f (bM z d c):=by
 intro b;have:=ad8 z d (ok b);have e:(bM z d c).go b=Dw z d (c.go b):=by cases b<;>rfl
 rw[e];refine⟨this.known,fun args h x mK=>this.run args h x ?_,this.len,this.lit,this.still⟩
 unfold rW bM Yy at mK;simp only[VR,Kj] at mK;exact mK
theorem aX {f:FuncId} {c:je R} (z:Nat->Bool) (d:Nat) (ok:ck D P f c):GA D P f (bM z d c):=by
 refine⟨JB z d ok,fun b args h x hx i hi hk=>?_⟩
 have e:(bM z d c).go b=Dw z d (c.go b):=by cases b<;>rfl
 rw[e] at hx;obtain⟨s,y,_,_,_,_,_,_,_,rfl⟩:=zZ hx;simp only at hk;split at hk<;>cases hk
def JF (K:List Nat):Nat->List Nat->List (Nat×Nat)
 |_,[]=>[]
 |i,b::l=>if mem K i then JF K (i+1) l else(b,0)::JF K (i+1) l
def Ul (K:List Nat) (d:Nat) (spec:Prim R):Prim R:=fun args h =>
 match Dw (fun _=>ao) d spec args h with
 |some x=>aa ⟨x.vc,x.v,x.lit,x.hp,x.rd,match x.wr with
  |[]=>[]
  |_=>(0,1)::JF K 0 (L0 (reach h d (sG args)) [])⟩
 |none=>aj
def Cy (K:List Nat) (d:Nat) (c:je R):je R:=⟨Yy (fun _=>ao) d c.when,Ul K d c.yes,Ul K d c.no⟩
def K9 (K:List Nat) (c:je R):Prop:=∀ b args h x,c.go b args h=aa x->∀ i,i∈K->i<h.length->x.hp[i]?=h[i]?
theorem Uy {K:List Nat} {b:Nat}:∀ {s:List Nat} {i j:Nat},s[j]?=aa b->mem K (i+j)=ao->Iy (JF K i s) b=aq
 |[],_,_,h,_=>by simp at h
 |c::l,i,0,h,hK=>by
  simp only[cf,cu] at h;subst h;rw[gV] at hK;simp[JF,hK,Iy]
 |c::l,i,j+1,h,hK=>by
  simp only[bH] at h;have:=Uy (i:=i+1) h (by rwa [show i+1+j=i+(j+1) by omega])
  simp only[JF];split
  ·exact this
  ·simp[Iy,this]
theorem af6 {s:List Nat} {i:Nat} (h:i<s.length):s[i]?=aa (nth s i):=by
 induction s generalizing i with
 |nil=>simp at h
 |cons a l ih =>
  cases i with
  |zero=>rfl
  |succ i =>
   simp only[bH,nth];exact ih (by simpa using h)
theorem Cu {f:FuncId} {c:je R} (K:List Nat) (d:Nat) (ok:ck D P f c) (hK:K9 K c):GA D P f (Cy K d c):=by
 have Ut:∀ b args h x,(Cy K d c).go b args h=aa x->∃ y,(bM (fun _=>ao) d c).go b args h=aa y/\x=⟨y.vc,y.v,y.lit,y.hp,y.rd,match y.wr with
   |[]=>[]
   |_=>(0,1)::JF K 0 (L0 (reach h d (sG args)) [])⟩:=by
  intro b args h x hx;cases b
  all_goals
   simp only[Cy,je.go,Ul] at hx;split at hx
   ·rename_i y hy;injection hx with hx
    exact⟨y,hy,hx.symm⟩
   ·cases hx
 refine⟨fun b=>?_,fun b args h x hx i hi hk=>?_⟩
 ·have o:=JB (fun _=>ao) d ok b
  refine⟨o.known,fun args h x mK hx=>?_,fun args h x hx=>?_,fun args h x hx=>?_,fun args h x hx hw=>?_⟩
  ·obtain⟨y,hy,rfl⟩:=Ut _ _ _ _ hx;exact o.run args h y mK hy
  ·obtain⟨y,hy,rfl⟩:=Ut _ _ _ _ hx;exact o.len args h y hy
  ·obtain⟨y,hy,rfl⟩:=Ut _ _ _ _ hx;exact o.lit args h y hy
  ·obtain⟨y,hy,rfl⟩:=Ut _ _ _ _ hx;refine o.still args h y hy ?_;simp only at hw;split at hw
   ·assumption
   ·cases hw
 ·obtain⟨y,hy,rfl⟩:=Ut _ _ _ _ hx;have e:(bM (fun _=>ao) d c).go b=Dw (fun _=>ao) d (c.go b):=by cases b<;>rfl
  rw[e] at hy;obtain⟨s,x,hs0,h1,h2,h3,Mf,h5,h6,rfl⟩:=zZ hy;have hkp:Iy (JF K 0 s) i=ao:=by
   simp only at hk;split at hk
   ·cases hk
   ·rw[← hs0] at hk
    simpa [ON] using hk
  clear hk;have n_:(o7 (fun _=>ao) (pos s) h 0 s).length=s.length:=(rX (i0:=0) (i:=0)).1
  have Bg:(yo s (qq s h.length) (o7 (fun _=>ao) (pos s) h 0 s) x.hp 0 h).length=h.length:=(nC (b0:=0) (b:=0)).1
  simp only;rw[db (by rw[Bg];exact hi),(nC (b0:=0) (b:=i)).2 hi,b5]
  split
  ·rename_i hc;simp only[aL] at hc;have hm:=mem_iff.1 hc.1;obtain⟨p1,p2⟩:=ow hm;have hmK:pos s i∈K:=by
    cases hmk:mem K (pos s i) with
    |true=>exact mem_iff.1 hmk
    |false =>
     have:=Uy (K:=K) (i:=0) (af6 p2) (by rwa [b5])
     rw[p1] at this;rw[this] at hkp;cases hkp
   have hke:=hK b _ _ _ Mf (pos s i) hmK (by rw[n_];exact p2)
   obtain⟨X,hX,hv⟩:=qD.1 hc.2;rw[hX] at hke;have hg:=(rX (z:=fun _=>ao) (u:=pos s) (h:=h) (l:=s) (i0:=0) (i:=pos s i)).2 p2
   rw[hX,p1] at hg;injection hg with hg
   cases hb:fU h i with
   |none=>rw[hb] at hg;cases hg
   |some B =>
    rw[hb] at hg;simp only at hg;injection hg with hg
    rw[JX hke,xA hi,hb,hg];have hfr:FF ao B=B:=by rcases B with⟨t,cs⟩|⟨t,r⟩|r|q<;>rfl
    simp only[Ky,hfr]
    congr 2
    rcases B with⟨t,cs⟩|B
    ·simp only[yG];rw[BX,D3 (p:=mem s)]
     ·intro j hj;obtain⟨q1,q2⟩:=ow (mem_iff.1 hj);rw[M3 q2,q1]
     ·exact(CI h2 hm).2 t cs hb
    ·rfl
  ·rw[xA hi]
end
end Rx
namespace Rx
open Go.RowKit State
section
variable {R R0:Type}
structure EF (R R0:Type) where
 lay:R->Hp R0
 ne:∀ x,0<(lay x).length
 own:∀ (x:R) (b:Nat) (X:SB R0),(lay x)[b]?=aa (aa X)->h9 X=ao
 ins:∀ x,sZ (lay x).length (lay x)=aq
def FA (D0:fK R0) (L:EF R R0):fK R where
 H x p F w:=∃ Ma PV,Ma 0=p/\(∀ k,F k↔∃ i,PV i k)/\HM D0 ⟨w,F,Ma,0⟩ Ma PV (L.lay x) w
 H0 x p F w w' h hk:=by
  obtain⟨Ma,PV,h1,h2,h3⟩:=h;refine⟨Ma,PV,h1,h2,?_⟩;refine⟨fun i B hi=>⟨yR (L.own x i B hi) (JL (h3.at_ i B hi).1 fun k nx=>hk k ((h2 k).2 ⟨i,nx⟩)),(h3.at_ i B hi).2⟩,fun i k Ml=>?_,fun i k Ml=>dN ((h2 k).2 ⟨i,Ml⟩),h3.apart,h3.some_,Kept.refl _ _⟩
  have h4:=hk k ((h2 k).2 ⟨i,Ml⟩);have h5:=h3.lt i k Ml;rw[Array.getElem?_eq_getElem h5] at h4;exact(vY.1 h4).1
 lt x p F w k h hk:=by
  obtain⟨Ma,PV,h1,h2,h3⟩:=h;obtain⟨i,hi⟩:=(h2 k).1 hk;exact h3.lt i k hi
variable {L:EF R R0}
def width (L:EF R R0):Option (SB R)->Nat
 |some (.inr (.inr (.inr x)))=>(L.lay x).length
 |_=>1
def off (L:EF R R0):Hp R->Nat->Nat
 |[],b=>b
 |_::_,0=>0
 |x::l,b+1=>width L x+off L l b
def loc (L:EF R R0):Hp R->Nat->Nat×Nat
 |[],j=>(j,0)
 |x::l,j=>if j<width L x then(0,j) else((loc L l (j-width L x)).1+1,(loc L l (j-width L x)).2)
def Am (L:EF R R0) (s:Nat->Nat) (o:Nat):Option (SB R)->Hp R0
 |none=>[aj]
 |some (.inl (t,cs))=>[aa (.inl (t,lQ s cs))]
 |some (.inr (.inl tr))=>[aa (.inr (.inl tr))]
 |some (.inr (.inr (.inl r)))=>[aa (.inr (.inr (.inl r)))]
 |some (.inr (.inr (.inr x)))=>yE (fun i=>i+o) (L.lay x)
def FJ (L:EF R R0) (s:Nat->Nat):Nat->Hp R->Hp R0
 |_,[]=>[]
 |o,x::l=>Am L s o x++FJ L s (o+width L x) l
def xV (L:EF R R0) (h:Hp R):Hp R0:=FJ L (off L h) 0 h
theorem u0 (x:Option (SB R)):0<width L x:=by
 rcases x with _|⟨t,cs⟩|tr|r|x
 ·exact Gu
 ·exact Gu
 ·exact Gu
 ·exact Gu
 ·exact L.ne x
theorem B_ (s:Nat->Nat) (o:Nat) (x:Option (SB R)):(Am L s o x).length=width L x:=by
 rcases x with _|⟨t,cs⟩|tr|r|x
 ·rfl
 ·rfl
 ·rfl
 ·rfl
 ·exact(uW (i:=0)).1
theorem FT (s:Nat->Nat):∀ (h:Hp R) (o b i:Nat),b<h.length->i<width L (fU h b)->(FJ L s o h)[off L h b+i]?=(Am L s (o+off L h b) (fU h b))[i]?
 |[],o,b,i,hb,_=>by simp at hb
 |x::l,o,0,i,_,hi=>by
  have e:fU (x::l) 0=x:=by simp[fU]
  rw[e] at hi ⊢;simp only[FJ,off,b5,gV];rw[db (by rw[B_];exact hi)]
 |x::l,o,b+1,i,hb,hi=>by
  have e:fU (x::l) (b+1)=fU l b:=by simp[fU]
  rw[e] at hi ⊢;simp only[cI] at hb;simp only[FJ,off];rw[dU (by rw[B_];omega),B_,show width L x+off L l b+i-width L x=off L l b+i by omega]
  rw[FT s l (o+width L x) b i (by omega) hi,jh]
theorem Iu:∀ (h:Hp R) (b b':Nat),b<b'->b<h.length->off L h b+width L (fU h b)≤off L h b'
 |[],b,b',_,hb=>by simp at hb
 |x::l,0,0,h,_=>by omega
 |x::l,0,b'+1,_,_=>by
  have e:fU (x::l) 0=x:=by simp[fU]
  rw[e];simp only[off];omega
 |x::l,b+1,0,h,_=>by omega
 |x::l,b+1,b'+1,h,hb=>by
  have e:fU (x::l) (b+1)=fU l b:=by simp[fU]
  rw[e];simp only[cI] at hb;simp only[off];have:=Iu l b b' (by omega) (by omega)
  omega
theorem JV (s:Nat->Nat):∀ (h:Hp R) (o:Nat),(FJ L s o h).length=off L h h.length
 |[],o=>rfl
 |x::l,o=>by
  simp only[FJ,bJ,B_,cI,off];rw[JV s l]
theorem Od (h:Hp R):(xV L h).length=off L h h.length:=JV _ _ _
theorem GY (h:Hp R) {b i:Nat} (hb:b<h.length) (hi:i<width L (fU h b)):off L h b+i<(xV L h).length:=by
 rw[Od];have:=Iu (L:=L) h b h.length hb hb;omega
theorem QG:∀ (h:Hp R) (b i:Nat),b<h.length->i<width L (fU h b)->loc L h (off L h b+i)=(b,i)
 |[],b,i,hb,_=>by simp at hb
 |x::l,0,i,_,hi=>by
  have e:fU (x::l) 0=x:=by simp[fU]
  rw[e] at hi;simp only[loc,off,b5,hi,if_true]
 |x::l,b+1,i,hb,hi=>by
  have e:fU (x::l) (b+1)=fU l b:=by simp[fU]
  rw[e] at hi;simp only[cI] at hb;have e2:off L (x::l) (b+1)+i=width L x+(off L l b+i):=by simp only[off];omega
  rw[e2];simp only[loc];rw[if_neg (by omega),show width L x+(off L l b+i)-width L x=off L l b+i by omega,QG l b i (by omega) hi]
theorem GZ:∀ (h:Hp R) (j:Nat),(loc L h j).1<h.length->off L h (loc L h j).1+(loc L h j).2=j/\(loc L h j).2<width L (fU h (loc L h j).1)
 |[],j,hj=>by simp at hj
 |x::l,j,hj=>by
  simp only[loc] at hj ⊢;split
  ·rename_i cl;have e:fU (x::l) 0=x:=by simp[fU]
   refine⟨by simp[off],by rw[e];exact cl⟩
  ·rename_i j6;rw[if_neg j6] at hj;simp only[cI] at hj;obtain⟨h1,h2⟩:=GZ l (j-width L x) (by simpa using hj)
   have e:fU (x::l) ((loc L l (j-width L x)).1+1)=fU l (loc L l (j-width L x)).1:=by simp[fU]
   simp only[off];rw[e];exact⟨by omega,h2⟩
theorem aby:∀ (h:Hp R) (j:Nat),j<off L h h.length->(loc L h j).1<h.length
 |[],j,hj=>by simp[off] at hj
 |x::l,j,hj=>by
  simp only[loc];split
  ·simp
  ·rename_i j6;simp only[cI,off] at hj;have:=aby l (j-width L x) (by omega)
   simp only[cI];omega
theorem agA (h:Hp R) {j:Nat} {B:SB R0} (hj:(xV L h)[j]?=aa (aa B)):∃ b i,b<h.length/\i<width L (fU h b)/\j=off L h b+i/\loc L h j=(b,i)/\(Am L (off L h) (off L h b) (fU h b))[i]?=aa (aa B):=by
 have cl:j<off L h h.length:=by
  have:=(aU.1 hj).1
  rwa [Od] at this
 have h1:=aby h j cl;obtain⟨h2,h3⟩:=GZ h j h1;refine⟨_,_,h1,h3,h2.symm,rfl,?_⟩;rw[← h2] at hj;unfold xV at hj;rw[FT _ h 0 _ _ h1 h3,b5] at hj;exact hj
variable {D0:fK R0} {C:Ctx} {ρ gv:Env} {ft ks:Nat->Nat->Prop} {w w':World} {h:Hp R} {P:Program}
theorem HM.open_ (hm:HM (FA D0 L) C ρ ft h w):∃ gv ks,(∀ b,b<h.length->gv (off L h b)=ρ b)/\HM D0 C gv ks (xV L h) w:=by
 have key:∀ b,∃ pr:(Env×(Nat->Nat->Prop)),pr.1 0=ρ b/\(∀ k,ft b k↔∃ i,pr.2 i k)/\(∀ i k,b<h.length->pr.2 i k->i<width L (fU h b)) /\
   (∀ x,fU h b=aa (.inr (.inr (.inr x)))->HM D0 ⟨w,ft b,pr.1,0⟩ pr.1 pr.2 (L.lay x) w)/\((∀ x,fU h b≠aa (.inr (.inr (.inr x))))->∀ i k,pr.2 i k->i=0):=by
  intro b
  by_cases hx:∃ x,fU h b=aa (.inr (.inr (.inr x)))
  ·obtain⟨x,hx⟩:=hx;obtain⟨Ma,PV,h1,h2,h3⟩:=(hm.at_ b _ (q8 hx)).1;refine⟨⟨Ma,PV⟩,h1,h2,fun i k _ Ml=>?_,fun y hy=>?_,fun hn=>absurd hx (hn x)⟩
   ·rw[hx];obtain⟨B,hB⟩:=h3.some_ i k Ml;exact(aU.1 hB).1
   ·rw[hx] at hy;injection hy with hy;injection hy with hy;injection hy with hy;injection hy with hy
    subst hy;exact h3
  ·refine⟨⟨fun _=>ρ b,fun i k=>i=0/\ft b k⟩,rfl,fun k=>⟨fun hk=>⟨0,rfl,hk⟩,fun⟨_,_,hk⟩=>hk⟩,fun i k _ Ml=>?_,fun x Ym=>absurd ⟨x,Ym⟩ hx,fun _ i k Ml=>Ml.1⟩
   rw[Ml.1];exact u0 _
 obtain⟨pr,Sk⟩:=Wm key;have qF:∀ b,b<h.length->(pr (loc L h (off L h b)).1).1 (loc L h (off L h b)).2=ρ b:=fun b hb=>by
  have:=QG (L:=L) h b 0 hb (u0 _);rw[gV] at this;rw[this];exact(Sk b).1
 refine⟨fun j=>(pr (loc L h j).1).1 (loc L h j).2,fun j k=>(pr (loc L h j).1).2 (loc L h j).2 k,qF,?_⟩
 have m_:∀ j k,(pr (loc L h j).1).2 (loc L h j).2 k->ft (loc L h j).1 k:=fun j k hk=>((Sk _).2.1 k).2 ⟨_,hk⟩
 have hb:∀ b k,ft b k->b<h.length:=fun b k hk=>by
  obtain⟨B,hB⟩:=hm.some_ b k hk;exact(aU.1 hB).1
 refine⟨fun j B hj=>?_,fun j k hk=>hm.lt _ k (m_ j k hk),fun j k hk=>hm.fresh _ k (m_ j k hk),fun j j' k hk nx=>?_,fun j k hk=>?_,hm.kept⟩
 ·obtain⟨b,i,Bg,Ct,rfl,hl,hB⟩:=agA h hj;rw[hl];obtain⟨p1,p2,p3,p4,p5⟩:=Sk b;have hfb:(∀ x,fU h b≠aa (.inr (.inr (.inr x))))->(pr b).2 0=ft b:=fun hn=>funext fun k=>propext ⟨fun hk=>(p2 k).2 ⟨0,hk⟩,fun hk=>by
   obtain⟨i,hi⟩:=(p2 k).1 hk;rw[p5 hn i k hi] at hi;exact hi⟩
  cases hx:fU h b with
  |none =>
   rw[hx] at Ct hB;simp only[width] at Ct;obtain rfl:i=0:=by omega
   simp[Am] at hB
  |some X =>
   have hX:=q8 hx;obtain⟨g1,g2⟩:=hm.at_ b X hX;rcases X with⟨t,cs⟩|⟨t,r⟩|r|x
   ·rw[hx] at Ct hB;simp only[width] at Ct;obtain rfl:i=0:=by omega
    simp only[Am,cf,cu] at hB;subst hB;simp only[hfb (fun x e=>by rw[hx] at e;cases e)]
    obtain⟨q1,q2,q3⟩:=g1;simp only[inside] at g2;refine⟨?_,?_⟩
    ·simp only[hold,hl,p1];refine⟨q1,q2,?_⟩;have e:(lQ (off L h) cs).map (bW (fun j=>(pr (loc L h j).1).1 (loc L h j).2))=cs.map (bW ρ):=by
      rw[rH,← k_,← k_];exact qi (n:=h.length) (fun b hb=>qF b hb) cs g2
     rw[e];exact q3
    ·simp only[inside];refine v7 (n:=h.length) (fun b hb=>?_) cs g2
     have:=GY (L:=L) h (b:=b) (i:=0) hb (u0 _)
     simpa using this
   ·rw[hx] at Ct hB;simp only[width] at Ct;obtain rfl:i=0:=by omega
    simp only[Am,cf,cu] at hB;subst hB;simp only[hfb (fun x e=>by rw[hx] at e;cases e)]
    simp only[hold,hl,p1] at g1 ⊢;exact⟨g1,trivial⟩
   ·rw[hx] at Ct hB;simp only[width] at Ct;obtain rfl:i=0:=by omega
    simp only[Am,cf,cu] at hB;subst hB;simp only[hfb (fun x e=>by rw[hx] at e;cases e)]
    simp only[hold,hl,p1] at g1 ⊢;exact⟨g1,trivial⟩
   ·rw[hx] at Ct hB;simp only[width] at Ct;simp only[Am] at hB;rw[uW.2] at hB;cases hY:(L.lay x)[i]? with
    |none=>rw[hY] at hB;cases hB
    |some Y =>
     rw[hY] at hB;simp only[j_,cu] at hB;obtain⟨Y,rfl,rfl⟩:=IF hB;have h3:=p4 x hx;obtain⟨q1,q2⟩:=h3.at_ i Y hY;have RN:=L.own x i Y hY;have q3:hold D0 C (pr b).1 i ((pr b).2 i) w Y:=yR RN q1;have QP:∀ i',i'<(L.lay x).length->(pr (loc L h (i'+off L h b)).1).1 (loc L h (i'+off L h b)).2=(pr b).1 i':=fun i' lR=>by
      rw[sC i' (off L h b),QG h b i' Bg (by rw[hx];exact lR)]
     rcases Y with⟨t,cs⟩|⟨t,r⟩|r|y
     ·obtain⟨z1,z2,z3⟩:=q3;simp only[inside] at q2;refine⟨?_,?_⟩
      ·simp only[yG,hold,hl];refine⟨z1,z2,?_⟩;have e:(lQ (fun i=>i+off L h b) cs).map (bW (fun j=>(pr (loc L h j).1).1 (loc L h j).2))=cs.map (bW (pr b).1):=by
        rw[rH,← k_,← k_];exact qi (n:=(L.lay x).length) (fun i' lR=>QP i' lR) cs q2
       rw[e];exact z3
      ·simp only[yG,inside];refine v7 (n:=(L.lay x).length) (fun i' lR=>?_) cs q2
       have:=GY (L:=L) h (b:=b) (i:=i') Bg (by rw[hx];exact lR)
       omega
     ·simp only[yG,hold,hl] at q3 ⊢;exact⟨q3,trivial⟩
     ·simp[h9] at RN
     ·simp only[yG,hold,hl] at q3 ⊢;exact⟨q3,trivial⟩
 ·have e1:=hm.apart _ _ k (m_ j k hk) (m_ j' k nx);have Bg:=hb _ k (m_ j k hk);have amH:=hb _ k (m_ j' k nx);have o1:=GZ h j Bg;have o2:=GZ h j' amH;obtain⟨p1,p2,p3,p4,p5⟩:=Sk (loc L h j).1;have e2:(loc L h j).2=(loc L h j').2:=by
   rw[← e1] at nx
   by_cases hx:∃ x,fU h (loc L h j).1=aa (.inr (.inr (.inr x)))
   ·obtain⟨x,hx⟩:=hx;exact(p4 x hx).apart _ _ k hk nx
   ·have hn:∀ x,fU h (loc L h j).1≠aa (.inr (.inr (.inr x))):=fun x e=>hx ⟨x,e⟩
    rw[p5 hn _ k hk,p5 hn _ k nx]
  rw[← o1.1,← o2.1,e1,e2]
 ·have LY:=m_ j k hk;have Bg:=hb _ k LY;obtain⟨o1,o2⟩:=GZ h j Bg;have hg:=FT (L:=L) (off L h) h 0 _ _ Bg o2;rw[b5,o1] at hg;show ∃ B,(FJ L (off L h) 0 h)[j]?=aa (aa B)
  rw[hg];obtain⟨X,hX⟩:=hm.some_ _ k LY;obtain⟨p1,p2,p3,p4,p5⟩:=Sk (loc L h j).1;rw[JX hX] at o2 ⊢;rcases X with⟨t,cs⟩|tr|r|x
  ·have:(loc L h j).2=0:=by simp only[width] at o2;omega
   rw[this];exact⟨_,rfl⟩
  ·have:(loc L h j).2=0:=by simp only[width] at o2;omega
   rw[this];exact⟨_,rfl⟩
  ·have:(loc L h j).2=0:=by simp only[width] at o2;omega
   rw[this];exact⟨_,rfl⟩
  ·obtain⟨B,hB⟩:=(p4 x (JX hX)).some_ _ k hk;simp only[Am];rw[uW.2,hB];exact⟨_,rfl⟩
theorem HM.close_ (hm:HM D0 C ρ ft (xV L h) w) (j5:sZ h.length h=aq) :
  HM (FA D0 L) C (fun b=>ρ (off L h b)) (fun b k=>b<h.length/\∃ i,i<width L (fU h b)/\ft (off L h b+i) k) h w:=by
 have YK:∀ b i,b<h.length->i<width L (fU h b)->(xV L h)[off L h b+i]?=(Am L (off L h) (off L h b) (fU h b))[i]?:=fun b i hb hi=>by
  have:=FT (L:=L) (off L h) h 0 b i hb hi;rw[b5] at this;exact this
 refine⟨fun b B hB=>⟨?_,BN j5 hB⟩,fun b k hk=>?_,fun b k hk=>?_,fun b b' k hk nx=>?_,fun b k hk=>?_,hm.kept⟩
 ·have Bg:b<h.length:=(aU.1 hB).1;have hx:=JX hB;have Y2:width L (fU h b)=1->(fun k=>b<h.length/\∃ i,i<width L (fU h b)/\ft (off L h b+i) k)=ft (off L h b):=fun hw=>funext fun k=>propext ⟨fun⟨_,i,hi,hk⟩=>by
   obtain rfl:i=0:=by omega
   exact hk,fun hk=>⟨Bg,0,by omega,hk⟩⟩
  have h0:=YK b 0 Bg (u0 _);rw[gV] at h0;rcases B with⟨t,cs⟩|⟨t,r⟩|r|x
  ·rw[Y2 (by rw[hx];rfl)]
   rw[hx] at h0;obtain⟨g1,g2⟩:=hm.at_ _ _ h0;obtain⟨q1,q2,q3⟩:=g1;refine⟨q1,q2,?_⟩;rw[rH] at q3;exact q3
  ·rw[Y2 (by rw[hx];rfl)]
   rw[hx] at h0;exact(hm.at_ _ _ h0).1
  ·rw[Y2 (by rw[hx];rfl)]
   rw[hx] at h0;exact(hm.at_ _ _ h0).1
  ·refine⟨fun i=>ρ (off L h b+i),fun i k=>i<(L.lay x).length/\ft (off L h b+i) k,rfl,fun k=>⟨fun⟨_,i,hi,hk⟩=>⟨i,by rw[hx] at hi;exact hi,hk⟩,fun⟨i,hi,hk⟩=>⟨Bg,i,by rw[hx];exact hi,hk⟩⟩,?_⟩
   have KB:∀ i Y,(L.lay x)[i]?=aa (aa Y)->(xV L h)[off L h b+i]?=aa (aa (yG (fun i=>i+off L h b) Y)):=fun i Y hY=>by
    have Ct:=(aU.1 hY).1;rw[YK b i Bg (by rw[hx];exact Ct),hx]
    simp only[Am];rw[uW.2,hY]
    rfl
   refine⟨fun i Y hY=>?_,fun i k hk=>hm.lt _ k hk.2,fun i k hk=>dN ⟨Bg,i,by rw[hx];exact hk.1,hk.2⟩,fun i j k hi hj=>?_,fun i k hk=>?_,Kept.refl _ _⟩
   ·have Ct:=(aU.1 hY).1;obtain⟨g1,g2⟩:=hm.at_ _ _ (KB i Y hY);have am6:=BN (L.ins x) hY;have:=RY g1 (afT (ρn:=fun i=>ρ (off L h b+i)) (fun i=>by rw[sC i]) am6) (b:=i) rfl
    have e:(fun k=>i<(L.lay x).length/\ft (off L h b+i) k)=ft (off L h b+i):=funext fun k=>propext ⟨fun h=>h.2,fun h=>⟨Ct,h⟩⟩
    rw[e];exact⟨yR (L.own x i Y hY) this.1,this.2⟩
   ·have:=hm.apart _ _ k hi.2 hj.2;omega
   ·obtain⟨Z,hZ⟩:=hm.some_ _ k hk.2;rw[YK b i Bg (by rw[hx];exact hk.1),hx] at hZ
    simp only[Am] at hZ;rw[uW.2] at hZ;cases hY:(L.lay x)[i]? with
    |none=>rw[hY] at hZ;cases hZ
    |some Y =>
     rw[hY] at hZ;simp only[j_,cu] at hZ;obtain⟨Y,rfl,_⟩:=IF hZ;exact⟨Y,rfl⟩
 ·obtain⟨_,i,_,hk⟩:=hk;exact hm.lt _ k hk
 ·obtain⟨_,i,_,hk⟩:=hk;exact hm.fresh _ k hk
 ·obtain⟨hb,i,hi,hk⟩:=hk;obtain⟨qf,i',lR,nx⟩:=nx;have e:=hm.apart _ _ k hk nx;rcases nV b b' with cl|he|cl
  ·have:=Iu (L:=L) h b b' cl hb;omega
  ·exact he
  ·have:=Iu (L:=L) h b' b cl qf;omega
 ·obtain⟨hb,i,hi,hk⟩:=hk;obtain⟨Z,hZ⟩:=hm.some_ _ k hk;rw[YK b i hb hi] at hZ;cases hx:fU h b with
  |none =>
   rw[hx] at hZ hi;simp only[width] at hi;obtain rfl:i=0:=by omega
   simp[Am] at hZ
  |some X=>exact⟨X,q8 hx⟩
structure xH (L:EF R R0) (hh:Hp R) (x:Out R) (v:Value) (hp:Hp R0):Prop where
 ex:∃ s:List Nat,v=pw hp.length (gg (nth s) (gg (off L x.hp) x.v))/\fp hp.length v=aq/\tW hp.length (nth s) hp 0 (xV L x.hp)/\vT (yW hp.length (nth s) 0 (xV L x.hp))=aq/\uJ (xV L hh).length hp.length=aq/\F6 (fun b=>fo (nth s (off L x.hp b)) (off L hh b)) hh.length=aq /\
  sZ (xV L x.hp).length (xV L x.hp)=aq/\sZ x.hp.length x.hp=aq
theorem qY {f : FuncId} {fn : Func} {root : Code} {on : List Value → Hp R → Prop} {spec : Prim R} (hf : P.funcs[f]? = aa fn) (hb : fn.body = aa root) (ZM : (fn.name == "runtime.NumGoroutine") = ao)
  (H:∀ args hh x,spec args hh=aa x->hh.length≤x.hp.length/\(∀ b,x.lit=aa b->x.v=.bool b)/\(x.wr=[]->x.hp=hh) /\
   (on args hh->x.vc->At D0 P root (xV L hh).length (iD P fn.results.toList (xH L hh x)) [.inl []] ⟨vn (lQ (off L hh) args)++ld (fn.ntmps-args.length) aj,[],xV L hh⟩)):rB (FA D0 L) P f on spec where
 known:=⟨fn,hf,ZM,by rw[hb];rfl⟩
 run args hh x mK hx C ρ ft w hm hv hi:=by
  obtain⟨_,_,_,h4⟩:=H args hh x hx;obtain⟨ρ1,ft1,o1,o2⟩:=hm.open_;have hargs:args.map (bW ρ)=(lQ (off L hh) args).map (bW ρ1):=by
   rw[rH,← k_,← k_];exact(qi (n:=hh.length) (fun b hb=>o1 b hb) args hi).symm
  have hlen:(lQ (off L hh) args).length=args.length:=by
   have:∀ l:List Value,(lQ (off L hh) l).length=l.length:=fun l=>by
    induction l with
    |nil=>simp[lQ]
    |cons v l ih=>simp[lQ,ih]
   exact this args
  rw[hargs];have j5:ix (xV L hh).length (lQ (off L hh) args)=aq:=v7 (n:=hh.length) (fun b hb=>by
   have:=GY (L:=L) hh (b:=b) (i:=0) hb (u0 _)
   simpa using this) args hi
  have h5:=h4 mK hv;rw[← hlen] at h5;refine(MH hf hb h5 o2 j5).mono fun e w' ⟨gv,ks,v,w_,g1,g2,g3,g4⟩=>?_
  obtain⟨s,e1,I7,e2,e3,e3',e4,e5,e6⟩:=g3.ex;have Vv:=g4.Vp e2 e3 e5;refine⟨_,_,fun b hb=>?_,?_,Vv.close_ e6⟩
  ·show xo gv w_.length (nth s (off L x.hp b))=ρ b
   have h6:off L hh b<(xV L hh).length:=by
    have:=GY (L:=L) hh (b:=b) (i:=0) hb (u0 _)
    simpa using this
   have:=zE e4 hb;have h7:=jB e3';rw[cR this,xM (by omega),g1 _ h6,o1 b hb]
  ·rw[g2];rw[e1] at I7 ⊢;rw[Kc _ I7,CX,CX]
 len args hh x hx:=(H args hh x hx).1
 lit args hh x hx:=(H args hh x hx).2.1
 still args hh x hx:=(H args hh x hx).2.2.1
end
end Rx
namespace Rx
open Go.ChangeShapes Go.WideShapes Go.ChangeAt Go.RowKit Go.Deep State
def AJ:Value->Value->Prop
 |.int k _,.int k' x=>k=k'/\(Lit.int k x).wf=aq
 |.bool _,.bool _=>True
 |.string _,.string s=>s.size≤maxLen
 |_,_=>False
def rZ:List Value->List Value->Prop
 |[],[]=>True
 |t::tm,v::l=>AJ t v/\rZ tm l
 |_,_=>False
theorem Bw:∀ {a b c d:List Value},rZ a c->rZ b d->rZ (a++b) (c++d)
 |[],b,[],d,_,h=>h
 |[],b,_::_,d,h,_=>h.elim
 |_::_,b,[],d,h,_=>h.elim
 |t::a,b,v::c,d,h,h'=>⟨h.1,Bw h.2 h'⟩
theorem Mi:∀ {a c:List Value} {f:Nat} {t:Value},rZ a c->a[f]?=aa t->∃ v,c[f]?=aa v/\AJ t v
 |[],_,f,t,_,h=>by simp at h
 |_::_,[],f,t,h,_=>h.elim
 |u::a,v::c,f,t,h,ht=>by
  cases f with
  |zero=>simp only[cf,cu] at ht ⊢;subst ht;exact⟨v,rfl,h.1⟩
  |succ f=>simp only[bH] at ht ⊢;exact Mi h.2 ht
def J4 (P:Program) (rec:TypeId->Option (List Value)):Nat->List Field->Option (List Value)
 |_,[]=>aa []
 |off,f::fs =>
  match rec f.type with
  |some tm=>if fo f.offset off&&fo (P.cellsOf f.type) tm.length then
    match J4 P rec (off+tm.length) fs with
    |some r=>aa (tm++r)
    |none=>aj
   else aj
  |none=>aj
def MY (tm:List Value):Nat->List Value
 |0=>[]
 |n+1=>tm++MY tm n
theorem Uv {tm:List Value} {v:Value}:∀ {n},v∈MY tm n->v∈tm
 |0,h=>by simp[MY] at h
 |n+1,h=>by
  simp only[MY] at h;rcases b9.1 h with h|h
  ·exact h
  ·exact Uv h
def Gh (P:Program):Nat->TypeId->Option (List Value)
 |0,_=>aj
 |n+1,t =>
  match P.underlying t with
  |some (.int k)=>aa [.int k 0]
  |some .bool=>aa [.bool ao]
  |some .string=>aa [.string ⟨#[]⟩]
  |some (.struct fs) =>
   match J4 P (Gh P n) 0 fs.toList with
   |some tm=>if fo (P.cellsOf t) tm.length then aa tm else aj
   |none=>aj
  |some (.array k el) =>
   match Gh P n el with
   |some tm=>if fo (P.cellsOf el) tm.length&&fo (P.cellsOf t) (k*tm.length) then aa (MY tm k) else aj
   |none=>aj
  |_=>aj
section
variable {H:Type} {enc:TypeId×Value->H} {P:Program} {w:World} {base:Nat} {spare:Nat->Bool} {held:Bool}
theorem Xw {tm cs:List Value} {m:Nat} {e:TypeId} (hc:P.cellsOf e=tm.length) (ih:∀ (cs:List Value) (x:DataW H×List MemPlace),DA enc P w base spare held m e cs=aa x->rZ tm cs) :
  ∀ (k i0:Nat),(∀ i,i<i0+k->∃ y,DA enc P w base spare held m e ((cs.drop (i*P.cellsOf e)).take (P.cellsOf e))=aa y)->rZ (MY tm k) ((cs.drop (i0*tm.length)).take (k*tm.length))
 |0,i0,_=>by simp[MY,rZ]
 |k+1,i0,hy=>by
  obtain⟨y,h1⟩:=hy i0 (by omega)
  have a1:=ih _ _ h1;rw[hc] at a1;have a2:=Xw hc ih k (i0+1) fun i hi=>hy i (by omega)
  have:=Bw a1 a2;rw[show(k+1)*tm.length=tm.length+k*tm.length by rw[Wb];omega,vZ,se]
  rw[show(i0+1)*tm.length=i0*tm.length+tm.length by rw[Wb]] at this
  exact this
theorem X3 {rec:TypeId->Option (List Value)} {cs:List Value} {n:Nat}
  (ih:∀ (t:TypeId) (tm cs:List Value) (x:DataW H×List MemPlace),rec t=aa tm->DA enc P w base spare held n t cs=aa x->rZ tm cs) :
  ∀ (fs:List Field) (off:Nat) (tm:List Value),J4 P rec off fs=aa tm->(∀ f∈fs,∃ y,DA enc P w base spare held n f.type ((cs.drop f.offset).take (P.cellsOf f.type))=aa y)->rZ tm ((cs.drop off).take tm.length)
 |[],off,tm,h,_=>by simp only[J4,cu] at h;subst h;simp[rZ]
 |f::fs,off,tm,h,hy=>by
  simp only[J4] at h;split at h
  ·rename_i R3 h1;split at h
   ·rename_i hc;simp only[aL] at hc;have e1:=cR hc.1;have e2:=cR hc.2;split at h
    ·rename_i r hr;injection h with h
     subst h;obtain⟨y,Ar⟩:=hy f bO;have a1:=ih _ _ _ _ h1 Ar;rw[e1,e2] at a1;have a2:=X3 ih fs (off+R3.length) r hr fun g hg=>hy g (eo _ hg)
     have:=Bw a1 a2;rw[bJ,vZ,se];exact this
    ·cases h
   ·cases h
  ·cases h
theorem Qk:∀ (m:Nat) (t:TypeId) (tm cs:List Value) (fuel:Nat) (x:DataW H×List MemPlace),Gh P m t=aa tm->DA enc P w base spare held fuel t cs=aa x->rZ tm cs
 |0,_,_,_,_,_,h,_=>by simp[Gh] at h
 |m+1,t,tm,cs,fuel,x,h,ht=>by
  simp only[Gh] at h;split at h
  ·rename_i k hk;injection h with h
   subst h;obtain⟨n,rfl,_,hw⟩:=DataW.trod_int hk ht;exact⟨⟨rfl,hw⟩,trivial⟩
  ·rename_i hk;injection h with h
   subst h;obtain⟨b,rfl,_⟩:=DataW.trod_bool hk ht;exact⟨trivial,trivial⟩
  ·rename_i hk;injection h with h
   subst h;obtain⟨s,rfl,_,hs⟩:=DataW.trod_string hk ht;exact⟨hs,trivial⟩
  ·rename_i fs hk;split at h
   ·rename_i R3 h1;split at h
    ·rename_i hc;injection h with h
     subst h;have hc:=cR hc;obtain⟨xs,n,rfl,_,hl,hxs,hf⟩:=DataW.trod_struct hk ht;have:=X3 (fun t tm cs x h1 h2=>Qk m t tm cs n x h1 h2) fs.toList 0 R3 h1 (cs:=cs) fun f hf'=>by
      obtain⟨i,hi⟩:=List.mem_iff_getElem?.1 hf';have lR:fs[i]?=aa f:=by simpa using hi
      have cl:i<xs.length:=by rw[hxs];exact(vY.1 lR).1
      exact⟨xs[i],by rw[hf i f lR,bj cl]⟩
     rw[sf,jl (by omega)] at this
     exact this
    ·cases h
   ·cases h
  ·rename_i k el hk;split at h
   ·rename_i R3 h1;split at h
    ·rename_i hc;injection h with h
     subst h;simp only[aL] at hc;have PG:=cR hc.1;have pS:=cR hc.2;obtain⟨xs,n,rfl,_,hl,hxs,hf⟩:=DataW.trod_array hk ht;have:=Xw (cs:=cs) PG (fun cs x h2=>Qk m el R3 cs n x h1 h2) k 0 fun i hi=>by
      have cl:i<xs.length:=by omega
      exact⟨xs[i],by rw[hf i (by omega),bj cl]⟩
     rw[A8,sf,jl (by omega)] at this
     exact this
    ·cases h
   ·cases h
  ·cases h
end
structure On (W:World) (p:Place) (r:Row):Prop where
 ne:0<r.tm.length
 n:r.n≤p.cap
 cap:p.cap≤maxLen
 nil:p.nil=aq->p.cap=0
 ex:∃ arr,(p.nil=ao->0<r.n->p.lB<W.heap.size/\∃ t fz,W.heap[p.lB]?=aa (.cells arr t fz))/\oe r arr p.off
def To:Value->aT->Nat->Prop
 |.int k _,c,n=>c=yO c.i/\c.i.length=n/\∀ x∈c.i,(Lit.int k x).wf=aq
 |.bool _,c,n=>c=AE c.b/\c.b.length=n
 |.string _,c,n=>c=Ep c.s/\c.s.length=n/\∀ x∈c.s,x.size≤maxLen
 |_,_,_=>False
def Hi:List Value->List aT->Nat->Prop
 |[],[],_=>True
 |t::tm,c::cs,n=>To t c n/\Hi tm cs n
 |_,_,_=>False
def cellAt (W:World) (a:Addr):Value:=(W.cell? a).getD undef
def tY (W:World) (b o s n f:Nat) (t:Value):aT :=
 match t with
 |.int _ _=>yO ((oi n).map fun e=>match cellAt W ⟨b,o+(e*s+f),aj⟩ with
  |.int _ x=>x
  |_=>0)
 |.bool _=>AE ((oi n).map fun e=>match cellAt W ⟨b,o+(e*s+f),aj⟩ with
  |.bool x=>x
  |_=>ao)
 |.string _=>Ep ((oi n).map fun e=>match cellAt W ⟨b,o+(e*s+f),aj⟩ with
  |.string x=>x
  |_=>⟨#[]⟩)
 |_=>Lu
def wT (W:World) (b o s n:Nat):Nat->List Value->List aT
 |_,[]=>[]
 |f,t::tm=>tY W b o s n f t::wT W b o s n (f+1) tm
theorem vf (W:World) (b o s n:Nat):∀ (tm:List Value) (f0 f:Nat),(wT W b o s n f0 tm).length=tm.length/\(wT W b o s n f0 tm)[f]?=(tm[f]?).map (tY W b o s n (f0+f))
 |[],f0,f=>⟨rfl,by simp[wT]⟩
 |t::tm,f0,f=>by
  obtain⟨h1,h2⟩:=vf W b o s n tm (f0+1) (f-1);refine⟨by simp[wT,h1],?_⟩
  cases f with
  |zero=>simp[wT]
  |succ f =>
   simp only[wT,bH];simp only[mb] at h2;rw[h2,show f0+1+f=f0+(f+1) by omega]
theorem Kk:∀ {tm:List Value} {cs:List aT} {n:Nat},cs.length=tm.length->(∀ (f:Nat) (t:Value) (c:aT),tm[f]?=aa t->cs[f]?=aa c->To t c n)->Hi tm cs n
 |[],[],_,_,_=>trivial
 |[],_::_,_,h,_=>by simp at h
 |_::_,[],_,h,_=>by simp at h
 |t::tm,c::cs,n,h,hf=>⟨hf 0 t c rfl rfl,Kk (by simpa using h) fun f t c h1 h2=>hf (f+1) t c h1 h2⟩
theorem BB {P:Program}:∀ (m:Nat) (t:TypeId) (tm:List Value),Gh P m t=aa tm->∀ v∈tm,(∃ k,v=.int k 0)∨v=.bool ao∨v=.string ⟨#[]⟩
 |0,_,_,h=>by simp[Gh] at h
 |m+1,t,tm,h=>by
  simp only[Gh] at h;split at h
  ·injection h with h;subst h;intro v hv;simp at hv;exact dN ⟨_,hv⟩
  ·injection h with h;subst h;intro v hv;simp at hv;exact eY (dN hv)
  ·injection h with h;subst h;intro v hv;simp at hv;exact eY (eY hv)
  ·rename_i fs hk;have key:∀ (fs:List Field) (off:Nat) (tm:List Value),J4 P (Gh P m) off fs=aa tm->∀ v∈tm,(∃ k,v=.int k 0)∨v=.bool ao∨v=.string ⟨#[]⟩:=by
    intro fs
    induction fs with
    |nil=>intro off tm h v hv;simp only[J4,cu] at h;subst h;cases hv
    |cons f fs ih =>
     intro off tm h v hv;simp only[J4] at h;split at h
     ·rename_i R3 h1;split at h
      ·split at h
       ·rename_i r hr;injection h with h
        subst h;rcases b9.1 hv with hv|hv
        ·exact BB m _ _ h1 v hv
        ·exact ih _ _ hr v hv
       ·cases h
      ·cases h
     ·cases h
   split at h
   ·rename_i R3 h1;split at h
    ·injection h with h;subst h;exact key _ _ _ h1
    ·cases h
   ·cases h
  ·split at h
   ·rename_i R3 h1;split at h
    ·injection h with h;subst h;exact fun v hv=>BB m _ _ h1 v (Uv hv)
    ·cases h
   ·cases h
  ·cases h
theorem slice_arg {H:Type} {enc:TypeId×Value->H} {P:Program} {W:World} {base:Nat} {t el:TypeId} {v:Value} {d:DataW H} {pl:List MemPlace} {tm:List Value} {m:Nat}
  (ht:P.underlying t=aa (.slice el)) (Bk:Gh P m el=aa tm) (kt:0<tm.length) (RR:P.cellsOf el=tm.length) (LS:0<tm.length/\tm.length<1000)
  (hv:Wc P W .any base t v) (h:DataW.Trod enc P W 0 (fun _=>aq) aq t v d pl) :
  ∃ (p:Place) (r:Row),r.tm=tm/\Hi tm r.ez r.n/\On W p r/\∀ (ρ:Env) (i:Nat),ρ i=p->v=bW ρ (.slice (aa ⟨i,0,aa (1000*tm.length)⟩) r.n 0):=by
 obtain⟨a0,len,cap,rfl⟩:=okWide_slice ht hv;obtain⟨fuel,hf⟩:=h;rcases open_slice ht hf with⟨Ht,_⟩|⟨a,l,c,mm,n,D,Pl,Ht,_,hl,hm,hmm,_,hi⟩
 ·simp[np] at Ht;obtain⟨rfl,rfl,rfl⟩:=Ht;refine⟨⟨0,0,0,aq⟩,⟨tm,0,wT W 0 0 tm.length 0 0 tm⟩,rfl,?_,⟨kt,bc _,dx _,fun _=>rfl,⟨#[],(fun h=>by cases h),?_⟩⟩,fun ρ i qF=>?_⟩
  ·refine Kk (vf W 0 0 tm.length 0 tm 0 0).1 fun f t c h1 h2=>?_
   have h3:=(vf W 0 0 tm.length 0 tm 0 f).2;rw[h1,h2] at h3;simp only[j_,cu] at h3;subst h3;rcases BB _ _ _ Bk t (lu h1) with⟨k,rfl⟩|rfl|rfl<;>simp[tY,To,yO,AE,Ep]
  ·refine⟨(vf W 0 0 tm.length 0 tm 0 0).1,fun f t c h1 h2=>?_,fun f t c e h1 h2 he=>by simp at he⟩
   have h3:=(vf W 0 0 tm.length 0 tm 0 f).2;simp only at h1 h2;rw[h1,h2] at h3;simp only[j_,cu] at h3;subst h3;rcases BB _ _ _ Bk t (lu h1) with⟨k,rfl⟩|rfl|rfl<;>simp[tY,jJ,yO,AE,Ep]
  ·simp[bW,lD,qF]
 ·simp[np] at Ht;obtain⟨rfl,rfl,rfl⟩:=Ht;have hmc:mm=cap:=by simpa using hmm
  have hel:∀ e,e<cap->∃ cs,rZ tm cs/\∀ f,f<tm.length->W.cell? ((a.add (e*tm.length)).add f)=cs[f]?:=by
   intro e he;obtain⟨Cx,hc,ht'⟩:=hi e (by omega)
   rw[RR] at hc;obtain⟨_,hlen,hat⟩:=World.cells?_some hc;exact⟨Cx,Qk _ _ _ _ _ _ Bk ht',hat⟩
  have aeI:a.spot=aj:=by
   simp only[Wc,ht,Cell.okWide,Cell.ok] at hv;exact hv.2.2.2.1
  obtain⟨b,o,spot⟩:=a;simp only at aeI;subst aeI;have hat:∀ e f,e<cap->f<tm.length->∃ t v,tm[f]?=aa t/\W.cell? ⟨b,o+(e*tm.length+f),aj⟩=aa v/\AJ t v:=by
   intro e f he hf;obtain⟨cs,uC,hc⟩:=hel e he;obtain⟨v,hv,hk⟩:=Mi uC (bj hf);refine⟨tm[f],v,bj hf,?_,hk⟩;have:=hc f hf;rw[hv] at this;rw[pQ,pQ] at this;rw[← jh];exact this
  have hwf:∀ (f:Nat) (t:Value),tm[f]?=aa t->To t (tY W b o tm.length len f t) len/\∀ e,e<len->W.cell? ⟨b,o+(e*tm.length+f),aj⟩=aa (gD t (tY W b o tm.length len f t) e):=by
   intro f t ht1;have hf:f<tm.length:=(aU.1 ht1).1;have p_:∀ e,e<len->∃ v,W.cell? ⟨b,o+(e*tm.length+f),aj⟩=aa v/\AJ t v:=fun e he=>by
    obtain⟨t',v,h1,h2,h3⟩:=hat e f (by omega) hf
    rw[ht1] at h1;injection h1 with h1
    subst h1;exact⟨v,h2,h3⟩
   rcases BB _ _ _ Bk t (lu ht1) with⟨k,rfl⟩|rfl|rfl
   ·refine⟨⟨rfl,by simp[tY,yO],fun x hx=>?_⟩,fun e he=>?_⟩
    ·simp only[tY,yO,o_,RB] at hx;obtain⟨e,he,rfl⟩:=hx;obtain⟨v,h1,h2⟩:=p_ e he;cases v<;>simp only[AJ] at h2
     obtain⟨rfl,h2⟩:=h2;simp only[cellAt,h1,lG];exact h2
    ·obtain⟨v,h1,h2⟩:=p_ e he;cases v<;>simp only[AJ] at h2
     obtain⟨rfl,h2⟩:=h2;rw[h1];simp[gD,tY,yO,he,cellAt,h1]
   ·refine⟨⟨rfl,by simp[tY,AE]⟩,fun e he=>?_⟩
    obtain⟨v,h1,h2⟩:=p_ e he;cases v<;>simp only[AJ] at h2
    rw[h1];simp[gD,tY,AE,he,cellAt,h1]
   ·refine⟨⟨rfl,by simp[tY,Ep],fun x hx=>?_⟩,fun e he=>?_⟩
    ·simp only[tY,Ep,o_,RB] at hx;obtain⟨e,he,rfl⟩:=hx;obtain⟨v,h1,h2⟩:=p_ e he;cases v<;>simp only[AJ] at h2
     simp only[cellAt,h1,lG];exact h2
    ·obtain⟨v,h1,h2⟩:=p_ e he;cases v<;>simp only[AJ] at h2
     rw[h1];simp[gD,tY,Ep,he,cellAt,h1]
  have acV:∀ (f:Nat) (t:Value) (c:aT),tm[f]?=aa t->(wT W b o tm.length len 0 tm)[f]?=aa c->c=tY W b o tm.length len f t:=fun f t c h1 h2=>by
   have h3:=(vf W b o tm.length len tm 0 f).2;rw[h1,h2] at h3
   simpa using h3
  have hlen:=(vf W b o tm.length len tm 0 0).1;have wi:∀ arr,(0<len->∃ t fz,W.heap[b]?=aa (.cells arr t fz))->oe ⟨tm,len,wT W b o tm.length len 0 tm⟩ arr o:=by
   intro arr Gl;refine⟨hlen,fun f t c h1 h2=>?_,fun f t c e h1 h2 he=>?_⟩
   ·rw[acV f t c h1 h2];have:=(hwf f t h1).1;rcases BB _ _ _ Bk t (lu h1) with⟨k,rfl⟩|rfl|rfl<;>simp[tY,jJ,yO,AE,Ep]
   ·rw[acV f t c h1 h2];obtain⟨t',fz,hb⟩:=Gl (by simp only at he;omega)
    rw[← (hwf f t h1).2 e he,cell_of_row W b _ arr t' fz hb]
  refine⟨⟨b,o,cap,ao⟩,⟨tm,len,wT W b o tm.length len 0 tm⟩,rfl,Kk hlen fun f t c h1 h2=>by rw[acV f t c h1 h2];exact(hwf f t h1).1,⟨kt,hl,hm,(fun h=>by cases h),?_⟩,fun ρ i qF=>?_⟩
  ·by_cases h0:0<len
   ·obtain⟨t,v,_,h2,_⟩:=hat 0 0 (by omega) kt
    unfold World.cell? at h2;simp only[Option.isSome_none,fu,if_false] at h2;split at h2
    ·rename_i arr t' fz hb;exact⟨arr,fun _ _=>⟨by have:=vY.1 hb;exact this.1,_,_,hb⟩,wi arr fun _=>⟨_,_,hb⟩⟩
    ·cases h2
   ·exact⟨#[],fun _ h=>absurd h h0,wi #[] fun h=>absurd h h0⟩
  ·simp[bW,lD,qF,iE,cellOf];omega
def xp {R:Type}:List (Place×Row)->Hp R
 |[]=>[]
 |x::l=>aa (.inr (.inr (.inl x.2)))::xp l
theorem Mm {R:Type}:∀ {l:List (Place×Row)} {i:Nat} {B:SB R},(xp l:Hp R)[i]?=aa (aa B)->∃ x,l[i]?=aa x/\B=.inr (.inr (.inl x.2))
 |[],i,B,h=>by simp[xp] at h
 |x::l,i,B,h=>by
  cases i with
  |zero=>simp only[xp,cf,cu] at h ⊢;exact⟨x,rfl,h.symm⟩
  |succ i=>simp only[xp,bH] at h ⊢;exact Mm h
def viewsE (l:List (Place×Row)):Env:=fun i=>match l[i]? with
 |some x=>x.1
 |none=>⟨0,0,0,aq⟩
theorem aec {R:Type} {D:fK R} {W:World} {l:List (Place×Row)} (h:∀ x∈l,On W x.1 x.2) (n:Nat):HM D ⟨W,fun _=>False,viewsE l,n⟩ (viewsE l) (fun _ _=>False) (xp l) W where
 at_ i B hB:=by
  obtain⟨x,hx,rfl⟩:=Mm hB;obtain⟨h1,h2,h3,h4,arr,h5,h6⟩:=h x (lu hx);have e:viewsE l i=x.1:=by simp[viewsE,hx]
  refine⟨?_,trivial⟩;simp only[hold,e];exact⟨fun k hk=>hk,h1,h2,h3,h4,arr,fun hn h0=>⟨(h5 hn h0).1,fun hf=>hf,(h5 hn h0).2⟩,h6⟩
 lt i k hk:=hk.elim
 fresh i k hk:=hk.elim
 apart i j k hk:=hk.elim
 some_ i k hk:=hk.elim
 kept:=Kept.refl _ _
theorem Kept.below {W W':World} (h:Kept (fun _=>False) W W'):Below W.heap.size W W':=⟨h.os,h.tape,h.output,h.size,fun k hk=>h.block k hk fun hf=>hf⟩
theorem aa2 {R:Type} {D:fK R} {P:Program} {f:FuncId} {fn:Func} {root:Code} {args:List Value} {W:World} (l:List (Place×Row)) (hf:P.funcs[f]?=aa fn) (hb:fn.body=aa root)
  (hW:∀ x∈l,On W x.1 x.2) (hi:ix (xp l:Hp R).length args=aq)
  (h:At D P root (xp l:Hp R).length (iD P fn.results.toList fun v _=>v=.bool aq) [.inl []] ⟨vn args++ld (fn.ntmps-args.length) aj,[],xp l⟩) :
  Calls P f (args.map (bW (viewsE l))).toArray W fun e W'=>e=.returned (.bool aq)/\Below W.heap.size W W':=by
 refine(MH hf hb h (aec hW 0) hi).mono fun e w' ⟨gv,ks,v,w_,_,h2,h3,h4⟩=>?_
 subst h3;exact⟨by rw[h2];simp,Kept.below h4.kept⟩
end Rx
namespace Rx
open Go.RowKit State
def PF (t:Value) (c:aT) (e n:Nat):aT :=
 match t with
 |.int _ _=>⟨cut c.i e n,[],[]⟩
 |.bool _=>⟨[],cut c.b e n,[]⟩
 |.string _=>⟨[],[],cut c.s e n⟩
 |_=>Lu
def xL:List Value->List aT->Nat->Nat->List aT
 |t::tm,c::cs,e,n=>PF t c e n::xL tm cs e n
 |_,_,_,_=>[]
theorem Cc:∀ {tm:List Value} {cs:List aT} {e n f:Nat},cs.length=tm.length->(xL tm cs e n).length=tm.length/\∀ t c',tm[f]?=aa t->(xL tm cs e n)[f]?=aa c'->∃ c,cs[f]?=aa c/\c'=PF t c e n
 |[],[],e,n,f,_=>⟨rfl,fun t c' h=>by simp at h⟩
 |[],_::_,e,n,f,h=>by simp at h
 |_::_,[],e,n,f,h=>by simp at h
 |t::tm,c::cs,e,n,f,h=>by
  obtain⟨h1,h2⟩:=Cc (tm:=tm) (cs:=cs) (e:=e) (n:=n) (f:=f-1) (by simpa using h)
  refine⟨by simp[xL,h1],fun t' c' ht hc=>?_⟩
  cases f with
  |zero =>
   simp only[xL,cf,cu] at ht hc ⊢;subst ht hc;exact⟨c,rfl,rfl⟩
  |succ f =>
   simp only[xL,bH] at ht hc ⊢;simp only[mb] at h2;exact h2 t' c' ht hc
theorem acY {α:Type} {l:List α} {e n i:Nat} {d:α} (hi:i<n):(cut l e n).getD i d=l.getD (e+i) d:=by
 simp only[cut,ax,oJ,hi,if_true,oL]
theorem agh {α:Type} {l:List α} {e n:Nat} (h:e+n≤l.length):(cut l e n).length=n:=by simp[cut];omega
theorem oe.cut {r:Row} {arr:Array Value} {o e n:Nat} (h:oe r arr o) (hn:e+n≤r.n):oe ⟨r.tm,n,xL r.tm r.ez e n⟩ arr (o+e*r.tm.length):=by
 obtain⟨h1,h2,h3⟩:=h;refine⟨(Cc (f:=0) h1).1,fun f t c ht hc=>?_,fun f t c i ht hc hi=>?_⟩
 ·obtain⟨c0,Df,rfl⟩:=(Cc h1).2 t c ht hc;have:=h2 f t c0 ht Df;cases t<;>simp only[jJ,PF] at this ⊢<;>first|exact agh (by omega)|exact this
 ·obtain⟨c0,Df,rfl⟩:=(Cc h1).2 t c ht hc;have lR:i<n:=hi;have:=h3 f t c0 (e+i) ht Df (by omega)
  show arr[o+e*r.tm.length+(i*r.tm.length+f)]?=_
  rw[show o+e*r.tm.length+(i*r.tm.length+f)=o+((e+i)*r.tm.length+f) by rw[Nat.add_mul];omega,this]
  cases t<;>simp only[gD,PF]<;>simp only[acY lR]
def ZF (C:Ctx) (p:Place) (r:Row):Prop:=0<r.tm.length/\r.n≤p.cap/\p.cap≤maxLen/\(p.nil=aq->p.cap=0) /\
 ∃ arr,(p.nil=ao->0<r.n->p.lB<C.w0.heap.size/\¬ C.U p.lB/\∃ t fz,C.w0.heap[p.lB]?=aa (.cells arr t fz))/\oe r arr p.off
section
variable {R:Type} {D:fK R} {P:Program} {T:eK R} {C:Ctx} {ρ gv:Env} {ft:Nat->Nat->Prop} {w w':World}
def wU (ro:Nat->Bool) (hl:Hp R):Nat->Nat->List Value->Option (List Value×Hp R×Prop)
 |_,_,[]=>aa ([],[],True)
 |j,k,v::l =>
  match ro j with
  |false =>
   match wU ro hl (j+1) k l with
   |some (a,h,p)=>aa (v::a,h,p)
   |none=>aj
  |true =>
   match v with
   |.slice (aa ⟨b,e,aa q⟩) n _ =>
    match fU hl b with
    |some (.inr (.inr (.inl r))) =>
     if fo (q%1000000) (1000*r.tm.length) then
      match wU ro hl (j+1) (k+1) l with
      |some (a,h,p)=>aa (.slice (aa ⟨k,0,aa (1000*r.tm.length)⟩) n 0::a,aa (.inr (.inr (.inl ⟨r.tm,n,xL r.tm r.ez e n⟩)))::h,e+n≤r.n/\p)
      |none=>aj
     else aj
    |_=>aj
   |_=>aj
theorem Gn {ro:Nat->Bool} {hl:Hp R} (hm:HM D C ρ ft hl w):∀ (l:List Value) (j k:Nat) (a:List Value) (h:Hp R) (p:Prop),wU ro hl j k l=aa (a,h,p)->p->hl.length≤k->ix hl.length l=aq->(∀ (b:Nat) (r:Row),fU hl b=aa (.inr (.inr (.inl r)):SB R)->r.tm.length<1000) ->
  ∃ pl:List Place,pl.length=h.length/\ix (k+h.length) a=aq /\
   (∀ nh:Env,(∀ i,i<hl.length->nh i=ρ i)->(∀ i q,pl[i]?=aa q->nh (k+i)=q)->a.map (bW nh)=l.map (bW ρ)) /\
   (∀ (i:Nat) (B:SB R),h[i]?=aa (aa B)->∃ (r:Row) (q:Place),B=.inr (.inr (.inl r))/\pl[i]?=aa q/\ZF C q r)
 |[],j,k,a,h,p,hv,_,_,_,_=>by
  simp only[wU,cu,td] at hv;obtain⟨rfl,rfl,_⟩:=hv;exact⟨[],rfl,rfl,fun _ _ _=>rfl,fun i B hB=>by simp at hB⟩
 |v::l,j,k,a,h,p,hv,hp,hk,j5,hsm=>by
  simp only[ix,aL] at j5;simp only[wU] at hv;split at hv
  ·split at hv
   ·rename_i a1 h1 p1 he;simp only[cu,td] at hv;obtain⟨rfl,rfl,rfl⟩:=hv;obtain⟨pl,q1,q2,q3,q4⟩:=Gn hm l _ _ _ _ _ he hp hk j5.2 hsm;refine⟨pl,q1,?_,fun nh e1 e2=>?_,q4⟩
    ·simp only[ix,aL];exact⟨Bp (by omega) v j5.1,q2⟩
    ·simp only[gC,q3 nh e1 e2];rw[na (n:=hl.length) (fun i hi=>e1 i hi) v j5.1]
   ·cases hv
  ·split at hv
   ·rename_i b e q n c;split at hv
    ·rename_i r hr;split at hv
     ·rename_i hq;have hq:=cR hq;split at hv
      ·rename_i a1 h1 p1 he;simp only[cu,td] at hv;obtain⟨rfl,rfl,rfl⟩:=hv;obtain⟨hp1,hp2⟩:=hp;obtain⟨pl,q1,q2,q3,q4⟩:=Gn hm l _ _ _ _ _ he hp2 (by omega) j5.2 hsm
       have hb:=q8 hr;have Bg:b<hl.length:=(aU.1 hb).1;obtain⟨_,g1,g2,g3,g4,arr,g5,g6⟩:=(hm.at_ b _ hb).1;have aoZ:=hsm b r hr;have ael:=g6.cut hp1;have aoT:E3 (aa q)≤hl.length:=by
        have:=j5.1;simp only[fp,aL,vo] at this;exact this.2
       have main:∃ pp:Place,ZF C pp ⟨r.tm,n,xL r.tm r.ez e n⟩/\∀ nh:Env,nh k=pp->bW nh (.slice (aa ⟨k,0,aa (1000*r.tm.length)⟩) n 0)=bW ρ (.slice (aa ⟨b,e,aa q⟩) n c):=by
        have hz:1000*r.tm.length / 1000000=0:=by omega
        by_cases hn:(ρ b).nil=aq
        ·have hc:=g4 hn;refine⟨⟨0,(ρ b).off+e*r.tm.length,0,aq⟩,⟨g1,(by show n≤0;omega),dx _,(fun _=>rfl),arr,(fun h=>by cases h),ael⟩,fun nh e2=>?_⟩
         simp only[bW,zV,e2,if_true];rw[if_pos hn]
        ·have xU:(ρ b).nil=ao:=by simpa using hn
         by_cases hc:q / 1000000≠0/\(ρ b).cap≤e
         ·have uA:n=0:=by omega
          subst uA;refine⟨⟨(ρ (q / 1000000-1)).lB,(ρ (q / 1000000-1)).off,0,ao⟩,⟨g1,bc _,dx _,(fun h=>by cases h),arr,(fun _ h=>absurd h (Nat.lt_irrefl 0)),?_⟩,fun nh e2=>?_⟩
          ·obtain⟨z1,z2,z3⟩:=ael;exact⟨z1,z2,fun f t c i _ _ hi=>absurd hi (Nat.not_lt_zero i)⟩
          ·simp only[bW,zV,e2,iE,cellOf,hz];rw[if_neg (by simp),if_neg hn,if_pos hc]
           simp
         ·refine⟨⟨(ρ b).lB,(ρ b).off+e*r.tm.length,(ρ b).cap-e,ao⟩,⟨g1,(by show n≤(ρ b).cap-e;omega),(by show(ρ b).cap-e≤maxLen;omega),(fun h=>by cases h),arr,(fun _ h0=>g5 xU (by have h0':0<n:=h0;omega)),ael⟩,fun nh e2=>?_⟩
          simp only[bW,zV,e2,iE,cellOf,hz,hq];rw[if_neg (by simp),if_neg hn,if_neg hc,if_neg (by simp)]
          have e3:1000*r.tm.length / 1000=r.tm.length:=by omega
          have e4:q%1000=0:=by omega
          have e5:1000*r.tm.length%1000=0:=by omega
          simp[e3,e4,e5]
       obtain⟨pp,v1,v2⟩:=main;refine⟨pp::pl,by simp[q1],?_,fun nh e1 e2=>?_,fun i B hB=>?_⟩
       ·simp only[ix,fp,E3,aL,fa,vo,cI];refine⟨⟨by omega,by omega⟩,?_⟩
        rw[show k+(h1.length+1)=k+1+h1.length by omega]
        exact q2
       ·simp only[gC];rw[v2 nh (e2 0 pp rfl),q3 nh e1 fun i q hi=>by rw[show k+1+i=k+(i+1) by omega];exact e2 (i+1) q (by simpa using hi)]
       ·cases i with
        |zero =>
         simp only[cf,cu] at hB ⊢;exact⟨_,pp,hB.symm,rfl,v1⟩
        |succ i =>
         simp only[bH] at hB ⊢;exact q4 i B hB
      ·cases hv
     ·cases hv
    ·cases hv
   ·cases hv
def rY:Nat->Nat->Hp R->Hp R
 |_,_,[]=>[]
 |0,0,l=>l
 |0,k+1,_::l=>aj::rY 0 k l
 |n+1,k,x::l=>x::rY n k l
theorem yt:∀ {n k:Nat} {l:Hp R},(rY n k l).length=l.length/\∀ (i:Nat) (B:SB R),(rY n k l)[i]?=aa (aa B)->l[i]?=aa (aa B)
 |n,k,[]=>by cases n<;>cases k<;>exact⟨rfl,fun i B h=>by simp[rY] at h⟩
 |0,0,x::l=>⟨rfl,fun i B h=>h⟩
 |0,k+1,x::l=>by
  obtain⟨h1,h2⟩:=yt (n:=0) (k:=k) (l:=l);refine⟨by simp[rY,h1],fun i B h=>?_⟩
  cases i with
  |zero=>simp[rY] at h
  |succ i=>simp only[rY,bH] at h ⊢;exact h2 i B h
 |n+1,k,x::l=>by
  obtain⟨h1,h2⟩:=yt (n:=n) (k:=k) (l:=l);refine⟨by simp[rY,h1],fun i B h=>?_⟩
  cases i with
  |zero=>simpa [rY] using h
  |succ i=>simp only[rY,bH] at h ⊢;exact h2 i B h
def zL (hl:Hp R):Bool :=
 match hl with
 |[]=>aq
 |some (.inr (.inr (.inl r)))::l=>gU r.tm.length 1000&&zL l
 |_::l=>zL l
theorem I':∀ {l:Hp R} {b:Nat} {r:Row},zL l=aq->fU l b=aa (.inr (.inr (.inl r)))->r.tm.length<1000
 |[],b,r,_,h=>by simp[fU] at h
 |x::l,b,r,hs,h=>by
  have hl:zL l=aq/\(x=aa (.inr (.inr (.inl r)))->r.tm.length<1000):=by
   rcases x with _|⟨t,cs⟩|⟨t,r0⟩|r0|x
   ·exact⟨hs,fun e=>by cases e⟩
   ·exact⟨hs,fun e=>by cases e⟩
   ·exact⟨hs,fun e=>by cases e⟩
   ·simp only[zL,aL,fa] at hs;exact⟨hs.2,fun e=>by injection e with e;injection e with e;injection e with e;injection e with e;subst e;exact hs.1⟩
   ·exact⟨hs,fun e=>by cases e⟩
  cases b with
  |zero=>simp[fU] at h;exact hl.2 h
  |succ b=>exact I' hl.1 (by simpa [fU] using h)
def FQ (ro:Nat->Bool) (spec:Prim R):Prim R:=fun args hl =>
 match wU ro hl 0 hl.length args with
 |some (a,hv,p) =>
  if zL hl then
   match spec a (hl++hv) with
   |some x=>match x.wr with
    |[]=>if fp hl.length x.v then aa ⟨p/\x.vc,x.v,x.lit,hl,[],[]⟩ else aj
    |_=>if sZ x.hp.length (rY hl.length hv.length x.hp) then aa ⟨p/\x.vc,x.v,x.lit,rY hl.length hv.length x.hp,[],[(0,0)]⟩ else aj
   |none=>aj
  else aj
 |none=>aj
theorem HM.part {h r:Hp R} (hm:HM D C ρ ft h w) (hl:∀ (i:Nat) (B:SB R),r[i]?=aa (aa B)->h[i]?=aa (aa B)) (hi:sZ r.length r=aq):HM D C ρ (fun i k=>(∃ B,r[i]?=aa (aa B))/\ft i k) r w where
 at_ i B hB:=by
  obtain⟨h1,h2⟩:=hm.at_ i B (hl i B hB);refine⟨?_,BN hi hB⟩;have:(fun k=>(∃ B,r[i]?=aa (aa B))/\ft i k)=ft i:=funext fun k=>propext ⟨fun h=>h.2,fun h=>⟨⟨B,hB⟩,h⟩⟩
  rw[this];exact h1
 lt i k hk:=hm.lt i k hk.2
 fresh i k hk:=hm.fresh i k hk.2
 apart i j k hi hj:=hm.apart i j k hi.2 hj.2
 some_ i k hk:=hk.1
 kept:=hm.kept
theorem HM.akE {hl hv:Hp R} (hm:HM D C ρ ft hl w) (nh:Env) (pl:List Place) (h1:∀ i,i<hl.length->nh i=ρ i) (h2:∀ i q,pl[i]?=aa q->nh (hl.length+i)=q)
  (hv_:∀ (i:Nat) (B:SB R),hv[i]?=aa (aa B)->∃ (r:Row) (q:Place),B=.inr (.inr (.inl r))/\pl[i]?=aa q/\ZF C q r):HM D C nh ft (hl++hv) w where
 at_ i B hB:=by
  rcases cx i hl.length with cl|j6
  ·rw[db cl] at hB;obtain⟨g1,g2⟩:=hm.at_ i B hB;exact⟨Ib g1 h1 cl g2,Cf (by simp) g2⟩
  ·rw[dU j6] at hB;obtain⟨r,q,rfl,hq,hr⟩:=hv_ _ _ hB;have e:=h2 _ _ hq;rw[show hl.length+(i-hl.length)=i by omega] at e
   refine⟨?_,trivial⟩;simp only[hold,e];refine⟨fun k hk=>?_,hr⟩
   obtain⟨B',jz⟩:=hm.some_ i k hk;have:=(aU.1 jz).1;omega
 lt:=hm.lt
 fresh:=hm.fresh
 apart:=hm.apart
 some_ i k hk:=by
  obtain⟨B,hB⟩:=hm.some_ i k hk;have:=(aU.1 hB).1;exact⟨B,by rw[db this];exact hB⟩
 kept:=hm.kept
theorem Xz {n:Nat}:∀ {r:Hp R},(∀ (i:Nat) (B:SB R),r[i]?=aa (aa B)->inside n B)->sZ n r=aq
 |[],_=>rfl
 |x::r,h=>by
  have hr:sZ n r=aq:=Xz fun i B hB=>h (i+1) B (by simpa using hB)
  rcases x with _|⟨t,cs⟩|⟨t,ro⟩|ro|x
  ·exact hr
  ·simp only[sZ,aL];exact⟨h 0 _ rfl,hr⟩
  ·exact hr
  ·exact hr
  ·exact hr
def aiG (ro:Nat->Bool) (on:List Value->Hp R->Prop) (args:List Value) (hl:Hp R):Prop:=∀ a hv p,wU ro hl 0 hl.length args=aa (a,hv,p)->on a (hl++hv)
theorem acS {f:FuncId} {on:List Value->Hp R->Prop} {spec:Prim R} (ro:Nat->Bool) (ok:rB D P f on spec):rB D P f (aiG ro on) (FQ ro spec) where
 known:=ok.known
 run args hl x mK hx C ρ ft w hm hv hi:=by
  unfold FQ at hx;split at hx
  ·rename_i a Ed p he;split at hx
   ·rename_i hs;split at hx
    ·rename_i y hy;have main:p/\y.vc->Calls P f (args.map (bW ρ)).toArray w fun e w'=>∃ gv ks,(∀ i,i<(hl++Ed).length->i<hl.length->gv i=ρ i)/\e=.returned (bW gv y.v)/\HM D C gv ks y.hp w':=by
      intro⟨hp,hyv⟩;obtain⟨pl,q1,q2,q3,q4⟩:=Gn hm args 0 hl.length a Ed p he hp (bc _) hi fun b r hb=>I' hs hb
      let nh:Env:=fun i=>if i<hl.length then ρ i else(pl[i-hl.length]?).getD ⟨0,0,0,aq⟩
      have e1:∀ i,i<hl.length->nh i=ρ i:=fun i hi=>by simp only[nh,hi,if_true]
      have e2:∀ i q,pl[i]?=aa q->nh (hl.length+i)=q:=fun i q hq=>by
       have:¬ hl.length+i<hl.length:=by omega
       simp only[nh,this,if_false,Fz,hq,lG]
      have J8:=hm.akE nh pl e1 e2 q4;have:=ok.run a (hl++Ed) y (mK a Ed p he) hy C nh ft w J8 hyv (by rw[bJ];exact q2)
      rw[q3 nh e1 e2] at this;refine this.mono fun e w' ⟨gv,ks,r1,r2,r3⟩=>⟨gv,ks,fun i hi lR=>(r1 i hi).trans (e1 i lR),r2,r3⟩
     split at hx
     ·rename_i hw;split at hx
      ·rename_i j5;cases hx;have yp:=ok.still _ _ _ hy hw;refine(main hv).mono fun e w' ⟨gv,ks,r1,r2,r3⟩=>?_
       rw[yp] at r3;have m_:∀ (i:Nat) (B:SB R),hl[i]?=aa (aa B)->(hl++Ed)[i]?=aa (aa B):=fun i B hB=>by
        rw[db (aU.1 hB).1];exact hB
       refine⟨gv,_,fun i hi=>r1 i (by simp;omega) hi,r2,r3.part m_ (Xz fun i B hB=>(hm.at_ i B hB).2)⟩
      ·cases hx
     ·split at hx
      ·rename_i j5;cases hx;refine(main hv).mono fun e w' ⟨gv,ks,r1,r2,r3⟩=>?_
       refine⟨gv,_,fun i hi=>r1 i (by simp;omega) hi,r2,r3.part (fun i B hB=>yt.2 i B hB) (by rw[yt.1];exact j5)⟩
      ·cases hx
    ·cases hx
   ·cases hx
  ·cases hx
 len args hl x hx:=by
  unfold FQ at hx;split at hx
  ·split at hx
   ·split at hx
    ·rename_i a Ed p he hs y hy;have:=ok.len _ _ _ hy;split at hx
     ·split at hx
      ·injection hx with hx;subst hx;exact bc _
      ·cases hx
     ·split at hx
      ·injection hx with hx
       subst hx;simp only[yt.1];simp at this;omega
      ·cases hx
    ·cases hx
   ·cases hx
  ·cases hx
 lit args hl x hx b hb:=by
  unfold FQ at hx;split at hx
  ·split at hx
   ·split at hx
    ·rename_i a Ed p he hs y hy;split at hx
     ·split at hx
      ·injection hx with hx;subst hx;exact ok.lit _ _ _ hy b hb
      ·cases hx
     ·split at hx
      ·injection hx with hx;subst hx;exact ok.lit _ _ _ hy b hb
      ·cases hx
    ·cases hx
   ·cases hx
  ·cases hx
 still args hl x hx hw:=by
  unfold FQ at hx;split at hx
  ·split at hx
   ·split at hx
    ·split at hx
     ·split at hx
      ·injection hx with hx;subst hx;rfl
      ·cases hx
     ·split at hx
      ·injection hx with hx;subst hx;cases hw
      ·cases hx
    ·cases hx
   ·cases hx
  ·cases hx
def afp (ro:Nat->Bool) (when:List Value->Hp R->Option Bool) (args:List Value) (hl:Hp R):Option Bool :=
 match wU ro hl 0 hl.length args with
 |some (a,hv,_)=>when a (hl++hv)
 |none=>aj
def Tl (ro:Nat->Bool) (c:je R):je R:=⟨afp ro c.when,FQ ro c.yes,FQ ro c.no⟩
theorem ada {f:FuncId} {c:je R} (ro:Nat->Bool) (ok:ck D P f c):ck D P f (Tl ro c):=by
 intro b;have:=acS ro (ok b);have e:(Tl ro c).go b=FQ ro (c.go b):=by cases b<;>rfl
 rw[e];refine⟨this.known,fun args h x mK=>this.run args h x fun a hv p he=>?_,this.len,this.lit,this.still⟩
 unfold rW Tl afp at mK;simp only[he] at mK;exact mK
def wx (ro:Nat->Bool) (d:Nat) (c:je R):je R:=bM (fun _=>aq) d (Tl ro (bM (fun _=>ao) d c))
theorem p8 {f:FuncId} {c:je R} (ro:Nat->Bool) (d:Nat) (ok:ck D P f c):GA D P f (wx ro d c):=aX _ _ (ada _ (JB _ _ ok))
end
end Rx
namespace Rx
def sT:fK Empty:=⟨fun _ _ _ _=>False,fun _ _ _ _ _ h _=>h,fun _ _ _ _ _ h _=>h.elim⟩
def dM (f:Func):Code:=f.body.getD .skip
theorem bN {p q:Prop} (h:q) (e:p=q):p:=by rw[e];exact h
theorem mixed:Tryz.prog.follows .mixedOrders=aq:=by kernel_rfl
def Hj:Hp Empty->Bool
 |[]=>aq
 |none::l=>Hj l
 |some B::l=>!h9 B&&Hj l
theorem Ce:∀ {l:Hp Empty} {b:Nat} {X:SB Empty},Hj l=aq->l[b]?=aa (aa X)->h9 X=ao
 |[],b,X,_,h=>by simp at h
 |none::l,b,X,hn,h=>by
  cases b with
  |zero=>simp at h
  |succ b =>
   simp only[bH] at h;simp only[Hj] at hn;exact Ce hn h
 |some B::l,b,X,hn,h=>by
  simp only[Hj,aL,mM] at hn;cases b with
  |zero=>simp only[cf,cu] at h;subst h;exact hn.1
  |succ b=>simp only[bH] at h;exact Ce hn.2 h
def zN:Nat->Bool:=fun _=>ao
theorem mg {R:Type} {x:Out R} (h:x.lit=aj):∀ b,x.lit=aa b->x.v=.bool b:=fun b hb=>by rw[h] at hb;cases hb
theorem fw {R:Type} {D:fK R} {P:Program} {f:FuncId} {spec:Prim R} (fn:Func) (H:∀ args hh x,spec args hh=aa x->hh.length≤x.hp.length/\(∀ b,x.lit=aa b->x.v=.bool b)/\(x.wr=[]->x.hp=hh) /\
 (True → x.vc → At D P (dM fn) hh.length (iD P fn.results.toList (Ends hh.length x)) [.inl []] ⟨vn args ++ ld (fn.ntmps - args.length) aj, [], hh⟩)) (hf : P.funcs[f]? = aa fn := by kernel_rfl) (hb : fn.body = aa (dM fn) := by kernel_rfl) (hn : (fn.name == "runtime.NumGoroutine") = ao := by kernel_rfl) : ck D P f (a9 spec) := pY (v8 hf hb hn H)
theorem q4 {R:Type} {a b:Nat} {x:Out R} {C E:Prop} (h:E) (h1:a≤b:=by exact Nat.le_of_ble_eq_true rfl) (h2:x.lit=none:=by rfl) (h3:C:=by intro hw;first|rfl|cases hw):a≤b/\(∀ b,x.lit=some b->x.v=.bool b)/\C/\E:=⟨h1,mg h2,h3,h⟩
theorem sB:(∀ {p:Prop} [Decidable p],(decide p=aq)=p)/\(∀ {p:Prop} {_:Decidable p},decide p=ao↔¬p)/\(∀ n:Nat,0+n=n)/\(∀ {a b:Int},a≥b↔b≤a)/\(∀ {a b:Nat},a≥b↔b≤a)/\(∀ {a b:Int},¬a≤b↔b<a)/\(∀ {a b:Int},¬a<b↔b≤a)/\(∀ n:Nat,(n:Int).toNat=n)/\(∀ {α:Type} [BEq α] [LawfulBEq α] {a b:α},(a==b)=aq↔a=b)/\(∀ {α:Type} [BEq α] [LawfulBEq α] {a b:α},(a==b)=ao↔a≠b)/\(∀ {α:Type} [BEq α] [LawfulBEq α] {a b:α},(a != b)=aq↔a≠b)/\(∀ {α:Type} [BEq α] [LawfulBEq α] {a b:α},(a != b)=ao↔a=b)/\(∀ b:Bool,((!b)=aq)=(b=ao))/\(∀ b:Bool,((!b)=ao)=(b=aq)) :=
 ⟨decide_eq_true_eq,decide_eq_false_iff_not,b5,ge_iff_le,ge_iff_le,Int.not_le,IN,Int.toNat_natCast,beq_iff_eq,beq_eq_false_iff_ne,bne_iff_ne,bne_eq_false_iff_eq,fun b=>by cases b<;>simp,fun b=>by cases b<;>simp⟩
theorem ju {p q:Bool} (h:p=q):aD p=aD q:=congrArg aD h
theorem jt {p:Prop} [Decidable p] (h:p):aD (decide p)=aD aq:=congrArg aD (decide_eq_true h)
theorem jv {a b:Int} (h:b≤a):aD (decide (a<b))=aD ao:=congrArg aD (decide_eq_false (IN.mpr h))
abbrev n4 (l:List (Option Value)):List (Option Value):=aj::aj::aj::aj::l
abbrev nH (l:List (Option Value)):List (Option Value):=n4 (n4 (n4 (n4 l)))
theorem yK {α:Type} {l:List α} {i:Nat} {d:α} (h:i<l.length):l.getD i d∈l:=by
 rw[ax,bj h];exact List.getElem_mem h
theorem oq {α:Type} (l:List α) (i j:Nat) (a d:α):(l.set i a).getD j d=if i=j/\i<l.length then a else l.getD j d:=by
 simp only[ax,List.getElem?_set]
 by_cases h:i=j
 ·subst h
  by_cases h2:i<l.length
  ·simp[h2]
  ·simp[h2,dg (nl h2)]
 ·simp[h]
theorem uf {α:Type} (l:List α) (a d:α) (j:Nat):(l++[a]).getD j d=if j=l.length then a else l.getD j d:=by
 simp only[ax]
 by_cases h:j<l.length
 ·rw[db h,if_neg (by omega)]
 ·rw[dU (by omega)]
  by_cases h2:j=l.length
  ·simp[h2]
  ·rw[if_neg h2,dg (by simp;omega),dg (by omega)]
theorem xC {α:Type} {l:List α} {i:Nat} (d:α) (h:i<l.length):l.take (i+1)=l.take i++[l.getD i d]:=by
 rw[List.take_succ_eq_append_getElem h,ax,bj h];rfl
def vI:Value->Int
 |.int _ x=>x
 |_=>0
def vB:Value->Bool
 |.bool b=>b
 |_=>ao
def gj (l:List Value) (i:Nat):Value:=l.getD i (.bool ao)
end Rx
namespace Gv
open Rx
abbrev W (n:Int):Int:=av.wrap n
theorem uv {n:Int} (h:-9223372036854775808≤n/\n≤9223372036854775807):W n=n:=pA ⟨h.1,h.2⟩
theorem W_W (a b:Int):W (W a+b)=W (a+b):=by
 unfold W;rw[Fk,Fk,Fk];omega
structure Ref where
 i:Int
 g:Int
instance:DecidableEq Ref:=fun a b=>decidable_of_iff (a.i=b.i/\a.g=b.g) ⟨fun h=>by cases a;cases b;cases h.1;cases h.2;rfl,fun h=>by cases h;exact⟨rfl,rfl⟩⟩
def r0:Ref:=⟨0,0⟩
structure PM (N:Type) where
 vs:List N
 dD:List Int
 live:List Bool
 free:List Int
 held:Int
 cap:Int
 cY:Int
section
variable {N:Type}
def has (m:PM N) (r:Ref):Bool:=decide (0≤r.i)&&decide (r.i<m.vs.length)&&m.live.getD r.i.toNat ao&&decide (m.dD.getD r.i.toNat 0=r.g)
def look (z:N) (m:PM N) (r:Ref):N:=if has m r then m.vs.getD r.i.toNat z else z
def seen (m:PM N):PM N:={ m with cY:=W (m.cY+1) }
def aH (m:PM N) (r:Ref):PM N:=if has m r then seen m else m
def pF (m:PM N) (r:Ref) (n:N):PM N:=if has m r then { seen m with vs:=m.vs.set r.i.toNat n } else m
def nextIdx (m:PM N):Int:=if m.free.length=0 then(m.vs.length:Int) else m.free.getD (m.free.length-1) 0
def jD (z:N) (m:PM N):PM N:=if m.free.length=0 then { m with vs:=m.vs++[z],dD:=m.dD++[0],live:=m.live++[ao] } else { m with free:=m.free.take (m.free.length-1) }
def Au (z:N) (m:PM N):Int:=(jD z m).dD.getD (nextIdx m).toNat 0+1
def put (z:N) (m:PM N) (v:N):PM N :=
 if m.held=m.cap then m else
  { jD z m with vs:=(jD z m).vs.set (nextIdx m).toNat v,live:=(jD z m).live.set (nextIdx m).toNat aq,dD:=(jD z m).dD.set (nextIdx m).toNat (Au z m),held:=m.held+1 }
def l_ (z:N) (m:PM N):Ref:=if m.held=m.cap then r0 else⟨nextIdx m,Au z m⟩
def drop (z:N) (m:PM N) (r:Ref):PM N :=
 if has m r then { seen m with vs:=m.vs.set r.i.toNat z,live:=m.live.set r.i.toNat ao,held:=m.held-1,free:=if m.dD.getD r.i.toNat 0<4294967295 then m.free++[r.i] else m.free } else m
structure fX (n:Nat) (m:PM N):Prop where
 dD:m.dD.length=m.vs.length
 live:m.live.length=m.vs.length
 inn:∀ f∈m.free,0≤f/\f<m.vs.length/\m.live.getD f.toNat ao=ao
 lL:m.free.Nodup
 cells:m.vs.length≤n
 pG:m.free.length≤n
 gen:∀ g∈m.dD,0≤g/\g≤n
 pos:∀ i,m.live.getD i ao=aq->1≤m.dD.getD i 0
 Sn:-n≤m.held/\m.held≤n
theorem fX.mono {m:PM N} {n k:Nat} (h:fX n m) (hk:n≤k):fX k m:=by
 obtain⟨h1,h2,h3,xb,h4,h5,h6,Ja,h8⟩:=h;exact⟨h1,h2,h3,xb,by omega,by omega,fun g hg=>by have:=h6 g hg;omega,Ja,by omega⟩
theorem si {m:PM N} {r:Ref} (h:has m r=aq):0≤r.i/\r.i<m.vs.length/\m.live.getD r.i.toNat ao=aq/\m.dD.getD r.i.toNat 0=r.g:=by
 simp only[has,aL,decide_eq_true_eq] at h;obtain⟨⟨⟨w1,w2⟩,w3⟩,w4⟩:=h;exact⟨w1,w2,w3,w4⟩
theorem XP {m:PM N} {r:Ref}:has m r=aq↔0≤r.i/\r.i<m.vs.length/\m.live.getD r.i.toNat ao=aq/\m.dD.getD r.i.toNat 0=r.g:=by
 simp only[has,aL,decide_eq_true_eq,and_assoc]
theorem fX.z0 {m:PM N} {n:Nat} (h:fX n m):has m r0=ao:=by
 cases hh:has m r0 with
 |false=>rfl
 |true =>
  obtain⟨_,_,w3,w4⟩:=si hh;have:=h.pos _ w3;rw[w4] at this;simp[r0] at this
theorem Ae {l:List Int} {i n:Nat} (h:∀ g∈l,0≤g/\g≤(n:Int)):0≤l.getD i 0/\l.getD i 0≤n:=by
 rcases cx i l.length with hl|hl
 ·exact h _ (yK hl)
 ·rw[ax,dg hl];simp
@[simp] theorem ami (m:PM N) (r:Ref):has (seen m) r=has m r:=rfl
@[simp] theorem al7 (z:N) (m:PM N) (r:Ref):look z (seen m) r=look z m r:=rfl
@[simp] theorem am9 (m:PM N) (s r:Ref):has (aH m s) r=has m r:=by unfold aH;split<;>rfl
@[simp] theorem UD (z:N) (m:PM N) (s r:Ref):look z (aH m s) r=look z m r:=by unfold aH;split<;>rfl
structure iJ (S:List Ref) (k:Nat) (z:N) (m m':PM N):Prop where
 dD:m'.dD=m.dD
 live:m'.live=m.live
 free:m'.free=m.free
 held:m'.held=m.held
 cap:m'.cap=m.cap
 len:m'.vs.length=m.vs.length
 look:∀ r,r∉S->look z m' r=look z m r
 qA:∃ j:Nat,j≤k/\(m'.cY=m.cY/\j=0∨m'.cY=W (m.cY+j))
theorem iJ.has {S:List Ref} {k:Nat} {z:N} {m m':PM N} (h:iJ S k z m m') (r:Ref):has m' r=has m r:=by
 unfold Gv.has;rw[h.len,h.live,h.dD]
theorem iJ.refl (S:List Ref) (k:Nat) (z:N) (m:PM N):iJ S k z m m:=⟨rfl,rfl,rfl,rfl,rfl,rfl,fun _ _=>rfl,0,dx _,.inl ⟨rfl,rfl⟩⟩
theorem iJ.trans {S S':List Ref} {k k':Nat} {z:N} {a b c:PM N} (h:iJ S k z a b) (h':iJ S' k' z b c):iJ (S++S') (k+k') z a c:=by
 refine⟨h'.dD.trans h.dD,h'.live.trans h.live,h'.free.trans h.free,h'.held.trans h.held,h'.cap.trans h.cap,h'.len.trans h.len,fun r hr=>?_,?_⟩
 ·rw[b9,not_or] at hr;rw[h'.look r hr.2,h.look r hr.1]
 ·obtain⟨j,hj,e⟩:=h.qA;obtain⟨j',LR,e'⟩:=h'.qA;refine⟨j+j',by omega,?_⟩
  rcases e with⟨e,rfl⟩|e<;>rcases e' with⟨e',rfl⟩|e'
  ·exact .inl ⟨e'.trans e,rfl⟩
  ·right;rw[e',e];congr 1;omega
  ·right;rw[e',e];congr 1
  ·right;rw[e',e,W_W];congr 1;omega
theorem iJ.mono {S S':List Ref} {k k':Nat} {z:N} {a b:PM N} (h:iJ S k z a b) (hS:∀ r,r∈S->r∈S') (hk:k≤k'):iJ S' k' z a b:=by
 obtain⟨j,hj,e⟩:=h.qA;exact⟨h.dD,h.live,h.free,h.held,h.cap,h.len,fun r hr=>h.look r (fun uX=>hr (hS r uX)),j,iY hj hk,e⟩
theorem iJ.to {S S1 S2:List Ref} {k k1 k2:Nat} {z:N} {a b c:PM N} (h:iJ S1 k1 z a b) (h':iJ S2 k2 z b c) (hS:∀ r,r∈S1∨r∈S2->r∈S) (hk:k1+k2≤k):iJ S k z a c :=
 (h.trans h').mono (fun r hr=>hS r (b9.1 hr)) hk
theorem iJ.ok {S:List Ref} {k n:Nat} {z:N} {m m':PM N} (h:iJ S k z m m') (ho:fX n m):fX n m':=by
 obtain⟨h1,h2,h3,xb,h4,h5,h6,Ja,h8⟩:=ho;exact⟨by rw[h.dD,h.len,h1],by rw[h.live,h.len,h2],by rw[h.free,h.len,h.live];exact h3,by rw[h.free];exact xb,by rw[h.len];exact h4,by rw[h.free];exact h5,by rw[h.dD];exact h6,by rw[h.dD,h.live];exact Ja,by rw[h.held];exact h8⟩
theorem gN (z:N) (m:PM N) (r:Ref):iJ [] 1 z m (aH m r):=by
 refine⟨?_,?_,?_,?_,?_,?_,fun s _=>UD z m r s,?_⟩
 all_goals unfold aH;split
 all_goals first|rfl|exact⟨1,bc _,.inr rfl⟩|exact⟨0,dx _,.inl ⟨rfl,rfl⟩⟩
theorem HW {m:PM N} {r s:Ref} (hr:has m r=aq) (hs:has m s=aq) (h:r.i.toNat=s.i.toNat):r=s:=by
 obtain⟨a1,a2,a3,a4⟩:=si hr;obtain⟨b1,b2,b3,b4⟩:=si hs;cases r;cases s;simp only[Ref.mk.injEq] at *
 refine⟨by omega,?_⟩
 rw[← a4,← b4,h]
theorem VX (z:N) (m:PM N) (r:Ref) (n:N):iJ [r] 1 z m (pF m r n):=by
 by_cases h:has m r=aq
 ·have e:pF m r n={ seen m with vs:=m.vs.set r.i.toNat n }:=by unfold pF;rw[if_pos h]
  refine⟨by rw[e];rfl,by rw[e];rfl,by rw[e];rfl,by rw[e];rfl,by rw[e];rfl,by rw[e];simp,fun s hs=>?_,1,bc _,.inr (by rw[e];rfl)⟩
  have kt:s≠r:=by simpa using hs
  have hh:has (pF m r n) s=has m s:=by rw[e];simp only[has,seen,e_];rfl
  unfold look;rw[hh];split
  ·rename_i h2;rw[e];simp only;rw[oq,if_neg];intro⟨h3,_⟩;exact kt (HW h2 h h3.symm)
  ·rfl
 ·have e:pF m r n=m:=by unfold pF;rw[if_neg h]
  rw[e];exact iJ.refl _ _ _ _
theorem abQ (z:N) {m:PM N} {r:Ref} (n:N) (h:has m r=aq):look z (pF m r n) r=n:=by
 have hh:=(VX z m r n).has r;unfold look;rw[hh,if_pos h];unfold pF;rw[if_pos h];simp only;obtain⟨a1,a2,_,_⟩:=si h;rw[oq,if_pos ⟨rfl,by omega⟩]
theorem Zr {m:PM N} {n:Nat} (z:N) (h:fX n m):0≤nextIdx m/\nextIdx m<(jD z m).vs.length/\m.live.getD (nextIdx m).toNat ao=ao/\(jD z m).live.getD (nextIdx m).toNat ao=ao/\(jD z m).live.length=(jD z m).vs.length/\(jD z m).dD.length=(jD z m).vs.length:=by
 unfold nextIdx jD
 by_cases h0:m.free.length=0
 ·rw[if_pos h0,if_pos h0];simp only[bJ,qW];have h1:=h.live;have h2:=h.dD;refine⟨by omega,by omega,?_,?_,by omega,by omega⟩
  ·rw[ax,dg (by omega)];rfl
  ·rw[uf,if_pos (by omega)]
 ·rw[if_neg h0,if_neg h0];obtain⟨a,b,c⟩:=h.inn _ (yK (d:=0) (i:=m.free.length-1) (by omega))
  exact⟨a,b,c,c,h.live,h.dD⟩
theorem abX (z:N) {m:PM N} {n:Nat} (h:fX n m) (r:Ref) (hr:has m r=aq):(jD z m).vs.getD r.i.toNat z=m.vs.getD r.i.toNat z/\(jD z m).live.getD r.i.toNat ao=aq/\(jD z m).dD.getD r.i.toNat 0=r.g/\r.i<(jD z m).vs.length:=by
 obtain⟨a1,a2,a3,a4⟩:=si hr;have h1:=h.live;have h2:=h.dD;unfold jD;split
 ·simp only[uf,bJ,qW];rw[if_neg (by omega),if_neg (by omega),if_neg (by omega)]
  exact⟨rfl,a3,a4,by omega⟩
 ·exact⟨rfl,a3,a4,a2⟩
structure amR (z:N) (m m':PM N) (r:Ref) (v:N):Prop where
 new:has m r=ao
 has:has m' r=aq
 look:look z m' r=v
 old:∀ s,Gv.has m s=aq->Gv.has m' s=aq/\Gv.look z m' s=Gv.look z m s
 held:m'.held=m.held+1
 cap:m'.cap=m.cap
 qA:m'.cY=m.cY
theorem tn {m:PM N} {n:Nat} (z:N) (h:fX n m) (hc:m.held≠m.cap) (v:N):amR z m (put z m v) (l_ z m) v/\fX (n+1) (put z m v):=by
 obtain⟨a,b,c,c',d,e⟩:=Zr z h;have ep:put z m v={ jD z m with vs:=(jD z m).vs.set (nextIdx m).toNat v,live:=(jD z m).live.set (nextIdx m).toNat aq,dD:=(jD z m).dD.set (nextIdx m).toNat (Au z m),held:=m.held+1 }:=by unfold put;rw[if_neg hc]
 have er:l_ z m=⟨nextIdx m,Au z m⟩:=by unfold l_;rw[if_neg hc]
 have uB:has (put z m v) (l_ z m)=aq:=by
  rw[XP,er,ep];simp only[e_,oq];refine⟨a,b,?_,?_⟩
  ·rw[if_pos (by first|exact⟨rfl,by omega⟩|exact⟨trivial,by omega⟩)]
  ·rw[if_pos (by first|exact⟨rfl,by omega⟩|exact⟨trivial,by omega⟩)]
 have hold:∀ s,has m s=aq->has (put z m v) s=aq/\look z (put z m v) s=look z m s:=by
  intro s hs;obtain⟨q1,q2,q3,q4⟩:=abX z h s hs;obtain⟨s1,s2,s3,s4⟩:=si hs;have kt:¬ (nextIdx m).toNat=s.i.toNat:=by intro e2;rw[e2,s3] at c;cases c
  have hh:has (put z m v) s=aq:=by
   rw[XP,ep];simp only[e_,oq];rw[if_neg (fun x=>kt x.1),if_neg (fun x=>kt x.1)]
   exact⟨s1,q4,q2,q3⟩
  refine⟨hh,?_⟩;unfold look;rw[if_pos hh,if_pos hs,ep];simp only[oq];rw[if_neg (fun x=>kt x.1),q1]
 refine⟨⟨?_,uB,?_,hold,?_,?_,?_⟩,?_⟩
 ·cases hh:has m (l_ z m) with
  |false=>rfl
  |true =>
   obtain⟨_,_,s3,_⟩:=si hh;rw[er] at s3;rw[s3] at c;cases c
 ·unfold look;rw[if_pos uB,er,ep];simp only[oq];rw[if_pos (by first|exact⟨rfl,by omega⟩|exact⟨trivial,by omega⟩)]
 ·rw[ep]
 ·rw[ep];simp only[jD];split<;>rfl
 ·rw[ep];simp only[jD];split<;>rfl
 ·obtain⟨h1,h2,h3,xb,h4,h5,h6,Ja,h8⟩:=h;have hgb:=Ae (i:=(nextIdx m).toNat) h6;have hpg:1≤Au z m/\Au z m≤n+1:=by
   unfold Au jD;split
   ·simp only[uf];split
    ·omega
    ·omega
   ·simp only;omega
  rw[ep];refine⟨by simp only[e_];exact e,by simp only[e_];exact d,?_,?_,?_,?_,?_,?_,by simp only;omega⟩
  ·intro f hf;have LW:f∈m.free/\f≠nextIdx m/\¬ m.free.length=0:=by
    simp only at hf;unfold jD at hf;split at hf
    ·rename_i h0;simp only at hf;rw[iQ h0] at hf;cases hf
    ·rename_i h0;simp only at hf;refine⟨List.mem_of_mem_take hf,?_,h0⟩;intro e2;unfold nextIdx at e2;rw[if_neg h0] at e2;subst e2;have ahB:m.free=m.free.take (m.free.length-1)++[m.free.getD (m.free.length-1) 0]:=by
      have:=xC (l:=m.free) (i:=m.free.length-1) 0 (by omega)
      rw[← this,jl (by omega)]
     rw[ahB,ch] at xb;exact xb.2.2 _ hf _ (List.mem_singleton_self _) rfl
   obtain⟨k1,k2,k3⟩:=h3 f LW.1;simp only[e_,oq];have kt:¬ (nextIdx m).toNat=f.toNat:=fun e2=>LW.2.1 (by omega)
   rw[if_neg (fun x=>kt x.1)]
   have e3:(jD z m).live=m.live/\(jD z m).vs=m.vs:=by unfold jD;rw[if_neg LW.2.2];exact⟨rfl,rfl⟩
   rw[e3.1,e3.2];exact⟨k1,k2,k3⟩
  ·simp only;unfold jD;split
   ·exact xb
   ·exact(List.take_sublist _ _).nodup xb
  ·simp only[e_];unfold jD;split
   ·simp only[bJ,qW];omega
   ·simp only;omega
  ·simp only;unfold jD;split
   ·simp only;omega
   ·simp only[eu];omega
  ·intro g hg;simp only at hg;rcases List.mem_or_eq_of_mem_set hg with hg|hg
   ·unfold jD at hg;split at hg
    ·simp only at hg;rcases b9.1 hg with hg|hg
     ·have:=h6 g hg;omega
     ·simp at hg;omega
    ·have:=h6 g hg;omega
   ·omega
  ·intro i hi;simp only[oq] at hi ⊢
   by_cases hx:(nextIdx m).toNat=i
   ·rw[if_pos ⟨hx,by omega⟩];omega
   ·rw[if_neg (fun x=>hx x.1)] at hi ⊢
    unfold jD at hi ⊢;split at hi
    ·rename_i h0;rw[if_pos h0];simp only[uf] at hi ⊢;split at hi
     ·cases hi
     ·rename_i h00;have:=Ja i hi;rw[if_neg (by omega)]
      exact this
    ·rename_i h0;rw[if_neg h0];exact Ja i hi
theorem tc {m:PM N} {n:Nat} (z:N) (h:fX n m) {r:Ref} (hr:has m r=aq):fX (n+1) (drop z m r)/\(∀ s,s≠r->has (drop z m r) s=has m s/\look z (drop z m r) s=look z m s)/\has (drop z m r) r=ao/\(drop z m r).held=m.held-1/\(drop z m r).cap=m.cap/\(drop z m r).cY=W (m.cY+1):=by
 obtain⟨r1,r2,r3,r4⟩:=si hr;obtain⟨h1,h2,h3,xb,h4,h5,h6,Ja,h8⟩:=h;have e:drop z m r={ seen m with vs:=m.vs.set r.i.toNat z,live:=m.live.set r.i.toNat ao,held:=m.held-1,free:=if m.dD.getD r.i.toNat 0<4294967295 then m.free++[r.i] else m.free }:=by unfold drop;rw[if_pos hr]
 have hrn:r.i∉m.free:=fun hf=>by
  obtain⟨_,_,k⟩:=h3 _ hf;rw[r3] at k;cases k
 refine⟨⟨?_,?_,?_,?_,?_,?_,?_,?_,?_⟩,?_,?_,by rw[e],by rw[e];rfl,by rw[e];rfl⟩
 ·rw[e];simp only[e_];exact h1
 ·rw[e];simp only[e_];exact h2
 ·rw[e];simp only[e_,oq];intro f hf;have hh:f=r.i∨f∈m.free:=by
   split at hf
   ·rcases b9.1 hf with hf|hf
    ·exact .inr hf
    ·exact .inl (by simpa using hf)
   ·exact .inr hf
  rcases hh with rfl|hf
  ·exact⟨r1,r2,by rw[if_pos (by first|exact⟨rfl,by omega⟩|exact⟨trivial,by omega⟩)]⟩
  ·obtain⟨k1,k2,k3⟩:=h3 f hf;refine⟨k1,k2,?_⟩;split
   ·rfl
   ·exact k3
 ·rw[e];simp only;split
  ·rw[ch];refine⟨xb,List.nodup_cons.2 ⟨by simp,List.nodup_nil⟩,fun a ha b hb=>?_⟩
   have:b=r.i:=by simpa using hb
   subst this;exact fun e2=>hrn (e2▸ha)
  ·exact xb
 ·rw[e];simp only[e_];omega
 ·rw[e];simp only;split
  ·simp only[bJ,qW];omega
  ·omega
 ·rw[e];simp only[seen];intro g hg;have:=h6 g hg;omega
 ·rw[e];simp only[seen,oq];intro i hi;split at hi
  ·cases hi
  ·exact Ja i hi
 ·rw[e];simp only;omega
 ·intro s hs;have hh:has (drop z m r) s=has m s:=by
   rw[e];unfold has;simp only[e_,seen,oq]
   by_cases hx:r.i.toNat=s.i.toNat/\r.i.toNat<m.live.length
   ·rw[if_pos hx]
    by_cases rS:has m s=aq
    ·exact absurd (HW rS hr hx.1.symm) hs
    ·have hs3:has m s=ao:=by simpa using rS
     unfold has at hs3;rw[hs3];simp
   ·rw[if_neg hx];rfl
  refine⟨hh,?_⟩;unfold look;rw[hh];split
  ·rename_i h2;rw[e];simp only[oq];rw[if_neg];intro⟨h3,_⟩;exact hs (HW h2 hr h3.symm)
  ·rfl
 ·cases hh:has (drop z m r) r with
  |false=>rfl
  |true =>
   obtain⟨_,_,k,_⟩:=si hh;rw[e] at k;simp only[oq] at k;rw[if_pos (by first|exact⟨rfl,by omega⟩|exact⟨trivial,by omega⟩)] at k
   cases k
end
end Gv
namespace Gv
open Rx
set_option linter.unusedSectionVars false
structure iL (E A:Type) where
 e0:E
 a0:A
 cmp:E->E->Int
 sum:E->A
 plus:A->A->A
structure Part (A:Type) where
 n:Int
 sum:A
structure Node (E A:Type) where
 e:E
 l:Ref
 r:Ref
 all:Part A
 h:Int
abbrev Po (E A:Type):=PM (Node E A)
def mx (a b:Int):Int:=if b>a then b else a
def mn (a b:Int):Int:=if b<a then b else a
section
variable {E A:Type} (O:iL E A)
def zn:Node E A:=⟨O.e0,r0,r0,⟨0,O.a0⟩,0⟩
def lk (m:Po E A) (r:Ref):Node E A:=look (zn O) m r
def one (e:E):Part A:=⟨1,O.sum e⟩
def dZ (p q:Part A):Part A:=if p.n=0 then q else if q.n=0 then p else⟨W (p.n+q.n),O.plus p.sum q.sum⟩
def sw (m:Po E A) (r:Ref) (n l q:Node E A):Po E A:=pF m r ⟨n.e,n.l,n.r,dZ O (dZ O l.all (one O n.e)) q.all,W (1+mx l.h q.h)⟩
def tie (m:Po E A) (r:Ref) (n:Node E A):Po E A:=sw O (aH (aH m n.l) n.r) r n (lk O m n.l) (lk O (aH m n.l) n.r)
def oV (m:Po E A) (r:Ref) (n:Node E A):Po E A :=
 tie O (tie O (aH m n.r) r ⟨n.e,n.l,(lk O m n.r).l,n.all,n.h⟩) n.r ⟨(lk O m n.r).e,r,(lk O m n.r).r,(lk O m n.r).all,(lk O m n.r).h⟩
def oW (m:Po E A) (r:Ref) (n:Node E A):Po E A :=
 tie O (tie O (aH m n.l) r ⟨n.e,(lk O m n.l).r,n.r,n.all,n.h⟩) n.l ⟨(lk O m n.l).e,(lk O m n.l).l,r,(lk O m n.l).all,(lk O m n.l).h⟩
def level (m:Po E A) (r:Ref) (n:Node E A):Ref×Po E A :=
 if(lk O m n.l).h>W ((lk O (aH m n.l) n.r).h+1) then
  if(lk O (aH (aH m n.l) n.r) (lk O m n.l).r).h>(lk O (aH (aH (aH m n.l) n.r) (lk O m n.l).r) (lk O m n.l).l).h then
   ((lk O m n.l).r,oW O (oV O (aH (aH (aH (aH m n.l) n.r) (lk O m n.l).r) (lk O m n.l).l) n.l (lk O m n.l)) r ⟨n.e,(lk O m n.l).r,n.r,n.all,n.h⟩)
  else(n.l,oW O (aH (aH (aH (aH m n.l) n.r) (lk O m n.l).r) (lk O m n.l).l) r n)
 else if(lk O (aH m n.l) n.r).h>W ((lk O m n.l).h+1) then
  if(lk O (aH (aH m n.l) n.r) (lk O (aH m n.l) n.r).l).h>(lk O (aH (aH (aH m n.l) n.r) (lk O (aH m n.l) n.r).l) (lk O (aH m n.l) n.r).r).h then
   ((lk O (aH m n.l) n.r).l,oV O (oW O (aH (aH (aH (aH m n.l) n.r) (lk O (aH m n.l) n.r).l) (lk O (aH m n.l) n.r).r) n.r (lk O (aH m n.l) n.r)) r ⟨n.e,n.l,(lk O (aH m n.l) n.r).l,n.all,n.h⟩)
  else(n.r,oV O (aH (aH (aH (aH m n.l) n.r) (lk O (aH m n.l) n.r).l) (lk O (aH m n.l) n.r).r) r n)
 else(r,sw O (aH (aH m n.l) n.r) r n (lk O m n.l) (lk O (aH m n.l) n.r))
def Deep:Nat->Po E A->Ref->Prop
 |0,_,_=>False
 |k+1,m,r=>(lk O m r).h=0∨(Deep k m (lk O m r).l/\Deep k m (lk O m r).r)
def replace:Nat->Po E A->Ref->E->Bool×Po E A
 |0,m,_,_=>(ao,m)
 |k+1,m,r,e =>
  if(lk O m r).h=0 then(ao,aH m r)
  else if O.cmp e (lk O m r).e<0 then
   if(replace k (aH m r) (lk O m r).l e).1=aq then(aq,tie O (replace k (aH m r) (lk O m r).l e).2 r (lk O m r)) else replace k (aH m r) (lk O m r).l e
  else if O.cmp e (lk O m r).e>0 then
   if(replace k (aH m r) (lk O m r).r e).1=aq then(aq,tie O (replace k (aH m r) (lk O m r).r e).2 r (lk O m r)) else replace k (aH m r) (lk O m r).r e
  else(aq,tie O (aH m r) r ⟨e,(lk O m r).l,(lk O m r).r,(lk O m r).all,(lk O m r).h⟩)
def kV:Nat->Po E A->Ref->Ref->E->Ref×Po E A
 |0,m,_,f,_=>(f,m)
 |k+1,m,r,f,e =>
  if(lk O m r).h=0 then(f,aH m r)
  else if O.cmp e (lk O m r).e<0 then
   level O (kV k (aH m r) (lk O m r).l f e).2 r ⟨(lk O m r).e,(kV k (aH m r) (lk O m r).l f e).1,(lk O m r).r,(lk O m r).all,(lk O m r).h⟩
  else
   level O (kV k (aH m r) (lk O m r).r f e).2 r ⟨(lk O m r).e,(lk O m r).l,(kV k (aH m r) (lk O m r).r f e).1,(lk O m r).all,(lk O m r).h⟩
def link:Nat->Po E A->Ref->Ref->Ref->Ref×Po E A
 |0,m,_,b,_=>(b,m)
 |k+1,m,a,b,c =>
  if(lk O m a).h>W ((lk O (aH m a) c).h+1) then
   level O (link k (aH (aH m a) c) (lk O m a).r b c).2 a ⟨(lk O m a).e,(lk O m a).l,(link k (aH (aH m a) c) (lk O m a).r b c).1,(lk O m a).all,(lk O m a).h⟩
  else if(lk O (aH m a) c).h>W ((lk O m a).h+1) then
   level O (link k (aH (aH m a) c) a b (lk O (aH m a) c).l).2 c ⟨(lk O (aH m a) c).e,(link k (aH (aH m a) c) a b (lk O (aH m a) c).l).1,(lk O (aH m a) c).r,(lk O (aH m a) c).all,(lk O (aH m a) c).h⟩
  else(b,sw O (aH (aH (aH m a) c) b) b ⟨(lk O (aH (aH m a) c) b).e,a,c,(lk O (aH (aH m a) c) b).all,(lk O (aH (aH m a) c) b).h⟩ (lk O m a) (lk O (aH m a) c))
def tC:Nat->Po E A->Ref->Ref->Ref->Prop
 |0,_,_,_,_=>False
 |k+1,m,a,b,c =>
  if(lk O m a).h>W ((lk O (aH m a) c).h+1) then tC k (aH (aH m a) c) (lk O m a).r b c
  else if(lk O (aH m a) c).h>W ((lk O m a).h+1) then tC k (aH (aH m a) c) a b (lk O (aH m a) c).l
  else True
def iH:Nat->Po E A->Ref->Ref×Ref×Po E A
 |0,m,r=>(r,r,m)
 |k+1,m,r =>
  if(lk O m r).l=r0 then((lk O m r).r,r,aH m r)
  else
   ((level O (iH k (aH m r) (lk O m r).l).2.2 r ⟨(lk O m r).e,(iH k (aH m r) (lk O m r).l).1,(lk O m r).r,(lk O m r).all,(lk O m r).h⟩).1,(iH k (aH m r) (lk O m r).l).2.1,
    (level O (iH k (aH m r) (lk O m r).l).2.2 r ⟨(lk O m r).e,(iH k (aH m r) (lk O m r).l).1,(lk O m r).r,(lk O m r).all,(lk O m r).h⟩).2)
def sj:Nat->Po E A->Ref->Prop
 |0,_,_=>False
 |k+1,m,r=>if(lk O m r).l=r0 then True else sj k (aH m r) (lk O m r).l
def glue (k:Nat) (m:Po E A) (a c:Ref):Ref×Po E A :=
 if c=r0 then(a,m) else link O k (iH O k m c).2.2 a (iH O k m c).2.1 (iH O k m c).1
def Dl (k:Nat) (m:Po E A) (a c:Ref):Prop :=
 if c=r0 then True else sj O k m c/\tC O k (iH O k m c).2.2 a (iH O k m c).2.1 (iH O k m c).1
def pick (K:Nat):Nat->Po E A->Ref->E->Ref×Ref×Po E A
 |0,m,r,_=>(r,r0,m)
 |k+1,m,r,e =>
  if(lk O m r).h=0 then(r,r0,aH m r)
  else if O.cmp e (lk O m r).e<0 then
   if(pick K k (aH m r) (lk O m r).l e).2.1=r0 then(r,(pick K k (aH m r) (lk O m r).l e).2.1,(pick K k (aH m r) (lk O m r).l e).2.2)
   else((level O (pick K k (aH m r) (lk O m r).l e).2.2 r ⟨(lk O m r).e,(pick K k (aH m r) (lk O m r).l e).1,(lk O m r).r,(lk O m r).all,(lk O m r).h⟩).1,(pick K k (aH m r) (lk O m r).l e).2.1,
    (level O (pick K k (aH m r) (lk O m r).l e).2.2 r ⟨(lk O m r).e,(pick K k (aH m r) (lk O m r).l e).1,(lk O m r).r,(lk O m r).all,(lk O m r).h⟩).2)
  else if O.cmp e (lk O m r).e>0 then
   if(pick K k (aH m r) (lk O m r).r e).2.1=r0 then(r,(pick K k (aH m r) (lk O m r).r e).2.1,(pick K k (aH m r) (lk O m r).r e).2.2)
   else((level O (pick K k (aH m r) (lk O m r).r e).2.2 r ⟨(lk O m r).e,(lk O m r).l,(pick K k (aH m r) (lk O m r).r e).1,(lk O m r).all,(lk O m r).h⟩).1,(pick K k (aH m r) (lk O m r).r e).2.1,
    (level O (pick K k (aH m r) (lk O m r).r e).2.2 r ⟨(lk O m r).e,(lk O m r).l,(pick K k (aH m r) (lk O m r).r e).1,(lk O m r).all,(lk O m r).h⟩).2)
  else((glue O K (aH m r) (lk O m r).l (lk O m r).r).1,r,(glue O K (aH m r) (lk O m r).l (lk O m r).r).2)
def qk (K:Nat):Nat->Po E A->Ref->E->Prop
 |0,_,_,_=>False
 |k+1,m,r,e =>
  if(lk O m r).h=0 then True
  else if O.cmp e (lk O m r).e<0 then qk K k (aH m r) (lk O m r).l e
  else if O.cmp e (lk O m r).e>0 then qk K k (aH m r) (lk O m r).r e
  else Dl O K (aH m r) (lk O m r).l (lk O m r).r
def lW (K:Nat):Nat->Po E A->Ref->E->Ref×Ref×Po E A
 |0,m,_,_=>(r0,r0,m)
 |k+1,m,r,e =>
  if(lk O m r).h=0 then(r0,r0,aH m r)
  else if O.cmp (lk O m r).e e<0 then
   ((link O K (lW K k (aH m r) (lk O m r).r e).2.2 (lk O m r).l r (lW K k (aH m r) (lk O m r).r e).1).1,(lW K k (aH m r) (lk O m r).r e).2.1,
    (link O K (lW K k (aH m r) (lk O m r).r e).2.2 (lk O m r).l r (lW K k (aH m r) (lk O m r).r e).1).2)
  else
   ((lW K k (aH m r) (lk O m r).l e).1,(link O K (lW K k (aH m r) (lk O m r).l e).2.2 (lW K k (aH m r) (lk O m r).l e).2.1 r (lk O m r).r).1,
    (link O K (lW K k (aH m r) (lk O m r).l e).2.2 (lW K k (aH m r) (lk O m r).l e).2.1 r (lk O m r).r).2)
def J5 (K:Nat):Nat->Po E A->Ref->E->Prop
 |0,_,_,_=>False
 |k+1,m,r,e =>
  if(lk O m r).h=0 then True
  else if O.cmp (lk O m r).e e<0 then J5 K k (aH m r) (lk O m r).r e/\tC O K (lW O K k (aH m r) (lk O m r).r e).2.2 (lk O m r).l r (lW O K k (aH m r) (lk O m r).r e).1
  else J5 K k (aH m r) (lk O m r).l e/\tC O K (lW O K k (aH m r) (lk O m r).l e).2.2 (lW O K k (aH m r) (lk O m r).l e).2.1 r (lk O m r).r
def cH:Nat->Po E A->Ref->List E×Po E A
 |0,m,_=>([],m)
 |k+1,m,r =>
  if(lk O m r).h=0 then([],aH m r)
  else((cH k (aH m r) (lk O m r).l).1++(lk O m r).e::(cH k (cH k (aH m r) (lk O m r).l).2 (lk O m r).r).1,(cH k (cH k (aH m r) (lk O m r).l).2 (lk O m r).r).2)
def fW:Nat->Po E A->Node E A->Int->Int->Part A×Po E A
 |0,m,_,_,_=>(⟨0,O.a0⟩,m)
 |k+1,m,n,from_,to =>
  if mx from_ 0≥mn to n.all.n then(⟨0,O.a0⟩,m)
  else if mx from_ 0=0/\mn to n.all.n=n.all.n then(n.all,m)
  else
   let x:=fW k (aH m n.l) (lk O m n.l) (mx from_ 0) (mn to n.all.n)
   let s:=if mx from_ 0≤(lk O m n.l).all.n/\(lk O m n.l).all.n<mn to n.all.n then dZ O x.1 (one O n.e) else x.1
   if mn to n.all.n≤W ((lk O m n.l).all.n+1) then(s,x.2)
   else
    let y:=fW k (aH x.2 n.r) (lk O x.2 n.r) (W (W (mx from_ 0-(lk O m n.l).all.n)-1)) (W (W (mn to n.all.n-(lk O m n.l).all.n)-1))
    (dZ O s y.1,y.2)
def jj:Nat->Po E A->Node E A->Prop
 |0,_,_=>False
 |k+1,m,n=>n.h=0∨(Deep O k m n.l/\Deep O k m n.r)
def first (may:A->A->Bool):Nat->Po E A->Node E A->Part A->Int->Int×Po E A
 |0,m,_,_,_=>(-1,m)
 |k+1,m,n,a,from_ =>
  if n.h=0∨W (a.n+n.all.n)≤from_ then(-1,m)
  else if a.n≥from_/\may a.sum n.all.sum=ao then(-1,m)
  else if(first may k (aH m n.l) (lk O m n.l) a from_).1≥0 then first may k (aH m n.l) (lk O m n.l) a from_
  else if(dZ O a (lk O m n.l).all).n≥from_/\may (dZ O a (lk O m n.l).all).sum (O.sum n.e)=aq then((dZ O a (lk O m n.l).all).n,(first may k (aH m n.l) (lk O m n.l) a from_).2)
  else first may k (aH (first may k (aH m n.l) (lk O m n.l) a from_).2 n.r) (lk O (first may k (aH m n.l) (lk O m n.l) a from_).2 n.r) (dZ O (dZ O a (lk O m n.l).all) (one O n.e)) from_
def last (may:A->A->Bool):Nat->Po E A->Node E A->Part A->Int->Int×Po E A
 |0,m,_,_,_=>(-1,m)
 |k+1,m,n,a,to =>
  if n.h=0∨a.n≥to then(-1,m)
  else if W (a.n+n.all.n)≤to/\may a.sum n.all.sum=ao then(-1,m)
  else
   let b:=dZ O a (lk O m n.l).all
   let x:=last may k (aH (aH m n.l) n.r) (lk O (aH m n.l) n.r) (dZ O b (one O n.e)) to
   if x.1≥0 then x
   else if b.n<to/\may b.sum (O.sum n.e)=aq then(b.n,x.2)
   else last may k x.2 (lk O m n.l) a to
def find:Nat->Po E A->Node E A->E->(E×Bool)×Po E A
 |0,m,_,_=>((O.e0,ao),m)
 |k+1,m,n,e =>
  if n.h>0 then
   if O.cmp e n.e=0 then((n.e,aq),m)
   else if O.cmp e n.e<0 then find k (aH m n.l) (lk O m n.l) e
   else find k (aH m n.r) (lk O m n.r) e
  else((O.e0,ao),m)
def kv:Nat->Po E A->Node E A->E->Int->Int×Po E A
 |0,m,_,_,c=>(c,m)
 |k+1,m,n,e,c =>
  if n.h>0 then
   if O.cmp e n.e≤0 then kv k (aH m n.l) (lk O m n.l) e c
   else kv k (aH m n.r) (lk O m n.r) e (W (c+W (n.all.n-(lk O m n.r).all.n)))
  else(c,m)
def re:Nat->Po E A->Node E A->Int->E×Po E A
 |0,m,_,_=>(O.e0,m)
 |k+1,m,n,i =>
  if i=(lk O m n.l).all.n then(n.e,aH m n.l)
  else if i<(lk O m n.l).all.n then re k (aH m n.l) (lk O m n.l) i
  else re k (aH (aH m n.l) n.r) (lk O (aH m n.l) n.r) (W (i-W ((lk O m n.l).all.n+1)))
end
end Gv
namespace Wv
open Rx
structure It where
 k:Int
 i:Int
instance:DecidableEq It:=fun a b=>decidable_of_iff (a.k=b.k/\a.i=b.i) ⟨fun h=>by cases a;cases b;cases h.1;cases h.2;rfl,fun h=>by cases h;exact⟨rfl,rfl⟩⟩
def ah (a b:It):Prop:=a.k<b.k∨a.k=b.k/\a.i<b.i
instance (a b:It):Decidable (ah a b):=inferInstanceAs (Decidable (_∨_))
def kK (a b:It):Int:=if a.k<b.k then -1 else if a.k>b.k then 1 else if a.i<b.i then -1 else if a.i>b.i then 1 else 0
def CQ (a b:Int):Int:=if a<b then -1 else if a>b then 1 else 0
theorem w5 (a b:It):kK a b>0↔ah b a:=by unfold kK ah;repeat' split;all_goals omega
theorem aej (a b:It):kK a b=1↔ah b a:=by unfold kK ah;repeat' split;all_goals omega
theorem aek (a b:It):kK a b = -1↔ah a b:=by unfold kK ah;repeat' split;all_goals omega
abbrev iz:It:=⟨0,0⟩
theorem It.Q3 {a b:It} (h:a.k=b.k) (h':a.i=b.i):a=b:=by cases a;cases b;cases h;cases h';rfl
theorem sx {a b:It} (h:ah a b):¬ ah b a:=by unfold ah at *;omega
theorem aay {a b:It} (h:¬ ah a b) (h':¬ ah b a):a=b:=It.Q3 (by unfold ah at *;omega) (by unfold ah at *;omega)
def up:Option It->Option It->Option It
 |a,aj=>a
 |none,aa b=>aa b
 |some a,aa b=>if ah a b then aa b else aa a
def dn:Option It->Option It->Option It
 |a,aj=>a
 |none,aa b=>aa b
 |some a,aa b=>if ah b a then aa b else aa a
theorem Q' (a:Option It):up aj a=a:=by cases a<;>rfl
theorem QK (a:Option It):dn aj a=a:=by cases a<;>rfl
theorem Vs:∀ a b c:Option It,up (up a b) c=up a (up b c)
 |a,b,aj=>by cases a<;>cases b<;>rfl
 |a,aj,aa c=>by cases a<;>rfl
 |none,aa b,aa c=>by rw[Q',Q']
 |some a,aa b,aa c=>by
  simp only[up]
  by_cases h1:ah a b<;>by_cases h2:ah b c<;>simp only[h1,h2,if_true,if_false,up]
  ·rw[if_pos (by unfold ah at *;omega)]
  ·rw[if_neg (by unfold ah at *;omega)]
theorem adR:∀ a b c:Option It,dn (dn a b) c=dn a (dn b c)
 |a,b,aj=>by cases a<;>cases b<;>rfl
 |a,aj,aa c=>by cases a<;>rfl
 |none,aa b,aa c=>by rw[QK,QK]
 |some a,aa b,aa c=>by
  simp only[dn]
  by_cases h1:ah b a<;>by_cases h2:ah c b<;>simp only[h1,h2,if_true,if_false,dn]
  ·rw[if_pos (by unfold ah at *;omega)]
  ·rw[if_neg (by unfold ah at *;omega)]
def hi:List It->Option It
 |[]=>aj
 |x::l=>up (aa x) (hi l)
def lo:List It->Option It
 |[]=>aj
 |x::l=>dn (aa x) (lo l)
theorem JK:∀ x y:List It,hi (x++y)=up (hi x) (hi y)
 |[],y=>(Q' _).symm
 |a::x,y=>by
  show up (aa a) (hi (x++y))=up (up (aa a) (hi x)) (hi y)
  rw[JK x y,Vs]
theorem RL:∀ x y:List It,lo (x++y)=dn (lo x) (lo y)
 |[],y=>(QK _).symm
 |a::x,y=>by
  show dn (aa a) (lo (x++y))=dn (dn (aa a) (lo x)) (lo y)
  rw[RL x y,adR]
theorem XG (a:It) (b:Option It):(up (aa a) b).isSome=aq:=by cases b<;>simp only[up]<;>(try split)<;>rfl
theorem ago (a:It) (b:Option It):(dn (aa a) b).isSome=aq:=by cases b<;>simp only[dn]<;>(try split)<;>rfl
theorem Ye:∀ l:List It,(hi l).isSome=aq↔l≠[]
 |[]=>by simp[hi]
 |a::l=>by simp only[hi,XG,true_iff];exact N3 _ _
theorem Yg:∀ l:List It,(lo l).isSome=aq↔l≠[]
 |[]=>by simp[lo]
 |a::l=>by simp only[lo,ago,true_iff];exact N3 _ _
theorem abH:∀ (l:List It) (h:It),lo l=aa h->∀ e∈l,¬ ah e h
 |[],h,hh=>by cases hh
 |a::l,h,hh=>by
  intro e he;simp only[lo] at hh;cases hl:lo l with
  |none =>
   have:l=[]:=by
    rcases Hz l with h0|⟨y,z,h0⟩
    ·exact h0
    ·have:=(Yg l).2 (by rw[h0];simp)
     rw[hl] at this;cases this
   subst this;rw[hl] at hh;injection hh with hh
   subst hh;simp only[ib] at he;subst he;unfold ah;omega
  |some b =>
   have ih:=abH l b hl;rw[hl] at hh;simp only[dn] at hh;rcases bR.1 he with he|he
   ·subst he;split at hh<;>(injection hh with hh;subst hh)<;>unfold ah at *<;>omega
   ·have:=ih e he;split at hh<;>(injection hh with hh;subst hh)<;>unfold ah at *<;>omega
def tu (x:It) (l:List It):Nat->Nat
 |0=>0
 |k+1=>if ah x (l.getD k iz) then tu x l k else k+1
theorem US (x:It) (l:List It):∀ k,tu x l k≤k
 |0=>bc _
 |k+1=>by rw[tu];split;exact Nat.le_succ_of_le (US x l k);exact bc _
def ins (x:It) (l:List It):List It:=l.take (tu x l l.length)++x::l.drop (tu x l l.length)
def nK (l:List It):List It:=l.foldl (fun s x=>ins x s) []
theorem Eu (l:List It) (x:It):nK (l++[x])=ins x (nK l):=by unfold nK;rw[List.foldl_append];rfl
theorem Xr (x:It) (l:List It):(ins x l).length=l.length+1:=by
 have:=US x l l.length;unfold ins;simp;omega
theorem MF {α:Type} {P:List α->Prop} (h0:P []) (h1:∀ l x,P l->P (l++[x])):∀ l,P l:=by
 intro l;have:∀ n (l:List α),l.length=n->P l:=by
  intro n
  induction n with
  |zero=>intro l h;rw[iQ h];exact h0
  |succ n ih =>
   intro l h;rcases Hz l with e|⟨y,z,e⟩
   ·rw[e] at h;cases h
   ·rw[e,List.concat_eq_append] at h ⊢;refine h1 y z (ih y ?_);rw[bJ] at h
    simpa using h
 exact this _ l rfl
theorem W8 (l:List It):(nK l).length=l.length:=MF (P:=fun l=>(nK l).length=l.length) rfl (fun l x h=>by rw[Eu,Xr,h];simp) l
end Wv
namespace Ti
open Rx
set_option maxRecDepth 100000
def oZ (x:List Int) (k:Nat):Int:=(x.take k).sum
def qm (x:List Int):Nat->Int
 |0=>0
 |1=>oZ x 1
 |k+2=>min (qm x (k+1)) (oZ x (k+2))
def low (x:List Int):Int:=qm x x.length
structure Small (x:List Int):Prop where
 len:x.length≤60
 lo:∀ i,i<x.length->-1099511627776≤x.getD i 0
 hi:∀ i,i<x.length->x.getD i 0≤1099511627776
theorem aag {x:List Int} {k:Nat} (h:k<x.length):oZ x (k+1)=oZ x k+x.getD k 0:=by
 unfold oZ;rw[xC 0 h,P8];simp
theorem Md {x:List Int} (hx:Small x):∀ k,k≤x.length->-(k:Int)*1099511627776≤oZ x k/\oZ x k≤(k:Int)*1099511627776
 |0,_=>by simp[oZ]
 |k+1,h=>by
  have h1:=Md hx k (by omega)
  have h2:=hx.lo k (by omega)
  have h3:=hx.hi k (by omega)
  rw[aag (by omega)]
  omega
theorem Aq {x:List Int} (hx:Small x) (k:Nat) (hk:k≤x.length):-65970697666560≤oZ x k/\oZ x k≤65970697666560:=by
 have:=Md hx k hk;have:=hx.len;omega
theorem Gm {x:List Int} (hx:Small x):∀ k,k≤x.length->-65970697666560≤qm x k/\qm x k≤65970697666560
 |0,_=>by simp[qm]
 |1,h=>Aq hx 1 h
 |k+2,h=>by
  have h1:=Gm hx (k+1) (by omega)
  have h2:=Aq hx (k+2) h;simp only[qm];omega
def vI {R:Type} (l:List Int):Option (SB R):=aa (.inr (.inr (.inl ⟨[.int .i64 0],l.length,[⟨l,[],[]⟩]⟩)))
def z0:Nat->Bool:=fun j=>fo j 0
theorem Ob {x:List Int} {k:Nat} (h:0<k):qm x (k+1)=min (qm x k) (oZ x (k+1)):=by
 cases k with
 |zero=>omega
 |succ k=>rfl
structure Td where
 n:Int
 s:Int
 l:Int
def Td.v (t:Td):Value:=.agg ⟨[.int .i64 t.n,.int .i64 t.s,.int .i64 t.l]⟩
def GH (x:Int):Int:=av.wrap x
def Td.plus (t u:Td):Td:=if t.n=0 then u else if u.n=0 then t else⟨GH (t.n+u.n),GH (t.s+u.s),min t.l (GH (t.s+u.l))⟩
def Td.least (t:Td) (x:Int):Int:=if t.n=0 then x else min x (GH (x+t.l))
def TW {R:Type}:eK R:=[(1000000000,lJ)]
theorem ak7 {R:Type} {D:fK R}:cQ D Tryz.prog (TW:eK R):=⟨iu,trivial⟩
def dZ {R:Type}:Prim R:=fun args hh=>match args,hh with
 |[.agg ⟨[.int .i64 n,.int .i64 s,.int .i64 l]⟩,.agg ⟨[.int .i64 n',.int .i64 s',.int .i64 l']⟩],[]=>aa ⟨True,.agg ⟨[.int .i64 (Td.plus ⟨n,s,l⟩ ⟨n',s',l'⟩).n,.int .i64 (Td.plus ⟨n,s,l⟩ ⟨n',s',l'⟩).s,.int .i64 (Td.plus ⟨n,s,l⟩ ⟨n',s',l'⟩).l]⟩,aj,hh,[],[]⟩
 |_,_=>aj
theorem uc {R:Type} {D:fK R}:ck D Tryz.prog 227 (a9 dZ):=by
 refine fw Tryz.f227 fun args hh x hx=>?_
 unfold dZ at hx;split at hx
 ·rename_i n s l n' s' l';cases hx;refine q4 fun _ hv=>?_
  generalize hG:Rx.Ends (R:=R) _ _=G;refine cW (T:=TW) ak7 mixed 200 ?_;refine bN (q:=((n==(0:Int))=aq->aY (G (bE (aO [.int av n',.int av s',.int av l'])) [aa (.inl (51,[.int av n,.int av s,.int av l])),aa (.inl (51,[.int av n',.int av s',.int av l'])),aa (.inl (51,[.int av n',.int av s',.int av l']))]))/\((n==(0:Int))=ao->((n'==(0:Int))=aq->aY (G (bE (aO [.int av n,.int av s,.int av l])) [aa (.inl (51,[.int av n,.int av s,.int av l])),aa (.inl (51,[.int av n',.int av s',.int av l'])),aa (.inl (51,[.int av n,.int av s,.int av l]))]))/\((n'==(0:Int))=ao->Vc True/\Vc True/\Vc True/\aY (G (bE (aO [.int av (cr av (n+n')),.int av (cr av (s+s')),.int av (if cr av (s+l')<l then cr av (s+l') else l)])) [aa (.inl (51,[.int av n,.int av s,.int av l])),aa (.inl (51,[.int av n',.int av s',.int av l'])),aa (.inl (51,[.int av (cr av (n+n')),.int av (cr av (s+s')),.int av (if cr av (s+l')<l then cr av (s+l') else l)]))])))) ?_ (by kernel_rfl)
  have fin:∀ (t:Td) (hp:Hp R),t=Td.plus ⟨n,s,l⟩ ⟨n',s',l'⟩->G t.v hp:=by
   intro t hp ht;subst ht;subst hG;exact⟨⟨[],rfl,rfl,trivial,rfl,rfl,rfl,rfl⟩⟩
  clear hG;refine⟨fun h=>⟨?_⟩,fun h=>⟨fun h'=>⟨?_⟩,fun h'=>⟨⟨trivial⟩,⟨trivial⟩,⟨trivial⟩,⟨?_⟩⟩⟩⟩
  ·exact fin ⟨n',s',l'⟩ _ (by rw[Td.plus,if_pos (eq_of_beq h)])
  ·exact fin ⟨n,s,l⟩ _ (by rw[Td.plus,if_neg (ne_of_beq_false h),if_pos (eq_of_beq h')])
  ·have e:∀ p q:Int,(if p<q then p else q)=min q p:=fun p q=>by split<;>omega
   refine fin ⟨GH (n+n'),GH (s+s'),if GH (s+l')<l then GH (s+l') else l⟩ _ ?_
   rw[Td.plus,if_neg (ne_of_beq_false h),if_neg (ne_of_beq_false h')];simp only[e]
 ·cases hx
def qC (x:List Int):Td:=⟨x.length,oZ x x.length,low x⟩
theorem Ju {x:Int} (h:-9223372036854775808≤x/\x≤9223372036854775807):GH x=x:=pA ⟨h.1,h.2⟩
theorem yj {y z:List Int} (j:Nat):oZ (y++z) (y.length+j)=oZ y y.length+oZ z j:=by
 unfold oZ;rw[List.take_length_add_append,P8,kC]
theorem FB {y z:List Int} {k:Nat} (h:k≤y.length):oZ (y++z) k=oZ y k:=by
 unfold oZ;rw[Be h]
theorem Oi {y z:List Int}:∀ k,k≤y.length->qm (y++z) k=qm y k
 |0,_=>rfl
 |1,h=>FB h
 |k+2,h=>by
  simp only[qm];rw[Oi (k+1) (by omega),FB h]
theorem JW {y z:List Int} (hy:y.length≠0):∀ j,1≤j->j≤z.length->qm (y++z) (y.length+j)=min (qm y y.length) (oZ y y.length+qm z j)
 |0,h,_=>by omega
 |1,_,h=>by
  rw[Ob (show 0<y.length by omega),Oi y.length (bc _),yj]
  rfl
 |j+2,_,h=>by
  have ih:=JW (z:=z) hy (j+1) (by omega) (by omega)
  rw[show y.length+(j+2)=y.length+(j+1)+1 by omega,Ob (show 0<y.length+(j+1) by omega),ih,show y.length+(j+1)+1=y.length+(j+2) by omega,yj]
  simp only[qm];omega
theorem RU {y z:List Int} {i:Nat} (h:i<y.length):(y++z).getD i 0=y.getD i 0:=by
 simp only[ax,db h]
theorem OV {y z:List Int} {i:Nat}:(y++z).getD (y.length+i) 0=z.getD i 0:=by
 simp only[ax];rw[dU (by omega),Fz]
theorem Small.left {y z:List Int} (h:Small (y++z)):Small y:=by
 obtain⟨h1,h2,h3⟩:=h;simp only[bJ] at h1 h2 h3;refine⟨by omega,fun i hi=>?_,fun i hi=>?_⟩
 ·have:=h2 i (by omega);rwa [RU hi] at this
 ·have:=h3 i (by omega);rwa [RU hi] at this
theorem Small.right {y z:List Int} (h:Small (y++z)):Small z:=by
 obtain⟨h1,h2,h3⟩:=h;simp only[bJ] at h1 h2 h3;refine⟨by omega,fun i hi=>?_,fun i hi=>?_⟩
 ·have:=h2 (y.length+i) (by omega);rwa [OV] at this
 ·have:=h3 (y.length+i) (by omega);rwa [OV] at this
theorem R4 {y z:List Int} (h:Small (y++z)):(qC y).plus (qC z)=qC (y++z):=by
 by_cases hy:y.length=0
 ·have:y=[]:=iQ hy;subst this;rw[Td.plus,if_pos (show(qC []).n=0 from rfl)];rfl
 by_cases hz:z.length=0
 ·have:z=[]:=iQ hz;subst this;rw[Td.plus,if_neg (by simp only[qC];omega),if_pos (show(qC []).n=0 from rfl),A_]
 have a1:=Aq h.left y.length (bc _);have a2:=Aq h.right z.length (bc _);have a3:=Gm h.right z.length (bc _);have a4:=h.len;have e1:=yj (y:=y) (z:=z) z.length;have e2:=JW (y:=y) (z:=z) hy z.length (by omega) (bc _)
 rw[bJ] at a4;rw[Td.plus,if_neg (by simp only[qC];omega),if_neg (by simp only[qC];omega)]
 simp only[qC,low,bJ] at *
 rw[Ju (by omega),Ju (by omega),Ju (by omega),e1,e2]
 simp
end Ti
end Go.Proofs.YtjlomlgdgpoepaaGreat
