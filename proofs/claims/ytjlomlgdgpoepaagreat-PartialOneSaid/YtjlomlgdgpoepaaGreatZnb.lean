import Derived.Test.YtjlomlgdgpoepaaGreatZna
import Derived.Below
import Derived.Deep.Slices
import Derived.ChangeArms
import Derived.WideShapes
import Derived.DataReads
import Derived.OpenShut
import Derived.ProofKit
import Derived.Test.YtjlomlgdgpoepaaGreatProg
import Derived.KernelRfl
set_option linter.unusedVariables false
set_option linter.unusedSimpArgs false
namespace Go.Proofs.YtjlomlgdgpoepaaGreat
open _root_.Array renaming getD→DI,getElem?_eq_some_iff→v9,getElem?_setIfInBounds_ne→Ad,mem_toList_iff→IW,mk→aJ
open _root_.Bool renaming and_eq_true→aM,and_self→Ta,false_and→Cd,false_eq_true→fP,false→an,not_eq_true'→mP,or_eq_true→jN,true_and→jh,true→ao
open _root_.Classical renaming axiomOfChoice→WH,byContradiction→iD,epsilon_spec→Xi
open _root_.False renaming elim→kL
open _root_.Go renaming undef→vv
open _root_.Go.Act renaming eval→Cb,put→Cc
open _root_.Go.DataW renaming trod→DJ
open _root_.Go.IntKind renaming i64→ar,wrap_i64→Fp,wrap→ck
open _root_.Go.Region renaming binds→KP,ready→KQ,wanted→kF
open _root_.Go.Value renaming agg→bz,bool→aC,cells→ns,okWide→Ww
open _root_.Int renaming not_lt→IX
open _root_.List renaming append_nil→Bd,cons_ne_nil→N9,drop_drop→sc,drop_eq_nil_iff→IV,drop_zero→se,eq_nil_of_length_eq_zero→iS,eq_nil_or_concat→HI,ext_getElem?→nQ,getD_eq_getElem?_getD→au,getElem?_append_left→cZ,getElem?_append_right→dS,getElem?_cons_succ→bH,getElem?_cons_zero→cd,getElem?_drop→oH,getElem?_eq_getElem→bd,getElem?_eq_none→dc,getElem?_eq_some_iff→aT,getElem?_map→fh,getElem?_range→sJ,getElem?_take_of_lt→Fo,getElem?_take→oF,getElem?_toArray→jD,length_append→bF,length_cons→cy,length_set→fb,length_singleton→qZ,length_take→dQ,map_cons→gw,mem_append→b7,mem_cons_of_mem→eo,mem_cons_self→bL,mem_cons→bO,mem_map→pb,mem_of_getElem?→lB,mem_range→RP,mem_singleton→ib,nodup_append→cf,range→n9,replicate→ls,sum_append→Qh,take_add→v_,take_append_of_le_length→Bm,take_length→jP,take_of_length_le→jl,take_zero→r_
open _root_.Nat renaming add_assoc→jg,add_comm→sE,add_sub_cancel_left→FD,add_sub_cancel→mi,add_zero→gR,beq→fp,ble_eq→vt,ble→uI,blt_eq→fe,blt→gQ,eq_of_beq_eq_true→cO,le_of_ble_eq_true→jE,le_of_not_lt→nr,le_refl→a_,le_trans→jo,lt_of_lt_of_le→lA,lt_or_ge→cr,lt_trichotomy→nR,mod_mod_of_dvd→KR,one_pos→GF,strongRecOn→tC,succ_mul→Wu,zero_add→bU,zero_le→dh,zero_mul→Bc
open _root_.Option renaming getD_some→lL,map_some→j_,none→aj,some→aa
open _root_.Option.some renaming injEq→ct
open _root_.Or renaming inl→dK,inr→e7
open _root_.Prod.mk renaming injEq→te
namespace Rx
open Go.RowKit State
def knQ (f:Nat->Bool) (q:Nat):Bool :=
 match gQ q 1000000 with
 |true=>ao
 |false=>f (q / 1000000-1)
def knS (f:Nat->Bool):Option Nat->Bool
 |none=>ao
 |some q=>knQ f q
mutual
def lX (f:Nat->Bool):Value->Bool
 |.pointer (aa a)=>f a.block
 |.slice (aa a) _ _=>f a.block&&knS f a.spot
 |.map (aa r)|.chan (aa r)=>f r
 |.agg ⟨l⟩=>AA f l
 |.tuple ⟨l⟩=>AA f l
 |.func _ ⟨g⟩ ⟨c⟩=>AA f g&&AA f c
 |.iface _ v=>lX f v
 |_=>ao
def AA (f:Nat->Bool):List Value->Bool
 |[]=>ao
 |v::l=>lX f v&&AA f l
end
section
variable {ρ gx:Env} {f g:Nat->Bool} {n:Nat}
theorem Yg {q:Nat} (h:knQ f q=ao) (h0:q / 1000000≠0):f (q / 1000000-1)=ao:=by
 unfold knQ at h;split at h
 ·rename_i hb;rw[fe] at hb;omega
 ·exact h
theorem abS {q:Nat} (h:q / 1000000≠0->f (q / 1000000-1)=ao):knQ f q=ao:=by
 unfold knQ;split
 ·rfl
 ·rename_i hb;refine h fun h0=>?_
  have:gQ q 1000000=ao:=by rw[fe];omega
  rw[hb] at this;cases this
theorem adF {s:Option Nat} (h:∀ b,f b=ao->g b=ao) (hv:knS f s=ao):knS g s=ao:=by
 cases s with
 |none=>rfl
 |some q=>exact abS fun h0=>h _ (Yg hv h0)
theorem af7 {a:Addr} {k c:Nat} (h:∀ b,f b=ao->ρ b=gx b) (ha:f a.block=ao) (hs:knS f a.spot=ao):lK ρ a k c=lK gx a k c:=by
 have hA:iI ρ a=iI gx a:=by unfold iI;rw[h _ ha]
 unfold lK;rw[hA,h _ ha];cases hq:a.spot with
 |none=>rfl
 |some q =>
  rw[hq] at hs;simp only;split
  ·rfl
  ·split
   ·rename_i h0;rw[h (q / 1000000-1) (Yg hs h0.1)]
   ·rfl
mutual
theorem Vv (h:∀ b,f b=ao->ρ b=gx b):∀ v,lX f v=ao->bS ρ v=bS gx v
 |.pointer (aa a),hv=>by
  simp only[lX] at hv;simp only[bS,iI];rw[h _ hv]
 |.pointer aj,_=>by simp[bS]
 |.slice (aa a) k c,hv=>by
  simp only[lX,aM] at hv;simp only[bS];exact af7 h hv.1 hv.2
 |.slice aj _ _,_=>by simp[bS]
 |.map (aa r),hv=>by simp only[lX] at hv;simp[bS,h _ hv]
 |.map aj,_=>by simp[bS]
 |.chan (aa r),hv=>by simp only[lX] at hv;simp[bS,h _ hv]
 |.chan aj,_=>by simp[bS]
 |.agg ⟨l⟩,hv=>by simp only[lX] at hv;simp only[bS,DP h l hv]
 |.tuple ⟨l⟩,hv=>by simp only[lX] at hv;simp only[bS,DP h l hv]
 |.func fn ⟨l⟩ ⟨c⟩,hv=>by
  simp only[lX,aM] at hv;simp only[bS,DP h l hv.1,DP h c hv.2]
 |.iface t v,hv=>by simp only[lX] at hv;simp only[bS,Vv h v hv]
 |.int _ _,_=>by simp
 |.bool _,_=>by simp
 |.string _,_=>by simp
 |.float _ _,_=>by simp[bS]
 |.complex _ _ _,_=>by simp[bS]
 |.nilFunc,_=>by simp[bS]
 |.nilIface,_=>by simp[bS]
theorem DP (h:∀ b,f b=ao->ρ b=gx b):∀ l,AA f l=ao->nq ρ l=nq gx l
 |[],_=>rfl
 |v::l,hv=>by
  simp only[AA,aM] at hv;simp only[nq,Vv h v hv.1,DP h l hv.2]
end
mutual
theorem abR (h:∀ b,b<n->f b=ao):∀ v,fv n v=ao->lX f v=ao
 |.pointer (aa a),hv=>by simp only[fv,fe] at hv;simp only[lX];exact h _ hv
 |.pointer aj,_=>by simp[lX]
 |.slice (aa a) k c,hv=>by
  simp only[fv,aM,fe,vt] at hv;simp only[lX,aM];refine⟨h _ hv.1,?_⟩;cases hs:a.spot with
  |none=>rfl
  |some q =>
   rw[hs] at hv;simp only[EC] at hv;exact abS fun h0=>h _ (by omega)
 |.slice aj _ _,_=>by simp[lX]
 |.map (aa r),hv=>by simp only[fv,fe] at hv;simp only[lX];exact h _ hv
 |.map aj,_=>by simp[lX]
 |.chan (aa r),hv=>by simp only[fv,fe] at hv;simp only[lX];exact h _ hv
 |.chan aj,_=>by simp[lX]
 |.agg ⟨l⟩,hv=>by simp only[fv] at hv;simp only[lX];exact DW h l hv
 |.tuple ⟨l⟩,hv=>by simp only[fv] at hv;simp only[lX];exact DW h l hv
 |.func fn ⟨l⟩ ⟨c⟩,hv=>by
  simp only[fv,aM] at hv;simp only[lX,aM];exact⟨DW h l hv.1,DW h c hv.2⟩
 |.iface t v,hv=>by simp only[fv] at hv;simp only[lX];exact abR h v hv
 |.int _ _,_=>by simp[lX]
 |.bool _,_=>by simp[lX]
 |.string _,_=>by simp[lX]
 |.float _ _,_=>by simp[lX]
 |.complex _ _ _,_=>by simp[lX]
 |.nilFunc,_=>by simp[lX]
 |.nilIface,_=>by simp[lX]
theorem DW (h:∀ b,b<n->f b=ao):∀ l,iC n l=ao->AA f l=ao
 |[],_=>by simp[AA]
 |v::l,hv=>by
  simp only[iC,aM] at hv;simp only[AA,aM];exact⟨abR h v hv.1,DW h l hv.2⟩
end
mutual
theorem V_ (h:∀ b,f b=ao->g b=ao):∀ v,lX f v=ao->lX g v=ao
 |.pointer (aa a),hv=>by simp only[lX] at *;exact h _ hv
 |.pointer aj,_=>by simp[lX]
 |.slice (aa a) k c,hv=>by
  simp only[lX,aM] at *
  exact⟨h _ hv.1,adF h hv.2⟩
 |.slice aj _ _,_=>by simp[lX]
 |.map (aa r),hv=>by simp only[lX] at *;exact h _ hv
 |.map aj,_=>by simp[lX]
 |.chan (aa r),hv=>by simp only[lX] at *;exact h _ hv
 |.chan aj,_=>by simp[lX]
 |.agg ⟨l⟩,hv=>by simp only[lX] at *;exact BN h l hv
 |.tuple ⟨l⟩,hv=>by simp only[lX] at *;exact BN h l hv
 |.func fn ⟨l⟩ ⟨c⟩,hv=>by
  simp only[lX,aM] at *
  exact⟨BN h l hv.1,BN h c hv.2⟩
 |.iface t v,hv=>by simp only[lX] at *;exact V_ h v hv
 |.int _ _,_=>by simp[lX]
 |.bool _,_=>by simp[lX]
 |.string _,_=>by simp[lX]
 |.float _ _,_=>by simp[lX]
 |.complex _ _ _,_=>by simp[lX]
 |.nilFunc,_=>by simp[lX]
 |.nilIface,_=>by simp[lX]
theorem BN (h:∀ b,f b=ao->g b=ao):∀ l,AA f l=ao->AA g l=ao
 |[],_=>by simp[AA]
 |v::l,hv=>by
  simp only[AA,aM] at *
  exact⟨V_ h v hv.1,BN h l hv.2⟩
end
end
section
variable {R:Type} {D:fJ R} {C:Ctx} {ρ gx:Env} {ft ky:Nat->Nat->Prop} {w w':World} {h hr hx h':Hp R}
theorem HM.alz (hm:HM D C ρ ft h w) {f:Nat->Bool} (qM:∀ b,f b=ao->gx b=ρ b) (hh:∀ (b:Nat) (X:SB R),h[b]?=aa (aa X)->f b=ao) (hc:∀ (b:Nat) (t:TypeId) (cs:List Value),h[b]?=aa (aa (.inl (t,cs)))->AA f cs=ao):HM D C gx ft h w where
 at_ i B hi:=by
  obtain⟨h1,h2⟩:=hm.at_ i B hi;refine⟨?_,h2⟩;have e:=qM i (hh i B hi);rcases B with⟨t,cs⟩|⟨t,r⟩|r|x
  ·simp only[hold,e] at h1 ⊢;have:cs.map (bS gx)=cs.map (bS ρ):=by
    rw[← lp,← lp];exact DP qM cs (hc i t cs hi)
   rw[this];exact h1
  ·simp only[hold,e] at h1 ⊢;exact h1
  ·simp only[hold,e] at h1 ⊢;exact h1
  ·simp only[hold,e] at h1 ⊢;exact h1
 lt:=hm.lt
 fresh:=hm.fresh
 apart:=hm.apart
 some_:=hm.some_
 kept:=hm.kept
theorem HM.grow (hm:HM D C ρ ft h w) (k:Nat):HM D C ρ ft (h++ls k aj) w:=by
 refine hm.step (fun _=>False) (Kept.refl _ _) (fun _ _=>rfl) (by simp) ?_ ?_ ?_ ?_
 ·intro i B' hi jB;have j6:h.length≤i:=nr hi;rw[dS j6] at jB;have:=lB jB;have:=(List.mem_replicate.1 this).2;cases this
 ·intro i hi _;exact⟨cZ hi,fun k=>Iff.rfl⟩
 ·intro i k hi hk;obtain⟨B',jB⟩:=hm.some_ i k hk;have ch:=(aT.1 jB).1;exact absurd ch hi
 ·intro i j k hi hj Hf Hg;exact hm.apart i j k Hf Hg
theorem HM.ala {ρ0:Env} (hm:HM D C ρ ft h w) (nk:∀ (b:Nat) (X:SB R),hr[b]?=aa (aa X)->h[b]?=aa (aa X)) {n:Nat}
  (mH:HM D (PS w hr ft ρ0 n) gx ky hx w') (qM:∀ b,b<hx.length->ρ b=gx b) (hle:hx.length≤h.length)
  (hv:∀ (b:Nat) (X:SB R),hx[b]?=aa (aa X)->(b<hr.length->∃ Y,hr[b]?=aa (aa Y))/\(hO X=an∨∃ Y,hr[b]?=aa (aa Y)/\hO Y=ao))
  (hlen:h'.length=h.length)
  (um:∀ (b:Nat),(∃ Y,hr[b]?=aa (aa Y)/\hO Y=an)∨(hr.length≤b/\b<hx.length)->h'[b]?=if b<hx.length then hx[b]? else aa aj)
  (OC:∀ (b:Nat),b<h.length->¬ ((∃ Y,hr[b]?=aa (aa Y)/\hO Y=an)∨(hr.length≤b/\b<hx.length))->h'[b]?=h[b]?) :
  ∃ KC,HM D C ρ KC h' w':=by
 let T:Nat->Prop:=fun b=>(∃ Y,hr[b]?=aa (aa Y)/\hO Y=an)∨(hr.length≤b/\b<hx.length)
 refine⟨fun b k=>(T b/\ky b k)∨(¬ T b/\ft b k),?_⟩
 have eT:∀ {b},T b->(fun k=>(T b/\ky b k)∨(¬ T b/\ft b k))=ky b:=fun {b} hb=>funext fun k=>propext ⟨fun h=>h.elim (fun h=>h.2) (fun h=>absurd hb h.1),fun h=>dK ⟨hb,h⟩⟩
 have afJ:∀ b k,(∃ X,hr[b]?=aa (aa X))->ft b k->∃ j,T j/\ft j k:=fun b k ⟨X,hX⟩ hb=>by
  refine⟨b,dK ⟨X,hX,?_⟩,hb⟩;cases hX2:hO X with
  |false=>rfl
  |true =>
   have:=(hm.at_ b X (nk b X hX)).1;rcases X with⟨t,cs⟩|⟨t,r⟩|r|x<;>simp[hO] at hX2
   exact absurd hb (this.1 k)
 have j8:∀ i B,h'[i]?=aa (aa B)->i<h.length:=fun i B hB=>by
  have:=(aT.1 hB).1;omega
 refine hm.step T ?_ (fun _ _=>rfl) (Nat.le_of_eq hlen.symm) ?_ ?_ ?_ ?_
 ·exact⟨mH.kept.os,mH.kept.tape,mH.kept.output,mH.kept.size,fun k hk hn=>mH.kept.block k hk fun⟨b,hX,hb⟩=>hn (afJ b k hX hb)⟩
 ·intro i B hi hB;have Mi:=hi (j8 i B hB);rw[um i Mi] at hB;split at hB
  ·rename_i ch;obtain⟨g1,g2⟩:=mH.at_ i B hB;have RV:hO B=an:=by
    rcases(hv i B hB).2 with h1|⟨Y,hY,X2⟩
    ·exact h1
    ·rcases Mi with⟨Y',Sf,JD⟩|rM
     ·rw[hY] at Sf;injection Sf with e;injection e with e;subst e;rw[X2] at JD;cases JD
     ·have:=(aT.1 hY).1;omega
   refine⟨?_,Cl (by omega) g2⟩
   show hold D C ρ i (fun k=>(T i/\ky i k)∨(¬ T i/\ft i k)) w' B
   rw[eT Mi];exact yM RV (H2 g1 qM ch g2)
  ·cases hB
 ·intro i hi hn;exact⟨OC i hi hn,fun k=>⟨fun h=>h.elim (fun h=>absurd h.1 hn) (fun h=>h.2),fun h=>e7 ⟨hn,h⟩⟩⟩
 ·intro i k hi hk;have Mi:T i:=by
   rcases hk with h|h
   ·exact h.1
   ·obtain⟨B,hB⟩:=hm.some_ i k h.2;exact hi (aT.1 hB).1
  have nx:ky i k:=hk.elim (fun h=>h.2) (fun h=>absurd Mi h.1)
  refine⟨?_,mH.lt i k nx,?_⟩
  ·rcases mH.fresh i k nx with⟨b,hX,hb⟩|rM
   ·exact dK (afJ b k hX hb)
   ·exact e7 rM
  ·obtain⟨B,hB⟩:=mH.some_ i k nx;refine⟨B,?_⟩;rw[um i Mi,if_pos (aT.1 hB).1];exact hB
 ·intro i j k hi hj Hf Hg;have key:∀ l,(l<h.length->T l)->((T l/\ky l k)∨(¬ T l/\ft l k))->ky l k:=fun l hl uC=>by
   rcases uC with h|h
   ·exact h.2
   ·obtain⟨B,hB⟩:=hm.some_ l k h.2;exact absurd (hl (aT.1 hB).1) h.1
  exact mH.apart i j k (key i hi Hf) (key j hj Hg)
end
mutual
def akA:Value->List Nat
 |.pointer (aa a)=>[a.block]
 |.slice (aa ⟨b,_,aa q⟩) _ _=>match fp (q / 1000000) 0 with
  |true=>[b]
  |false=>[b,q / 1000000-1]
 |.slice (aa a) _ _=>[a.block]
 |.map (aa r)|.chan (aa r)=>[r]
 |.agg ⟨l⟩=>sI l
 |.tuple ⟨l⟩=>sI l
 |.func _ ⟨f⟩ ⟨c⟩=>sI f++sI c
 |.iface _ v=>akA v
 |_=>[]
def sI:List Value->List Nat
 |[]=>[]
 |v::l=>akA v++sI l
end
def mem (l:List Nat) (i:Nat):Bool :=
 match l with
 |[]=>an
 |j::l=>fp j i||mem l i
theorem mem_iff {l:List Nat} {i:Nat}:mem l i=ao↔i∈l:=by
 induction l with
 |nil=>simp[mem]
 |cons j l ih=>simp only[mem,jN,ih,Nat.beq_eq,bO];exact⟨fun h=>h.imp Eq.symm id,fun h=>h.imp Eq.symm id⟩
def tmpsOf:List Operand->List Nat
 |[]=>[]
 |.tmp t::l=>t::tmpsOf l
 |_::l=>tmpsOf l
structure Rec (R:Type) where
 o:Oper
 pre:List Nat
 run:Bool
 v:Value
 lit:Option Bool
 hr:Hp R
 hx:Hp R
 w:Bool
 wl:List (Nat×Nat)
section
variable {R:Type} {D:fJ R} {P:Program} {T:eJ R}
def HX (h:Hp R) (b:Nat):Bool :=
 match h[b]? with
 |some (aa X)=>!hO X
 |_=>an
def newAt (r:Rec R) (b:Nat):Bool:=uI r.hr.length b&&gQ b r.hx.length
def gJ (r:Rec R) (b:Nat):Bool:=r.w&&((HX r.hr b && !Li r.o r.wl b)||newAt r b)
def De (r:Rec R) (b:Nat):Bool:=HX r.hr b||newAt r b
def EL (r:Rec R):Bool:=gQ r.hr.length r.hx.length
def fW {α:Type} (h:List (Option α)) (b:Nat):Option α :=
 match h[b]? with
 |some x=>x
 |none=>aj
def content (p:Nat->Bool) (b:Nat):List (Rec R)->Nat->Option (SB R)->Option (SB R)
 |[],_,acc=>acc
 |r::l,j,acc=>content p b l (j+1) (if p j&&gJ r b then fW r.hx b else acc)
def ff:List (Rec R)->Nat->Nat
 |[],n=>n
 |r::l,n=>ff l (if EL r then r.hx.length else n)
def O0 (recs:List (Rec R)):List Nat->Nat->Bool
 |[],_=>an
 |j::l,b=>(match recs[j]? with
  |some q=>newAt q b
  |none=>an)||O0 recs l b
def BF (n:Nat) (recs:List (Rec R)) (r:Rec R) (b:Nat):Bool:=gQ b n||newAt r b||O0 recs r.pre b
def VF (f:Nat->Bool):Hp R->Bool
 |[]=>ao
 |some (.inl (_,cs))::h=>AA f cs&&VF f h
 |_::h=>VF f h
def allKnown (n:Nat) (all:List (Rec R)):List (Rec R)->Bool
 |[]=>ao
 |r::l=>lX (BF n all r) r.v&&VF (BF n all r) r.hx&&allKnown n all l
def nj:List Oper->Nat->Nat->Option Nat
 |[],_,_=>aj
 |o::l,t,i=>match o.dst with
  |some u=>if fp u t then aa i else nj l t (i+1)
  |none=>nj l t (i+1)
def EV (ops:List Oper) (recs:List (Rec R)) (pre tms:List Nat):Nat->List (Option Value)->List (Option Value)
 |_,[]=>[]
 |t,x::l=>(if mem tms t then
   match nj ops t 0 with
   |some j=>if mem pre j then(match recs[j]? with
    |some r=>aa r.v
    |none=>aj) else if uI recs.length j then x else aj
   |none=>x
  else aj)::EV ops recs pre tms (t+1) l
def Kg (ops:List Oper) (li:List (Nat×Bool)) (recs:List (Rec R)) (pre:List Nat):List Nat->List (Nat×Bool)
 |[]=>[]
 |t::l=>(match nj ops t 0 with
  |some j=>if mem pre j then(match recs[j]? with
   |some r=>(match r.lit with
    |some b=>[(t,b)]
    |none=>[])
   |none=>[]) else[]
  |none=>match look li t with
   |some b=>[(t,b)]
   |none=>[])++Kg ops li recs pre l
def F2:List (Option Value)->List Value
 |[]=>[]
 |some v::l=>v::F2 l
 |none::l=>F2 l
def kT (h0:Hp R) (recs:List (Rec R)) (p:Nat->Bool) (sel:Nat->Bool):Nat->Nat->Hp R
 |_,0=>[]
 |b,n+1=>(if sel b then content p b recs 0 (fW h0 b) else aj)::kT h0 recs p sel (b+1) n
def ins (j:Nat) (l:List Nat):List Nat:=if mem l j then l else j::l
def im:List Nat->List Nat->List Nat
 |[],l=>l
 |j::m,l=>im m (ins j l)
theorem K0 {i j:Nat} {l:List Nat}:i∈ins j l↔i=j∨i∈l:=by
 unfold ins;split
 ·rename_i h;have:=mem_iff.1 h;exact⟨e7,fun h=>h.elim (fun e=>by rw[e];exact this) id⟩
 ·simp
theorem MD {i:Nat}:∀ {m l:List Nat},i∈im m l↔i∈m∨i∈l
 |[],l=>by simp[im]
 |j::m,l=>by
  simp only[im,MD,K0,bO]
  constructor
  ·rintro (h|h|h)
   ·exact dK (e7 h)
   ·exact dK (dK h)
   ·exact e7 h
  ·rintro ((h|h)|h)
   ·exact e7 (dK h)
   ·exact dK h
   ·exact e7 (e7 h)
def Lr (recs:List (Rec R)):List Edge->Option (List Nat)
 |[]=>aa []
 |e::l =>
  match Lr recs l with
  |none=>aj
  |some r=>if KP .any e then(match recs[e.on]? with
   |some q=>aa (ins e.on (im q.pre r))
   |none=>aj) else aa r
def Hs (recs:List (Rec R)) (pre:List Nat) (g:Option (Nat×Bool)):Nat :=
 match g with
 |none=>0
 |some (j,want) =>
  if mem pre j then
   match recs[j]? with
   |some r=>match r.o.dst with
    |some _=>match r.lit with
     |some b=>if b==want then 0 else 1
     |none=>match Lq r.v with
      |true=>1
      |false=>2
    |none=>3
   |none=>3
  else 3
def rC:Hp R->Hp R->Bool
 |[],[]=>ao
 |[],aj::hx=>rC [] hx
 |[],aa X::hx=>!hO X&&rC [] hx
 |_::_,[]=>an
 |none::hr,aj::hx=>rC hr hx
 |none::_,aa _::_=>an
 |some Y::hr,aj::hx=>rC hr hx
 |some Y::hr,aa X::hx=>(!hO X||hO Y)&&rC hr hx
def reach (h:Hp R):Nat->List Nat->List Nat
 |0,l=>l
 |n+1,l=>reach h n (l++sI (l.flatMap fun b=>match fW h b with
  |some (.inl (_,cs))=>cs
  |_=>[]))
def Tw (o:Oper) (B:List Nat) (h:Hp R):List Nat :=
 match o.op with
 |.call ⟨.value _,_,_⟩=>reach h 2 B
 |.call ⟨.invoke _ _,_,_⟩=>reach h 2 B
 |.move _|.assign _|.fieldAddr _ _ _|.nilCheck _|.extract _ _|.makeFunc _ _ _=>[]
 |_=>B
def wJ (ops:List Oper) (cl:SS R) (recs:List (Rec R)) (pre:List Nat) (o:Oper):List (Option Value):=EV ops recs pre (tmpsOf o.op.operands.toList) 0 cl.tm
def X0 (ops:List Oper) (cl:SS R) (recs:List (Rec R)) (pre:List Nat) (o:Oper):Nat->Bool :=
 mem (Tw o (sI (F2 (wJ ops cl recs pre o))) (kT cl.hp recs (mem pre) (fun _=>ao) 0 (ff recs cl.hp.length)))
def ox (ops:List Oper) (cl:SS R) (recs:List (Rec R)) (pre:List Nat) (o:Oper):SS R :=
 ⟨wJ ops cl recs pre o,Kg ops cl.li recs pre (tmpsOf o.op.operands.toList),
  kT cl.hp recs (mem pre) (X0 ops cl recs pre o) 0 (ff recs cl.hp.length)⟩
def afw (n:Nat) (d:Option Tmp):Bool :=
 match d with
 |some t=>gQ t n
 |none=>ao
def EF (cl:SS R) (st:SS R) (o:Oper) (x:Out R):Bool :=
 tidy st o.dst x&&afw cl.tm.length o.dst&&sX st.hp.length st.hp&&iC st.hp.length (F2 st.tm)&&rC st.hp x.hp
def ak0 (vZ:List (Nat×Bool)) (d:Option Tmp):Option Bool :=
 match d with
 |some t=>look vZ t
 |none=>aj
def AY (recs:List (Rec R)) (r:Rec R):List (Rec R):=recs++[r]
def G7 (P:Program) (T:eJ R) (cl:SS R) (vZ:List (Nat×Bool)) (o:Oper) (pre:List Nat) (tm:List (Option Value)) (li:List (Nat×Bool)) (hr:Hp R) (k:Rec R->Prop) (rU:Bool):Prop :=
 match LX P T ⟨tm,li,hr⟩ o rU with
 |none=>n6 21
 |some x =>
  if EF cl ⟨tm,li,hr⟩ o x then
   ZO (Zc (⟨tm,li,hr⟩:SS R) o) x.vc (Mw x.hp fun hx=>fV x.v fun v =>
    match x.lit with
    |some b=>fB b fun b=>fB (!x.wr.isEmpty) fun wr=>k ⟨o,pre,ao,v,aa b,hr,hx,wr,x.wr⟩
    |none=>fB (!x.wr.isEmpty) fun wr=>match ak0 vZ o.dst with
     |some b=>Vc (v=.bool b)/\k ⟨o,pre,ao,.bool b,aa b,hr,hx,wr,x.wr⟩
     |none=>k ⟨o,pre,ao,v,aj,hr,hx,wr,x.wr⟩)
  else n6 22
def CT (P:Program) (T:eJ R) (ops:List Oper) (cl:SS R) (vZ:List (Nat×Bool)) (k:List (Rec R)->Prop) (fk:Nat->Bool->Prop):List Oper->List (Rec R)->Prop
 |[],recs=>k recs
 |o::l,recs =>
  match Lr recs o.after.toList with
  |none=>n6 20
  |some pre=>Wk pre fun pre =>
   match Hs recs pre o.guard with
   |0=>Yd (wJ ops cl recs pre o) fun tm=>fLi (Kg ops cl.li recs pre (tmpsOf o.op.operands.toList)) fun li=>Mw (kT cl.hp recs (mem pre) (fun _=>ao) 0 (ff recs cl.hp.length)) fun hp =>
    Wk (Tw o (sI (F2 tm)) hp) fun sel=>Mw (kT cl.hp recs (mem pre) (mem sel) 0 (ff recs cl.hp.length)) fun hr =>
    match GO P T (⟨tm,li,hr⟩:SS R) o with
    |none=>G7 P T cl vZ o pre tm li hr (fun r=>CT P T ops cl vZ k fk l (AY recs r)) ao
    |some c=>(c=ao->G7 P T cl vZ o pre tm li hr (fun r=>CT P T ops cl vZ k fk l (AY recs r)) ao) /\
     (c=an->G7 P T cl vZ o pre tm li hr (fun r=>CT P T ops cl vZ k fk l (AY recs r)) an)
   |1=>CT P T ops cl vZ k fk l (AY recs ⟨o,pre,an,undef,aj,[],[],an,[]⟩)
   |2 =>
    match o.guard with
    |some (j,_)=>match recs[j]? with
     |some r=>match r.o.dst,r.v with
      |some t,.bool c=>fk t c
      |_,_=>n6 23
     |none=>n6 24
    |none=>n6 25
   |_=>n6 26
def F3 (f:Nat->Bool):Nat->Bool
 |0=>ao
 |n+1=>f n&&F3 f n
def ae6 (a b:Rec R) (n:Nat):Bool:=!F3 (fun i=>!((gJ a i&&De b i)||(gJ b i&&De a i))) n
def abz (i:Nat) (a b:Rec R):Bool :=
 match b.o.dst with
 |some t=>!mem (tmpsOf a.o.op.operands.toList) t||mem b.pre i
 |none=>ao
def Eh (n:Nat) (i j:Nat) (a b:Rec R):Bool :=
 abz i a b&&(match a.o.dst,b.o.dst with
  |some t,aa u=>!fp t u
  |_,_=>ao) &&
 (mem b.pre i || !((a.w||b.w)&&ae6 a b n))
def K8 (n:Nat) (i:Nat) (a:Rec R):Nat->List (Rec R)->Bool
 |_,[]=>ao
 |j,b::l=>Eh n i j a b&&K8 n i a (j+1) l
def BU (n:Nat):Nat->List (Rec R)->Bool
 |_,[]=>ao
 |i,a::l=>K8 n i a (i+1) l&&BU n (i+1) l
def Ir (ops:List Oper) (recs:List (Rec R)):Nat->List (Option Value)->List (Option Value)
 |_,[]=>[]
 |t,x::l=>(match nj ops t 0 with
  |some j=>(match recs[j]? with
   |some r=>aa r.v
   |none=>aj)
  |none=>x)::Ir ops recs (t+1) l
def afh (ops:List Oper) (N:Nat) (recs:List (Rec R)) (li:List (Nat×Bool)):List (Nat×Bool) :=
 (recs.flatMap fun r=>match r.o.dst,r.lit with
  |some t,aa b=>if gQ t N then[(t,b)] else[]
  |_,_=>[])++li.filter fun q=>match nj ops q.1 0 with
   |some _=>an
   |none=>ao
def Am (ops:List Oper) (cl:SS R) (recs:List (Rec R)):SS R :=
 ⟨Ir ops recs 0 cl.tm,afh ops cl.tm.length recs cl.li,kT cl.hp recs (fun _=>ao) (fun _=>ao) 0 (ff recs cl.hp.length)⟩
def D' (P:Program) (T:eJ R) (ops:List Oper) (cl:SS R) (k:SS R->Prop):Nat->List (Nat×Bool)->Prop
 |0,_=>n6 27
 |n+1,vZ=>CT P T ops cl vZ
   (fun recs=>if BU (ff recs cl.hp.length) 0 recs&&allKnown cl.hp.length recs recs then I8 (Am ops cl recs) k else n6 28)
   (fun t c=>(c=ao->D' P T ops cl k n ((t,ao)::vZ))/\(c=an->D' P T ops cl k n ((t,an)::vZ))) ops []
end
end Rx
namespace Rx
open Go.RowKit State
section
variable {R:Type} {D:fJ R} {P:Program} {T:eJ R}
theorem jn {h0:Hp R} {recs:List (Rec R)} {p sel:Nat->Bool}:∀ (n b i:Nat),(kT h0 recs p sel b n).length=n/\(i<n->(kT h0 recs p sel b n)[i]?=aa (if sel (b+i) then content p (b+i) recs 0 (fW h0 (b+i)) else aj))
 |0,b,i=>⟨rfl,fun h=>by omega⟩
 |n+1,b,i=>by
  obtain⟨h1,h2⟩:=jn (h0:=h0) (recs:=recs) (p:=p) (sel:=sel) n (b+1) (i-1);refine⟨by simp[kT,h1],fun h=>?_⟩
  cases i with
  |zero=>simp[kT]
  |succ i =>
   simp only[kT,bH];have:=h2 (by omega)
   simp only[mi] at this;rw[this,show b+1+i=b+(i+1) by omega]
theorem vP {p q:Nat->Bool} {b:Nat}:∀ (recs:List (Rec R)) (j0:Nat) (acc:Option (SB R)),(∀ j r,recs[j]?=aa r->gJ r b=ao->p (j0+j)=q (j0+j))->content p b recs j0 acc=content q b recs j0 acc
 |[],_,_,_=>rfl
 |r::l,j0,acc,h=>by
  simp only[content];have h0:=h 0 r (by simp)
  have e:(p j0&&gJ r b)=(q j0&&gJ r b):=by
   cases ht:gJ r b with
   |false=>simp
   |true=>rw[← gR j0,h0 ht]
  rw[e];exact vP l (j0+1) _ fun j r' hj ht=>by
   have:=h (j+1) r' (by simpa using hj) ht
   rwa [show j0+(j+1)=j0+1+j by omega] at this
theorem JC {p:Nat->Bool} {b:Nat}:∀ (recs:List (Rec R)) (j0:Nat) (acc:Option (SB R)) (i:Nat) (r:Rec R),recs[i]?=aa r->p (j0+i)=ao->gJ r b=ao ->
  (∀ j r',recs[j]?=aa r'->i<j->p (j0+j)=ao->gJ r' b=an)->content p b recs j0 acc=fW r.hx b
 |[],_,_,i,r,hi,_,_,_=>by simp at hi
 |r0::l,j0,acc,i,r,hi,hp,ht,hn=>by
  simp only[content];cases i with
  |zero =>
   simp only[cd,ct] at hi;subst hi;rw[gR] at hp;simp only[hp,ht,Ta,if_true];have:∀ (l:List (Rec R)) (j1:Nat) (acc:Option (SB R)),(∀ j r',l[j]?=aa r'->p (j1+j)=ao->gJ r' b=an)->content p b l j1 acc=acc:=by
    intro l
    induction l with
    |nil=>intro j1 acc _;rfl
    |cons r' l ih =>
     intro j1 acc h;simp only[content];have h0:=h 0 r' (by simp)
     have e:(p j1&&gJ r' b)=an:=by
      cases xb:p j1 with
      |false=>simp
      |true=>simp[h0 (by rw[gR];exact xb)]
     rw[e];exact ih (j1+1) acc fun j r'' hj Sy=>h (j+1) r'' (by simpa using hj) (by rwa [show j1+(j+1)=j1+1+j by omega])
   exact this l (j0+1) _ fun j r' hj Sy=>hn (j+1) r' (by simpa using hj) (by omega) (by rwa [show j0+(j+1)=j0+1+j by omega])
  |succ i =>
   simp only[bH] at hi;exact JC l (j0+1) _ i r hi (by rwa [show j0+1+i=j0+(i+1) by omega]) ht fun j r' hj ch Sy=>hn (j+1) r' (by simpa using hj) (by omega) (by rwa [show j0+(j+1)=j0+1+j by omega])
theorem uv {p:Nat->Bool} {b:Nat}:∀ (recs:List (Rec R)) (j0:Nat) (acc:Option (SB R)),content p b recs j0 acc=acc∨∃ i r,recs[i]?=aa r/\p (j0+i)=ao/\gJ r b=ao/\content p b recs j0 acc=fW r.hx b
 |[],_,_=>dK rfl
 |r::l,j0,acc=>by
  simp only[content];rcases uv (p:=p) (b:=b) l (j0+1) (if p j0&&gJ r b then fW r.hx b else acc) with h|⟨i,r',h1,h2,h3,h4⟩
  ·cases hc:(p j0&&gJ r b) with
   |false=>rw[hc] at h;left;simpa using h
   |true =>
    rw[hc] at h;simp only[aM] at hc;exact e7 ⟨0,r,by simp,by simpa using hc.1,hc.2,by simpa using h⟩
  ·exact e7 ⟨i+1,r',by simpa using h1,by rwa [show j0+(i+1)=j0+1+i by omega],h3,h4⟩
theorem J0 {p:Nat->Bool} {b:Nat}:∀ (recs:List (Rec R)) (i j0:Nat) (acc:Option (SB R)),(∀ j,i≤j->p (j0+j)=an)->content p b (recs.take i) j0 acc=content p b recs j0 acc
 |[],i,j0,acc,_=>by simp
 |r::l,0,j0,acc,h=>by
  simp only[r_];have:content p b (r::l) j0 acc=content (fun _=>an) b (r::l) j0 acc:=vP _ _ _ fun j _ _ _=>h j (by omega)
  rw[this];have key:∀ (l:List (Rec R)) (j1:Nat),content (fun _=>an) b l j1 acc=acc:=fun l=>by
   induction l with
   |nil=>intro _;rfl
   |cons r l ih=>intro j1;simp only[content,Cd,fP,if_false];exact ih _
  rw[key]
  rfl
 |r::l,i+1,j0,acc,h=>by
  simp only[List.take_succ_cons,content];exact J0 l i (j0+1) _ fun j hj=>by have:=h (j+1) (by omega);rwa [show j0+(j+1)=j0+1+j by omega] at this
theorem WT (l:List (Rec R)) (r:Rec R) (n:Nat):ff (l++[r]) n=if EL r then r.hx.length else ff l n:=by
 induction l generalizing n with
 |nil=>rfl
 |cons a l ih=>simp only[List.cons_append,ff,ih]
theorem Pk {recs:List (Rec R)} {b:Nat}:∀ {l:List Nat},O0 recs l b=ao->∃ j q,j∈l/\recs[j]?=aa q/\newAt q b=ao
 |[],h=>by cases h
 |j::l,h=>by
  simp only[O0,jN] at h;rcases h with h|h
  ·split at h
   ·rename_i q hq;exact⟨j,q,bL,hq,h⟩
   ·cases h
  ·obtain⟨j',q,h1,h2,h3⟩:=Pk h;exact⟨j',q,eo _ h1,h2,h3⟩
theorem XB {f:Nat->Bool}:∀ {h:Hp R} {b:Nat} {t:TypeId} {cs:List Value},VF f h=ao->h[b]?=aa (aa (.inl (t,cs)))->AA f cs=ao
 |[],b,t,cs,_,hb=>by simp at hb
 |x::h,b,t,cs,hk,hb=>by
  have hr:VF f h=ao/\(b=0->AA f cs=ao):=by
   rcases x with _|⟨t',CF⟩|⟨t',ro⟩|ro|x
   ·exact⟨hk,fun e=>by subst e;simp at hb⟩
   ·simp only[VF,aM] at hk;refine⟨hk.2,fun e=>?_⟩
    subst e;simp only[cd,ct,Sum.inl.injEq,te] at hb;rw[← hb.2];exact hk.1
   ·exact⟨hk,fun e=>by subst e;simp at hb⟩
   ·exact⟨hk,fun e=>by subst e;simp at hb⟩
   ·exact⟨hk,fun e=>by subst e;simp at hb⟩
  cases b with
  |zero=>exact hr.2 rfl
  |succ b=>simp only[bH] at hb;exact XB hr.1 hb
theorem Fc {n:Nat} {all:List (Rec R)}:∀ {l:List (Rec R)} {i:Nat} {r:Rec R},allKnown n all l=ao->l[i]?=aa r->lX (BF n all r) r.v=ao/\VF (BF n all r) r.hx=ao
 |[],i,r,_,h=>by simp at h
 |r0::l,i,r,h,hi=>by
  simp only[allKnown,aM] at h;cases i with
  |zero=>simp only[cd,ct] at hi;subst hi;exact h.1
  |succ i=>simp only[bH] at hi;exact Fc h.2 hi
theorem FQ {recs:List (Rec R)}:∀ {es:List Edge} {pre:List Nat},Lr recs es=aa pre->(∀ e∈es,KP .any e=ao->e.on∈pre) /\
  ∀ j∈pre,∃ e∈es,KP .any e=ao/\∃ q,recs[e.on]?=aa q/\(j=e.on∨j∈q.pre)
 |[],pre,h=>by
  simp only[Lr] at h;injection h with h
  subst h;exact⟨(fun e he=>by cases he),fun j hj=>by cases hj⟩
 |e::l,pre,h=>by
  simp only[Lr] at h;split at h
  ·cases h
  ·rename_i r hr;obtain⟨h1,h2⟩:=FQ hr;split at h
   ·rename_i hb;split at h
    ·rename_i q hq;injection h with h
     subst h;refine⟨fun e' vK qh=>?_,fun j hj=>?_⟩
     ·rcases bO.1 vK with rfl|vK
      ·exact K0.2 (dK rfl)
      ·exact K0.2 (e7 (MD.2 (e7 (h1 e' vK qh))))
     ·rcases K0.1 hj with rfl|hj
      ·exact⟨e,bL,hb,q,hq,dK rfl⟩
      ·rcases MD.1 hj with hj|hj
       ·exact⟨e,bL,hb,q,hq,e7 hj⟩
       ·obtain⟨e',g1,g2,g3⟩:=h2 j hj;exact⟨e',eo _ g1,g2,g3⟩
    ·cases h
   ·rename_i hb;injection h with h
    subst h;refine⟨fun e' vK qh=>?_,fun j hj=>?_⟩
    ·rcases bO.1 vK with rfl|vK
     ·exact absurd qh hb
     ·exact h1 e' vK qh
    ·obtain⟨e',g1,g2,g3⟩:=h2 j hj;exact⟨e',eo _ g1,g2,g3⟩
theorem WO {ops:List Oper}:∀ {t i0 j:Nat},nj ops t i0=aa j->∃ k o,j=i0+k/\ops[k]?=aa o/\o.dst=aa t:=by
 induction ops with
 |nil=>intro t i0 j h;cases h
 |cons o l ih =>
  intro t i0 j h;simp only[nj] at h;split at h
  ·rename_i u hu;split at h
   ·rename_i hb;injection h with h
    have:=cO hb;subst this;exact⟨0,o,by omega,by simp,hu⟩
   ·obtain⟨k,o',h1,h2,h3⟩:=ih h;exact⟨k+1,o',by omega,by simpa using h2,h3⟩
  ·obtain⟨k,o',h1,h2,h3⟩:=ih h;exact⟨k+1,o',by omega,by simpa using h2,h3⟩
theorem Wq {ops:List Oper}:∀ {t i0 k:Nat} {o:Oper},ops[k]?=aa o->o.dst=aa t->(∀ j o',ops[j]?=aa o'->j<k->o'.dst≠aa t)->nj ops t i0=aa (i0+k):=by
 induction ops with
 |nil=>intro t i0 k o h;simp at h
 |cons o0 l ih =>
  intro t i0 k o h hd hn;simp only[nj];cases k with
  |zero =>
   simp only[cd,ct] at h;subst h;simp[hd]
  |succ k =>
   simp only[bH] at h;have h0:=hn 0 o0 (by simp) (by omega)
   have rest:=ih (i0:=i0+1) h hd fun j o' hj ch=>hn (j+1) o' (by simpa using hj) (by omega)
   rw[show i0+1+k=i0+(k+1) by omega] at rest
   cases hu:o0.dst with
   |none=>simp only;exact rest
   |some u =>
    simp only;have:fp u t=an:=by
     cases hb:fp u t with
     |false=>rfl
     |true=>exact absurd (by rw[hu,cO hb]) h0
    rw[this];exact rest
theorem IM {ops:List Oper} {recs:List (Rec R)} {pre tms:List Nat}:∀ {l:List (Option Value)} {t0 i:Nat} {v:Value},(EV ops recs pre tms t0 l).length=l.length /\
  ((EV ops recs pre tms t0 l)[i]?=aa (aa v)->t0+i∈tms/\((∃ j r,nj ops (t0+i) 0=aa j/\j∈pre/\recs[j]?=aa r/\v=r.v)∨(nj ops (t0+i) 0=aj/\l[i]?=aa (aa v))∨(∃ j,nj ops (t0+i) 0=aa j/\recs.length≤j/\l[i]?=aa (aa v)))):=by
 intro l
 induction l with
 |nil=>intro t0 i v;exact⟨rfl,fun h=>by simp[EV] at h⟩
 |cons x l ih =>
  intro t0 i v;obtain⟨h1,_⟩:=ih (t0:=t0+1) (i:=i) (v:=v);refine⟨by simp[EV,h1],fun h=>?_⟩
  cases i with
  |zero =>
   simp only[EV,cd,ct,gR] at h ⊢;split at h
   ·rename_i hm;refine⟨mem_iff.1 hm,?_⟩;split at h
    ·rename_i j hj;split at h
     ·rename_i Sy;split at h
      ·rename_i r hr;injection h with h
       exact dK ⟨j,r,hj,mem_iff.1 Sy,hr,h.symm⟩
      ·cases h
     ·split at h
      ·rename_i hle;exact e7 (e7 ⟨j,hj,jE hle,h⟩)
      ·cases h
    ·rename_i hj;exact e7 (dK ⟨hj,h⟩)
   ·cases h
  |succ i =>
   simp only[EV,bH] at h ⊢;obtain⟨_,h2⟩:=ih (t0:=t0+1) (i:=i) (v:=v);have:=h2 h
   rwa [show t0+1+i=t0+(i+1) by omega] at this
theorem ac0 {ops:List Oper} {li:List (Nat×Bool)} {recs:List (Rec R)} {pre:List Nat}:∀ {l:List Nat} {t:Nat} {b:Bool},(t,b)∈Kg ops li recs pre l ->
  t∈l/\((∃ j r,nj ops t 0=aa j/\j∈pre/\recs[j]?=aa r/\r.lit=aa b)∨(nj ops t 0=aj/\(t,b)∈li)):=by
 intro l
 induction l with
 |nil=>intro t b h;cases h
 |cons u l ih =>
  intro t b h;simp only[Kg] at h;rcases b7.1 h with h|h
  ·split at h
   ·rename_i j hj;split at h
    ·rename_i hp;split at h
     ·rename_i r hr;split at h
      ·rename_i b' qh;simp only[ib,te] at h;obtain⟨rfl,rfl⟩:=h;exact⟨bL,dK ⟨j,r,hj,mem_iff.1 hp,hr,qh⟩⟩
      ·cases h
     ·cases h
    ·cases h
   ·rename_i hj;split at h
    ·rename_i b' qh;simp only[ib,te] at h;obtain⟨rfl,rfl⟩:=h;exact⟨bL,e7 ⟨hj,NL qh⟩⟩
    ·cases h
  ·obtain⟨h1,h2⟩:=ih h;exact⟨eo _ h1,h2⟩
theorem acu {l:List (Option Value)} {v:Value}:∀ {i:Nat},l[i]?=aa (aa v)->v∈F2 l:=by
 induction l with
 |nil=>intro i h;simp at h
 |cons x l ih =>
  intro i h;cases i with
  |zero =>
   simp only[cd,ct] at h;subst h;exact bL
  |succ i =>
   simp only[bH] at h;cases x with
   |none=>exact ih h
   |some u=>exact eo _ (ih h)
theorem rO:∀ {hr hx:Hp R} {b:Nat} {X:SB R},rC hr hx=ao->hr.length≤hx.length/\(hx[b]?=aa (aa X)->(b<hr.length->∃ Y,hr[b]?=aa (aa Y))/\(hO X=an∨∃ Y,hr[b]?=aa (aa Y)/\hO Y=ao))
 |[],[],b,X,_=>⟨a_ _,fun h=>by simp at h⟩
 |[],aj::hx,b,X,h=>by
  simp only[rC] at h;have ih:=fun b=>rO (b:=b) (X:=X) h
  refine⟨by simp,fun hb=>⟨fun ch=>by simp at ch,?_⟩⟩
  cases b with
  |zero=>simp at hb
  |succ b =>
   simp only[bH] at hb;rcases((ih b).2 hb).2 with h1|⟨Y,hY,_⟩
   ·exact dK h1
   ·simp at hY
 |[],aa X'::hx,b,X,h=>by
  simp only[rC,aM,mP] at h;have ih:=fun b=>rO (b:=b) (X:=X) h.2
  refine⟨by simp,fun hb=>⟨fun ch=>by simp at ch,?_⟩⟩
  cases b with
  |zero =>
   simp only[cd,ct] at hb;subst hb;exact dK h.1
  |succ b =>
   simp only[bH] at hb;rcases((ih b).2 hb).2 with h1|⟨Y,hY,_⟩
   ·exact dK h1
   ·simp at hY
 |_::_,[],b,X,h=>by simp[rC] at h
 |none::hr,aj::hx,b,X,h=>by
  simp only[rC] at h;have ih:=fun b=>rO (b:=b) (X:=X) h
  refine⟨by have:=(ih 0).1;simpa using this,fun hb=>?_⟩
  cases b with
  |zero=>simp at hb
  |succ b=>simp only[bH,cy] at hb ⊢;exact⟨fun ch=>((ih b).2 hb).1 (by omega),((ih b).2 hb).2⟩
 |none::_,aa _::_,b,X,h=>by simp[rC] at h
 |some Y::hr,aj::hx,b,X,h=>by
  simp only[rC] at h;have ih:=fun b=>rO (b:=b) (X:=X) h
  refine⟨by have:=(ih 0).1;simpa using this,fun hb=>?_⟩
  cases b with
  |zero=>simp at hb
  |succ b=>simp only[bH,cy] at hb ⊢;exact⟨fun ch=>((ih b).2 hb).1 (by omega),((ih b).2 hb).2⟩
 |some Y::hr,aa X'::hx,b,X,h=>by
  simp only[rC,aM,jN,mP] at h;have ih:=fun b=>rO (b:=b) (X:=X) h.2
  refine⟨by have:=(ih 0).1;simpa using this,fun hb=>?_⟩
  cases b with
  |zero =>
   simp only[cd,ct] at hb;subst hb;exact⟨fun _=>⟨Y,by simp⟩,h.1.imp id fun hv=>⟨Y,by simp,hv⟩⟩
  |succ b=>simp only[bH,cy] at hb ⊢;exact⟨fun ch=>((ih b).2 hb).1 (by omega),((ih b).2 hb).2⟩
theorem zL {f:Nat->Bool}:∀ {n i:Nat},F3 f n=ao->i<n->f i=ao
 |0,i,_,h=>by omega
 |n+1,i,h,hi=>by
  simp only[F3,aM] at h
  by_cases he:i=n
  ·rw[he];exact h.1
  ·exact zL h.2 (by omega)
theorem Mb {n i:Nat} {a:Rec R}:∀ {l:List (Rec R)} {j k:Nat} {b:Rec R},K8 n i a j l=ao->l[k]?=aa b->Eh n i (j+k) a b=ao
 |[],j,k,b,_,h=>by simp at h
 |b0::l,j,k,b,h,hk=>by
  simp only[K8,aM] at h;cases k with
  |zero=>simp only[cd,ct] at hk;subst hk;exact h.1
  |succ k =>
   simp only[bH] at hk;have:=Mb h.2 hk
   rwa [show j+1+k=j+(k+1) by omega] at this
theorem KH {n:Nat}:∀ {l:List (Rec R)} {i0 i j:Nat} {a b:Rec R},BU n i0 l=ao->l[i]?=aa a->l[j]?=aa b->i<j->Eh n (i0+i) (i0+j) a b=ao
 |[],_,i,j,a,b,_,h,_,_=>by simp at h
 |a0::l,i0,i,j,a,b,h,hi,hj,ch=>by
  simp only[BU,aM] at h;cases j with
  |zero=>omega
  |succ j =>
   simp only[bH] at hj;cases i with
   |zero =>
    simp only[cd,ct] at hi;subst hi;have:=Mb h.1 hj
    rwa [show i0+1+j=i0+(j+1) by omega] at this
   |succ i =>
    simp only[bH] at hi;have:=KH h.2 hi hj (by omega)
    rwa [show i0+1+i=i0+(i+1) by omega,show i0+1+j=i0+(j+1) by omega] at this
end
end Rx
namespace Rx
open Go.RowKit State
section
variable {R:Type} {D:fJ R} {P:Program} {T:eJ R}
structure afk (P:Program) (T:eJ R) (ops:List Oper) (cl:SS R) (ahead:List (Rec R)) (i:Nat) (r:Rec R):Prop where
 o:ops[i]?=aa r.o
 pre:Lr ahead r.o.after.toList=aa r.pre
 YA:(Hs ahead r.pre r.o.guard=1/\r.v=undef/\r.lit=aj/\r.hr=[]/\r.hx=[]/\r.w=an) ∨
  (Hs ahead r.pre r.o.guard=0/\∃ x,(∃ b,goes (GO P T (ox ops cl ahead r.pre r.o) r.o) b/\LX P T (ox ops cl ahead r.pre r.o) r.o b=aa x)/\EF cl (ox ops cl ahead r.pre r.o) r.o x=ao/\x.vc /\
   r.v=x.v/\(∀ b,r.lit=aa b->x.lit=aa b∨x.v=.bool b)/\r.hr=(ox ops cl ahead r.pre r.o).hp/\r.hx=x.hp/\r.w = !x.wr.isEmpty/\r.wl=x.wr)
def C5 (P:Program) (T:eJ R) (ops:List Oper) (cl:SS R) (recs:List (Rec R)):Prop:=∀ i r,recs[i]?=aa r->afk P T ops cl (recs.take i) i r
theorem C5.add {ops:List Oper} {cl:SS R} {recs:List (Rec R)} {r:Rec R} (h:C5 P T ops cl recs) (hr:afk P T ops cl recs recs.length r):C5 P T ops cl (AY recs r):=by
 intro i q hq;unfold AY at hq ⊢;rcases cr i recs.length with ch|j6
 ·rw[cZ ch] at hq;rw[Bm (by omega)]
  exact h i q hq
 ·rw[dS j6] at hq;have:i=recs.length:=by
   rcases cr recs.length i with ch|hle
   ·rw[dc (by simp;omega)] at hq;cases hq
   ·omega
  subst this;simp at hq;subst hq;rw[List.take_left']
  ·exact hr
  ·rfl
theorem aee {e:Bool} {p q:Prop} (h:ZO e p q) (he:e=ao->p):p/\q:=by
 cases e with
 |true=>exact⟨he rfl,h⟩
 |false=>exact⟨h.1.out,h.2⟩
theorem C8 {ops:List Oper} {cl:SS R} {vZ:List (Nat×Bool)} {k:List (Rec R)->Prop} {fk:Nat->Bool->Prop}:∀ (l:List Oper) {recs:List (Rec R)},ops.drop recs.length=l->C5 P T ops cl recs ->
  CT P T ops cl vZ k fk l recs->(∃ IS,IS.length=ops.length/\C5 P T ops cl IS/\k IS)∨∃ t c,fk t c
 |[],recs,hl,ux,h=>by
  rcases cr recs.length ops.length with ch|j6
  ·exact absurd hl (by rw[IV];omega)
  ·-- not aoz apw the alF
   refine dK ⟨recs,?_,ux,h⟩;rcases cr ops.length recs.length with ch|hle
   ·have hq:recs[ops.length]?=aa (recs[ops.length]):=bd ch;have:=(ux _ _ hq).o;rw[dc (a_ _)] at this;cases this
   ·omega
 |o::l,recs,hl,ux,h=>by
  have ho:ops[recs.length]?=aa o:=by
   have:=congrArg (fun m=>m[0]?) hl
   simpa [oH] using this
  have Tk:∀ r:Rec R,ops.drop (AY recs r).length=l:=fun r=>by
   unfold AY;rw[bF,qZ,← sc,hl]
   rfl
  simp only[CT,UO,abr,abV,JH] at h;split at h
  ·exact h.elim
  ·rename_i pre hp;have yq:(⟨wJ ops cl recs pre o,Kg ops cl.li recs pre (tmpsOf o.op.operands.toList),kT cl.hp recs (mem pre) (mem (Tw o (sI (F2 (wJ ops cl recs pre o))) (kT cl.hp recs (mem pre) (fun _=>ao) 0 (ff recs cl.hp.length)))) 0 (ff recs cl.hp.length)⟩:SS R)=ox ops cl recs pre o:=rfl
   have hsh:kT cl.hp recs (mem pre) (mem (Tw o (sI (F2 (wJ ops cl recs pre o))) (kT cl.hp recs (mem pre) (fun _=>ao) 0 (ff recs cl.hp.length)))) 0 (ff recs cl.hp.length)=(ox ops cl recs pre o).hp:=rfl
   simp only[yq] at h;simp only[hsh] at h;split at h
   ·rename_i hg
    have one:∀ b,goes (GO P T (ox ops cl recs pre o) o) b->G7 P T cl vZ o pre (wJ ops cl recs pre o) (Kg ops cl.li recs pre (tmpsOf o.op.operands.toList)) (ox ops cl recs pre o).hp (fun r=>CT P T ops cl vZ k fk l (AY recs r)) b ->
      (∃ IS,IS.length=ops.length/\C5 P T ops cl IS/\k IS)∨∃ t c,fk t c:=by
     intro rU Nk h;simp only[G7,JH,YO,aeX] at h;have YL:(⟨wJ ops cl recs pre o,Kg ops cl.li recs pre (tmpsOf o.op.operands.toList),(ox ops cl recs pre o).hp⟩:SS R)=ox ops cl recs pre o:=rfl;simp only[YL] at h;split at h
     ·exact h.elim
     ·rename_i x hx;split at h
      ·rename_i hs;obtain⟨O7,h⟩:=aee h (Yo hx);split at h
       ·rename_i b hb;exact C8 l (Tk _) (ux.add ⟨ho,hp,e7 ⟨hg,x,⟨rU,Nk,hx⟩,hs,O7,rfl,(fun c hc=>dK (by rw[hb];exact hc)),rfl,rfl,rfl,rfl⟩⟩) h
       ·rename_i hb;split at h
        ·rename_i b Jc;exact C8 l (Tk _) (ux.add ⟨ho,hp,e7 ⟨hg,x,⟨rU,Nk,hx⟩,hs,O7,h.1.out.symm,(fun c hc=>e7 (by injection hc with hc;subst hc;exact h.1.out)),rfl,rfl,rfl,rfl⟩⟩) h.2
        ·exact C8 l (Tk _) (ux.add ⟨ho,hp,e7 ⟨hg,x,⟨rU,Nk,hx⟩,hs,O7,rfl,(fun c hc=>by cases hc),rfl,rfl,rfl,rfl⟩⟩) h
      ·exact h.elim
    split at h
    ·rename_i hf;exact one ao (dK ⟨hf,rfl⟩) h
    ·rename_i c hf;cases c with
     |true=>exact one ao (e7 hf) (h.1 rfl)
     |false=>exact one an (e7 hf) (h.2 rfl)
   ·rename_i hg;exact C8 l (Tk _) (ux.add ⟨ho,hp,dK ⟨hg,rfl,rfl,rfl,rfl,rfl⟩⟩) h
   ·split at h
    ·split at h
     ·split at h
      ·exact e7 ⟨_,_,h⟩
      ·exact h.elim
     ·exact h.elim
    ·exact h.elim
   ·exact h.elim
theorem J3 {ops:List Oper} {cl:SS R} {k:SS R->Prop}:∀ (n:Nat) {vZ:List (Nat×Bool)},D' P T ops cl k n vZ ->
  ∃ recs,recs.length=ops.length/\C5 P T ops cl recs/\BU (ff recs cl.hp.length) 0 recs=ao/\allKnown cl.hp.length recs recs=ao/\k (Am ops cl recs)
 |0,vZ,h=>h.elim
 |n+1,vZ,h=>by
  simp only[D',Ka] at h;rcases C8 ops (recs:=[]) rfl (fun i r hr=>by simp at hr) h with⟨recs,h1,h2,h3⟩|⟨t,c,h3⟩
  ·split at h3
   ·rename_i hb;rw[aM] at hb;exact⟨recs,h1,h2,hb.1,hb.2,h3⟩
   ·exact h3.elim
  ·cases c with
   |true=>exact J3 n (h3.1 rfl)
   |false=>exact J3 n (h3.2 rfl)
structure Good (P:Program) (T:eJ R) (ops:List Oper) (cl:SS R) (recs:List (Rec R)):Prop where
 len:recs.length=ops.length
 all:C5 P T ops cl recs
 ald:BU (ff recs cl.hp.length) 0 recs=ao
 known:allKnown cl.hp.length recs recs=ao
variable {ops:List Oper} {cl:SS R} {recs:List (Rec R)}
theorem Good.OP (g:Good P T ops cl recs):∀ (i:Nat) {r:Rec R} {j:Nat},recs[i]?=aa r->j∈r.pre->j<i:=by
 intro i
 induction i using tC with
 |_ i ih =>
  intro r j hr hj;obtain⟨_,h2⟩:=FQ (g.all i r hr).pre;obtain⟨e,_,_,q,hq,UK⟩:=h2 j hj;have ch:e.on<i:=by
   have:=(aT.1 hq).1;rw[dQ] at this;omega
  rcases UK with rfl|UK
  ·exact ch
  ·have:=ih e.on ch (r:=q) (j:=j) (by rw[Fo ch] at hq;exact hq) UK
   omega
theorem Good.ai1 (g:Good P T ops cl recs) {i:Nat} {r:Rec R} (hr:recs[i]?=aa r):∀ j,i≤j->mem r.pre j=an:=fun j hj=>by
 cases hm:mem r.pre j with
 |false=>rfl
 |true=>have:=g.OP i hr (mem_iff.1 hm);omega
theorem Good.pair (g:Good P T ops cl recs) {i j:Nat} {a b:Rec R} (hi:recs[i]?=aa a) (hj:recs[j]?=aa b) (ch:i<j):Eh (ff recs cl.hp.length) i j a b=ao:=by
 have:=KH g.ald hi hj ch
 simpa using this
theorem DF {r:Rec R}:EL r=ao↔r.hr.length<r.hx.length:=by simp[EL,fe]
theorem zT {r:Rec R} {b:Nat}:newAt r b=ao↔r.hr.length≤b/\b<r.hx.length:=by simp[newAt,fe]
theorem qG {h:Hp R} {b:Nat}:HX h b=ao↔∃ X,h[b]?=aa (aa X)/\hO X=an:=by
 unfold HX
 constructor
 ·intro hh;split at hh
  ·rename_i X hX;exact⟨X,hX,by simpa using hh⟩
  ·cases hh
 ·intro⟨X,hX,hv⟩;rw[hX];simp[hv]
theorem Good.hr (g:Good P T ops cl recs) {i:Nat} {r:Rec R} (hr:recs[i]?=aa r):r.hr=[]/\r.hx=[]/\r.w=an ∨
  ∃ sel,r.hr=kT cl.hp recs (mem r.pre) sel 0 (ff (recs.take i) cl.hp.length):=by
 rcases(g.all i r hr).YA with⟨_,_,_,h1,h2,h3⟩|⟨_,x,_,_,_,_,_,h1,_,_⟩
 ·exact dK ⟨h1,h2,h3⟩
 ·refine e7 ⟨X0 ops cl (recs.take i) r.pre r.o,?_⟩;rw[h1];simp only[ox];have hz:∀ j,i≤j->mem r.pre (0+j)=an:=fun j hj=>by rw[bU];exact g.ai1 hr j hj
  apply nQ;intro b;rcases cr b (ff (recs.take i) cl.hp.length) with ch|j6
  ·rw[(jn _ 0 b).2 ch,(jn _ 0 b).2 ch,J0 recs i 0 _ hz]
  ·rw[dc (by rw[(jn _ 0 0).1];exact j6),dc (by rw[(jn _ 0 0).1];exact j6)]
theorem Good.EI (g:Good P T ops cl recs) {i b:Nat} {r:Rec R} {X:SB R} (hr:recs[i]?=aa r) (hb:r.hr[b]?=aa (aa X)) :
  b<ff (recs.take i) cl.hp.length/\content (mem r.pre) b recs 0 (fW cl.hp b)=aa X:=by
 rcases g.hr hr with⟨h1,_⟩|⟨sel,h1⟩
 ·rw[h1] at hb;simp at hb
 ·rw[h1] at hb;have ch:b<ff (recs.take i) cl.hp.length:=by
   have:=(aT.1 hb).1
   rwa [(jn _ 0 0).1] at this
  rw[(jn _ 0 b).2 ch,bU] at hb;refine⟨ch,?_⟩;split at hb
  ·injection hb
  ·cases hb
theorem Good.hx (g:Good P T ops cl recs) {i:Nat} {r:Rec R} (hr:recs[i]?=aa r) (hT:cN D P T):r.hr.length≤r.hx.length/\(r.w=an->r.hx=r.hr) /\
  ∀ (b:Nat) (X:SB R),r.hx[b]?=aa (aa X)->(b<r.hr.length->∃ Y,r.hr[b]?=aa (aa Y))/\(hO X=an∨∃ Y,r.hr[b]?=aa (aa Y)/\hO Y=ao):=by
 rcases(g.all i r hr).YA with⟨_,_,_,h1,h2,h3⟩|⟨_,x,hx,hs,_,_,_,h1,h2,h3,_⟩
 ·refine⟨by rw[h1,h2];exact a_ _,fun _=>by rw[h1,h2],fun b X hb=>?_⟩
  rw[h2] at hb;simp at hb
 ·simp only[EF,aM] at hs;have hb:=fun b X=>rO (b:=b) (X:=X) hs.2
  rw[h1,h2];refine⟨(hs.2 |> rO (b:=0) (X:=.inl (0,[]))).1,fun hw=>?_,fun b X=>(hb b X).2⟩
  obtain⟨rU,_,hx⟩:=hx;refine abD hT hx ?_;rw[h3] at hw
  simpa using hw
theorem Good.kept (g:Good P T ops cl recs) {i:Nat} {r:Rec R} (hr:recs[i]?=aa r) (hT:cN D P T) {b:Nat} (hb:b<r.hr.length) (hk:Li r.o r.wl b=ao):r.hx[b]?=r.hr[b]?:=by
 rcases(g.all i r hr).YA with⟨_,_,_,h1,h2,h3⟩|⟨_,x,hx,hs,_,_,_,h1,h2,_,h4⟩
 ·rw[h1,h2]
 ·obtain⟨rU,_,hx⟩:=hx;rw[h1] at hb;rw[h1,h2];rw[h4] at hk;exact ac4 hT hx b hb hk
theorem Good.acd (g:Good P T ops cl recs) {i:Nat} {r:Rec R} (hr:recs[i]?=aa r) (h:EL r=ao∨r.w=ao):r.hr.length=ff (recs.take i) cl.hp.length:=by
 rcases g.hr hr with⟨h1,h2,h3⟩|⟨sel,h1⟩
 ·rcases h with h|h
  ·rw[DF,h1,h2] at h;simp at h
  ·rw[h3] at h;cases h
 ·rw[h1,(jn _ 0 0).1]
theorem Good.afo (g:Good P T ops cl recs) {i:Nat} {r:Rec R} (hr:recs[i]?=aa r):r.hr.length≤ff (recs.take i) cl.hp.length:=by
 rcases g.hr hr with⟨h1,_⟩|⟨sel,h1⟩
 ·rw[h1];simp
 ·rw[h1,(jn _ 0 0).1];exact a_ _
theorem Good.aaw (g:Good P T ops cl recs) {i:Nat} {r:Rec R} (hr:recs[i]?=aa r):ff (recs.take (i+1)) cl.hp.length=if EL r then r.hx.length else ff (recs.take i) cl.hp.length:=by
 rw[List.take_add_one,hr];exact WT _ _ _
theorem Good.ais (g:Good P T ops cl recs) (i:Nat):ff (recs.take i) cl.hp.length≤ff (recs.take (i+1)) cl.hp.length:=by
 rcases cr i recs.length with ch|j6
 ·have hr:recs[i]?=aa recs[i]:=bd ch;rw[g.aaw hr];split
  ·rename_i ha;have h1:=g.acd hr (dK ha);have:=DF.1 ha;omega
  ·exact a_ _
 ·rw[jl j6,jl (by omega)]
  exact a_ _
theorem Good.P0 (g:Good P T ops cl recs) {i j:Nat} (h:i≤j):ff (recs.take i) cl.hp.length≤ff (recs.take j) cl.hp.length:=by
 induction j with
 |zero =>
  have:i=0:=by omega
  rw[this];exact a_ _
 |succ j ih =>
  by_cases he:i=j+1
  ·rw[he];exact a_ _
  ·exact jo (ih (by omega)) (g.ais j)
theorem Good.aeT (g:Good P T ops cl recs) (i:Nat):cl.hp.length≤ff (recs.take i) cl.hp.length:=by
 have:=g.P0 (dh i)
 rwa [r_] at this
theorem Good.Nt (g:Good P T ops cl recs) (i:Nat):ff (recs.take i) cl.hp.length≤ff recs cl.hp.length:=by
 rcases Nat.le_total i recs.length with h|h
 ·have:=g.P0 h
  rwa [jP] at this
 ·rw[jl h];exact a_ _
theorem Good.afB (g:Good P T ops cl recs) (hT:cN D P T) {i:Nat} {r:Rec R} (hr:recs[i]?=aa r):r.hx.length≤ff (recs.take (i+1)) cl.hp.length:=by
 rw[g.aaw hr];split
 ·exact a_ _
 ·rename_i ha;have h1:=g.afo hr;have:¬ r.hr.length<r.hx.length:=fun h=>ha (DF.2 h)
  omega
theorem Good.aaN (g:Good P T ops cl recs) (hT:cN D P T) {i:Nat} {r:Rec R} (hr:recs[i]?=aa r):r.hx.length≤ff recs cl.hp.length:=jo (g.afB hT hr) (g.Nt _)
theorem Good.Pr (g:Good P T ops cl recs) (hT:cN D P T) {i b:Nat} {r:Rec R} (hr:recs[i]?=aa r) (h:newAt r b=ao):ff (recs.take i) cl.hp.length≤b/\b<ff (recs.take (i+1)) cl.hp.length:=by
 obtain⟨h1,h2⟩:=zT.1 h;have ha:EL r=ao:=DF.2 (by omega)
 have h3:=g.acd hr (dK ha);have h4:=g.afB hT hr;omega
theorem Good.Hb (g:Good P T ops cl recs) (hT:cN D P T) {i b:Nat} {r:Rec R} (hr:recs[i]?=aa r) (h:newAt r b=ao):cl.hp.length≤b:=jo (g.aeT i) (g.Pr hT hr h).1
theorem Good.aky (g:Good P T ops cl recs) (hT:cN D P T) {i b:Nat} {r:Rec R} (hr:recs[i]?=aa r) (h:newAt r b=ao):b<ff recs cl.hp.length:=lA (g.Pr hT hr h).2 (g.Nt _)
theorem Good.QY (g:Good P T ops cl recs) (hT:cN D P T) {i j c:Nat} {a b:Rec R} (hi:recs[i]?=aa a) (hj:recs[j]?=aa b) (ha:newAt a c=ao) (hb:newAt b c=ao):i=j:=by
 have h1:=g.Pr hT hi ha;have h2:=g.Pr hT hj hb;rcases nR i j with h|h|h
 ·have:=g.P0 (show i+1≤j from h)
  omega
 ·exact h
 ·have:=g.P0 (show j+1≤i from h)
  omega
theorem Good.ad5 (g:Good P T ops cl recs) (hT:cN D P T) {i b:Nat} {r:Rec R} {X:SB R} (hr:recs[i]?=aa r) (ht:gJ r b=ao) (hb:fW r.hx b=aa X):hO X=an:=by
 have hx:r.hx[b]?=aa (aa X):=by
  unfold fW at hb;split at hb
  ·rename_i hh;rw[hh,hb]
  ·cases hb
 rcases((g.hx hr hT).2.2 b X hx).2 with h|⟨Y,hY,hv⟩
 ·exact h
 ·simp only[gJ,aM,jN] at ht;rcases ht.2 with h|h
  ·obtain⟨Z,hZ,Vs⟩:=qG.1 h.1;rw[hY] at hZ;injection hZ with hZ;injection hZ with hZ
   subst hZ;rw[hv] at Vs;cases Vs
  ·have h1:=(zT.1 h).1;have:=(aT.1 hY).1;omega
theorem Good.adz (g:Good P T ops cl recs) (hT:cN D P T) {p:Nat->Bool} {b:Nat} {X:SB R} (h:content p b recs 0 (fW cl.hp b)=aa X) (hv:hO X=ao):fW cl.hp b=aa X:=by
 rcases uv (p:=p) (b:=b) recs 0 (fW cl.hp b) with e|⟨i,r,hr,_,ht,e⟩
 ·rw[← e];exact h
 ·rw[e] at h;have:=g.ad5 hT hr ht h;rw[hv] at this;cases this
theorem Ph {α:Type} {h:List (Option α)} {b:Nat} {X:α} (hh:fW h b=aa X):b<h.length:=by
 unfold fW at hh;split at hh
 ·rename_i hx;exact(aT.1 hx).1
 ·cases hh
theorem Good.abi (g:Good P T ops cl recs) (hT:cN D P T) {b:Nat} {X:SB R} (h:fW cl.hp b=aa X) (hv:hO X=ao):∀ (i:Nat) {r:Rec R},recs[i]?=aa r->gJ r b=an:=by
 intro i
 induction i using tC with
 |_ i ih =>
  intro r hr;cases ht:gJ r b with
  |false=>rfl
  |true =>
   exfalso
   simp only[gJ,aM,jN] at ht;rcases ht.2 with h1|h1
   ·obtain⟨Y,hY,Vs⟩:=qG.1 h1.1;obtain⟨_,hc⟩:=g.EI hr hY;rcases uv (p:=mem r.pre) (b:=b) recs 0 (fW cl.hp b) with e|⟨j,q,hq,hp,LY,e⟩
    ·rw[e,h] at hc;injection hc with hc
     subst hc;rw[hv] at Vs;cases Vs
    ·rw[bU] at hp;rw[ih j (g.OP i hr (mem_iff.1 hp)) hq] at LY;cases LY
   ·have h2:=g.Hb hT hr h1;have:=Ph h;omega
theorem Good.MY (g:Good P T ops cl recs) {i j:Nat} {a b:Rec R} (hi:recs[i]?=aa a) (hj:recs[j]?=aa b) (ch:i<j) (hn:mem b.pre i=an) {c:Nat} (hc:c<ff recs cl.hp.length) :
  ¬ (gJ a c=ao/\De b c=ao)/\¬ (gJ b c=ao/\De a c=ao):=by
 have:=g.pair hi hj ch;simp only[Eh,aM,jN,mP] at this;obtain⟨_,h2⟩:=this;rcases h2 with h2|h3
 ·rw[hn] at h2;cases h2
 ·have key:(a.w=ao∨b.w=ao)->((gJ a c&&De b c)||(gJ b c&&De a c))=an:=fun hw=>by
   have hw':(a.w||b.w)=ao:=by simpa using hw
   rw[hw',jh] at h3;unfold ae6 at h3;simp only[Bool.not_eq_false'] at h3;have:=zL h3 hc
   simpa only [mP] using this
  refine⟨fun⟨h5,h6⟩=>?_,fun⟨h5,h6⟩=>?_⟩
  ·have hw:a.w=ao:=by simp only[gJ,aM] at h5;exact h5.1
   have:=key (dK hw);rw[h5,h6] at this;simp at this
  ·have hw:b.w=ao:=by simp only[gJ,aM] at h5;exact h5.1
   have:=key (e7 hw);rw[h5,h6] at this;simp at this
structure Next (recs:List (Rec R)) (p:Nat->Bool) (i:Nat) (r:Rec R):Prop where
 at_:recs[i]?=aa r
 new:p i=an
 pre:∀ j,j∈r.pre->p j=ao
 closed:∀ j q,p j=ao->recs[j]?=aa q->∀ l∈q.pre,p l=ao
variable {p:Nat->Bool} {i:Nat} {r:Rec R}
theorem Next.alone (n:Next recs p i r) (g:Good P T ops cl recs) {j:Nat} {q:Rec R} (hq:recs[j]?=aa q) (hp:p j=ao) (hm:mem r.pre j=an) {c:Nat} (hc:c<ff recs cl.hp.length) :
  ¬ (gJ q c=ao/\De r c=ao)/\¬ (gJ r c=ao/\De q c=ao):=by
 rcases cr j i with ch|j6
 ·exact g.MY hq n.at_ ch hm hc
 ·have kz:j≠i:=fun e=>by rw[e,n.new] at hp;cases hp
  have ch:i<j:=by omega
  have hn:mem q.pre i=an:=by
   cases Ku:mem q.pre i with
   |false=>rfl
   |true =>
    have:=n.closed j q hp hq i (mem_iff.1 Ku);rw[n.new] at this;cases this
  obtain⟨h1,h2⟩:=g.MY n.at_ hq ch hn hc;exact⟨h2,h1⟩
theorem Next.later (n:Next recs p i r) (g:Good P T ops cl recs) {j:Nat} {q:Rec R} (hq:recs[j]?=aa q) (hp:p j=ao) (ch:i<j):mem q.pre i=an:=by
 cases Ku:mem q.pre i with
 |false=>rfl
 |true =>
  have:=n.closed j q hp hq i (mem_iff.1 Ku);rw[n.new] at this;cases this
theorem Next.sub (n:Next recs p i r) (g:Good P T ops cl recs) (hT:cN D P T) {b:Nat} {X:SB R} (hb:r.hr[b]?=aa (aa X)):content p b recs 0 (fW cl.hp b)=aa X:=by
 obtain⟨ch,hc⟩:=g.EI n.at_ hb;rw[← hc];refine vP recs 0 _ fun j q hq ht=>?_
 rw[bU];cases hv:hO X with
 |true =>
  have:=g.abi hT (g.adz hT hc hv) hv j hq;rw[ht] at this;cases this
 |false =>
  cases hm:mem r.pre j with
  |true=>exact n.pre j (mem_iff.1 hm)
  |false =>
   cases hp:p j with
   |false=>rfl
   |true =>
    have VR:b<ff recs cl.hp.length:=lA ch (g.Nt i);exact absurd ⟨ht,by simp only[De,jN];exact dK (qG.2 ⟨X,hb,hv⟩)⟩ (n.alone g hq hp hm VR).1
def rk (p:Nat->Bool) (i:Nat):Nat->Bool:=fun j=>fp j i||p j
theorem zh (p:Nat->Bool) (i:Nat):rk p i i=ao:=by simp[rk]
theorem xo (p:Nat->Bool) {i j:Nat} (h:j≠i):rk p i j=p j:=by
 have:fp j i=an:=by
  cases hb:fp j i with
  |false=>rfl
  |true=>exact absurd (cO hb) h
 simp[rk,this]
theorem Next.DC (n:Next recs p i r) {b:Nat} (ht:gJ r b=an):content (rk p i) b recs 0 (fW cl.hp b)=content p b recs 0 (fW cl.hp b):=by
 refine vP recs 0 _ fun j q hq LY=>?_
 rw[bU];refine xo p fun e=>?_
 subst e;rw[n.at_] at hq;injection hq with hq
 subst hq;rw[ht] at LY;cases LY
theorem Next.WV (n:Next recs p i r) (g:Good P T ops cl recs) (hT:cN D P T) {b:Nat} (ht:gJ r b=ao):content (rk p i) b recs 0 (fW cl.hp b)=fW r.hx b:=by
 have HY:De r b=ao:=by
  simp only[gJ,aM,jN] at ht;simp only[De,jN];exact ht.2.imp (fun h=>h.1) id
 have hb:b<ff recs cl.hp.length:=by
  simp only[De,jN] at HY;rcases HY with h|h
  ·obtain⟨X,hX,_⟩:=qG.1 h;exact lA (g.EI n.at_ hX).1 (g.Nt i)
  ·exact g.aky hT n.at_ h
 refine JC recs 0 _ i r n.at_ (by rw[bU];exact zh p i) ht fun j q hq ch hp=>?_
 rw[bU,xo p (by omega)] at hp
 cases LY:gJ q b with
 |false=>rfl
 |true=>exact absurd ⟨LY,HY⟩ (g.MY n.at_ hq ch (n.later g hq hp ch) hb).2
theorem Next.ajI (n:Next recs p i r) (g:Good P T ops cl recs) (hT:cN D P T) {b:Nat} (hb:newAt r b=ao):∀ (j:Nat) {q:Rec R},p j=ao->recs[j]?=aa q->gJ q b=an:=by
 intro j
 induction j using tC with
 |_ j ih =>
  intro q hp hq;cases ht:gJ q b with
  |false=>rfl
  |true =>
   exfalso
   simp only[gJ,aM,jN] at ht;rcases ht.2 with h1|h1
   ·obtain⟨Y,hY,_⟩:=qG.1 h1.1;obtain⟨_,hc⟩:=g.EI hq hY;rcases uv (p:=mem q.pre) (b:=b) recs 0 (fW cl.hp b) with e|⟨l,q',hq',xb,LY,e⟩
    ·rw[e] at hc;have:=Ph hc;have:=g.Hb hT n.at_ hb;omega
    ·rw[bU] at xb;rw[ih l (g.OP j hq (mem_iff.1 xb)) (n.closed j q hp hq l (mem_iff.1 xb)) hq'] at LY;cases LY
   ·have:=g.QY hT n.at_ hq hb h1;rw[← this,n.new] at hp;cases hp
theorem Next.ad' (n:Next recs p i r) (g:Good P T ops cl recs) (hT:cN D P T) {b:Nat} (hb:newAt r b=ao):content p b recs 0 (fW cl.hp b)=aj:=by
 rcases uv (p:=p) (b:=b) recs 0 (fW cl.hp b) with e|⟨j,q,hq,hp,ht,e⟩
 ·rw[e];cases h:fW cl.hp b with
  |none=>rfl
  |some X =>
   have:=Ph h;have:=g.Hb hT n.at_ hb;omega
 ·rw[bU] at hp;rw[n.ajI g hT hb j hp hq] at ht;cases ht
theorem Next.U5 (n:Next recs p i r) (g:Good P T ops cl recs) (hT:cN D P T) {j:Nat} {q:Rec R} (hq:recs[j]?=aa q) (hp:p j=ao) {b:Nat} (h:BF cl.hp.length recs q b=ao):(!newAt r b)=ao:=by
 cases hb:newAt r b with
 |false=>rfl
 |true =>
  exfalso
  simp only[BF,jN,fe] at h;rcases h with(h|h)|h
  ·have:=g.Hb hT n.at_ hb;omega
  ·have:=g.QY hT n.at_ hq hb h;rw[← this,n.new] at hp;cases hp
  ·obtain⟨l,q',h1,h2,h3⟩:=Pk h;have:=g.QY hT n.at_ h2 hb h3;have Jg:=n.closed j q hp hq l h1;rw[← this,n.new] at Jg;cases Jg
theorem Next.ahC (n:Next recs p i r) (g:Good P T ops cl recs) (hT:cN D P T) (Vm:∀ b t cs,fW cl.hp b=aa (.inl (t,cs))->iC cl.hp.length cs=ao) {b:Nat} {t:TypeId} {cs:List Value}
  (h:content p b recs 0 (fW cl.hp b)=aa (.inl (t,cs))):AA (fun b=>!newAt r b) cs=ao:=by
 rcases uv (p:=p) (b:=b) recs 0 (fW cl.hp b) with e|⟨j,q,hq,hp,ht,e⟩
 ·rw[e] at h;refine DW (fun c hc=>?_) cs (Vm b t cs h)
  cases hb:newAt r c with
  |false=>rfl
  |true=>have:=g.Hb hT n.at_ hb;omega
 ·rw[bU] at hp;rw[e] at h;have hx:q.hx[b]?=aa (aa (.inl (t,cs))):=by
   unfold fW at h;split at h
   ·rename_i hh;rw[hh,h]
   ·cases h
  exact BN (fun c hc=>n.U5 g hT hq hp hc) cs (XB (Fc g.known hq).2 hx)
end
end Rx
namespace Rx
open Go.RowKit State
section
variable {R:Type} {D:fJ R} {P:Program} {T:eJ R} {C:Ctx} {ops:List Oper} {cl:SS R} {recs:List (Rec R)} {w w':World}
theorem Good.recAt (g:Good P T ops cl recs) {j:Nat} {o:Oper} (h:ops[j]?=aa o):∃ r,recs[j]?=aa r/\r.o=o:=by
 have hl:j<recs.length:=by rw[g.len];exact(aT.1 h).1
 have hr:recs[j]?=aa recs[j]:=bd hl;refine⟨_,hr,?_⟩;have:=(g.all j _ hr).o;rw[h] at this;injection this with this
 exact this.symm
theorem Good.ai_ (g:Good P T ops cl recs) {i j:Nat} {a b:Oper} {t:Tmp} (hi:ops[i]?=aa a) (hj:ops[j]?=aa b) (ha:a.dst=aa t) (hb:b.dst=aa t):i=j:=by
 have key:∀ (i j:Nat) (a b:Oper),ops[i]?=aa a->ops[j]?=aa b->a.dst=aa t->b.dst=aa t->i<j->False:=by
  intro i j a b hi hj ha hb ch;obtain⟨ra,h1,h2⟩:=g.recAt hi;obtain⟨rb,h3,h4⟩:=g.recAt hj;have:=g.pair h1 h3 ch;simp only[Eh,aM,h2,h4,ha,hb] at this;have:=this.1;simp at this
 rcases nR i j with h|h|h
 ·exact(key i j a b hi hj ha hb h).elim
 ·exact h
 ·exact(key j i b a hj hi hb ha h).elim
theorem Good.JO (g:Good P T ops cl recs) {i:Nat} {a:Oper} {t:Tmp} (hi:ops[i]?=aa a) (ha:a.dst=aa t):nj ops t 0=aa i:=by
 have:=Wq (i0:=0) hi ha fun j o' hj ch e=>by
  have:=g.ai_ hj hi e ha;omega
 rwa [bU] at this
theorem RK {t j:Nat} (h:nj ops t 0=aa j):∃ o,ops[j]?=aa o/\o.dst=aa t:=by
 obtain⟨k,o,h1,h2,h3⟩:=WO h;rw[bU] at h1;subst h1;exact⟨o,h2,h3⟩
theorem Xr {pre tms:List Nat}:∀ {l:List (Option Value)} {t0 i:Nat} {x:Option Value},l[i]?=aa x->(EV ops recs pre tms t0 l)[i]?=aa (if mem tms (t0+i) then
   match nj ops (t0+i) 0 with
   |some j=>if mem pre j then(match recs[j]? with
    |some r=>aa r.v
    |none=>aj) else if uI recs.length j then x else aj
   |none=>x
  else aj):=by
 intro l
 induction l with
 |nil=>intro t0 i x h;simp at h
 |cons y l ih =>
  intro t0 i x h;cases i with
  |zero =>
   simp only[cd,ct] at h;subst h;simp only[EV,cd,gR]
   all_goals rfl
  |succ i =>
   simp only[bH] at h;simp only[EV,bH];rw[ih (t0:=t0+1) h,show t0+1+i=t0+(i+1) by omega]
theorem Il {i j:Nat} {r:Rec R} (h:(recs.take i)[j]?=aa r):j<i/\recs[j]?=aa r:=by
 have ch:j<i:=by
  have:=(aT.1 h).1;rw[dQ] at this;omega
 rw[Fo ch] at h;exact⟨ch,h⟩
theorem Good.lit (g:Good P T ops cl recs) (hT:cN D P T) (nZ:LI cl.li cl.tm):∀ (i:Nat) {r:Rec R},recs[i]?=aa r ->
  (∀ b,r.lit=aa b->r.v=.bool b/\∀ t,r.o.dst=aa t->t<cl.tm.length) /\
  ∀ x,EF cl (ox ops cl (recs.take i) r.pre r.o) r.o x=ao->LI (ox ops cl (recs.take i) r.pre r.o).li (ox ops cl (recs.take i) r.pre r.o).tm:=by
 intro i
 induction i using tC with
 |_ i ih =>
  intro r hr;have hLI:LI (ox ops cl (recs.take i) r.pre r.o).li (ox ops cl (recs.take i) r.pre r.o).tm:=by
   intro t b Dm;simp only[ox] at Dm ⊢;obtain⟨h1,h2⟩:=ac0 Dm;rcases h2 with⟨j,q,h3,h4,h5,h6⟩|⟨h3,h4⟩
   ·obtain⟨hji,hq⟩:=Il h5;obtain⟨o,ho,hd⟩:=RK h3;have hqo:q.o=o:=by
     have:=(g.all j q hq).o;rw[ho] at this;injection this with this
     exact this.symm
    obtain⟨hv,ht⟩:=(ih j hji hq).1 b h6;have ch:=ht t (by rw[hqo];exact hd)
    have:=Xr (ops:=ops) (recs:=recs.take i) (pre:=r.pre) (tms:=tmpsOf r.o.op.operands.toList) (t0:=0) (bd ch);rw[bU,mem_iff.2 h1,h3] at this;simp only[if_true,mem_iff.2 h4,h5,hv] at this;exact this
   ·have h5:=nZ t b h4;have:=Xr (ops:=ops) (recs:=recs.take i) (pre:=r.pre) (tms:=tmpsOf r.o.op.operands.toList) (t0:=0) h5;rw[bU,mem_iff.2 h1,h3] at this;simp only[wJ]
    simpa using this
  refine⟨fun b hb=>?_,fun _ _=>hLI⟩
  rcases(g.all i r hr).YA with⟨_,_,h1,_⟩|⟨_,x,hx,hs,_,hv,Zl,_⟩
  ·rw[h1] at hb;cases hb
  ·refine⟨?_,fun t ht=>?_⟩
   ·rw[hv];rcases Zl b hb with h|h
    ·obtain⟨rU,Nk,hx⟩:=hx;exact(Vo hT Nk hx (D:=D)).lit hLI b h
    ·exact h
   ·simp only[EF,aM,afw] at hs;have:=hs.1.1.1.2;rw[ht] at this
    simpa [fe] using this
structure yO (D:fJ R) (C:Ctx) (ops:List Oper) (cl:SS R) (recs:List (Rec R)) (p:Nat->Bool) (a:Act) (w:World):Prop where
 defers:a.defers=[]
 closed:∀ j q,p j=ao->recs[j]?=aa q->∀ l∈q.pre,p l=ao
 src:∀ b t cs,fW cl.hp b=aa (.inl (t,cs))->iC cl.hp.length cs=ao
 ex:∃ ρ ft,(∀ i,i<C.n0->ρ i=C.e0 i)/\a.tmps.size=cl.tm.length /\
  (∀ t v,(∀ j,nj ops t 0=aa j->p j=an)->cl.tm[t]?=aa (aa v)->a.tmps[t]?=aa (bS ρ v)/\fv cl.hp.length v=ao) /\
  (∀ t j q,t<cl.tm.length->nj ops t 0=aa j->p j=ao->recs[j]?=aa q->a.tmps[t]?=aa (bS ρ q.v)) /\
  HM D C ρ ft (kT cl.hp recs p (fun _=>ao) 0 (ff recs cl.hp.length)) w
theorem V5 (b:Nat) (acc:Option (SB R)):∀ (l:List (Rec R)) (j1:Nat),content (fun _=>an) b l j1 acc=acc:=by
 intro l
 induction l with
 |nil=>intro _;rfl
 |cons r l ih=>intro j1;simp only[content,Cd,fP,if_false];exact ih _
theorem xQ {h:Hp R} {b:Nat} (ch:b<h.length):h[b]?=aa (fW h b):=by
 unfold fW;rw[bd ch]
theorem aa2 {α:Type} {h:List (Option α)} {b:Nat} (j6:h.length≤b):fW h b=aj:=by
 unfold fW;rw[dc j6]
theorem yO.start (g:Good P T ops cl recs) (hT:cN D P T) {a:Act} (hm:M D C cl a w):yO D C ops cl recs (fun _=>an) a w:=by
 obtain⟨ρ,ft,h0,h1,h2⟩:=hm.ex;refine⟨hm.defers,(fun j q hp=>by cases hp),(fun b t cs hb=>?_),ρ,ft,h0,h1.size,fun t v _ hv=>h1.val t v hv,(fun t j q _ _ hp=>by cases hp),?_⟩
 ·have ch:=Ph hb;exact(h2.at_ b (.inl (t,cs)) (by rw[xQ ch,hb])).2
 ·have hle:=g.Nt 0;rw[r_] at hle;simp only[ff] at hle;have:kT cl.hp recs (fun _=>an) (fun _=>ao) 0 (ff recs cl.hp.length)=cl.hp++ls (ff recs cl.hp.length-cl.hp.length) aj:=by
   apply nQ;intro b;rcases cr b (ff recs cl.hp.length) with ch|j6
   ·rw[(jn _ 0 b).2 ch,V5,bU];rcases cr b cl.hp.length with aac|akM
    ·rw[cZ aac,xQ aac]
     rfl
    ·have am3:b-cl.hp.length<ff recs cl.hp.length-cl.hp.length:=by omega
     rw[dS akM,aa2 akM,List.getElem?_replicate,if_pos am3]
     rfl
   ·rw[dc (by rw[(jn _ 0 0).1];exact j6),dc (by rw[bF,List.length_replicate];omega)]
  rw[this];exact h2.grow _
theorem yO.yield {a:Act} {p:Nat->Bool} (g:Good P T ops cl recs) (hT:cN D P T) (nZ:LI cl.li cl.tm) (h:yO D C ops cl recs p a w) {j:Nat} {q:Rec R} {b:Bool} {t:Tmp} (hq:recs[j]?=aa q) (hp:p j=ao)
  (hd:q.o.dst=aa t) (hb:q.lit=aa b):yielded ops.toArray a.tmps j=aa b:=by
 obtain⟨ρ,ft,_,_,_,h4,_⟩:=h.ex;have ho:=(g.all j q hq).o;obtain⟨hv,ht⟩:=(g.lit hT nZ j hq).1 b hb;have:=h4 t j q (ht t hd) (g.JO ho hd) hp hq;rw[hv,Uh] at this;exact H5 (by unfold K_;rw[ho];exact hd) this
theorem yO.aiJ {a:Act} {p:Nat->Bool} (g:Good P T ops cl recs) (h:yO D C ops cl recs p a w) {j:Nat} {q:Rec R} {t:Tmp} (hq:recs[j]?=aa q) (hp:p j=ao)
  (hd:q.o.dst=aa t) (hv:q.v=vv):yielded ops.toArray a.tmps j=aj:=by
 obtain⟨ρ,ft,_,ny,_,h4,_⟩:=h.ex;have ho:=(g.all j q hq).o;have key:a.tmps[t]?=aj∨a.tmps[t]?=aa vv:=by
  rcases cr t cl.tm.length with ch|j6
  ·right
   have:=h4 t j q ch (g.JO ho hd) hp hq;rw[hv] at this
   simpa [vv,bS,nq] using this
  ·left
   exact Array.getElem?_eq_none (by omega)
 unfold yielded;rcases key with key|key<;>simp[ho,hd,key,vv]
theorem yO.step {a:Act} {p:Nat->Bool} (g:Good P T ops cl recs) (hT:cN D P T) (nZ:LI cl.li cl.tm) (uo:C.n0≤cl.hp.length) (h:yO D C ops cl recs p a w) {i:Nat} {r:Rec R} (n:Next recs p i r)
  {K:Act->World->Prop} {Q:Exit->Act->World->Prop} (hK:∀ a' w',yO D C ops cl recs (rk p i) a' w'->K a' w'):wpOp P ops.toArray Q i K a w:=by
 have ho:=(g.all i r n.at_).o;have RW:∀ j q,rk p i j=ao->recs[j]?=aa q->∀ l∈q.pre,rk p i l=ao:=by
  intro j q hp hq l hl
  by_cases Bp:l=i
  ·subst Bp;exact zh p l
  ·rw[xo p Bp]
   by_cases hj:j=i
   ·subst hj;rw[n.at_] at hq;injection hq with hq
    subst hq;exact n.pre l hl
   ·rw[xo p hj] at hp;exact h.closed j q hp hq l hl
 obtain⟨ρ,ft,h0,h1,h2,h3,h4⟩:=h.ex;have ae7:∀ b,b<cl.hp.length->newAt r b=an:=fun b hb=>by
  cases hh:newAt r b with
  |false=>rfl
  |true=>have:=g.Hb hT n.at_ hh;omega
 have frame:∀ (ni:Env) (KC:Nat->Nat->Prop) (w':World) (v:Value),(∀ b,newAt r b=an->ni b=ρ b) ->
   v=bS ni r.v->HM D C ni KC (kT cl.hp recs (rk p i) (fun _=>ao) 0 (ff recs cl.hp.length)) w' ->
   yO D C ops cl recs (rk p i) (a.put r.o.dst v) w':=by
  intro ni KC w' v qM hv hm;have afE:∀ u,fv cl.hp.length u=ao->bS ρ u=bS ni u:=fun u hu=>ng (n:=cl.hp.length) (fun b hb=>(qM b (ae7 b hb)).symm) u hu
  have afc:∀ j q,p j=ao->recs[j]?=aa q->bS ρ q.v=bS ni q.v:=fun j q hp hq =>
   Vv (f:=BF cl.hp.length recs q) (fun b hb=>(qM b (by simpa using n.U5 g hT hq hp hb)).symm) q.v (Fc g.known hq).1
  refine⟨by cases r.o.dst<;>exact h.defers,RW,h.src,ni,KC,fun b hb=>?_,?_,fun t u hd hu=>?_,fun t j q ht hd hp hq=>?_,hm⟩
  ·rw[qM b (ae7 b (by omega))];exact h0 b hb
  ·cases hd:r.o.dst with
   |none=>exact h1
   |some t=>simp[Cc,h1]
  ·obtain⟨k1,k2⟩:=h2 t u (fun j hj=>by
    have:=hd j hj
    by_cases hji:j=i
    ·subst hji;rw[zh] at this;cases this
    ·rwa [xo p hji] at this) hu
   refine⟨?_,k2⟩;cases xd:r.o.dst with
   |none=>simp only[Cc];rw[k1,afE u k2]
   |some t' =>
    have kz:t'≠t:=fun e=>by
     subst e;have:=hd i (g.JO ho xd);rw[zh] at this;cases this
    simp only[Cc];rw[Ad kz,k1,afE u k2]
  ·by_cases hj:j=i
   ·subst hj;rw[n.at_] at hq;injection hq with hq
    subst hq;obtain⟨o,ho',hdo⟩:=RK hd;rw[ho] at ho';injection ho' with ho'
    subst ho';simp only[hdo,Cc];rw[Array.getElem?_setIfInBounds];simp[h1,ht,hv]
   ·rw[xo p hj] at hp;have k1:=h3 t j q ht hd hp hq;cases xd:r.o.dst with
    |none=>simp only[Cc];rw[k1,afc j q hp hq]
    |some t' =>
     have kz:t'≠t:=fun e=>by
      subst e;rw[g.JO ho xd] at hd;injection hd with hd
      exact hj hd.symm
     simp only[Cc];rw[Ad kz,k1,afc j q hp hq]
 have guard:∀ (m:Nat),Hs (recs.take i) r.pre r.o.guard=m->m<2->kF r.o (yielded ops.toArray a.tmps)=(fp m 0):=by
  intro m hg hm;unfold Hs at hg;split at hg
  ·rename_i hgd;subst hg;simp[kF,hgd]
  ·rename_i j want hgd;split at hg
   ·rename_i hmj;split at hg
    ·rename_i q hq;obtain⟨_,hq⟩:=Il hq;split at hg
     ·rename_i t hd;split at hg
      ·rename_i b hb;have hy:=h.yield g hT nZ hq (n.pre j (mem_iff.1 hmj)) hd hb;split at hg
       ·rename_i hbw;subst hg;simp[kF,hgd,hy]
        simpa using hbw
       ·rename_i hbw;subst hg;simp[kF,hgd,hy];have:(b==want)=an:=by simpa using hbw
        rw[this]
        rfl
      ·split at hg
       ·rename_i hu;subst hg;have hy:=h.aiJ g hq (n.pre j (mem_iff.1 hmj)) hd (PN hu);have e:kF r.o (yielded ops.toArray a.tmps)=((aj:Option Bool)==aa want):=by simp only[kF,hgd,hy]
        rw[e];cases want<;>rfl
       ·omega
     ·omega
    ·omega
   ·omega
 have hL:(kT cl.hp recs p (fun _=>ao) 0 (ff recs cl.hp.length)).length=ff recs cl.hp.length:=(jn _ 0 0).1
 have P_:∀ b,b<ff recs cl.hp.length->(kT cl.hp recs (rk p i) (fun _=>ao) 0 (ff recs cl.hp.length))[b]?=aa (content (rk p i) b recs 0 (fW cl.hp b)):=fun b hb=>by
  rw[(jn _ 0 b).2 hb,bU];simp
 have J9:∀ b,b<ff recs cl.hp.length->(kT cl.hp recs p (fun _=>ao) 0 (ff recs cl.hp.length))[b]?=aa (content p b recs 0 (fW cl.hp b)):=fun b hb=>by
  rw[(jn _ 0 b).2 hb,bU];simp
 unfold wpOp;rw[jD,ho];simp only;rcases(g.all i r n.at_).YA with⟨hg,hv,hl,hhr,A9,hw⟩|⟨hg,x,hx,hs,O7,hv,Zl,hhr,A9,hw⟩
 ·rw[guard 1 hg (by omega)]
  simp only[fp,fP,if_false];have hnt:∀ b,gJ r b=an:=fun b=>by simp[gJ,hw]
  have TL:kT cl.hp recs (rk p i) (fun _=>ao) 0 (ff recs cl.hp.length)=kT cl.hp recs p (fun _=>ao) 0 (ff recs cl.hp.length):=by
   apply nQ;intro b;rcases cr b (ff recs cl.hp.length) with ch|j6
   ·rw[P_ b ch,J9 b ch,n.DC (hnt _)]
   ·rw[dc (by rw[(jn _ 0 0).1];exact j6),dc (by rw[(jn _ 0 0).1];exact j6)]
  refine hK _ _ (frame ρ ft w undef (fun _ _=>rfl) ?_ ?_)
  ·rw[hv];simp[undef,bS,nq]
  ·rw[TL];exact h4
 ·rw[guard 0 hg (by omega)]
  simp only[fp,if_true]
  left
  have hsx:=hs;simp only[EF,aM] at hsx;obtain⟨⟨⟨⟨k1,k2⟩,k3⟩,k4⟩,k5⟩:=hsx;simp only[tidy,aM] at k1;obtain⟨rU,Nk,hx⟩:=hx;have ux:=Vo hT Nk hx (D:=D);have hLI:=(g.lit hT nZ i n.at_).2 x hs;have AH:=g.hx n.at_ hT;have hrN:r.hr.length≤ff recs cl.hp.length:=jo (g.afo n.at_) (g.Nt i);have hxN:r.hx.length≤ff recs cl.hp.length:=g.aaN hT n.at_;have nk:∀ (b:Nat) (X:SB R),r.hr[b]?=aa (aa X)->(kT cl.hp recs p (fun _=>ao) 0 (ff recs cl.hp.length))[b]?=aa (aa X):=fun b X hb=>by
   have ch:b<ff recs cl.hp.length:=by
    have:=(aT.1 hb).1;omega
   rw[J9 b ch,n.sub g hT hb]
  rw[← hhr] at k3 k4 k5;have ak7:=h4.sub nk k3 0;have hTM:TM ρ r.hr.length (ox ops cl (recs.take i) r.pre r.o).tm a:=by
   refine⟨?_,fun t v xX=>?_⟩
   ·simp only[ox,wJ];rw[(IM (t0:=0) (i:=0) (v:=undef)).1,h1]
   ·have j8:fv r.hr.length v=ao:=wR.1 k4 v (acu xX);simp only[ox,wJ] at xX;have FR:t<cl.tm.length:=by
     have:=(aT.1 xX).1
     rwa [(IM (t0:=0) (i:=0) (v:=undef)).1] at this
    obtain⟨_,hh⟩:=(IM (t0:=0) (i:=t) (v:=v)).2 xX;rw[bU] at hh;rcases hh with⟨j,q,g1,g2,g3,g4⟩|⟨g1,g2⟩|⟨j,g1,g2,g3⟩
    ·obtain⟨_,hq⟩:=Il g3;have:=h3 t j q FR g1 (n.pre j g2) hq;rw[← g4] at this;exact⟨this,j8⟩
    ·exact⟨(h2 t v (fun j hj=>by rw[g1] at hj;cases hj) g2).1,j8⟩
    ·have hlen:i<recs.length:=(aT.1 n.at_).1;have hij:i≤j:=by
      rw[dQ] at g2;omega
     refine⟨(h2 t v (fun j' Ms=>?_) g3).1,j8⟩
     rw[g1] at Ms;injection Ms with Ms
     subst Ms;cases Sy:p j with
     |false=>rfl
     |true =>
      exfalso
      rcases cr i j with ch|j6
      ·obtain⟨o,hoj,hdo⟩:=RK g1;obtain⟨q,hq,hqo⟩:=g.recAt hoj;have Si:=g.pair n.at_ hq ch;simp only[Eh,aM] at Si;have VJ:=Si.1.1;simp only[abz,hqo,hdo,jN,mP] at VJ;have hmt:mem (tmpsOf r.o.op.operands.toList) t=ao:=mem_iff.2 (by
        have:=((IM (t0:=0) (i:=t) (v:=v)).2 xX).1
        rwa [bU] at this)
       rcases VJ with VJ|VJ
       ·rw[hmt] at VJ;cases VJ
       ·have:=h.closed j q Sy hq i (mem_iff.1 VJ);rw[n.new] at this;cases this
      ·have:j=i:=by omega
       subst this;rw[n.new] at Sy;cases Sy
  have nN:=ux.run (PS w r.hr ft ρ 0) ρ _ a w K Q (by rw[← hhr];exact hTM) hLI (by rw[← hhr];exact ak7) O7
  refine nN fun gx ky w' akC mH=>?_
  rw[← hhr] at akC;rw[← A9] at mH;have Ku:HM D C (fun b=>if newAt r b then gx b else ρ b) ft (kT cl.hp recs p (fun _=>ao) 0 (ff recs cl.hp.length)) w:=by
   have ch:∀ (b:Nat) (X:SB R),(kT cl.hp recs p (fun _=>ao) 0 (ff recs cl.hp.length))[b]?=aa (aa X)->content p b recs 0 (fW cl.hp b)=aa X:=fun b X hb=>by
    have ch:=(aT.1 hb).1;rw[hL] at ch;rw[J9 b ch] at hb;injection hb
   refine h4.alz (f:=fun b=>!newAt r b) (fun b hb=>?_) (fun b X hb=>?_) (fun b t cs hb=>n.ahC g hT h.src (ch b _ hb))
   ·have:newAt r b=an:=by simpa using hb
    simp[this]
   ·cases hnb:newAt r b with
    |false=>rfl
    |true =>
     have:=ch b X hb;rw[n.ad' g hT hnb] at this;cases this
  have RG:∀ b,b<r.hx.length->(if newAt r b then gx b else ρ b)=gx b:=fun b hb=>by
   split
   ·rfl
   ·rename_i hnb;refine(akC b ?_).symm;refine iD fun j6=>hnb (zT.2 ⟨by omega,hb⟩)
  have hex:∃ KC,HM D C (fun b=>if newAt r b then gx b else ρ b) KC (kT cl.hp recs (rk p i) (fun _=>ao) 0 (ff recs cl.hp.length)) w':=by
   refine Ku.ala nk (n:=0) (h':=kT cl.hp recs (rk p i) (fun _=>ao) 0 (ff recs cl.hp.length)) mH RG (by rw[hL];exact hxN) AH.2.2
    (by rw[(jn _ 0 0).1,hL]) (fun b hb=>?_) (fun b hb hn=>?_)
   ·-- what may have anB
    have hbN:b<ff recs cl.hp.length:=by
     rcases hb with⟨Y,hY,_⟩|hb
     ·have:=(aT.1 hY).1;omega
     ·omega
    by_cases hkp:∃ Y,r.hr[b]?=aa (aa Y)/\Li r.o r.wl b=ao
    ·obtain⟨Y,hY,hk⟩:=hkp;have ch:=(aT.1 hY).1;have hxe:=g.kept n.at_ hT ch hk;have hlx:b<r.hx.length:=lA ch AH.1;have hnt:gJ r b=an:=by
      have hnw:newAt r b=an:=by
       cases hh:newAt r b with
       |false=>rfl
       |true=>have:=(zT.1 hh).1;omega
      simp[gJ,hk,hnw]
     rw[if_pos hlx,P_ b hbN,n.DC hnt,n.sub g hT hY,hxe,hY]
    ·by_cases Vd:r.w=ao
     ·have ht:gJ r b=ao:=by
       simp only[gJ,Vd,jh,jN,aM,mP];rcases hb with hb|hb
       ·refine dK ⟨qG.2 hb,?_⟩;obtain⟨Y,hY,_⟩:=hb;cases hk:Li r.o r.wl b with
        |false=>rfl
        |true=>exact absurd ⟨Y,hY,hk⟩ hkp
       ·exact e7 (zT.2 hb)
      rw[P_ b hbN,n.WV g hT ht];split
      ·rename_i ch;rw[xQ ch]
      ·rename_i j6;rw[aa2 (by omega)]
     ·have rR:r.w=an:=by cases hh:r.w<;>simp_all
      have hxe:=AH.2.1 rR;rcases hb with⟨Y,hY,X2⟩|hb
      ·have ch:=(aT.1 hY).1;rw[if_pos (by rw[hxe];exact ch),P_ b hbN,n.DC (by simp[gJ,rR]),n.sub g hT hY,hxe,hY]
      ·rw[hxe] at hb;omega
   ·rw[hL] at hb;have hnt:gJ r b=an:=by
     cases ht:gJ r b with
     |false=>rfl
     |true =>
      simp only[gJ,aM,jN] at ht;rcases ht.2 with h5|h5
      ·exact absurd (dK (qG.1 h5.1)) hn
      ·exact absurd (e7 (zT.1 h5)) hn
    rw[P_ b hb,J9 b hb,n.DC hnt]
  obtain⟨KC,YY⟩:=hex;refine hK _ _ (frame _ KC _ _ (fun b hb=>by simp[hb]) ?_ YY)
  rw[hv];exact(ng (n:=r.hx.length) RG _ (by rw[A9];exact k1.1)).symm
theorem Good.alf (g:Good P T ops cl recs) (hT:cN D P T) {i:Nat} {r:Rec R} (hr:recs[i]?=aa r):fv (ff recs cl.hp.length) r.v=ao:=by
 have hN:=g.aaN hT hr;rcases(g.all i r hr).YA with⟨_,hv,_⟩|⟨_,x,_,hs,_,hv,_,_,A9,_⟩
 ·rw[hv];simp[undef,fv,iC]
 ·simp only[EF,aM,tidy] at hs;rw[hv];rw[A9] at hN;exact BX hN _ hs.1.1.1.1.1
def vh (f:Nat->Bool):Nat->Nat
 |0=>0
 |n+1=>(if f n then 0 else 1)+vh f n
theorem Gp {f h:Nat->Bool}:∀ {n:Nat},(∀ j,j<n->f j=h j)->vh f n=vh h n
 |0,_=>rfl
 |n+1,hh=>by simp only[vh];rw[hh n (by omega),Gp (fun j hj=>hh j (by omega))]
theorem Sc {f:Nat->Bool} {i:Nat}:∀ {n:Nat},i<n->f i=an->vh (rk f i) n+1=vh f n
 |0,h,_=>by omega
 |n+1,h,hf=>by
  simp only[vh]
  by_cases he:i=n
  ·subst he;rw[zh,hf,Gp (f:=rk f i) (h:=f) (fun j hj=>xo f (by omega))]
   simp;omega
  ·rw[xo f (Ne.symm he)];have:=Sc (n:=n) (by omega) hf
   omega
theorem R' {f:Nat->Bool} {i:Nat}:∀ {n:Nat},i<n->f i=an->0<vh f n
 |0,h,_=>by omega
 |n+1,h,hf=>by
  simp only[vh]
  by_cases he:i=n
  ·subst he;rw[hf];simp;omega
  ·have:=R' (n:=n) (by omega) hf;omega
def m7 (listed:Array Bool):Nat->Bool:=fun j=>listed.getD j an
theorem Eg:∀ {l:List (Option Value)} {t0 i:Nat},(Ir ops recs t0 l).length=l.length/\∀ x,l[i]?=aa x->(Ir ops recs t0 l)[i]?=aa (match nj ops (t0+i) 0 with
  |some j=>(match recs[j]? with
   |some r=>aa r.v
   |none=>aj)
  |none=>x):=by
 intro l
 induction l with
 |nil=>intro t0 i;exact⟨rfl,fun x h=>by simp at h⟩
 |cons y l ih =>
  intro t0 i;refine⟨by simp[Ir,(ih (t0:=t0+1) (i:=0)).1],fun x h=>?_⟩
  cases i with
  |zero =>
   simp only[cd,ct] at h;subst h;simp only[Ir,cd,gR]
   all_goals rfl
  |succ i =>
   simp only[bH] at h;simp only[Ir,bH];rw[(ih (t0:=t0+1) (i:=i)).2 x h,show t0+1+i=t0+(i+1) by omega]
theorem yO.done {a:Act} {p:Nat->Bool} (g:Good P T ops cl recs) (hT:cN D P T) (nZ:LI cl.li cl.tm) (h:yO D C ops cl recs p a w) (pW:∀ j,j<ops.length->p j=ao):M D C (Am ops cl recs) a w:=by
 obtain⟨ρ,ft,h0,h1,h2,h3,h4⟩:=h.ex;have hp:∀ j r,recs[j]?=aa r->p j=ao:=fun j r hr=>pW j (by rw[← g.len];exact(aT.1 hr).1)
 have TL:kT cl.hp recs p (fun _=>ao) 0 (ff recs cl.hp.length)=(Am ops cl recs).hp:=by
  simp only[Am];apply nQ;intro b;rcases cr b (ff recs cl.hp.length) with ch|j6
  ·rw[(jn _ 0 b).2 ch,(jn _ 0 b).2 ch];simp only[if_true]
   congr 1
   exact vP recs 0 _ fun j r hr _=>by rw[bU];exact hp j r hr
  ·rw[dc (by rw[(jn _ 0 0).1];exact j6),dc (by rw[(jn _ 0 0).1];exact j6)]
 have hhl:(Am ops cl recs).hp.length=ff recs cl.hp.length:=by rw[← TL,(jn _ 0 0).1]
 rw[TL] at h4;refine⟨h.defers,fun t b Dm=>?_,ρ,ft,h0,⟨?_,fun t v xX=>?_⟩,h4⟩
 ·simp only[Am,afh] at Dm ⊢;rcases b7.1 Dm with Dm|Dm
  ·obtain⟨r,hr,Dm⟩:=List.mem_flatMap.1 Dm;obtain⟨j,hj,hj2⟩:=List.mem_iff_getElem.1 hr;have tP:recs[j]?=aa r:=by rw[bd hj,hj2]
   split at Dm
   ·rename_i u c hd Zl;split at Dm
    ·simp only[ib,te] at Dm;obtain⟨rfl,rfl⟩:=Dm;obtain⟨hv,ht⟩:=(g.lit hT nZ j tP).1 b Zl;have ch:=ht t hd;have:=(Eg (ops:=ops) (recs:=recs) (l:=cl.tm) (t0:=0) (i:=t)).2 _ (bd ch);rw[bU,g.JO (g.all j r tP).o hd] at this;simp only[tP,hv] at this;exact this
    ·simp at Dm
   ·simp at Dm
  ·obtain⟨h5,h6⟩:=List.mem_filter.1 Dm;have:=(Eg (ops:=ops) (recs:=recs) (l:=cl.tm) (t0:=0) (i:=t)).2 _ (nZ t b h5);rw[bU] at this;cases hd:nj ops t 0 with
   |none=>rw[hd] at this;exact this
   |some j=>rw[hd] at h6;cases h6
 ·simp only[Am];rw[(Eg (t0:=0) (i:=0)).1];exact h1
 ·simp only[Am] at xX;have FR:t<cl.tm.length:=by
   have:=(aT.1 xX).1
   rwa [(Eg (t0:=0) (i:=0)).1] at this
  rw[(Eg (ops:=ops) (recs:=recs) (l:=cl.tm) (t0:=0) (i:=t)).2 _ (bd FR),bU] at xX;rw[hhl];cases hd:nj ops t 0 with
  |none =>
   rw[hd] at xX;injection xX with xX
   obtain⟨k1,k2⟩:=h2 t v (fun j hj=>by rw[hd] at hj;cases hj) (by rw[bd FR];exact congrArg aa xX)
   have hle:=g.Nt 0;rw[r_] at hle;exact⟨k1,BX hle v k2⟩
  |some j =>
   rw[hd] at xX;simp only at xX;split at xX
   ·rename_i r hr;injection xX with xX
    injection xX with xX
    subst xX;exact⟨h3 t j r FR hd (hp j r hr) hr,g.alf hT hr⟩
   ·cases xX
theorem OT {listed:Array Bool} {i j:Nat} (hi:i<listed.size):m7 (listed.setIfInBounds i ao) j=rk (m7 listed) i j:=by
 unfold m7
 by_cases he:j=i
 ·subst he;rw[zh];simp[DI,hi]
 ·rw[xo _ he];exact getD_set_ne an (Ne.symm he)
theorem afZ (g:Good P T ops cl recs) (hT:cN D P T) (nZ:LI cl.li cl.tm) (uo:C.n0≤cl.hp.length) {Q:Exit->Act->World->Prop} (hQ:∀ a w,M D C (Am ops cl recs) a w->Q .normal a w) :
  ∀ (fuel:Nat) (listed:Array Bool) (a:Act) (w:World),listed.size=ops.length->vh (m7 listed) ops.length≤fuel->yO D C ops cl recs (m7 listed) a w->wpAny P .any ops.toArray Q fuel listed a w:=by
 have ae4:∀ (listed:Array Bool) (a:Act) (w:World),listed.size=ops.length->yO D C ops cl recs (m7 listed) a w->KQ .any ops.toArray listed=[]->Q .normal a w:=by
  intro listed a w ny hi hr;refine hQ a w (hi.done g hT nZ fun j=>?_)
  induction j using tC with
  |_ j ih =>
   intro hj;cases hp:m7 listed j with
   |true=>rfl
   |false =>
    exfalso
    have ho:ops[j]?=aa ops[j]:=bd hj;obtain⟨r,hrr,hro⟩:=g.recAt ho;have:j∈KQ .any ops.toArray listed:=by
     refine mem_ready.2 ⟨?_,ops[j],by rw[jD,ho],fun e he hb=>?_⟩
     ·unfold m7 at hp;simp only[DI,ny,hj,dif_pos] at hp ⊢;exact hp
     ·have h1:=(FQ (g.all j r hrr).pre).1 e (by rw[hro];exact IW.2 he) hb
      have ch:=g.OP j hrr h1;exact ih e.on ch (by omega)
    rw[hr] at this;cases this
 intro fuel
 induction fuel with
 |zero =>
  intro listed a w ny hle hi;have pW:∀ j,j<ops.length->m7 listed j=ao:=fun j hj=>by
   cases hp:m7 listed j with
   |true=>rfl
   |false=>have:=R' hj hp;omega
  have hr:KQ .any ops.toArray listed=[]:=by
   refine List.eq_nil_iff_forall_not_mem.2 fun j hj=>?_
   obtain⟨h1,o,h2,_⟩:=mem_ready.1 hj;have ch:j<ops.length:=by
    rw[jD] at h2;exact(aT.1 h2).1
   have:=pW j ch;unfold m7 at this;simp only[DI,ny,ch,dif_pos] at this h1;rw[this] at h1;cases h1
  exact⟨hr,ae4 listed a w ny hi hr⟩
 |succ fuel ih =>
  intro listed a w ny hle hi;refine⟨ae4 listed a w ny hi,fun i hir=>?_⟩
  obtain⟨h1,o,h2,h3⟩:=mem_ready.1 hir;rw[jD] at h2;have ch:i<ops.length:=(aT.1 h2).1;obtain⟨r,hrr,hro⟩:=g.recAt h2;have um:m7 listed i=an:=by
   unfold m7;simp only[DI,ny,ch,dif_pos] at h1 ⊢;exact h1
  have hn:Next recs (m7 listed) i r:=by
   refine⟨hrr,um,fun j hj=>?_,hi.closed⟩
   obtain⟨e,he,hb,q,hq,UK⟩:=(FQ (g.all i r hrr).pre).2 j hj;have mO:=h3 e (by rw[hro] at he;exact IW.1 he) hb
   rcases UK with rfl|UK
   ·exact mO
   ·exact hi.closed e.on q mO (Il hq).2 j UK
  refine hi.step g hT nZ uo hn fun a' w' kx=>ih _ a' w' (by simpa using ny) ?_ ?_
  ·have e:vh (m7 (listed.setIfInBounds i ao)) ops.length=vh (rk (m7 listed) i) ops.length:=Gp fun j _=>OT (by omega)
   have:=Sc ch um;omega
  ·have e:m7 (listed.setIfInBounds i ao)=rk (m7 listed) i:=funext fun j=>OT (by omega)
   rw[e];exact kx
theorem Yv (hT:cN D P T) (LV:P.follows .mixedOrders=ao) {id:Nat} {k:SS R->Prop} {m:Nat} {vZ:List (Nat×Bool)} {a:Act} {Q:Exit->Act->World->Prop} (h:D' P T ops cl k m vZ) (hm:M D C cl a w) (hn:C.n0≤cl.hp.length)
  (hK:∀ ou a' w',k ou->C.n0≤ou.hp.length->M D C ou a' w'->Q .normal a' w'):(Code.region id ops.toArray ao).wp P Q a w:=by
 obtain⟨recs,h1,h2,h3,wZ,h4⟩:=J3 m h;have g:Good P T ops cl recs:=⟨h1,h2,h3,wZ⟩;refine wp_region_any LV ?_;have mH:M D C cl a { w with drawn:=w.drawn+1 }:=by
  obtain⟨ρ,ft,q0,q1,q2⟩:=hm.ex;exact⟨hm.defers,hm.li,ρ,ft,q0,q1,q2.same rfl rfl rfl rfl⟩
 have hz:m7 (Array.replicate ops.toArray.size an)=fun _=>an:=by
  funext j
  unfold m7;simp only[DI];split
  ·simp
  ·rfl
 refine afZ g hT hm.li hn (fun a' w' hM=>hK _ a' w' h4 ?_ hM) _ _ a _ (by simp) ?_ ?_
 ·have:=g.aeT recs.length;rw[jP] at this;simp only[Am];rw[(jn _ 0 0).1];omega
 ·rw[hz];have:∀ n,vh (fun _=>an) n≤n:=fun n=>by
   induction n with
   |zero=>simp[vh]
   |succ n ih=>simp only[vh];simp;omega
  simpa using this ops.length
 ·rw[hz];exact yO.start g hT mH
end
end Rx
namespace Rx
open Go.RowKit State
section
variable {R:Type} {D:fJ R} {P:Program} {T:eJ R} {C:Ctx} {w w':World}
def rx (D:fJ R) (P:Program) (T:eJ R) (root:Code) (n0:Nat) (k:Exit->SS R->Prop):Nat->List (It R)->SS R->Prop
 |0,todo,σ=>At D P root n0 k todo σ
 |n+1,todo,σ =>
  match todo with
  |[]=>k .normal σ
  |.inr (.inl _)::r=>rx D P T root n0 k n r σ
  |.inr (.inr J)::r=>aX (J σ)
  |.inl p::r =>
   match iX root p with
   |none=>n6 5
   |some c =>
    match c with
    |.skip=>rx D P T root n0 k n r σ
    |.label _=>rx D P T root n0 k n r σ
    |.seq _ _=>rx D P T root n0 k n (.inl (p++[0]) :: .inl (p++[1])::r) σ
    |.block id _=>rx D P T root n0 k n (.inl (p++[0]) :: .inr (.inl id)::r) σ
    |.cond x _ _ =>
     match Ge σ.li x with
     |some ao=>rx D P T root n0 k n (.inl (p++[0])::r) σ
     |some an=>rx D P T root n0 k n (.inl (p++[1])::r) σ
     |none =>
      match x with
      |.tmp t=>match σ.tm[t]? with
       |some (aa (.bool b)) =>
        (b=ao->I8 (assume σ t ao) fun σ=>rx D P T root n0 k n (.inl (p++[0])::r) σ) /\
        (b=an->I8 (assume σ t an) fun σ=>rx D P T root n0 k n (.inl (p++[1])::r) σ)
       |_=>n6 6
      |_=>n6 7
    |.exit id =>
     match DD id r with
     |some r'=>rx D P T root n0 k n r' σ
     |none=>k (.exit id) σ
    |.ret=>k .ret σ
    |.region _ ⟨ops⟩ an=>vM P T ops ops σ fun ou=>rx D P T root n0 k n r ou
    |.region _ ⟨ops⟩ ao=>D' P T ops σ (fun ou=>rx D P T root n0 k n r ou) (ops.length+1) []
    |_=>At D P root n0 k (.inl p::r) σ
theorem cL (hT:cN D P T) (LV:P.follows .mixedOrders=ao) {root:Code} {n0:Nat} {k:Exit->SS R->Prop}:∀ (n:Nat) {todo:List (It R)} {σ:SS R},rx D P T root n0 k n todo σ->At D P root n0 k todo σ
 |0,todo,σ,h=>h
 |n+1,todo,σ,h=>by
  refine⟨fun C a w hC hn hm=>?_⟩
  have ih:∀ {todo:List (It R)} {σ:SS R} {a:Act} {w:World},rx D P T root n0 k n todo σ->n0≤σ.hp.length->M D C σ a w->pD D P C root k todo .normal a w:=fun h hn hm=>(cL hT LV n h).run C _ _ hC hn hm
  unfold rx at h;simp only[Ka] at h;split at h
  ·exact⟨σ,h,hm⟩
  ·rename_i id r;show pD D P C root k r .normal a w
   exact ih h hn hm
  ·rename_i J r;exact⟨σ,h.out,by rw[hC];exact hn,hm⟩
  ·rename_i p r;split at h
   ·exact h.elim
   ·rename_i c hc;simp only[pD,hc];have sub:∀ (i:Nat) (d:Code),iX c [i]=aa d->iX root (p++[i])=aa d:=fun i d hd=>by rw[n5 p root c [i] hc];exact hd
    split at h
    ·exact wp_skip (ih h hn hm)
    ·exact wp_label (ih h hn hm)
    ·rename_i x y;have h1:=ih h hn hm;simp only[pD,sub 0 x (by simp[iX])] at h1
     refine wp_seq (wp_mono h1 fun e a' w' h2=>?_)
     cases e with
     |normal =>
      simp only[sub 1 y (by simp[iX])] at h2
      exact h2
     |_=>exact h2
    ·rename_i id x;have h1:=ih h hn hm;simp only[pD,sub 0 x (by simp[iX])] at h1
     exact wp_block h1
    ·rename_i x y z;split at h
     ·rename_i hl;have h1:=ih h hn hm;simp only[pD,sub 0 y (by simp[iX])] at h1
      obtain⟨ρ,ft,_,g1,_⟩:=hm.ex;have:=(eu g1 (yl hm.li hl)).1;exact wp_cond_true (by simpa using this) h1
     ·rename_i hl;have h1:=ih h hn hm;simp only[pD,sub 1 z (by simp[iX])] at h1
      obtain⟨ρ,ft,_,g1,_⟩:=hm.ex;have:=(eu g1 (yl hm.li hl)).1;exact wp_cond_false (by simpa using this) h1
     ·split at h
      ·rename_i t _;split at h
       ·rename_i b hb;have ht:=YH hm hb;have he:a.eval (.tmp t)=.bool b:=by simp[Cb,ht]
        cases b with
        |true =>
         have h1:=ih (h.1 rfl) (by simpa [assume] using hn) (hm.assume hb)
         simp only[pD,sub 0 y (by simp[iX])] at h1
         exact wp_cond_true he h1
        |false =>
         have h1:=ih (h.2 rfl) (by simpa [assume] using hn) (hm.assume hb)
         simp only[pD,sub 1 z (by simp[iX])] at h1
         exact wp_cond_false he h1
       ·exact h.elim
      ·exact h.elim
    ·rename_i id;refine wp_exit (ET ?_);split at h
     ·rename_i r' xb;rw[xb];exact ih h hn hm
     ·rename_i xb;rw[xb];exact⟨σ,h,hm⟩
    ·exact wp_ret (Ha ⟨σ,h,hm⟩)
    ·rename_i id ops;refine wp_region_list ?_;exact FM hT ops h hm (by omega) fun ou a' w' h' xW mH=>ih h' (by omega) mH
    ·rename_i id ops;exact Yv hT LV h hm (by omega) fun ou a' w' h' xW mH=>ih h' (by omega) mH
    ·have:=h.run C a w hC hn hm
     simpa only [pD,hc] using this
end
end Rx
namespace Rx
open Go.RowKit State
def CU (s:Nat->Nat) (q:Nat):Nat :=
 match gQ q 1000000 with
 |true=>q
 |false=>q%1000000+1000000*(s (q / 1000000-1)+1)
def v7 (s:Nat->Nat) (a:Addr):Addr :=
 match a with
 |⟨b,o,aj⟩=>⟨s b,o,aj⟩
 |⟨b,o,aa q⟩=>⟨s b,o,aa (CU s q)⟩
mutual
def gh (s:Nat->Nat):Value->Value
 |.pointer (aa a)=>.pointer (aa (v7 s a))
 |.slice (aa a) n c=>.slice (aa (v7 s a)) n c
 |.map (aa r)=>.map (aa (s r))
 |.chan (aa r)=>.chan (aa (s r))
 |.agg ⟨l⟩=>.agg ⟨lR s l⟩
 |.tuple ⟨l⟩=>.tuple ⟨lR s l⟩
 |.func fn ⟨f⟩ ⟨c⟩=>.func fn ⟨lR s f⟩ ⟨lR s c⟩
 |.iface t v=>.iface t (gh s v)
 |v=>v
def lR (s:Nat->Nat):List Value->List Value
 |[]=>[]
 |v::l=>gh s v::lR s l
end
def Ki (p:Nat->Bool) (q:Nat):Bool :=
 match gQ q 1000000 with
 |true=>ao
 |false=>p (q / 1000000-1)
def Mr (p:Nat->Bool) (a:Addr):Bool :=
 match a with
 |⟨b,_,aj⟩=>p b
 |⟨b,_,aa q⟩=>p b&&Ki p q
mutual
def mM (p:Nat->Bool):Value->Bool
 |.pointer (aa a)=>Mr p a
 |.slice (aa a) _ _=>Mr p a
 |.map (aa r)|.chan (aa r)=>p r
 |.agg ⟨l⟩=>zS p l
 |.tuple ⟨l⟩=>zS p l
 |.func _ ⟨f⟩ ⟨c⟩=>zS p f&&zS p c
 |.iface _ v=>mM p v
 |_=>ao
def zS (p:Nat->Bool):List Value->Bool
 |[]=>ao
 |v::l=>mM p v&&zS p l
end
section
variable {ρ gx:Env} {s u:Nat->Nat} {p:Nat->Bool} {n m:Nat}
theorem p7 {a b:Nat}:gQ a b=ao↔a<b:=by rw[fe]
theorem ub {q:Nat} (s:Nat->Nat) (h:q<1000000):CU s q=q:=by
 unfold CU;rw[p7.2 h]
theorem Es {q:Nat} (s:Nat->Nat) (h:¬ q<1000000):CU s q=q%1000000+1000000*(s (q / 1000000-1)+1):=by
 unfold CU;split
 ·rename_i hb;exact absurd (p7.1 hb) h
 ·rfl
theorem agr (s:Nat->Nat) (q:Nat):CU s q%1000000=q%1000000:=by
 by_cases h:q<1000000
 ·rw[ub s h]
 ·rw[Es s h];omega
theorem Q2 (s:Nat->Nat) (q:Nat):CU s q / 1000000=if q / 1000000=0 then 0 else s (q / 1000000-1)+1:=by
 by_cases h:q<1000000
 ·rw[ub s h,if_pos (by omega)];omega
 ·rw[Es s h,if_neg (by omega)];omega
theorem ag0 (s u:Nat->Nat) (q:Nat):CU s (CU u q)=CU (fun i=>s (u i)) q:=by
 by_cases h:q<1000000
 ·rw[ub u h,ub s h,ub _ h]
 ·rw[Es u h,Es _ h,Es s (by omega)]
  have e1:(q%1000000+1000000*(u (q / 1000000-1)+1))%1000000=q%1000000:=by omega
  have e2:(q%1000000+1000000*(u (q / 1000000-1)+1)) / 1000000-1=u (q / 1000000-1):=by omega
  rw[e1,e2]
theorem aaF (s:Nat->Nat) (e q:Nat):cellOf e (aa (CU s q))=cellOf e (aa q):=by
 have h:=agr s q;simp only[cellOf,h];rw[← KR (CU s q) (by decide:1000∣1000000),h,KR q (by decide:1000∣1000000)]
theorem XC (a:Addr):iI ρ (v7 s a)=iI (fun i=>ρ (s i)) a:=by
 obtain⟨b,o,q⟩:=a;cases q with
 |none=>rfl
 |some q=>simp only[v7,iI,aaF]
theorem zq (ρ:Env) (b o q k c:Nat):lK ρ ⟨b,o,aa q⟩ k c=if(ρ b).nil=ao then .slice aj k 0
  else if q / 1000000≠0/\(ρ b).cap≤o then .slice (aa ⟨(ρ (q / 1000000-1)).lI,(ρ (q / 1000000-1)).off,aj⟩) k 0
  else .slice (aa (iI ρ ⟨b,o,aa q⟩)) k ((ρ b).cap-o):=rfl
theorem afX (a:Addr) (k c:Nat):lK ρ (v7 s a) k c=lK (fun i=>ρ (s i)) a k c:=by
 have h:=XC (ρ:=ρ) (s:=s) a;obtain⟨b,o,q⟩:=a;cases q with
 |none=>simp only[v7,lK] at *;rw[h]
 |some q =>
  show lK ρ ⟨s b,o,aa (CU s q)⟩ k c=_
  have h:iI ρ ⟨s b,o,aa (CU s q)⟩=_:=h;rw[zq,zq,h,Q2]
  by_cases hn:(ρ (s b)).nil=ao
  ·rw[if_pos hn,if_pos hn]
  ·rw[if_neg hn,if_neg hn]
   by_cases h0:q / 1000000=0
   ·rw[if_pos h0,if_neg (by simp),if_neg (by simp[h0])]
   ·rw[if_neg h0]
    by_cases hc:(ρ (s b)).cap≤o
    ·rw[if_pos ⟨by omega,hc⟩,if_pos ⟨h0,hc⟩];rfl
    ·rw[if_neg (fun hh=>hc hh.2),if_neg (fun hh=>hc hh.2)]
mutual
theorem CN:∀ v,bS ρ (gh s v)=bS (fun i=>ρ (s i)) v
 |.pointer (aa a)=>by simp only[gh,bS,XC]
 |.pointer aj=>by simp[gh,bS]
 |.slice (aa a) k c=>by simp only[gh,bS,afX]
 |.slice aj _ _=>by simp[gh,bS]
 |.map (aa r)=>by simp[gh,bS]
 |.map aj=>by simp[gh,bS]
 |.chan (aa r)=>by simp[gh,bS]
 |.chan aj=>by simp[gh,bS]
 |.agg ⟨l⟩=>by simp only[gh,bS,Bw l]
 |.tuple ⟨l⟩=>by simp only[gh,bS,Bw l]
 |.func fn ⟨f⟩ ⟨c⟩=>by simp only[gh,bS,Bw f,Bw c]
 |.iface t v=>by simp only[gh,bS,CN v]
 |.int _ _=>by simp[gh]
 |.bool _=>by simp[gh]
 |.string _=>by simp[gh]
 |.float _ _=>by simp[gh,bS]
 |.complex _ _ _=>by simp[gh,bS]
 |.nilFunc=>by simp[gh,bS]
 |.nilIface=>by simp[gh,bS]
theorem Bw:∀ l,nq ρ (lR s l)=nq (fun i=>ρ (s i)) l
 |[]=>by simp[lR,nq]
 |v::l=>by simp only[lR,nq,CN v,Bw l]
end
theorem rS {a:Addr} (h:Mr p a=ao):p a.block=ao/\∀ q,a.spot=aa q->Ki p q=ao:=by
 obtain⟨b,o,q⟩:=a;cases q with
 |none=>exact⟨h,fun q e=>by cases e⟩
 |some q =>
  simp only[Mr,aM] at h;exact⟨h.1,fun q' e=>by injection e with e;subst e;exact h.2⟩
theorem QE {q:Nat} (h:Ki p q=ao) (h0:q / 1000000≠0):p (q / 1000000-1)=ao:=by
 unfold Ki at h;split at h
 ·rename_i hb;have:=p7.1 hb;omega
 ·exact h
theorem ah8 {q:Nat} (p:Nat->Bool) (h:q<1000000):Ki p q=ao:=by
 unfold Ki;rw[p7.2 h]
theorem abl {q:Nat} (p:Nat->Bool) (h:¬ q<1000000):Ki p q=p (q / 1000000-1):=by
 unfold Ki;split
 ·rename_i hb;exact absurd (p7.1 hb) h
 ·rfl
theorem aiT {p':Nat->Bool} {t:Nat} (h:∀ i,p i=ao->p' (s i)=ao) (ht:Ki p t=ao):Ki p' (CU s t)=ao:=by
 by_cases hq:t<1000000
 ·rw[ub s hq];exact ah8 p' hq
 ·rw[abl p hq] at ht;have j6:¬ CU s t<1000000:=by rw[Es s hq];omega
  rw[abl p' j6,Q2,if_neg (by omega)]
  exact h _ ht
theorem XP {a:Addr} (h:∀ i,p i=ao->ρ i=gx i) (ha:Mr p a=ao):iI ρ a=iI gx a:=by
 unfold iI;rw[h _ (rS ha).1]
theorem agb {a:Addr} {k c:Nat} (h:∀ i,p i=ao->ρ i=gx i) (ha:Mr p a=ao):lK ρ a k c=lK gx a k c:=by
 unfold lK;rw[XP h ha,h _ (rS ha).1];cases hs:a.spot with
 |none=>rfl
 |some q =>
  simp only;split
  ·rfl
  ·split
   ·rename_i hq;rw[h (q / 1000000-1) (QE ((rS ha).2 q hs) hq.1)]
   ·rfl
mutual
theorem aaG (h:∀ i,p i=ao->ρ i=gx i):∀ v,mM p v=ao->bS ρ v=bS gx v
 |.pointer (aa a),hv=>by simp only[mM] at hv;simp only[bS,XP h hv]
 |.pointer aj,_=>by simp[bS]
 |.slice (aa a) k c,hv=>by simp only[mM] at hv;simp only[bS,agb h hv]
 |.slice aj _ _,_=>by simp[bS]
 |.map (aa r),hv=>by simp only[mM] at hv;simp[bS,h _ hv]
 |.map aj,_=>by simp[bS]
 |.chan (aa r),hv=>by simp only[mM] at hv;simp[bS,h _ hv]
 |.chan aj,_=>by simp[bS]
 |.agg ⟨l⟩,hv=>by simp only[mM] at hv;simp only[bS,BR h l hv]
 |.tuple ⟨l⟩,hv=>by simp only[mM] at hv;simp only[bS,BR h l hv]
 |.func fn ⟨f⟩ ⟨c⟩,hv=>by
  simp only[mM,aM] at hv;simp only[bS,BR h f hv.1,BR h c hv.2]
 |.iface t v,hv=>by simp only[mM] at hv;simp only[bS,aaG h v hv]
 |.int _ _,_=>by simp
 |.bool _,_=>by simp
 |.string _,_=>by simp
 |.float _ _,_=>by simp[bS]
 |.complex _ _ _,_=>by simp[bS]
 |.nilFunc,_=>by simp[bS]
 |.nilIface,_=>by simp[bS]
theorem BR (h:∀ i,p i=ao->ρ i=gx i):∀ l,zS p l=ao->nq ρ l=nq gx l
 |[],_=>rfl
 |v::l,hv=>by
  simp only[zS,aM] at hv;simp only[nq,aaG h v hv.1,BR h l hv.2]
end
theorem XZ (a:Addr):v7 s (v7 u a)=v7 (fun i=>s (u i)) a:=by
 obtain⟨b,o,q⟩:=a;cases q with
 |none=>rfl
 |some q=>simp only[v7];rw[ag0]
mutual
theorem afG:∀ v,gh s (gh u v)=gh (fun i=>s (u i)) v
 |.pointer (aa a)=>by simp only[gh,XZ]
 |.pointer aj=>by simp[gh]
 |.slice (aa a) k c=>by simp only[gh,XZ]
 |.slice aj _ _=>by simp[gh]
 |.map (aa r)=>by simp[gh]
 |.map aj=>by simp[gh]
 |.chan (aa r)=>by simp[gh]
 |.chan aj=>by simp[gh]
 |.agg ⟨l⟩=>by simp only[gh,B4 l]
 |.tuple ⟨l⟩=>by simp only[gh,B4 l]
 |.func fn ⟨f⟩ ⟨c⟩=>by simp only[gh,B4 f,B4 c]
 |.iface t v=>by simp only[gh,afG v]
 |.int _ _=>by simp[gh]
 |.bool _=>by simp[gh]
 |.string _=>by simp[gh]
 |.float _ _=>by simp[gh]
 |.complex _ _ _=>by simp[gh]
 |.nilFunc=>by simp[gh]
 |.nilIface=>by simp[gh]
theorem B4:∀ l,lR s (lR u l)=lR (fun i=>s (u i)) l
 |[]=>by simp[lR]
 |v::l=>by simp only[lR,afG v,B4 l]
end
theorem aaJ {a:Addr} (h:∀ i,p i=ao->s i=i) (ha:Mr p a=ao):v7 s a=a:=by
 have h1:=(rS ha).1;have h2:=(rS ha).2;obtain⟨b,o,q⟩:=a;cases q with
 |none=>simp only[v7];rw[h b h1]
 |some q =>
  simp only[v7];rw[h b h1]
  congr 2
  by_cases hq:q<1000000
  ·exact ub s hq
  ·rw[Es s hq,h _ (QE (h2 q rfl) (by omega))]
   omega
mutual
theorem afb (h:∀ i,p i=ao->s i=i):∀ v,mM p v=ao->gh s v=v
 |.pointer (aa a),hv=>by simp only[mM] at hv;simp only[gh,aaJ h hv]
 |.pointer aj,_=>by simp[gh]
 |.slice (aa a) k c,hv=>by simp only[mM] at hv;simp only[gh,aaJ h hv]
 |.slice aj _ _,_=>by simp[gh]
 |.map (aa r),hv=>by simp only[mM] at hv;simp[gh,h _ hv]
 |.map aj,_=>by simp[gh]
 |.chan (aa r),hv=>by simp only[mM] at hv;simp[gh,h _ hv]
 |.chan aj,_=>by simp[gh]
 |.agg ⟨l⟩,hv=>by simp only[mM] at hv;simp only[gh,EA h l hv]
 |.tuple ⟨l⟩,hv=>by simp only[mM] at hv;simp only[gh,EA h l hv]
 |.func fn ⟨f⟩ ⟨c⟩,hv=>by
  simp only[mM,aM] at hv;simp only[gh,EA h f hv.1,EA h c hv.2]
 |.iface t v,hv=>by simp only[mM] at hv;simp only[gh,afb h v hv]
 |.int _ _,_=>by simp[gh]
 |.bool _,_=>by simp[gh]
 |.string _,_=>by simp[gh]
 |.float _ _,_=>by simp[gh]
 |.complex _ _ _,_=>by simp[gh]
 |.nilFunc,_=>by simp[gh]
 |.nilIface,_=>by simp[gh]
theorem EA (h:∀ i,p i=ao->s i=i):∀ l,zS p l=ao->lR s l=l
 |[],_=>by simp[lR]
 |v::l,hv=>by
  simp only[zS,aM] at hv;simp only[lR,afb h v hv.1,EA h l hv.2]
end
theorem agw {a:Addr} {k c:Nat} (h:∀ i,i<n->s i<m) (hv:fv n (.slice (aa a) k c)=ao):fv m (.slice (aa (v7 s a)) k c)=ao:=by
 obtain⟨b,o,q⟩:=a;simp only[fv,aM,fe,vt] at hv ⊢;cases q with
 |none =>
  simp only[v7,EC];exact⟨h b hv.1,dh _⟩
 |some q =>
  simp only[v7,EC] at hv ⊢;refine⟨h b hv.1,?_⟩;rw[Q2];split
  ·omega
  ·rename_i h0;have:=h (q / 1000000-1) (by omega)
   omega
theorem aha {a:Addr} (h:∀ i,i<n->s i<m) (hv:fv n (.pointer (aa a))=ao):fv m (.pointer (aa (v7 s a)))=ao:=by
 obtain⟨b,o,q⟩:=a;simp only[fv,fe] at hv ⊢;cases q<;>exact h b hv
mutual
theorem aaW (h:∀ i,i<n->s i<m):∀ v,fv n v=ao->fv m (gh s v)=ao
 |.pointer (aa a),hv=>by simp only[gh];exact aha h hv
 |.pointer aj,_=>by simp[gh,fv]
 |.slice (aa a) k c,hv=>by simp only[gh];exact agw h hv
 |.slice aj _ _,_=>by simp[gh,fv]
 |.map (aa r),hv=>by simp only[gh,fv,fe] at *;exact h r hv
 |.map aj,_=>by simp[gh,fv]
 |.chan (aa r),hv=>by simp only[gh,fv,fe] at *;exact h r hv
 |.chan aj,_=>by simp[gh,fv]
 |.agg ⟨l⟩,hv=>by simp only[gh,fv] at *;exact we h l hv
 |.tuple ⟨l⟩,hv=>by simp only[gh,fv] at *;exact we h l hv
 |.func fn ⟨f⟩ ⟨c⟩,hv=>by
  simp only[gh,fv,aM] at *
  exact⟨we h f hv.1,we h c hv.2⟩
 |.iface t v,hv=>by simp only[gh,fv] at *;exact aaW h v hv
 |.int _ _,_=>by simp[gh,fv]
 |.bool _,_=>by simp[gh,fv]
 |.string _,_=>by simp[gh,fv]
 |.float _ _,_=>by simp[gh,fv]
 |.complex _ _ _,_=>by simp[gh,fv]
 |.nilFunc,_=>by simp[gh,fv]
 |.nilIface,_=>by simp[gh,fv]
theorem we (h:∀ i,i<n->s i<m):∀ l,iC n l=ao->iC m (lR s l)=ao
 |[],_=>by simp[lR,iC]
 |v::l,hv=>by
  simp only[iC,aM] at hv;simp only[lR,iC,aM];exact⟨aaW h v hv.1,we h l hv.2⟩
end
mutual
theorem aaA:∀ v,mM (fun i=>gQ i n) v=ao->fv n v=ao
 |.pointer (aa a),hv=>by
  simp only[mM] at hv
  simpa [fv] using(rS hv).1
 |.pointer aj,_=>by simp[fv]
 |.slice (aa a) k c,hv=>by
  simp only[mM] at hv;have h1:=(rS hv).1;have h2:=(rS hv).2;simp only[fe] at h1;simp only[fv,aM,fe,vt];refine⟨h1,?_⟩;cases hs:a.spot with
  |none=>simp[EC]
  |some q =>
   simp only[EC]
   by_cases h0:q / 1000000=0
   ·omega
   ·have:=QE (h2 q hs) h0;simp only[fe] at this;omega
 |.slice aj _ _,_=>by simp[fv]
 |.map (aa r),hv=>by simpa [mM,fv] using hv
 |.map aj,_=>by simp[fv]
 |.chan (aa r),hv=>by simpa [mM,fv] using hv
 |.chan aj,_=>by simp[fv]
 |.agg ⟨l⟩,hv=>by simp only[mM] at hv;simp only[fv];exact BE l hv
 |.tuple ⟨l⟩,hv=>by simp only[mM] at hv;simp only[fv];exact BE l hv
 |.func fn ⟨f⟩ ⟨c⟩,hv=>by
  simp only[mM,aM] at hv;simp only[fv,aM];exact⟨BE f hv.1,BE c hv.2⟩
 |.iface t v,hv=>by simp only[mM] at hv;simp only[fv];exact aaA v hv
 |.int _ _,_=>by simp[fv]
 |.bool _,_=>by simp[fv]
 |.string _,_=>by simp[fv]
 |.float _ _,_=>by simp[fv]
 |.complex _ _ _,_=>by simp[fv]
 |.nilFunc,_=>by simp[fv]
 |.nilIface,_=>by simp[fv]
theorem BE:∀ l,zS (fun i=>gQ i n) l=ao->iC n l=ao
 |[],_=>by simp[iC]
 |v::l,hv=>by
  simp only[zS,aM] at hv;simp only[iC,aM];exact⟨aaA v hv.1,BE l hv.2⟩
end
end
mutual
def pB (k:Nat):Value->Value
 |.slice (aa ⟨b,o,aa q⟩) n c=>match gQ b k with
  |true=>.slice (aa ⟨b,o,aa q⟩) n c
  |false=>.slice aj n 0
 |.agg ⟨l⟩=>.agg ⟨wI k l⟩
 |.tuple ⟨l⟩=>.tuple ⟨wI k l⟩
 |.func fn ⟨f⟩ ⟨c⟩=>.func fn ⟨wI k f⟩ ⟨wI k c⟩
 |.iface t v=>.iface t (pB k v)
 |v=>v
def wI (k:Nat):List Value->List Value
 |[]=>[]
 |v::l=>pB k v::wI k l
end
def Vt:Place:=⟨0,0,0,ao⟩
def xE (ρ:Env) (k:Nat):Env:=fun i=>if i<k then ρ i else Vt
section
variable {ρ:Env} {k:Nat}
theorem xr {i:Nat} (h:i<k):xE ρ k i=ρ i:=by simp[xE,h]
theorem XR {i:Nat} (h:¬ i<k):xE ρ k i=Vt:=by simp[xE,h]
mutual
theorem JJ:∀ v,fv k (pB k v)=ao->bS ρ (pB k v)=bS (xE ρ k) v
 |.pointer (aa a),hv=>by
  simp only[pB] at hv ⊢;exact ng (n:=k) (fun i hi=>(xr hi).symm) _ hv
 |.pointer aj,_=>by simp[pB,bS]
 |.slice (aa ⟨b,o,aj⟩) n c,hv=>by
  simp only[pB] at hv ⊢;exact ng (n:=k) (fun i hi=>(xr hi).symm) _ hv
 |.slice (aa ⟨b,o,aa q⟩) n c,hv=>by
  simp only[pB] at hv ⊢;split
  ·rename_i hb;rw[hb] at hv;exact ng (n:=k) (fun i hi=>(xr hi).symm) _ hv
  ·rename_i hb;have j6:¬ b<k:=fun h=>by rw[p7.2 h] at hb;cases hb
   simp only[bS,lK];rw[XR j6]
   rfl
 |.slice aj _ _,_=>by simp[pB,bS]
 |.map (aa r),hv=>by
  simp only[pB] at hv ⊢;exact ng (n:=k) (fun i hi=>(xr hi).symm) _ hv
 |.map aj,_=>by simp[pB,bS]
 |.chan (aa r),hv=>by
  simp only[pB] at hv ⊢;exact ng (n:=k) (fun i hi=>(xr hi).symm) _ hv
 |.chan aj,_=>by simp[pB,bS]
 |.agg ⟨l⟩,hv=>by simp only[pB,fv] at hv;simp only[pB,bS,DS l hv]
 |.tuple ⟨l⟩,hv=>by simp only[pB,fv] at hv;simp only[pB,bS,DS l hv]
 |.func fn ⟨f⟩ ⟨c⟩,hv=>by
  simp only[pB,fv,aM] at hv;simp only[pB,bS,DS f hv.1,DS c hv.2]
 |.iface t v,hv=>by simp only[pB,fv] at hv;simp only[pB,bS,JJ v hv]
 |.int _ _,_=>by simp[pB]
 |.bool _,_=>by simp[pB]
 |.string _,_=>by simp[pB]
 |.float _ _,_=>by simp[pB,bS]
 |.complex _ _ _,_=>by simp[pB,bS]
 |.nilFunc,_=>by simp[pB,bS]
 |.nilIface,_=>by simp[pB,bS]
theorem DS:∀ l,iC k (wI k l)=ao->nq ρ (wI k l)=nq (xE ρ k) l
 |[],_=>by simp[wI,nq]
 |v::l,hv=>by
  simp only[wI,iC,aM] at hv;simp only[wI,nq,JJ v hv.1,DS l hv.2]
end
end
def A4:List Value->List aW->Bool
 |[],[]=>ao
 |.int _ _::tm,c::cs=>c.i.isEmpty&&A4 tm cs
 |.bool _::tm,c::cs=>c.b.isEmpty&&A4 tm cs
 |.string _::tm,c::cs=>c.s.isEmpty&&A4 tm cs
 |_,_=>an
structure To (r:Row):Prop where
 n:r.n=0
 ne:0<r.tm.length
 ez:A4 r.tm r.ez=ao
theorem R5:∀ {tm:List Value} {cs:List aW},A4 tm cs=ao->cs.length=tm.length/\∀ (f:Nat) (t:Value) (c:aW),tm[f]?=aa t->cs[f]?=aa c->jJ t c 0
 |[],[],_=>⟨rfl,fun f t c h=>by simp at h⟩
 |[],_::_,h=>by simp[A4] at h
 |v::tm,[],h=>by cases v<;>simp[A4] at h
 |v::tm,c::cs,h=>by
  have:jJ v c 0/\A4 tm cs=ao:=by
   cases v<;>simp only[A4,aM,List.isEmpty_iff] at h<;>first|exact⟨by simp[jJ,h.1],h.2⟩|cases h
  obtain⟨h1,h2⟩:=R5 this.2;refine⟨by simp[h1],fun f t c' ht hc=>?_⟩
  cases f with
  |zero =>
   simp only[cd,ct] at ht hc;subst ht;subst hc;exact this.1
  |succ f =>
   simp only[bH] at ht hc;exact h2 f t c' ht hc
section
variable {R:Type} {D:fJ R} {C:Ctx} {ρ ρn:Env} {ft:Nat->Nat->Prop} {w:World} {h hn:Hp R}
theorem abI {b:Nat} {F:Nat->Prop} {t:TypeId} {r:Row} (hr:To r) (hp:ρ b=Vt) (hF:∀ k,¬ F k):hold D C ρ b F w (.inr (.inl (t,r))):=by
 obtain⟨c1,c2⟩:=R5 hr.ez;simp only[hold,hp,Vt];refine⟨fun k=>⟨fun hk=>absurd hk (hF k),fun hk=>by cases hk.1⟩,hr.ne,by rw[hr.n];exact a_ _,dh _,by simp,#[],(fun hk=>by cases hk),⟨c1,fun f t c ht hc=>by rw[hr.n];exact c2 f t c ht hc,fun f t c e _ _ he=>by rw[hr.n] at he;omega⟩⟩
def BJ (n:Nat) (c:aW):aW:=⟨c.i.take n,c.b.take n,c.s.take n⟩
structure ZS (r' r:Row):Prop where
 tm:r'.tm=r.tm
 n:r'.n≤r.n
 ez:r'.ez=r.ez.map (BJ r'.n)
theorem ZA {t:Value} {c:aW} {n m:Nat} (h:jJ t c n) (hm:m≤n):jJ t (BJ m c) m:=by
 cases t<;>simp only[jJ,BJ] at h ⊢<;>first|exact h|(rw[dQ];omega)
theorem U9 {t:Value} {c:aW} {m e:Nat} (h:e<m):gF t (BJ m c) e=gF t c e:=by
 cases t<;>simp only[gF,BJ,au,oF,h,if_true]
theorem n8.lt {r' r:Row} {arr:Array Value} {o:Nat} (h:n8 r arr o) (hl:ZS r' r):n8 r' arr o where
 len:=by rw[hl.ez,hl.tm,List.length_map];exact h.len
 I_ f t c ht hc:=by
  rw[hl.tm] at ht;rw[hl.ez,fh] at hc;cases Dk:r.ez[f]? with
  |none=>rw[Dk] at hc;cases hc
  |some c0 =>
   rw[Dk] at hc;injection hc with hc
   subst hc;exact ZA (h.I_ f t c0 ht Dk) hl.n
 cell f t c e ht hc he:=by
  rw[hl.tm] at ht ⊢;rw[hl.ez,fh] at hc;cases Dk:r.ez[f]? with
  |none=>rw[Dk] at hc;cases hc
  |some c0 =>
   rw[Dk] at hc;injection hc with hc
   subst hc;rw[U9 he];exact h.cell f t c0 e ht Dk (lA he hl.n)
def Gb (r' r:Row):Prop:=r'=r∨ZS r' r
def K4 (y x:(TypeId×Row) ⊕ Row ⊕ R):Prop :=
 match y,x with
 |.inl (t,r),.inl (t',r')=>t'=t/\Gb r' r
 |.inl _,.inr _=>False
 |.inr _,.inl _=>False
 |.inr y,.inr x=>y=x
def Qa (ρ ρn:Env) (n:Nat) (Y X:SB R):Prop :=
 match Y,X with
 |.inl (t,cs),.inl (t',CF)=>t=t'/\CF.map (bS ρn)=cs.map (bS ρ)/\iC n CF=ao
 |.inl _,_=>False
 |.inr _,.inl _=>False
 |.inr y,.inr x=>K4 y x
theorem K4.refl (y:(TypeId×Row) ⊕ Row ⊕ R):K4 y y:=by
 rcases y with⟨t,r⟩|r|x
 ·exact⟨rfl,dK rfl⟩
 ·rfl
 ·rfl
theorem SH {i b:Nat} {F:Nat->Prop} {Y X:SB R} {n:Nat} (hh:hold D C ρ i F w Y) (hl:Qa ρ ρn n Y X) (hp:ρn b=ρ i):hold D C ρn b F w X/\inside n X:=by
 rcases Y with⟨t,cs⟩|Y
 ·rcases X with⟨t',CF⟩|X
  ·obtain⟨rfl,h2,h3⟩:=hl;simp only[hold] at hh ⊢;rw[hp,h2];exact⟨hh,h3⟩
  ·cases hl
 ·rcases X with⟨t',CF⟩|X
  ·cases hl
  ·replace hl:K4 Y X:=hl
   rcases Y with⟨t,r⟩|Y<;>rcases X with⟨t',r'⟩|X
   ·have hq:t'=t/\(r'=r∨ZS r' r):=hl;clear hl;obtain⟨e1,e2⟩:=hq;subst e1;rcases e2 with e3|hl
    ·subst e3;simp only[hold] at hh ⊢;rw[hp];exact⟨hh,trivial⟩
    ·simp only[hold] at hh ⊢;rw[hp];obtain⟨h1,h2,h3,h4,h5,arr,h6,h7⟩:=hh;exact⟨⟨h1,by rw[hl.tm];exact h2,jo hl.n h3,h4,h5,arr,by rw[hl.tm];exact h6,h7.lt hl⟩,trivial⟩
   ·exact kL hl
   ·exact kL hl
   ·have hl:Y=X:=hl;subst hl;rcases Y with r|x
    ·simp only[hold] at hh ⊢;rw[hp];exact⟨hh,trivial⟩
    ·simp only[hold] at hh ⊢;rw[hp];exact⟨hh,trivial⟩
theorem HM.rename (hm:HM D C ρ ft h w) (s:Nat->Nat)
  (hb:∀ (b:Nat) (X:SB R),hn[b]?=aa (aa X)->(ρn b=ρ (s b)/\∃ Y,h[s b]?=aa (aa Y)/\Qa ρ ρn hn.length Y X)∨(h.length≤s b/\ρn b=Vt/\∃ t r,X=.inr (.inl (t,r))/\To r))
  (hi:∀ (b b':Nat) (X X':SB R),s b<h.length->hn[b]?=aa (aa X)->hn[b']?=aa (aa X')->s b=s b'->b=b') :
  HM D C ρn (fun b k=>(∃ X,hn[b]?=aa (aa X))/\ft (s b) k) hn w where
 at_ b X hX:=by
  rcases hb b X hX with⟨h1,Y,hY,hl⟩|⟨j6,hp,t,r,rfl,hr⟩
  rotate_left
  ·exact⟨abI hr hp fun k hk=>by
    obtain⟨B,hB⟩:=hm.some_ _ k hk.2;have:=(aT.1 hB).1;omega,trivial⟩
  have:=SH (hm.at_ (s b) Y hY).1 hl h1;have e:(fun k=>(∃ X,hn[b]?=aa (aa X))/\ft (s b) k)=ft (s b):=funext fun k=>propext ⟨fun h=>h.2,fun h=>⟨⟨X,hX⟩,h⟩⟩
  rw[e];exact this
 lt b k hk:=hm.lt _ k hk.2
 fresh b k hk:=hm.fresh _ k hk.2
 apart b b' k hk nx:=by
  obtain⟨⟨X,hX⟩,h1⟩:=hk;obtain⟨⟨X',hX'⟩,h2⟩:=nx;have ch:s b<h.length:=by
   obtain⟨B,hB⟩:=hm.some_ _ k h1;exact(aT.1 hB).1
  exact hi b b' X X' ch hX hX' (hm.apart _ _ k h1 h2)
 some_ b k hk:=hk.1
 kept:=hm.kept
def yW (s:Nat->Nat):SB R->SB R
 |.inl (t,cs)=>.inl (t,lR s cs)
 |.inr x=>.inr x
theorem rL {ρ:Env} {s:Nat->Nat} (l:List Value):(lR s l).map (bS ρ)=l.map (bS (fun i=>ρ (s i))):=by rw[← lp,← lp,Bw]
end
end Rx
namespace Rx
open Go.RowKit State
def nth:List Nat->Nat->Nat
 |[],_=>0
 |a::_,0=>a
 |_::l,i+1=>nth l i
def pos:List Nat->Nat->Nat
 |[],_=>0
 |a::l,b=>match fp a b with
  |true=>0
  |false=>pos l b+1
def vR:List Nat->Bool
 |[]=>ao
 |a::l=>!mem l a&&vR l
theorem GQ:∀ {s:List Nat} {i:Nat},i<s.length->nth s i∈s
 |[],i,h=>by simp at h
 |a::l,0,_=>by simp[nth]
 |a::l,i+1,h=>by
  simp only[nth];exact eo _ (GQ (by simpa using h))
theorem oA:∀ {s:List Nat} {b:Nat},b∈s->nth s (pos s b)=b/\pos s b<s.length
 |[],b,h=>by cases h
 |a::l,b,h=>by
  simp only[pos];split
  ·rename_i hb;exact⟨cO hb,by simp⟩
  ·rename_i hb;have hl:b∈l:=by
    rcases bO.1 h with rfl|h
    ·simp at hb
    ·exact h
   obtain⟨h1,h2⟩:=oA hl;exact⟨by simpa [nth] using h1,by simp;omega⟩
theorem XH:∀ {s:List Nat} {i:Nat},vR s=ao->i<s.length->pos s (nth s i)=i
 |[],i,_,h=>by simp at h
 |a::l,0,_,_=>by simp[nth,pos]
 |a::l,i+1,hn,h=>by
  simp only[vR,aM,mP] at hn;have hi:i<l.length:=by simpa using h
  have hm:=GQ hi;simp only[nth,pos];have kz:fp a (nth l i)=an:=by
   cases hb:fp a (nth l i) with
   |false=>rfl
   |true =>
    rw[← cO hb] at hm;rw[mem_iff.2 hm] at hn;simp at hn
  rw[kz];simp only;rw[XH hn.2 hi]
section
variable {R:Type} {D:fJ R} {P:Program} {T:eJ R} {C:Ctx} {ρ gx:Env} {ft ky:Nat->Nat->Prop} {w w':World} {h hr hx h':Hp R}
theorem B6 {a b:Nat} (h:a<b):gQ a b=ao:=p7.2 h
theorem zi {a b:Nat} (h:¬ a<b):gQ a b=an:=by
 cases hb:gQ a b with
 |false=>rfl
 |true=>exact absurd (p7.1 hb) h
theorem fE {α:Type} {l:List α} {k:Nat} (h:l.length=k):cut l 0 k=l:=by subst h;exact ahf l
def JK:Value->Value
 |.slice (aa ⟨b,0,aa q⟩) n c=>match fp (q / 1000000) (b+1)&&fp (q%1000) 0 with
  |true=>.slice (aa ⟨b,0,aa (q%1000000)⟩) n c
  |false=>.slice (aa ⟨b,0,aa q⟩) n c
 |v=>v
theorem ML (ρ:Env) (v:Value):bS ρ (JK v)=bS ρ v:=by
 unfold JK;split
 ·rename_i b q n c;split
  ·rename_i h;simp only[aM] at h;have h1:=cO h.1;have h2:=cO h.2;simp only[bS,zq]
   by_cases hn:(ρ b).nil=ao
   ·rw[if_pos hn,if_pos hn]
   ·rw[if_neg hn,if_neg hn,if_neg (fun h=>h.1 (by omega))]
    by_cases hc:(ρ b).cap≤0
    ·rw[if_pos ⟨by omega,hc⟩,show q / 1000000-1=b by omega]
     have h3:q%1000000%1000=0:=by omega
     have h4:(ρ b).cap=0:=by omega
     simp only[iI,cellOf,Bc,bU,h3,h4,gR]
    ·rw[if_neg (fun h=>hc h.2)]
     have h3:q%1000000%1000=q%1000:=by omega
     simp only[iI,cellOf,Bc,bU,h3]
  ·rfl
 ·rfl
theorem MW (m:Nat) (v:Value):fv m (JK v)=fv m v:=by
 unfold JK;split
 ·rename_i b q n c;split
  ·rename_i h;simp only[aM] at h;have h1:=cO h.1;rw[Bool.eq_iff_iff];simp only[fv,EC,aM,fe,vt];omega
  ·rfl
 ·rfl
def Ib:List Value->List Value
 |[]=>[]
 |v::l=>JK v::Ib l
theorem JM (ρ:Env):∀ l:List Value,(Ib l).map (bS ρ)=l.map (bS ρ)
 |[]=>rfl
 |v::l=>by simp only[Ib,gw,ML,JM ρ l]
theorem KI (m:Nat):∀ l:List Value,iC m (Ib l)=iC m l
 |[]=>rfl
 |v::l=>by simp only[Ib,iC,MW,KI m l]
structure alg (k:Nat) (s:Nat->Nat) (hp:Hp R) (j:Nat) (t:TypeId) (cs:List Value):Prop where
 ex:∃ CF,fW hp j=aa (.inl (t,CF))/\Ib CF=Ib (wI k (lR s cs))
def AE (k:Nat) (s:Nat->Nat) (hp:Hp R) (j:Nat):SB R->Prop
 |.inl (t,cs)=>fW hp j=aa (.inl (t,wI k (lR s cs)))∨alg k s hp j t cs
 |.inr (.inl (t,r'))=>match gQ j k with
  |true=>∃ r,fW hp j=aa (.inr (.inl (t,r)))/\Gb r' r
  |false=>To r'
 |.inr (.inr x)=>fW hp j=aa (.inr (.inr x))
def tW (k:Nat) (s:Nat->Nat) (hp:Hp R):Nat->Hp R->Prop
 |_,[]=>True
 |b,aj::l=>tW k s hp (b+1) l
 |b,aa X::l=>AE k s hp (s b) X/\tW k s hp (b+1) l
def yK (k:Nat) (s:Nat->Nat):Nat->Hp R->List Nat
 |_,[]=>[]
 |b,aj::l=>yK k s (b+1) l
 |b,aa _::l=>match gQ (s b) k with
  |true=>s b::yK k s (b+1) l
  |false=>yK k s (b+1) l
theorem tW.get {k:Nat} {s:Nat->Nat} {hp:Hp R}:∀ {b:Nat} {l:Hp R} {i:Nat} {X:SB R},tW k s hp b l->l[i]?=aa (aa X)->AE k s hp (s (b+i)) X
 |b,[],i,X,_,hi=>by simp at hi
 |b,aj::l,i,X,h,hi=>by
  cases i with
  |zero=>simp at hi
  |succ i =>
   simp only[bH] at hi;have:=tW.get (b:=b+1) h hi
   rwa [show b+1+i=b+(i+1) by omega] at this
 |b,aa Y::l,i,X,h,hi=>by
  cases i with
  |zero =>
   simp only[cd,ct] at hi;subst hi;exact h.1
  |succ i =>
   simp only[bH] at hi;have:=tW.get (b:=b+1) h.2 hi
   rwa [show b+1+i=b+(i+1) by omega] at this
theorem Im {k:Nat} {s:Nat->Nat}:∀ {b:Nat} {l:Hp R} {i:Nat} {X:SB R},s (b+i)<k->l[i]?=aa (aa X)->s (b+i)∈yK k s b l
 |b,[],i,X,_,hi=>by simp at hi
 |b,aj::l,i,X,hk,hi=>by
  cases i with
  |zero=>simp at hi
  |succ i =>
   simp only[bH] at hi;rw[show b+(i+1)=b+1+i by omega] at hk ⊢
   exact Im (s:=s) (b:=b+1) hk hi
 |b,aa Y::l,i,X,hk,hi=>by
  simp only[yK];cases i with
  |zero =>
   simp only[gR] at hk ⊢;rw[p7.2 hk];exact bL
  |succ i =>
   simp only[bH] at hi;rw[show b+(i+1)=b+1+i by omega] at hk ⊢
   have:=Im (s:=s) (b:=b+1) hk hi;split
   ·exact eo _ this
   ·exact this
theorem No {k:Nat} {s:Nat->Nat}:∀ {b:Nat} {l:Hp R} {i j:Nat} {X Y:SB R},vR (yK k s b l)=ao->s (b+i)<k->l[i]?=aa (aa X)->l[j]?=aa (aa Y)->s (b+i)=s (b+j)->i=j
 |b,[],i,j,X,Y,_,_,hi,_,_=>by simp at hi
 |b,aj::l,i,j,X,Y,hn,hk,hi,hj,he=>by
  cases i with
  |zero=>simp at hi
  |succ i =>
   cases j with
   |zero=>simp at hj
   |succ j =>
    simp only[bH] at hi hj;rw[show b+(i+1)=b+1+i by omega] at hk he
    rw[show b+(j+1)=b+1+j by omega] at he
    rw[No (b:=b+1) (s:=s) hn hk hi hj he]
 |b,aa Z::l,i,j,X,Y,hn,hk,hi,hj,he=>by
  have xW:vR (yK k s (b+1) l)=ao/\(s b<k->¬ s b∈yK k s (b+1) l):=by
   simp only[yK] at hn;split at hn
   ·simp only[vR,aM,mP] at hn;exact⟨hn.2,fun _ hm=>by rw[mem_iff.2 hm] at hn;simp at hn⟩
   ·rename_i hb;exact⟨hn,fun ch=>by rw[p7.2 ch] at hb;cases hb⟩
  cases i with
  |zero =>
   cases j with
   |zero=>rfl
   |succ j =>
    simp only[bH] at hj;simp only[gR] at hk he;rw[show b+(j+1)=b+1+j by omega] at he
    have:=Im (s:=s) (b:=b+1) (k:=k) (by rw[← he];exact hk) hj
    rw[← he] at this;exact absurd this (xW.2 hk)
  |succ i =>
   simp only[bH] at hi;rw[show b+(i+1)=b+1+i by omega] at hk he
   cases j with
   |zero =>
    simp only[gR] at he;have:=Im (s:=s) (b:=b+1) hk hi;rw[he] at this hk;exact absurd this (xW.2 hk)
   |succ j =>
    simp only[bH] at hj;rw[show b+(j+1)=b+1+j by omega] at he
    rw[No (b:=b+1) (s:=s) xW.1 hk hi hj he]
theorem rm {b:Nat} {X:SB R} (hb:fW h b=aa X):h[b]?=aa (aa X):=by
 unfold fW at hb;split at hb
 ·rename_i hh;rw[hh,hb]
 ·cases hb
theorem J6 {b:Nat} {X:SB R} (hb:h[b]?=aa (aa X)):fW h b=aa X:=by
 unfold fW;rw[hb]
theorem agj {n:Nat} {s:Nat->Nat} {ρn:Env} {X:SB R} (qM:∀ b,ρn b=ρ (s b)) (hi:inside n X):Qa ρ ρn n (yW s X) X:=by
 have e:ρn=fun b=>ρ (s b):=funext qM
 rcases X with⟨t,cs⟩|X
 ·refine⟨rfl,?_,hi⟩;rw[rL,e]
 ·exact K4.refl X
theorem AE.ane {n:Nat} {s:Nat->Nat} {ρn:Env} {X:SB R} {hp:Hp R} {j:Nat} (h:AE hp.length s hp j X) (j8:∀ Y,hp[j]?=aa (aa Y)->inside hp.length Y) (qM:∀ b,ρn b=xE ρ hp.length (s b)) (hi:inside n X) :
  (j<hp.length/\∃ Y,hp[j]?=aa (aa Y)/\Qa ρ ρn n Y X)∨(hp.length≤j/\∃ t r,X=.inr (.inl (t,r))/\To r):=by
 have lt:∀ {Y},hp[j]?=aa (aa Y)->j<hp.length:=fun hY=>(aT.1 hY).1
 rcases X with⟨t,cs⟩|⟨t,r'⟩|x
 ·have hT:∃ CF,fW hp j=aa (.inl (t,CF))/\Ib CF=Ib (wI hp.length (lR s cs)):=by
   rcases h with h|⟨⟨CF,h1,h2⟩⟩
   ·exact⟨_,h,rfl⟩
   ·exact⟨CF,h1,h2⟩
  obtain⟨CF,h1,h2⟩:=hT;have hY:=rm h1;refine dK ⟨lt hY,_,hY,rfl,?_,hi⟩;have ai':=j8 _ hY;simp only[inside] at ai';have anc:iC hp.length (wI hp.length (lR s cs))=ao:=by rw[← KI,← h2,KI];exact ai'
  rw[← JM ρ CF,h2,JM,← lp,← lp,DS _ anc,Bw]
  congr 1
  exact funext qM
 ·simp only[AE] at h;split at h
  ·obtain⟨r,h1,h2⟩:=h;exact dK ⟨lt (rm h1),_,rm h1,⟨rfl,h2⟩⟩
  ·rename_i hb;refine e7 ⟨?_,t,r',rfl,h⟩;rcases cr j hp.length with h'|h'
   ·rw[p7.2 h'] at hb;cases hb
   ·exact h'
 ·exact dK ⟨lt (rm h),_,rm h,by cases x<;>rfl⟩
theorem HM.Vq {s:Nat->Nat} {hp hn:Hp R} (hm:HM D C ρ ft hp w) (h2:tW hp.length s hp 0 hn) (h3:vR (yK hp.length s 0 hn)=ao) (h5:sX hn.length hn=ao) :
  HM D C (fun b=>xE ρ hp.length (s b)) (fun b k=>(∃ X,hn[b]?=aa (aa X))/\ft (s b) k) hn w:=by
 refine hm.rename s (fun b X hX=>?_) fun b b' X X' ch hX hX' he=>No (b:=0) h3 (by simpa using ch) hX hX' (by simpa using he)
 have:=h2.get hX;rw[bU] at this;rcases this.ane (fun Y hY=>(hm.at_ _ Y hY).2) (fun _=>rfl) (BO h5 hX) with⟨ch,Y,hY,hl⟩|⟨j6,t,r,rfl,hr⟩
 ·exact dK ⟨xr ch,Y,hY,hl⟩
 ·exact e7 ⟨j6,XR (by omega),t,r,rfl,hr⟩
structure Ends (n:Nat) (x:Out R) (v:Value) (hp:Hp R):Prop where
 ex:∃ s:List Nat,v=pB hp.length (gh (nth s) x.v)/\fv hp.length v=ao/\tW hp.length (nth s) hp 0 x.hp/\vR (yK hp.length (nth s) 0 x.hp)=ao/\F3 (fun i=>fp (nth s i) i) n=ao/\uI n hp.length=ao/\sX x.hp.length x.hp=ao
theorem HM.ends {n:Nat} {x:Out R} {v:Value} {hp:Hp R} (he:Ends n x v hp) (hm:HM D C ρ ft hp w) :
  ∃ gx ky,(∀ i,i<n->gx i=ρ i)/\bS ρ v=bS gx x.v/\HM D C gx ky x.hp w:=by
 obtain⟨s,h1,RY,h2,h3,h4,Ke,h5⟩:=he.ex;refine⟨fun b=>xE ρ hp.length (nth s b),_,fun i hi=>?_,?_,hm.Vq h2 h3 h5⟩
 ·have:=zL h4 hi;show xE ρ hp.length (nth s i)=ρ i
  rw[cO this];have:=jE Ke;exact xr (by omega)
 ·rw[h1] at RY ⊢;rw[JJ _ RY,CN]
theorem wa {f : FuncId} {fn : Func} {root : Code} {on : List Value → Hp R → Prop} {spec : Prim R} (hf : P.funcs[f]? = aa fn) (hb : fn.body = aa root) (Y2 : (fn.name == "runtime.NumGoroutine") = an)
  (H:∀ args hh x,spec args hh=aa x->hh.length≤x.hp.length/\(∀ b,x.lit=aa b->x.v=.bool b)/\(x.wr=[]->x.hp=hh) /\
   (on args hh->x.vc->At D P root hh.length (ia P fn.results.toList (Ends hh.length x)) [.inl []] ⟨vd args++ls (fn.ntmps-args.length) aj,[],hh⟩)):rz D P f on spec where
 known:=⟨fn,hf,Y2,by rw[hb];rfl⟩
 run args hh x mO hx C ρ ft w hm hv hi:=by
  obtain⟨_,_,_,h4⟩:=H args hh x hx;refine(Ni hf hb (h4 mO hv) hm hi).mono fun e w' ⟨gx,ky,v,xb,g1,g2,g3,g4⟩=>?_
  obtain⟨ni,KC,q1,q2,q3⟩:=g4.ends g3;exact⟨ni,KC,fun i hi=>(q1 i hi).trans (g1 i hi),by rw[g2,q2],q3⟩
 len args hh x hx:=(H args hh x hx).1
 lit args hh x hx:=(H args hh x hx).2.1
 still args hh x hx:=(H args hh x hx).2.2.1
def Sub (hr h:Hp R):Prop:=∀ (b:Nat) (X:SB R),hr[b]?=aa (aa X)->h[b]?=aa (aa X)∨∃ t r,X=.inr (.inr (.inl r))/\h[b]?=aa (aa (.inr (.inl (t,r))))
def A7 (hr:Hp R) (b:Nat):Prop:=∃ X,hr[b]?=aa (aa X)/\hO X=an
def Tt (w:World) (hr:Hp R) (ft:Nat->Nat->Prop) (ρ:Env) (n:Nat):Ctx:=⟨w,fun k=>∃ b,A7 hr b/\ft b k,ρ,n⟩
theorem HM.amL (hm:HM D C ρ ft h w) (nk:Sub hr h) (hlen:hr.length=h.length) (n:Nat):HM D (Tt w hr ft ρ n) ρ (fun b k=>A7 hr b/\ft b k) hr w where
 at_ i B hB:=by
  rcases nk i B hB with hi|⟨t,r,rfl,hi⟩
  ·obtain⟨h1,h2⟩:=hm.at_ i B hi;refine⟨?_,by rw[hlen];exact h2⟩
   cases hv:hO B with
   |false =>
    have e:(fun k=>A7 hr i/\ft i k)=ft i:=funext fun k=>propext ⟨fun h=>h.2,fun h=>⟨⟨B,hB,hv⟩,h⟩⟩
    rw[e];exact yM hv h1
   |true =>
    rcases B with⟨t,cs⟩|⟨t,r⟩|r|x<;>simp[hO] at hv
    obtain⟨g1,g2,g3,g4,g5,arr,g6,g7⟩:=h1;refine⟨fun k hk=>?_,g2,g3,g4,g5,arr,fun hn h0=>?_,g7⟩
    ·exact g1 k hk.2
    ·obtain⟨q1,q2,t,fz,q3⟩:=g6 hn h0;refine⟨lA q1 hm.kept.size,fun⟨b,_,hb⟩=>?_,t,fz,by rw[← q3];exact hm.kept.block _ q1 q2⟩
     rcases hm.fresh b _ hb with hu|j6
     ·exact q2 hu
     ·omega
  ·obtain⟨h1,h2⟩:=hm.at_ i _ hi;obtain⟨g1,g2,g3,g4,g5,arr,g6,g7⟩:=h1;have CI:¬ A7 hr i:=fun⟨X,hX,hv⟩=>by
    rw[hB] at hX;injection hX with hX;injection hX with hX
    subst hX;simp[hO] at hv
   refine⟨⟨fun k hk=>CI hk.1,g2,g3,g4,g5,arr,fun hn _=>?_,g7⟩,trivial⟩
   obtain⟨q1,q2⟩:=g6 hn;have Mp:ft i (ρ i).lI:=(g1 _).2 ⟨hn,rfl⟩;refine⟨hm.lt i _ Mp,fun⟨b,hb,hbk⟩=>?_,t,(0,0),q1⟩
   rw[hm.apart b i _ hbk Mp] at hb;exact CI hb
 lt i k hk:=hm.lt i k hk.2
 fresh i k hk:=dK ⟨i,hk.1,hk.2⟩
 apart i j k hi hj:=hm.apart i j k hi.2 hj.2
 some_ i k hk:=by obtain⟨X,hX,_⟩:=hk.1;exact⟨X,hX⟩
 kept:=Kept.refl _ _
theorem HM.akJ (hm:HM D C ρ ft h w) (nk:Sub hr h) (hlen:hr.length=h.length) {n:Nat}
  (mH:HM D (Tt w hr ft ρ n) gx ky hx w') (qM:∀ b,b<h.length->gx b=ρ b) (hlx:h.length≤hx.length)
  (hv:∀ (b:Nat) (X:SB R),hx[b]?=aa (aa X)->hO X=an∨∃ Y,hr[b]?=aa (aa Y)/\hO Y=ao)
  (alv:h'.length=hx.length) (um:∀ (b:Nat),A7 hr b∨h.length≤b->h'[b]?=hx[b]?) (OC:∀ (b:Nat),b<h.length->¬ A7 hr b->h'[b]?=h[b]?) :
  HM D C gx (fun b k=>((A7 hr b∨h.length≤b)/\ky b k)∨(¬ (A7 hr b∨h.length≤b)/\ft b k)) h' w':=by
 refine hm.step (A7 hr) ⟨mH.kept.os,mH.kept.tape,mH.kept.output,mH.kept.size,fun k hk hn=>mH.kept.block k hk hn⟩ qM (by omega) ?_ ?_ ?_ ?_
 ·intro i B hi hB;have Ee:A7 hr i∨h.length≤i:=by
   rcases cr i h.length with ch|rM
   ·exact dK (hi ch)
   ·exact e7 rM
  rw[um i Ee] at hB;obtain⟨g1,g2⟩:=mH.at_ i B hB;have RV:hO B=an:=by
   rcases hv i B hB with h1|⟨Y,hY,X2⟩
   ·exact h1
   ·rcases Ee with⟨Y',Sf,JD⟩|rM
    ·rw[hY] at Sf;injection Sf with e;injection e with e;subst e;rw[X2] at JD;cases JD
    ·have:=(aT.1 hY).1;omega
  refine⟨?_,by rw[alv];exact g2⟩
  have e:(fun k=>((A7 hr i∨h.length≤i)/\ky i k)∨(¬ (A7 hr i∨h.length≤i)/\ft i k))=ky i:=funext fun k=>propext ⟨fun h=>h.elim (fun h=>h.2) (fun h=>absurd Ee h.1),fun h=>dK ⟨Ee,h⟩⟩
  rw[e];exact yM RV g1
 ·intro i hi hn;refine⟨OC i hi hn,fun k=>?_⟩
  have:¬ (A7 hr i∨h.length≤i):=fun hh=>hh.elim hn (fun h=>by omega)
  exact⟨fun h=>h.elim (fun h=>absurd h.1 this) (fun h=>h.2),fun h=>e7 ⟨this,h⟩⟩
 ·intro i k hi hk;have Ee:A7 hr i∨h.length≤i:=by
   rcases cr i h.length with ch|rM
   ·exact dK (hi ch)
   ·exact e7 rM
  have nx:ky i k:=hk.elim (fun h=>h.2) (fun h=>absurd Ee h.1)
  refine⟨?_,mH.lt i k nx,?_⟩
  ·rcases mH.fresh i k nx with⟨b,hb,hbk⟩|rM
   ·exact dK ⟨b,hb,hbk⟩
   ·exact e7 rM
  ·obtain⟨B,hB⟩:=mH.some_ i k nx;exact⟨B,by rw[um i Ee];exact hB⟩
 ·intro i j k hi hj Hf Hg;have Mi:A7 hr i∨h.length≤i:=by
   rcases cr i h.length with ch|rM
   ·exact dK (hi ch)
   ·exact e7 rM
  have hTj:A7 hr j∨h.length≤j:=by
   rcases cr j h.length with ch|rM
   ·exact dK (hj ch)
   ·exact e7 rM
  exact mH.apart i j k (Hf.elim (fun h=>h.2) (fun h=>absurd Mi h.1)) (Hg.elim (fun h=>h.2) (fun h=>absurd hTj h.1))
def FO (z:Bool):SB R->SB R
 |.inr (.inl (t,r))=>match z with
  |true=>.inr (.inr (.inl r))
  |false=>.inr (.inl (t,r))
 |B=>B
def o9 (z:Nat->Bool) (u:Nat->Nat) (h:Hp R):Nat->List Nat->Hp R
 |_,[]=>[]
 |i,b::l=>(match fW h b with
  |some B=>aa (yW u (FO (z i) B))
  |none=>aj)::o9 z u h (i+1) l
def PU (s:List Nat) (h:Hp R):List Nat->Bool
 |[]=>ao
 |b::l=>gQ b h.length&&(match fW h b with
  |some (.inl (_,cs))=>zS (mem s) cs
  |_=>ao)&&PU s h l
def Mx:List Nat->List Nat->List Nat
 |[],_=>[]
 |a::l,seen=>if mem seen a then Mx l seen else a::Mx l (a::seen)
def qn (s:List Nat) (n i:Nat):Nat:=if gQ i s.length then nth s i else n+(i-s.length)
def KJ (f:Nat->Nat):Option (SB R)->Option (SB R)
 |some B=>aa (yW f B)
 |none=>aj
def yx (s:List Nat) (f:Nat->Nat) (hl hx:Hp R):Nat->Hp R->Hp R
 |_,[]=>[]
 |b,x::h=>(if mem s b&&HX hl (pos s b) then KJ f (fW hx (pos s b)) else x)::yx s f hl hx (b+1) h
def yD (f:Nat->Nat):Hp R->Hp R
 |[]=>[]
 |x::l=>KJ f x::yD f l
def Dy (z:Nat->Bool) (d:Nat) (spec:Prim R):Prim R:=fun args h =>
 Wk (Mx (reach h d (sI args)) []) fun s =>
  if zS (mem s) args&&PU s h s&&vR s then
   Mw (o9 z (pos s) h 0 s) fun hl =>
    match spec (lR (pos s) args) hl with
    |some x=>if rC hl x.hp&&fv x.hp.length x.v then
      aa ⟨x.vc,gh (qn s h.length) x.v,x.lit,yx s (qn s h.length) hl x.hp 0 h++yD (qn s h.length) (x.hp.drop s.length),[],match x.wr with
       |[]=>[]
       |_=>[(0,0)]⟩
     else aj
    |none=>aj
  else aj
def Zi (z:Nat->Bool) (d:Nat) (when:List Value->Hp R->Option Bool) (args:List Value) (h:Hp R):Option Bool :=
 Wk (Mx (reach h d (sI args)) []) fun s=>Mw (o9 z (pos s) h 0 s) fun hl=>when (lR (pos s) args) hl
def bJ (z:Nat->Bool) (d:Nat) (c:je R):je R:=⟨Zi z d c.when,Dy z d c.yes,Dy z d c.no⟩
mutual
theorem aeM {p q:Nat->Bool} {s:Nat->Nat} (h:∀ i,p i=ao->q (s i)=ao):∀ v,mM p v=ao->mM q (gh s v)=ao
 |.pointer (aa a),hv=>by simp only[gh,mM] at *;exact aaD h hv
 |.pointer aj,_=>by simp[gh,mM]
 |.slice (aa a) k c,hv=>by simp only[gh,mM] at *;exact aaD h hv
 |.slice aj _ _,_=>by simp[gh,mM]
 |.map (aa r),hv=>by simp only[gh,mM] at *;exact h r hv
 |.map aj,_=>by simp[gh,mM]
 |.chan (aa r),hv=>by simp only[gh,mM] at *;exact h r hv
 |.chan aj,_=>by simp[gh,mM]
 |.agg ⟨l⟩,hv=>by simp only[gh,mM] at *;exact Ed h l hv
 |.tuple ⟨l⟩,hv=>by simp only[gh,mM] at *;exact Ed h l hv
 |.func fn ⟨f⟩ ⟨c⟩,hv=>by
  simp only[gh,mM,aM] at *
  exact⟨Ed h f hv.1,Ed h c hv.2⟩
 |.iface t v,hv=>by simp only[gh,mM] at *;exact aeM h v hv
 |.int _ _,_=>by simp[gh,mM]
 |.bool _,_=>by simp[gh,mM]
 |.string _,_=>by simp[gh,mM]
 |.float _ _,_=>by simp[gh,mM]
 |.complex _ _ _,_=>by simp[gh,mM]
 |.nilFunc,_=>by simp[gh,mM]
 |.nilIface,_=>by simp[gh,mM]
theorem Ed {p q:Nat->Bool} {s:Nat->Nat} (h:∀ i,p i=ao->q (s i)=ao):∀ l,zS p l=ao->zS q (lR s l)=ao
 |[],_=>by simp[lR,zS]
 |v::l,hv=>by
  simp only[zS,aM] at hv;simp only[lR,zS,aM];exact⟨aeM h v hv.1,Ed h l hv.2⟩
theorem aaD {p q:Nat->Bool} {s:Nat->Nat} (h:∀ i,p i=ao->q (s i)=ao) {a:Addr} (ha:Mr p a=ao):Mr q (v7 s a)=ao:=by
 have h1:=(rS ha).1;have h2:=(rS ha).2;obtain⟨b,o,t⟩:=a;cases t with
 |none=>exact h b h1
 |some t =>
  have h3:Ki q (CU s t)=ao:=aiT h (h2 t rfl);simp only[v7,Mr];rw[h b h1,h3]
  rfl
end
theorem rT {z:Nat->Bool} {u:Nat->Nat} {h:Hp R}:∀ {l:List Nat} {i0 i:Nat},(o9 z u h i0 l).length=l.length/\(i<l.length->(o9 z u h i0 l)[i]?=aa (match fW h (nth l i) with
  |some B=>aa (yW u (FO (z (i0+i)) B))
  |none=>aj))
 |[],i0,i=>⟨rfl,fun h=>by simp at h⟩
 |b::l,i0,i=>by
  obtain⟨h1,h2⟩:=rT (z:=z) (u:=u) (h:=h) (l:=l) (i0:=i0+1) (i:=i-1);refine⟨by simp[o9,h1],fun hl=>?_⟩
  cases i with
  |zero=>simp only[o9,cd,nth,gR]
  |succ i =>
   simp only[cy] at hl;have:=h2 (by omega)
   simp only[o9,bH,nth];simp only[mi] at this;rw[this,show i0+1+i=i0+(i+1) by omega]
theorem CG {s:List Nat} {h:Hp R}:∀ {l:List Nat} {b:Nat},PU s h l=ao->b∈l->b<h.length/\∀ t cs,fW h b=aa (.inl (t,cs))->zS (mem s) cs=ao
 |[],b,_,hb=>by cases hb
 |a::l,b,hs,hb=>by
  simp only[PU,aM,fe] at hs;rcases bO.1 hb with rfl|hb
  ·refine⟨hs.1.1,fun t cs e=>?_⟩
   have:=hs.1.2;rw[e] at this;exact this
  ·exact CG hs.2 hb
theorem nz {s:List Nat} {f:Nat->Nat} {hl hx:Hp R}:∀ {h:Hp R} {b0 b:Nat},(yx s f hl hx b0 h).length=h.length/\(b<h.length->(yx s f hl hx b0 h)[b]?=aa (if mem s (b0+b)&&HX hl (pos s (b0+b)) then KJ f (fW hx (pos s (b0+b))) else fW h b))
 |[],b0,b=>⟨rfl,fun h=>by simp at h⟩
 |x::h,b0,b=>by
  obtain⟨h1,h2⟩:=nz (s:=s) (f:=f) (hl:=hl) (hx:=hx) (h:=h) (b0:=b0+1) (b:=b-1);refine⟨by simp[yx,h1],fun ch=>?_⟩
  cases b with
  |zero=>simp[yx,fW]
  |succ b =>
   simp only[cy] at ch;have:=h2 (by omega)
   simp only[yx,bH];simp only[mi] at this;rw[this,show b0+1+b=b0+(b+1) by omega]
   simp[fW]
theorem u6 {f:Nat->Nat}:∀ {l:Hp R} {i:Nat},(yD f l).length=l.length/\(yD f l)[i]?=(l[i]?).map (KJ f)
 |[],i=>⟨rfl,by simp[yD]⟩
 |x::l,i=>by
  obtain⟨h1,h2⟩:=u6 (f:=f) (l:=l) (i:=i-1);refine⟨by simp[yD,h1],?_⟩
  cases i with
  |zero=>simp[yD]
  |succ i=>simp only[yD,bH];simpa using h2
end
end Rx
namespace Rx
open Go.RowKit State
def aa':Option Code->Bool
 |some (.loop _)=>ao
 |_=>an
section
variable {R:Type} {D:fJ R} {P:Program} {C:Ctx} {w:World}
def HU:List (Option Value)->List (Option Value)
 |[]=>[]
 |some v::l=>aa (JK v)::HU l
 |none::l=>aj::HU l
theorem UG {k:Nat} {u:Nat->Nat} {tm:List (Option Value)}:∀ {ts:List Nat} {vs:List Value} {i:Nat} {v:Value},HU (KG tm ts)=HU (vd (wI k (lR u vs)))->slot ts vs i=aa v->∃ v',tm[i]?=aa (aa v')/\JK v'=JK (pB k (gh u v))
 |[],_,i,v,_,h=>by simp[slot] at h
 |_::_,[],i,v,_,h=>by simp[slot] at h
 |t::ts,x::vs,i,v,hv,h=>by
  simp only[KG,vd,lR,wI] at hv;simp only[slot] at h;cases hm:tm[t]? with
  |none=>rw[hm] at hv;simp only[HU] at hv;injection hv with h1 h2;cases h1
  |some o =>
   cases o with
   |none=>rw[hm] at hv;simp only[HU] at hv;injection hv with h1 h2;cases h1
   |some v' =>
    rw[hm] at hv;simp only[HU] at hv;injection hv with h1 h2
    injection h1 with h1
    split at h
    ·rename_i hb;have:=cO hb;subst this;injection h with h
     subst h;exact⟨v',hm,h1⟩
    ·exact UG h2 h
structure km (R:Type) (n0 N:Nat) (ts:List Nat) (vs:List Value) (h:Hp R) (tv:List (Option Value)) (hp:Hp R) (tl:Nat):Prop where
 ex:∃ s:List Nat,HU tv=HU (vd (wI hp.length (lR (nth s) vs)))/\tW hp.length (nth s) hp 0 h/\vR (yK hp.length (nth s) 0 h)=ao/\F3 (fun i=>fp (nth s i) i) n0=ao/\uI n0 hp.length=ao/\tl=N
theorem Vh:∀ {ts:List Nat} {vs:List Value} {i:Nat} {v:Value},slot ts vs i=aa v->v∈vs
 |[],_,i,v,h=>by simp[slot] at h
 |_::_,[],i,v,h=>by simp[slot] at h
 |t::ts,x::vs,i,v,h=>by
  simp only[slot] at h;split at h
  ·injection h with h;subst h;exact bL
  ·exact eo _ (Vh h)
theorem M.Zu {σ:SS R} {a:Act} {n0 N:Nat} {ts:List Nat} {vs:List Value} {h:Hp R} (hC:C.n0=n0) (hm:M D C σ a w) (hf:km R n0 N ts vs h (KG σ.tm ts) σ.hp σ.tm.length) (hv:iC h.length vs=ao) (hi:sX h.length h=ao):M D C ⟨frame ts vs 0 N,[],h⟩ a w:=by
 obtain⟨ρ,ft,h0,h1,h2⟩:=hm.ex;obtain⟨s,f1,f2,f3,f4,f5,f6⟩:=hf.ex;refine⟨hm.defers,fun t b hb=>(by cases hb),fun b=>xE ρ σ.hp.length (nth s b),_,fun i kx=>?_,⟨?_,fun t v ht=>?_⟩,h2.Vq f2 f3 hi⟩
 ·have:=zL f4 (by omega:i<n0)
  show xE ρ σ.hp.length (nth s i)=C.e0 i
  rw[cO this];have:=jE f5;rw[xr (by omega),h0 i kx]
 ·rw[h1.size,f6,(F4 ts vs N 0 0).1]
 ·have hl:t<N:=by have:=(aT.1 ht).1;rw[(F4 ts vs N 0 0).1] at this;exact this
  rw[(F4 ts vs N 0 t).2 hl,bU] at ht;injection ht with ht
  obtain⟨v',g1,e1⟩:=UG f1 ht;obtain⟨g2,g3⟩:=h1.val t _ g1;refine⟨?_,wR.1 hv v (Vh ht)⟩;have g4:fv σ.hp.length (pB σ.hp.length (gh (nth s) v))=ao:=by rw[← MW,← e1,MW];exact g3
  rw[g2,← ML ρ v',e1,ML,JJ _ g4,CN]
theorem ld {root:Code} {n0:Nat} {k:Exit->SS R->Prop} {p:List Nat} {r:List (It R)} {σ:SS R} (hc:aa' (iX root p)=ao) {ι:Type} (I:ι->Prop) (ts:List Nat) (V:ι->List Value) (H:ι->Hp R) (μ:ι->Nat) (N:Nat)
  (j8:∀ i,I i->iC (H i).length (V i)=ao/\sX (H i).length (H i)=ao/\n0≤(H i).length)
  (h0:∃ i,I i/\km R n0 N ts (V i) (H i) (KG σ.tm ts) σ.hp σ.tm.length)
  (step:∀ i,I i->At D P root n0 k (.inl (p++[0]) :: .inr (.inr fun ou=>∃ j,I j/\μ j<μ i/\km R n0 N ts (V j) (H j) (KG ou.tm ts) ou.hp ou.tm.length)::r) ⟨frame ts (V i) 0 N,[],H i⟩) :
  At D P root n0 k (.inl p::r) σ:=by
 have Dk:∃ body,iX root p=aa (.loop body):=by
  unfold aa' at hc;split at hc
  ·exact⟨_,by assumption⟩
  ·cases hc
 obtain⟨body,hc⟩:=Dk;refine⟨fun C a w hC hn hm=>?_⟩
 simp only[pD,hc];obtain⟨i0,hI0,hf0⟩:=h0;obtain⟨q1,q2,_⟩:=j8 i0 hI0;have key:∀ (i:ι) (a:Act) (w:World),I i->M D C ⟨frame ts (V i) 0 N,[],H i⟩ a w->(Code.loop body).wp P (pD D P C root k r) a w:=by
  intro i a w hI hM
  have least:∀ (a:Act) (w:World),(∃ i,I i/\M D C ⟨frame ts (V i) 0 N,[],H i⟩ a w) ->
    ∃ n i,μ i=n/\I i/\M D C ⟨frame ts (V i) 0 N,[],H i⟩ a w/\∀ j,I j->M D C ⟨frame ts (V j) 0 N,[],H j⟩ a w->n≤μ j:=by
   intro a w ⟨i,hI,hM⟩;have:∀ (n:Nat) (i:ι),μ i=n->I i->M D C ⟨frame ts (V i) 0 N,[],H i⟩ a w->∃ n i,μ i=n/\I i/\M D C ⟨frame ts (V i) 0 N,[],H i⟩ a w/\∀ j,I j->M D C ⟨frame ts (V j) 0 N,[],H j⟩ a w->n≤μ j:=by
    intro n
    induction n using tC with
    |_ n ih =>
     intro i hn hI hM
     by_cases hex:∃ j,I j/\M D C ⟨frame ts (V j) 0 N,[],H j⟩ a w/\μ j<n
     ·obtain⟨j,hJ,hMj,ch⟩:=hex;exact ih (μ j) ch j rfl hJ hMj
     ·exact⟨n,i,hn,hI,hM,fun j hJ hMj=>nr fun ch=>hex ⟨j,hJ,hMj,ch⟩⟩
   exact this _ i rfl hI hM
  have spec:=fun a w h=>Xi (p:=fun n=>∃ i,μ i=n/\I i/\M D C ⟨frame ts (V i) 0 N,[],H i⟩ a w/\∀ j,I j->M D C ⟨frame ts (V j) 0 N,[],H j⟩ a w->n≤μ j) (least a w h)
  refine wp_loop (fun a w=>∃ i,I i/\M D C ⟨frame ts (V i) 0 N,[],H i⟩ a w) (fun a w=>Classical.epsilon fun n=>∃ i,μ i=n/\I i/\M D C ⟨frame ts (V i) 0 N,[],H i⟩ a w/\∀ j,I j->M D C ⟨frame ts (V j) 0 N,[],H j⟩ a w->n≤μ j) ⟨i,hI,hM⟩ ?_
  intro a w ⟨i,hI,hM⟩;obtain⟨i',e1,hI',Xp,apc⟩:=spec a w ⟨i,hI,hM⟩;obtain⟨_,_,xW⟩:=j8 i' hI';have Zw:=(step i' hI').run C a w hC xW Xp;simp only[pD] at Zw;rw[show iX root (p++[0])=aa body by rw[n5 p root _ [0] hc];simp[iX]] at Zw
  refine wp_mono Zw fun e a' w' h=>?_
  cases e with
  |normal =>
   obtain⟨ou,⟨j,hJ,ch,EX⟩,_,hM2⟩:=h;obtain⟨g1,g2,_⟩:=j8 j hJ;have hM3:=hM2.Zu hC EX g1 g2;refine⟨⟨j,hJ,hM3⟩,?_⟩;obtain⟨i2,e2,_,_,alE⟩:=spec a' w' ⟨j,hJ,hM3⟩;have:=alE j hJ hM3;omega
  |_=>exact h
 exact key i0 a w hI0 (hm.Zu hC hf0 q1 q2)
end
end Rx
namespace Rx
open Go.RowKit State
section
variable {R:Type} {D:fJ R} {P:Program} {T:eJ R} {C:Ctx} {w w':World}
def eqP:List Nat->List Nat->Bool
 |[],[]=>ao
 |a::l,b::r=>fp a b&&eqP l r
 |_,_=>an
def akt:List (List Nat)->List Nat->Bool
 |[],_=>an
 |q::l,p=>eqP q p||akt l p
def Fg (S:List (List Nat)) (D:fJ R) (P:Program) (T:eJ R) (root:Code) (n0:Nat) (k:Exit->SS R->Prop):Nat->List (It R)->SS R->Prop
 |0,todo,σ=>At D P root n0 k todo σ
 |n+1,todo,σ =>
  match todo with
  |[]=>k .normal σ
  |.inr (.inl _)::r=>Fg S D P T root n0 k n r σ
  |.inr (.inr J)::r=>aX (J σ)
  |.inl p::r =>
   if akt S p then At D P root n0 k (.inl p::r) σ else
   match iX root p with
   |none=>n6 5
   |some c =>
    match c with
    |.skip=>Fg S D P T root n0 k n r σ
    |.label _=>Fg S D P T root n0 k n r σ
    |.seq _ _=>Fg S D P T root n0 k n (.inl (p++[0]) :: .inl (p++[1])::r) σ
    |.block id _=>Fg S D P T root n0 k n (.inl (p++[0]) :: .inr (.inl id)::r) σ
    |.cond x _ _ =>
     match Ge σ.li x with
     |some ao=>Fg S D P T root n0 k n (.inl (p++[0])::r) σ
     |some an=>Fg S D P T root n0 k n (.inl (p++[1])::r) σ
     |none =>
      match x with
      |.tmp t=>match σ.tm[t]? with
       |some (aa (.bool b)) =>
        (b=ao->I8 (assume σ t ao) fun σ=>Fg S D P T root n0 k n (.inl (p++[0])::r) σ) /\
        (b=an->I8 (assume σ t an) fun σ=>Fg S D P T root n0 k n (.inl (p++[1])::r) σ)
       |_=>n6 6
      |_=>n6 7
    |.exit id =>
     match DD id r with
     |some r'=>Fg S D P T root n0 k n r' σ
     |none=>k (.exit id) σ
    |.ret=>k .ret σ
    |.region _ ⟨ops⟩ an=>vM P T ops ops σ fun ou=>Fg S D P T root n0 k n r ou
    |.region _ ⟨ops⟩ ao=>D' P T ops σ (fun ou=>Fg S D P T root n0 k n r ou) (ops.length+1) []
    |_=>At D P root n0 k (.inl p::r) σ
theorem mg (S:List (List Nat)) (hT:cN D P T) (LV:P.follows .mixedOrders=ao) {root:Code} {n0:Nat} {k:Exit->SS R->Prop}:∀ (n:Nat) {todo:List (It R)} {σ:SS R},Fg S D P T root n0 k n todo σ->At D P root n0 k todo σ
 |0,todo,σ,h=>h
 |n+1,todo,σ,h=>by
  refine⟨fun C a w hC hn hm=>?_⟩
  have ih:∀ {todo:List (It R)} {σ:SS R} {a:Act} {w:World},Fg S D P T root n0 k n todo σ->n0≤σ.hp.length->M D C σ a w->pD D P C root k todo .normal a w:=fun h hn hm=>(mg S hT LV n h).run C _ _ hC hn hm
  unfold Fg at h;simp only[Ka] at h;split at h
  ·exact⟨σ,h,hm⟩
  ·rename_i id r;show pD D P C root k r .normal a w
   exact ih h hn hm
  ·rename_i J r;exact⟨σ,h.out,by rw[hC];exact hn,hm⟩
  ·rename_i p r;split at h
   ·exact h.run C a w hC hn hm
   split at h
   ·exact h.elim
   ·rename_i c hc;simp only[pD,hc];have sub:∀ (i:Nat) (d:Code),iX c [i]=aa d->iX root (p++[i])=aa d:=fun i d hd=>by rw[n5 p root c [i] hc];exact hd
    split at h
    ·exact wp_skip (ih h hn hm)
    ·exact wp_label (ih h hn hm)
    ·rename_i x y;have h1:=ih h hn hm;simp only[pD,sub 0 x (by simp[iX])] at h1
     refine wp_seq (wp_mono h1 fun e a' w' h2=>?_)
     cases e with
     |normal =>
      simp only[sub 1 y (by simp[iX])] at h2
      exact h2
     |_=>exact h2
    ·rename_i id x;have h1:=ih h hn hm;simp only[pD,sub 0 x (by simp[iX])] at h1
     exact wp_block h1
    ·rename_i x y z;split at h
     ·rename_i hl;have h1:=ih h hn hm;simp only[pD,sub 0 y (by simp[iX])] at h1
      obtain⟨ρ,ft,_,g1,_⟩:=hm.ex;have:=(eu g1 (yl hm.li hl)).1;exact wp_cond_true (by simpa using this) h1
     ·rename_i hl;have h1:=ih h hn hm;simp only[pD,sub 1 z (by simp[iX])] at h1
      obtain⟨ρ,ft,_,g1,_⟩:=hm.ex;have:=(eu g1 (yl hm.li hl)).1;exact wp_cond_false (by simpa using this) h1
     ·split at h
      ·rename_i t _;split at h
       ·rename_i b hb;have ht:=YH hm hb;have he:a.eval (.tmp t)=.bool b:=by simp[Cb,ht]
        cases b with
        |true =>
         have h1:=ih (h.1 rfl) (by simpa [assume] using hn) (hm.assume hb)
         simp only[pD,sub 0 y (by simp[iX])] at h1
         exact wp_cond_true he h1
        |false =>
         have h1:=ih (h.2 rfl) (by simpa [assume] using hn) (hm.assume hb)
         simp only[pD,sub 1 z (by simp[iX])] at h1
         exact wp_cond_false he h1
       ·exact h.elim
      ·exact h.elim
    ·rename_i id;refine wp_exit (ET ?_);split at h
     ·rename_i r' xb;rw[xb];exact ih h hn hm
     ·rename_i xb;rw[xb];exact⟨σ,h,hm⟩
    ·exact wp_ret (Ha ⟨σ,h,hm⟩)
    ·rename_i id ops;refine wp_region_list ?_;exact FM hT ops h hm (by omega) fun ou a' w' h' xW mH=>ih h' (by omega) mH
    ·rename_i id ops;exact Yv hT LV h hm (by omega) fun ou a' w' h' xW mH=>ih h' (by omega) mH
    ·have:=h.run C a w hC hn hm
     simpa only [pD,hc] using this
theorem At.Dd {root:Code} {n0:Nat} {k:Exit->SS R->Prop} {todo:List (It R)} {tm:List (Option Value)} {li:List (Nat×Bool)} {hp:Hp R} (li':List (Nat×Bool)) (hl:∀ x∈li',tm[x.1]?=aa (aa (.bool x.2)))
  (h:At D P root n0 k todo ⟨tm,li',hp⟩):At D P root n0 k todo ⟨tm,li,hp⟩ :=
 ⟨fun C a w hC hn hm=>h.run C a w hC hn ⟨hm.defers,fun t b hb=>hl (t,b) hb,hm.ex⟩⟩
end
end Rx
namespace Rx
open Go.RowKit State
def FT (ts:List Nat):Nat->List (Option Value)->List (Option Value)
 |_,[]=>[]
 |i,x::l=>(match mem ts i with
  |true=>x
  |false=>aj)::FT ts (i+1) l
section
variable {R:Type} {D:fJ R} {P:Program} {T:eJ R} {C:Ctx} {w w':World}
theorem JW (ts:List Nat):∀ (l:List (Option Value)) (i j:Nat),(FT ts i l).length=l.length/\∀ v,(FT ts i l)[j]?=aa (aa v)->l[j]?=aa (aa v)
 |[],i,j=>⟨rfl,fun v h=>by simp[FT] at h⟩
 |x::l,i,j=>by
  obtain⟨h1,h2⟩:=JW ts l (i+1) (j-1);refine⟨by simp[FT,h1],fun v h=>?_⟩
  cases j with
  |zero =>
   simp only[FT,cd,ct] at h ⊢;split at h
   ·exact h
   ·cases h
  |succ j =>
   simp only[FT,bH] at h ⊢;simp only[mi] at h2;exact h2 v h
theorem M.IJ {σ:SS R} {a:Act} {ts:List Nat} (hm:M D C σ a w):M D C ⟨FT ts 0 σ.tm,[],σ.hp⟩ a w:=by
 obtain⟨ρ,ft,h0,h1,h2⟩:=hm.ex;exact⟨hm.defers,fun t b hb=>(by cases hb),ρ,ft,h0,⟨by rw[h1.size,(JW ts σ.tm 0 0).1],fun t v ht=>h1.val t v ((JW ts σ.tm 0 t).2 v ht)⟩,h2⟩
theorem At.fit {root:Code} {n0:Nat} {k:Exit->SS R->Prop} {todo:List (It R)} {σ:SS R} (ts:List Nat) (V:List Value) (H:Hp R) (N:Nat) (j8:iC H.length V=ao/\sX H.length H=ao/\n0≤H.length)
  (hf:km R n0 N ts V H (KG σ.tm ts) σ.hp σ.tm.length) (h:At D P root n0 k todo ⟨frame ts V 0 N,[],H⟩):At D P root n0 k todo σ :=
 ⟨fun C a w hC _ hm=>h.run C a w hC j8.2.2 (hm.Zu hC hf j8.1 j8.2.1)⟩
end
end Rx
namespace Rx
open Go.RowKit State
section
variable {R:Type} {D:fJ R} {P:Program} {T:eJ R}
theorem zG {z:Nat->Bool} {d:Nat} {spec:Prim R} {args:List Value} {h:Hp R} {y:Out R} (hy:Dy z d spec args h=aa y) :
  ∃ s x,s=Mx (reach h d (sI args)) []/\zS (mem s) args=ao/\PU s h s=ao/\vR s=ao/\spec (lR (pos s) args) (o9 z (pos s) h 0 s)=aa x/\rC (o9 z (pos s) h 0 s) x.hp=ao/\fv x.hp.length x.v=ao /\
   y=⟨x.vc,gh (qn s h.length) x.v,x.lit,yx s (qn s h.length) (o9 z (pos s) h 0 s) x.hp 0 h++yD (qn s h.length) (x.hp.drop s.length),[],match x.wr with
    |[]=>[]
    |_=>[(0,0)]⟩:=by
 simp only[Dy,UO,JH] at hy;split at hy
 ·rename_i hc;simp only[aM] at hc;split at hy
  ·rename_i x hx;split at hy
   ·rename_i hb;simp only[aM] at hb;injection hy with hy
    exact⟨_,x,rfl,hc.1.1,hc.1.2,hc.2,hx,hb.1,hb.2,hy.symm⟩
   ·cases hy
  ·cases hy
 ·cases hy
theorem Nv {s:List Nat} {n i:Nat} (h:i<s.length):qn s n i=nth s i:=by
 unfold qn;rw[p7.2 h];rfl
theorem ad1 {s:List Nat} {n i:Nat} (h:¬ i<s.length):qn s n i=n+(i-s.length):=by
 unfold qn;split
 ·rename_i hb;exact absurd (p7.1 hb) h
 ·rfl
theorem H9 {f:Nat->Nat} {x:Option (SB R)} {X:SB R} (h:KJ f x=aa X):∃ Y,x=aa Y/\X=yW f Y:=by
 cases x with
 |none=>cases h
 |some Y=>injection h with h;exact⟨Y,rfl,h.symm⟩
theorem FG {f:Nat->Nat} {B:SB R}:hO (yW f B)=hO B:=by
 rcases B with⟨t,cs⟩|B<;>rfl
def liftOn (z:Nat->Bool) (d:Nat) (on:List Value->Hp R->Prop) (args:List Value) (h:Hp R):Prop :=
 on (lR (pos (Mx (reach h d (sI args)) [])) args) (o9 z (pos (Mx (reach h d (sI args)) [])) h 0 (Mx (reach h d (sI args)) []))
theorem aep {f:FuncId} {on:List Value->Hp R->Prop} {spec:Prim R} (z:Nat->Bool) (d:Nat) (ok:rz D P f on spec):rz D P f (liftOn z d on) (Dy z d spec) where
 known:=ok.known
 len args h y hy:=by
  obtain⟨s,x,_,_,_,_,_,_,_,rfl⟩:=zG hy;simp only[bF];have:=(nz (s:=s) (f:=qn s h.length) (hl:=o9 z (pos s) h 0 s) (hx:=x.hp) (h:=h) (b0:=0) (b:=0)).1;omega
 lit args h y hy b hb:=by
  obtain⟨s,x,_,_,_,_,hx,_,_,rfl⟩:=zG hy;have:=ok.lit _ _ _ hx b hb;simp only[this,gh]
 still args h y hy hw:=by
  obtain⟨s,x,hs0,h1,h2,h3,hx,h5,h6,rfl⟩:=zG hy;have hw':x.wr=[]:=by
   simp only at hw;split at hw
   ·assumption
   ·cases hw
  have he:=ok.still _ _ _ hx hw';simp only[he];have nZ:(o9 z (pos s) h 0 s).length=s.length:=(rT (i0:=0) (i:=0)).1;have hd:(o9 z (pos s) h 0 s).drop s.length=[]:=by rw[IV];omega
  rw[hd];simp only[yD,Bd];apply nQ;intro b;rcases cr b h.length with ch|j6
  ·rw[(nz (b0:=0) (b:=b)).2 ch,bU];split
   ·rename_i hc;simp only[aM] at hc;have hm:=mem_iff.1 hc.1;obtain⟨p1,p2⟩:=oA hm;obtain⟨X,hX,hv⟩:=qG.1 hc.2;have hg:=(rT (z:=z) (u:=pos s) (h:=h) (l:=s) (i0:=0) (i:=pos s b)).2 p2;rw[hX,p1] at hg;injection hg with hg
    cases hb:fW h b with
    |none=>rw[hb] at hg;cases hg
    |some B =>
     rw[hb] at hg;simp only at hg;injection hg with hg
     rw[J6 hX,xQ ch,hb,hg];simp only[KJ];have hfr:FO (z (0+pos s b)) B=B:=by
      rcases B with⟨t,cs⟩|⟨t,r⟩|r|q
      ·rfl
      ·cases hz:z (0+pos s b) with
       |false=>rfl
       |true =>
        rw[hz] at hg;rw[hg] at hv;simp[FO,yW,hO] at hv
      ·rfl
      ·rfl
     rw[hfr]
     congr 2
     rcases B with⟨t,cs⟩|B
     ·simp only[yW];rw[B4,EA (p:=mem s)]
      ·intro i hi;obtain⟨q1,q2⟩:=oA (mem_iff.1 hi);rw[Nv q2,q1]
      ·exact(CG h2 hm).2 t cs hb
     ·rfl
   ·rw[xQ ch]
  ·rw[dc j6,dc (by rw[(nz (b0:=0) (b:=0)).1];exact j6)]
 run args h y mO hy C ρ ft w hm O7 j8:=by
  obtain⟨s,x,hs0,h1,h2,h3,hx,h5,h6,rfl⟩:=zG hy;simp only at O7 ⊢;unfold liftOn at mO;rw[← hs0] at mO;have nZ:(o9 z (pos s) h 0 s).length=s.length:=(rT (i0:=0) (i:=0)).1;have AH:s.length≤x.hp.length:=by rw[← nZ];exact(rO (b:=0) (X:=.inl (0,[])) h5).1
  have aev:∀ b,b∈s->b<h.length:=fun b hb=>(CG h2 hb).1
  let hr:Hp R:=(n9 h.length).map fun b=>if mem s b then(match fW h b with
   |some B=>aa (FO (z (pos s b)) B)
   |none=>aj) else aj
  have hrl:hr.length=h.length:=by simp[hr]
  have EI:∀ (b:Nat) (X:SB R),hr[b]?=aa (aa X)->b∈s/\∃ B,fW h b=aa B/\X=FO (z (pos s b)) B:=by
   intro b X hX;have ch:b<h.length:=by
    have:=(aT.1 hX).1;omega
   simp only[hr,fh,sJ ch,j_] at hX;split at hX
   ·rename_i C3;refine⟨mem_iff.1 C3,?_⟩;cases hb:fW h b with
    |none=>rw[hb] at hX;simp at hX
    |some B=>rw[hb] at hX;simp at hX;exact⟨B,rfl,hX.symm⟩
   ·simp at hX
  have YK:∀ (b:Nat) (B:SB R),b∈s->fW h b=aa B->hr[b]?=aa (aa (FO (z (pos s b)) B)):=by
   intro b B hb hB;simp only[hr,fh,sJ (aev b hb),j_,mem_iff.2 hb,if_true,hB]
  have nk:Sub hr h:=by
   intro b X hX;obtain⟨_,B,hB,rfl⟩:=EI b X hX;have jB:=rm hB;rcases B with⟨t,cs⟩|⟨t,r⟩|r|q
   ·exact dK jB
   ·cases hz:z (pos s b) with
    |false=>exact dK jB
    |true=>exact e7 ⟨t,r,rfl,jB⟩
   ·exact dK jB
   ·exact dK jB
  have aly:=hm.amL nk hrl 0;have hpn:∀ i,i<s.length->pos s (nth s i)=i:=fun i hi=>XH h3 hi
  have anm:HM D (Tt w hr ft ρ 0) (fun i=>ρ (nth s i)) (fun b k=>(∃ X,(o9 z (pos s) h 0 s)[b]?=aa (aa X))/\(A7 hr (nth s b)/\ft (nth s b) k)) (o9 z (pos s) h 0 s) w:=by
   refine aly.rename (nth s) (fun i X hX=>dK ⟨rfl,?_⟩) fun i j X Y _ hX hY he=>?_
   ·have hi:i<s.length:=by have:=(aT.1 hX).1;omega
    have hg:=(rT (z:=z) (u:=pos s) (h:=h) (l:=s) (i0:=0) (i:=i)).2 hi;rw[hX,bU] at hg;injection hg with hg
    cases hb:fW h (nth s i) with
    |none=>rw[hb] at hg;cases hg
    |some B =>
     rw[hb] at hg;simp only at hg;injection hg with hg
     have hq:=YK (nth s i) B (GQ hi) hb;rw[hpn i hi] at hq;refine⟨_,hq,?_⟩;rw[hg];rcases B with⟨t,cs⟩|B
     ·have aj3:=(CG h2 (GQ hi)).2 t cs hb;refine⟨rfl,?_,?_⟩
      ·rw[rL,← lp,← lp];refine BR (p:=mem s) (fun b hb=>?_) cs aj3
       rw[(oA (mem_iff.1 hb)).1]
      ·rw[nZ];refine BE _ (Ed (p:=mem s) (q:=fun i=>gQ i s.length) (fun b hb=>p7.2 (oA (mem_iff.1 hb)).2) cs aj3)
     ·rcases B with⟨t,r⟩|r|q
      ·cases hz:z i
       ·exact⟨rfl,dK rfl⟩
       ·rfl
      ·rfl
      ·rfl
   ·have hi:i<s.length:=by have:=(aT.1 hX).1;omega
    have hj:j<s.length:=by have:=(aT.1 hY).1;omega
    rw[← hpn i hi,he,hpn j hj]
  have hargs:args.map (bS ρ)=(lR (pos s) args).map (bS (fun i=>ρ (nth s i))):=by
   rw[rL,← lp,← lp];refine BR (p:=mem s) (fun b hb=>?_) args h1
   rw[(oA (mem_iff.1 hb)).1]
  rw[hargs];have amM:iC (o9 z (pos s) h 0 s).length (lR (pos s) args)=ao:=by
   rw[nZ];exact BE _ (Ed (p:=mem s) (q:=fun i=>gQ i s.length) (fun b hb=>p7.2 (oA (mem_iff.1 hb)).2) args h1)
  refine(ok.run _ _ _ mO hx _ _ _ w anm O7 amM).mono fun e w' ⟨gx,ky,g1,g2,g3⟩=>?_
  rw[nZ] at g1
  let tB:Nat->Nat:=fun b=>if mem s b then pos s b else s.length+(b-h.length)
  let ni:Env:=fun b=>if b<h.length then ρ b else gx (s.length+(b-h.length))
  let Oj:Hp R:=(n9 (h.length+(x.hp.length-s.length))).map fun b=>if b<h.length then(if mem s b then KJ (qn s h.length) (fW x.hp (pos s b)) else aj) else KJ (qn s h.length) (fW x.hp (s.length+(b-h.length)))
  have Zp:Oj.length=h.length+(x.hp.length-s.length):=by simp[Oj]
  have QZ:∀ (b:Nat),b<h.length+(x.hp.length-s.length)->Oj[b]?=aa (if b<h.length then(if mem s b then KJ (qn s h.length) (fW x.hp (pos s b)) else aj) else KJ (qn s h.length) (fW x.hp (s.length+(b-h.length)))):=fun b hb=>by
   simp only[Oj,fh,sJ hb,j_]
  have Ls:∀ (b:Nat) (X:SB R),Oj[b]?=aa (aa X)->∃ Y,x.hp[tB b]?=aa (aa Y)/\X=yW (qn s h.length) Y/\ni b=gx (tB b)/\(b<h.length->b∈s)/\(h.length≤b->¬ b∈s):=by
   intro b X hX;have ch:b<h.length+(x.hp.length-s.length):=by
    have:=(aT.1 hX).1;omega
   rw[QZ b ch] at hX;injection hX with hX
   split at hX
   ·rename_i hb;split at hX
    ·rename_i C3;obtain⟨Y,hY,rfl⟩:=H9 hX;obtain⟨p1,p2⟩:=oA (mem_iff.1 C3);refine⟨Y,?_,rfl,?_,fun _=>mem_iff.1 C3,fun j6=>by omega⟩
     ·simp only[tB,C3,if_true];exact rm hY
     ·simp only[tB,C3,if_true,ni,hb];rw[g1 _ p2,p1]
    ·cases hX
   ·rename_i hb;obtain⟨Y,hY,rfl⟩:=H9 hX;have hns:¬ b∈s:=fun hh=>hb (aev b hh)
    have C3:mem s b=an:=by
     cases hh:mem s b with
     |false=>rfl
     |true=>exact absurd (mem_iff.1 hh) hns
    refine⟨Y,?_,rfl,?_,fun ch=>absurd ch hb,fun _=>hns⟩
    ·simp only[tB,C3,fP,if_false];exact rm hY
    ·simp only[tB,C3,fP,if_false,ni,hb]
  have ad2:∀ i,i<x.hp.length->ni (qn s h.length i)=gx i/\qn s h.length i<h.length+(x.hp.length-s.length):=by
   intro i hi
   by_cases hs:i<s.length
   ·rw[Nv hs];have:=aev _ (GQ hs);refine⟨?_,by omega⟩
    simp only[ni,this,if_true];exact(g1 i hs).symm
   ·rw[ad1 hs];refine⟨?_,by omega⟩
    simp only[ni];rw[if_neg (by omega)]
    congr 1
    omega
  have YY:HM D (Tt w hr ft ρ 0) ni (fun b k=>(∃ X,Oj[b]?=aa (aa X))/\ky (tB b) k) Oj w':=by
   refine g3.rename tB (fun b X hX=>dK ?_) fun b b' X X' _ hX hX' he=>?_
   ·obtain⟨Y,hY,rfl,qM,_⟩:=Ls b X hX;refine⟨qM,Y,hY,?_⟩;rcases Y with⟨t,cs⟩|Y
    ·have GR:=(g3.at_ _ _ hY).2;simp only[inside] at GR;refine⟨rfl,?_,?_⟩
     ·rw[rL,← lp,← lp];exact qq (n:=x.hp.length) (fun i hi=>(ad2 i hi).1) cs GR
     ·rw[Zp];exact we (n:=x.hp.length) (fun i hi=>(ad2 i hi).2) cs GR
    ·exact K4.refl Y
   ·obtain⟨_,_,_,_,a1,a2⟩:=Ls b X hX;obtain⟨_,_,_,_,b1,b2⟩:=Ls b' X' hX';simp only[tB] at he;rcases cr b h.length with c1|c1<;>rcases cr b' h.length with c2|c2
    ·rw[mem_iff.2 (a1 c1),mem_iff.2 (b1 c2)] at he;simp only[if_true] at he;rw[← (oA (a1 c1)).1,he,(oA (b1 c2)).1]
    ·have:=(oA (a1 c1)).2;have C3:mem s b'=an:=by
      cases hh:mem s b' with
      |false=>rfl
      |true=>exact absurd (mem_iff.1 hh) (b2 c2)
     rw[mem_iff.2 (a1 c1),C3] at he;simp at he;omega
    ·have:=(oA (b1 c2)).2;have C3:mem s b=an:=by
      cases hh:mem s b with
      |false=>rfl
      |true=>exact absurd (mem_iff.1 hh) (a2 c1)
     rw[mem_iff.2 (b1 c2),C3] at he;simp at he;omega
    ·have C3:mem s b=an:=by
      cases hh:mem s b with
      |false=>rfl
      |true=>exact absurd (mem_iff.1 hh) (a2 c1)
     have am4:mem s b'=an:=by
      cases hh:mem s b' with
      |false=>rfl
      |true=>exact absurd (mem_iff.1 hh) (b2 c2)
     rw[C3,am4] at he;simp at he;omega
  have hbk:=fun b X=>rO (b:=b) (X:=X) h5
  have Wn:∀ b,A7 hr b↔(b∈s/\HX (o9 z (pos s) h 0 s) (pos s b)=ao):=by
   intro b
   constructor
   ·intro⟨X,hX,hv⟩;obtain⟨hb,B,hB,rfl⟩:=EI b X hX;refine⟨hb,qG.2 ?_⟩;obtain⟨p1,p2⟩:=oA hb;have hg:=(rT (z:=z) (u:=pos s) (h:=h) (l:=s) (i0:=0) (i:=pos s b)).2 p2;rw[p1,hB,bU] at hg;exact⟨_,hg,by rw[FG];exact hv⟩
   ·intro⟨hb,hh⟩;obtain⟨X,hX,hv⟩:=qG.1 hh;obtain⟨p1,p2⟩:=oA hb;have hg:=(rT (z:=z) (u:=pos s) (h:=h) (l:=s) (i0:=0) (i:=pos s b)).2 p2;rw[hX,p1,bU] at hg;injection hg with hg
    cases hB:fW h b with
    |none=>rw[hB] at hg;cases hg
    |some B =>
     rw[hB] at hg;simp only at hg;injection hg with hg
     refine⟨_,YK b B hb hB,?_⟩;rw[hg,FG] at hv;exact hv
  have agJ:=hm.akJ nk hrl (n:=0) (h':=yx s (qn s h.length) (o9 z (pos s) h 0 s) x.hp 0 h++yD (qn s h.length) (x.hp.drop s.length)) YY
   (fun b hb=>by simp only[ni,hb,if_true]) (by rw[Zp];omega) ?_ ?_ ?_ ?_
  ·refine⟨ni,_,fun i hi=>by simp only[ni,hi,if_true],?_,agJ⟩
   rw[g2,CN,ng (n:=x.hp.length) (fun i hi=>(ad2 i hi).1) x.v h6]
  ·intro b X hX;obtain⟨Y,hY,rfl,_,a1,a2⟩:=Ls b X hX;rw[FG];rcases((hbk _ Y).2 hY).2 with h7|⟨Z,hZ,hv⟩
   ·exact dK h7
   ·right
    rcases cr b h.length with c1|c1
    ·have hb:=a1 c1;obtain⟨p1,p2⟩:=oA hb;simp only[tB,mem_iff.2 hb,if_true] at hZ;have hg:=(rT (z:=z) (u:=pos s) (h:=h) (l:=s) (i0:=0) (i:=pos s b)).2 p2;rw[hZ,p1,bU] at hg;injection hg with hg
     cases hB:fW h b with
     |none=>rw[hB] at hg;cases hg
     |some B =>
      rw[hB] at hg;simp only at hg;injection hg with hg
      refine⟨_,YK b B hb hB,?_⟩;rw[hg,FG] at hv;exact hv
    ·have C3:mem s b=an:=by
      cases hh:mem s b with
      |false=>rfl
      |true=>exact absurd (mem_iff.1 hh) (a2 c1)
     simp only[tB,C3,fP,if_false] at hZ;have:=(aT.1 hZ).1;omega
  ·rw[bF,(nz (b0:=0) (b:=0)).1,u6 (i:=0) |>.1,Zp,List.length_drop]
  ·intro b hb;rcases cr b h.length with c1|c1
   ·have ho:A7 hr b:=hb.elim id fun j6=>by omega
    obtain⟨hbs,hoa⟩:=(Wn b).1 ho;rw[cZ (by rw[(nz (b0:=0) (b:=0)).1];exact c1),(nz (b0:=0) (b:=b)).2 c1,bU,QZ b (by omega)]
    rw[mem_iff.2 hbs,hoa];simp only[Ta,if_true,c1]
   ·rw[dS (by rw[(nz (b0:=0) (b:=0)).1];exact c1),(nz (b0:=0) (b:=0)).1,u6.2,oH]
    rcases cr b (h.length+(x.hp.length-s.length)) with c2|c2
    ·rw[QZ b c2,if_neg (by omega)]
     have:s.length+(b-h.length)<x.hp.length:=by omega
     rw[xQ this]
     rfl
    ·rw[dc (by omega),dc (by rw[Zp];omega)]
     rfl
  ·intro b hb hn;rw[cZ (by rw[(nz (b0:=0) (b:=0)).1];exact hb),(nz (b0:=0) (b:=b)).2 hb,bU]
   split
   ·rename_i hc;simp only[aM] at hc;exact absurd ((Wn b).2 ⟨mem_iff.1 hc.1,hc.2⟩) hn
   ·rw[xQ hb]
theorem JL {f:FuncId} {c:je R} (z:Nat->Bool) (d:Nat) (ok:b9 D P f c):b9 D P f (bJ z d c):=by
 intro b;have:=aep z d (ok b);have e:(bJ z d c).go b=Dy z d (c.go b):=by cases b<;>rfl
 rw[e];refine⟨this.known,fun args h x mO=>this.run args h x ?_,this.len,this.lit,this.still⟩
 unfold rU bJ Zi at mO;simp only[UO,JH] at mO;exact mO
theorem aU {f:FuncId} {c:je R} (z:Nat->Bool) (d:Nat) (ok:b9 D P f c):GS D P f (bJ z d c):=by
 refine⟨JL z d ok,fun b args h x hx i hi hk=>?_⟩
 have e:(bJ z d c).go b=Dy z d (c.go b):=by cases b<;>rfl
 rw[e] at hx;obtain⟨s,y,_,_,_,_,_,_,_,rfl⟩:=zG hx;simp only at hk;split at hk<;>cases hk
def JG (K:List Nat):Nat->List Nat->List (Nat×Nat)
 |_,[]=>[]
 |i,b::l=>if mem K i then JG K (i+1) l else(b,0)::JG K (i+1) l
def We (K:List Nat) (d:Nat) (spec:Prim R):Prim R:=fun args h =>
 match Dy (fun _=>an) d spec args h with
 |some x=>aa ⟨x.vc,x.v,x.lit,x.hp,x.rd,match x.wr with
  |[]=>[]
  |_=>(0,1)::JG K 0 (Mx (reach h d (sI args)) [])⟩
 |none=>aj
def C4 (K:List Nat) (d:Nat) (c:je R):je R:=⟨Zi (fun _=>an) d c.when,We K d c.yes,We K d c.no⟩
def Ll (K:List Nat) (c:je R):Prop:=∀ b args h x,c.go b args h=aa x->∀ i,i∈K->i<h.length->x.hp[i]?=h[i]?
theorem VT {K:List Nat} {b:Nat}:∀ {s:List Nat} {i j:Nat},s[j]?=aa b->mem K (i+j)=an->H_ (JG K i s) b=ao
 |[],_,_,h,_=>by simp at h
 |c::l,i,0,h,hK=>by
  simp only[cd,ct] at h;subst h;rw[gR] at hK;simp[JG,hK,H_]
 |c::l,i,j+1,h,hK=>by
  simp only[bH] at h;have:=VT (i:=i+1) h (by rwa [show i+1+j=i+(j+1) by omega])
  simp only[JG];split
  ·exact this
  ·simp[H_,this]
theorem agN {s:List Nat} {i:Nat} (h:i<s.length):s[i]?=aa (nth s i):=by
 induction s generalizing i with
 |nil=>simp at h
 |cons a l ih =>
  cases i with
  |zero=>rfl
  |succ i =>
   simp only[bH,nth];exact ih (by simpa using h)
theorem C2 {f:FuncId} {c:je R} (K:List Nat) (d:Nat) (ok:b9 D P f c) (hK:Ll K c):GS D P f (C4 K d c):=by
 have T3:∀ b args h x,(C4 K d c).go b args h=aa x->∃ y,(bJ (fun _=>an) d c).go b args h=aa y/\x=⟨y.vc,y.v,y.lit,y.hp,y.rd,match y.wr with
   |[]=>[]
   |_=>(0,1)::JG K 0 (Mx (reach h d (sI args)) [])⟩:=by
  intro b args h x hx;cases b
  all_goals
   simp only[C4,je.go,We] at hx;split at hx
   ·rename_i y hy;injection hx with hx
    exact⟨y,hy,hx.symm⟩
   ·cases hx
 refine⟨fun b=>?_,fun b args h x hx i hi hk=>?_⟩
 ·have o:=JL (fun _=>an) d ok b
  refine⟨o.known,fun args h x mO hx=>?_,fun args h x hx=>?_,fun args h x hx=>?_,fun args h x hx hw=>?_⟩
  ·obtain⟨y,hy,rfl⟩:=T3 _ _ _ _ hx;exact o.run args h y mO hy
  ·obtain⟨y,hy,rfl⟩:=T3 _ _ _ _ hx;exact o.len args h y hy
  ·obtain⟨y,hy,rfl⟩:=T3 _ _ _ _ hx;exact o.lit args h y hy
  ·obtain⟨y,hy,rfl⟩:=T3 _ _ _ _ hx;refine o.still args h y hy ?_;simp only at hw;split at hw
   ·assumption
   ·cases hw
 ·obtain⟨y,hy,rfl⟩:=T3 _ _ _ _ hx;have e:(bJ (fun _=>an) d c).go b=Dy (fun _=>an) d (c.go b):=by cases b<;>rfl
  rw[e] at hy;obtain⟨s,x,hs0,h1,h2,h3,Oj,h5,h6,rfl⟩:=zG hy;have hkp:H_ (JG K 0 s) i=an:=by
   simp only at hk;split at hk
   ·cases hk
   ·rw[← hs0] at hk
    simpa [Pz] using hk
  clear hk;have nZ:(o9 (fun _=>an) (pos s) h 0 s).length=s.length:=(rT (i0:=0) (i:=0)).1
  have Bt:(yx s (qn s h.length) (o9 (fun _=>an) (pos s) h 0 s) x.hp 0 h).length=h.length:=(nz (b0:=0) (b:=0)).1
  simp only;rw[cZ (by rw[Bt];exact hi),(nz (b0:=0) (b:=i)).2 hi,bU]
  split
  ·rename_i hc;simp only[aM] at hc;have hm:=mem_iff.1 hc.1;obtain⟨p1,p2⟩:=oA hm;have hmK:pos s i∈K:=by
    cases hmk:mem K (pos s i) with
    |true=>exact mem_iff.1 hmk
    |false =>
     have:=VT (K:=K) (i:=0) (agN p2) (by rwa [bU])
     rw[p1] at this;rw[this] at hkp;cases hkp
   have hke:=hK b _ _ _ Oj (pos s i) hmK (by rw[nZ];exact p2)
   obtain⟨X,hX,hv⟩:=qG.1 hc.2;rw[hX] at hke;have hg:=(rT (z:=fun _=>an) (u:=pos s) (h:=h) (l:=s) (i0:=0) (i:=pos s i)).2 p2
   rw[hX,p1] at hg;injection hg with hg
   cases hb:fW h i with
   |none=>rw[hb] at hg;cases hg
   |some B =>
    rw[hb] at hg;simp only at hg;injection hg with hg
    rw[J6 hke,xQ hi,hb,hg];have hfr:FO an B=B:=by rcases B with⟨t,cs⟩|⟨t,r⟩|r|q<;>rfl
    simp only[KJ,hfr]
    congr 2
    rcases B with⟨t,cs⟩|B
    ·simp only[yW];rw[B4,EA (p:=mem s)]
     ·intro j hj;obtain⟨q1,q2⟩:=oA (mem_iff.1 hj);rw[Nv q2,q1]
     ·exact(CG h2 hm).2 t cs hb
    ·rfl
  ·rw[xQ hi]
end
end Rx
namespace Rx
open Go.RowKit State
section
variable {R R0:Type}
structure EP (R R0:Type) where
 lay:R->Hp R0
 ne:∀ x,0<(lay x).length
 own:∀ (x:R) (b:Nat) (X:SB R0),(lay x)[b]?=aa (aa X)->hO X=an
 ins:∀ x,sX (lay x).length (lay x)=ao
def F9 (D0:fJ R0) (L:EP R R0):fJ R where
 H x p F w:=∃ L_ O',L_ 0=p/\(∀ k,F k↔∃ i,O' i k)/\HM D0 ⟨w,F,L_,0⟩ L_ O' (L.lay x) w
 IJ x p F w w' h hk:=by
  obtain⟨L_,O',h1,h2,h3⟩:=h;refine⟨L_,O',h1,h2,?_⟩;refine⟨fun i B hi=>⟨yM (L.own x i B hi) (Kv (h3.at_ i B hi).1 fun k nx=>hk k ((h2 k).2 ⟨i,nx⟩)),(h3.at_ i B hi).2⟩,fun i k Mo=>?_,fun i k Mo=>dK ((h2 k).2 ⟨i,Mo⟩),h3.apart,h3.some_,Kept.refl _ _⟩
  have h4:=hk k ((h2 k).2 ⟨i,Mo⟩);have h5:=h3.lt i k Mo;rw[Array.getElem?_eq_getElem h5] at h4;exact(v9.1 h4).1
 lt x p F w k h hk:=by
  obtain⟨L_,O',h1,h2,h3⟩:=h;obtain⟨i,hi⟩:=(h2 k).1 hk;exact h3.lt i k hi
variable {L:EP R R0}
def width (L:EP R R0):Option (SB R)->Nat
 |some (.inr (.inr (.inr x)))=>(L.lay x).length
 |_=>1
def off (L:EP R R0):Hp R->Nat->Nat
 |[],b=>b
 |_::_,0=>0
 |x::l,b+1=>width L x+off L l b
def loc (L:EP R R0):Hp R->Nat->Nat×Nat
 |[],j=>(j,0)
 |x::l,j=>if j<width L x then(0,j) else((loc L l (j-width L x)).1+1,(loc L l (j-width L x)).2)
def A_ (L:EP R R0) (s:Nat->Nat) (o:Nat):Option (SB R)->Hp R0
 |none=>[aj]
 |some (.inl (t,cs))=>[aa (.inl (t,lR s cs))]
 |some (.inr (.inl tr))=>[aa (.inr (.inl tr))]
 |some (.inr (.inr (.inl r)))=>[aa (.inr (.inr (.inl r)))]
 |some (.inr (.inr (.inr x)))=>yD (fun i=>i+o) (L.lay x)
def F7 (L:EP R R0) (s:Nat->Nat):Nat->Hp R->Hp R0
 |_,[]=>[]
 |o,x::l=>A_ L s o x++F7 L s (o+width L x) l
def xV (L:EP R R0) (h:Hp R):Hp R0:=F7 L (off L h) 0 h
theorem u7 (x:Option (SB R)):0<width L x:=by
 rcases x with _|⟨t,cs⟩|tr|r|x
 ·exact GF
 ·exact GF
 ·exact GF
 ·exact GF
 ·exact L.ne x
theorem Ck (s:Nat->Nat) (o:Nat) (x:Option (SB R)):(A_ L s o x).length=width L x:=by
 rcases x with _|⟨t,cs⟩|tr|r|x
 ·rfl
 ·rfl
 ·rfl
 ·rfl
 ·exact(u6 (i:=0)).1
theorem FX (s:Nat->Nat):∀ (h:Hp R) (o b i:Nat),b<h.length->i<width L (fW h b)->(F7 L s o h)[off L h b+i]?=(A_ L s (o+off L h b) (fW h b))[i]?
 |[],o,b,i,hb,_=>by simp at hb
 |x::l,o,0,i,_,hi=>by
  have e:fW (x::l) 0=x:=by simp[fW]
  rw[e] at hi ⊢;simp only[F7,off,bU,gR];rw[cZ (by rw[Ck];exact hi)]
 |x::l,o,b+1,i,hb,hi=>by
  have e:fW (x::l) (b+1)=fW l b:=by simp[fW]
  rw[e] at hi ⊢;simp only[cy] at hb;simp only[F7,off];rw[dS (by rw[Ck];omega),Ck,show width L x+off L l b+i-width L x=off L l b+i by omega]
  rw[FX s l (o+width L x) b i (by omega) hi,jg]
theorem If:∀ (h:Hp R) (b b':Nat),b<b'->b<h.length->off L h b+width L (fW h b)≤off L h b'
 |[],b,b',_,hb=>by simp at hb
 |x::l,0,0,h,_=>by omega
 |x::l,0,b'+1,_,_=>by
  have e:fW (x::l) 0=x:=by simp[fW]
  rw[e];simp only[off];omega
 |x::l,b+1,0,h,_=>by omega
 |x::l,b+1,b'+1,h,hb=>by
  have e:fW (x::l) (b+1)=fW l b:=by simp[fW]
  rw[e];simp only[cy] at hb;simp only[off];have:=If l b b' (by omega) (by omega)
  omega
theorem Kp (s:Nat->Nat):∀ (h:Hp R) (o:Nat),(F7 L s o h).length=off L h h.length
 |[],o=>rfl
 |x::l,o=>by
  simp only[F7,bF,Ck,cy,off];rw[Kp s l]
theorem Ps (h:Hp R):(xV L h).length=off L h h.length:=Kp _ _ _
theorem GU (h:Hp R) {b i:Nat} (hb:b<h.length) (hi:i<width L (fW h b)):off L h b+i<(xV L h).length:=by
 rw[Ps];have:=If (L:=L) h b h.length hb hb;omega
theorem QG:∀ (h:Hp R) (b i:Nat),b<h.length->i<width L (fW h b)->loc L h (off L h b+i)=(b,i)
 |[],b,i,hb,_=>by simp at hb
 |x::l,0,i,_,hi=>by
  have e:fW (x::l) 0=x:=by simp[fW]
  rw[e] at hi;simp only[loc,off,bU,hi,if_true]
 |x::l,b+1,i,hb,hi=>by
  have e:fW (x::l) (b+1)=fW l b:=by simp[fW]
  rw[e] at hi;simp only[cy] at hb;have e2:off L (x::l) (b+1)+i=width L x+(off L l b+i):=by simp only[off];omega
  rw[e2];simp only[loc];rw[if_neg (by omega),show width L x+(off L l b+i)-width L x=off L l b+i by omega,QG l b i (by omega) hi]
theorem GL:∀ (h:Hp R) (j:Nat),(loc L h j).1<h.length->off L h (loc L h j).1+(loc L h j).2=j/\(loc L h j).2<width L (fW h (loc L h j).1)
 |[],j,hj=>by simp at hj
 |x::l,j,hj=>by
  simp only[loc] at hj ⊢;split
  ·rename_i ch;have e:fW (x::l) 0=x:=by simp[fW]
   refine⟨by simp[off],by rw[e];exact ch⟩
  ·rename_i j6;rw[if_neg j6] at hj;simp only[cy] at hj;obtain⟨h1,h2⟩:=GL l (j-width L x) (by simpa using hj)
   have e:fW (x::l) ((loc L l (j-width L x)).1+1)=fW l (loc L l (j-width L x)).1:=by simp[fW]
   simp only[off];rw[e];exact⟨by omega,h2⟩
theorem aa3:∀ (h:Hp R) (j:Nat),j<off L h h.length->(loc L h j).1<h.length
 |[],j,hj=>by simp[off] at hj
 |x::l,j,hj=>by
  simp only[loc];split
  ·simp
  ·rename_i j6;simp only[cy,off] at hj;have:=aa3 l (j-width L x) (by omega)
   simp only[cy];omega
theorem af3 (h:Hp R) {j:Nat} {B:SB R0} (hj:(xV L h)[j]?=aa (aa B)):∃ b i,b<h.length/\i<width L (fW h b)/\j=off L h b+i/\loc L h j=(b,i)/\(A_ L (off L h) (off L h b) (fW h b))[i]?=aa (aa B):=by
 have ch:j<off L h h.length:=by
  have:=(aT.1 hj).1
  rwa [Ps] at this
 have h1:=aa3 h j ch;obtain⟨h2,h3⟩:=GL h j h1;refine⟨_,_,h1,h3,h2.symm,rfl,?_⟩;rw[← h2] at hj;unfold xV at hj;rw[FX _ h 0 _ _ h1 h3,bU] at hj;exact hj
variable {D0:fJ R0} {C:Ctx} {ρ gx:Env} {ft ky:Nat->Nat->Prop} {w w':World} {h:Hp R} {P:Program}
theorem HM.open_ (hm:HM (F9 D0 L) C ρ ft h w):∃ gx ky,(∀ b,b<h.length->gx (off L h b)=ρ b)/\HM D0 C gx ky (xV L h) w:=by
 have key:∀ b,∃ pr:(Env×(Nat->Nat->Prop)),pr.1 0=ρ b/\(∀ k,ft b k↔∃ i,pr.2 i k)/\(∀ i k,b<h.length->pr.2 i k->i<width L (fW h b)) /\
   (∀ x,fW h b=aa (.inr (.inr (.inr x)))->HM D0 ⟨w,ft b,pr.1,0⟩ pr.1 pr.2 (L.lay x) w)/\((∀ x,fW h b≠aa (.inr (.inr (.inr x))))->∀ i k,pr.2 i k->i=0):=by
  intro b
  by_cases hx:∃ x,fW h b=aa (.inr (.inr (.inr x)))
  ·obtain⟨x,hx⟩:=hx;obtain⟨L_,O',h1,h2,h3⟩:=(hm.at_ b _ (rm hx)).1;refine⟨⟨L_,O'⟩,h1,h2,fun i k _ Mo=>?_,fun y hy=>?_,fun hn=>absurd hx (hn x)⟩
   ·rw[hx];obtain⟨B,hB⟩:=h3.some_ i k Mo;exact(aT.1 hB).1
   ·rw[hx] at hy;injection hy with hy;injection hy with hy;injection hy with hy;injection hy with hy
    subst hy;exact h3
  ·refine⟨⟨fun _=>ρ b,fun i k=>i=0/\ft b k⟩,rfl,fun k=>⟨fun hk=>⟨0,rfl,hk⟩,fun⟨_,_,hk⟩=>hk⟩,fun i k _ Mo=>?_,fun x Xx=>absurd ⟨x,Xx⟩ hx,fun _ i k Mo=>Mo.1⟩
   rw[Mo.1];exact u7 _
 obtain⟨pr,Si⟩:=WH key;have qM:∀ b,b<h.length->(pr (loc L h (off L h b)).1).1 (loc L h (off L h b)).2=ρ b:=fun b hb=>by
  have:=QG (L:=L) h b 0 hb (u7 _);rw[gR] at this;rw[this];exact(Si b).1
 refine⟨fun j=>(pr (loc L h j).1).1 (loc L h j).2,fun j k=>(pr (loc L h j).1).2 (loc L h j).2 k,qM,?_⟩
 have nk:∀ j k,(pr (loc L h j).1).2 (loc L h j).2 k->ft (loc L h j).1 k:=fun j k hk=>((Si _).2.1 k).2 ⟨_,hk⟩
 have hb:∀ b k,ft b k->b<h.length:=fun b k hk=>by
  obtain⟨B,hB⟩:=hm.some_ b k hk;exact(aT.1 hB).1
 refine⟨fun j B hj=>?_,fun j k hk=>hm.lt _ k (nk j k hk),fun j k hk=>hm.fresh _ k (nk j k hk),fun j j' k hk nx=>?_,fun j k hk=>?_,hm.kept⟩
 ·obtain⟨b,i,Bt,CR,rfl,hl,hB⟩:=af3 h hj;rw[hl];obtain⟨p1,p2,p3,p4,p5⟩:=Si b;have hfb:(∀ x,fW h b≠aa (.inr (.inr (.inr x))))->(pr b).2 0=ft b:=fun hn=>funext fun k=>propext ⟨fun hk=>(p2 k).2 ⟨0,hk⟩,fun hk=>by
   obtain⟨i,hi⟩:=(p2 k).1 hk;rw[p5 hn i k hi] at hi;exact hi⟩
  cases hx:fW h b with
  |none =>
   rw[hx] at CR hB;simp only[width] at CR;obtain rfl:i=0:=by omega
   simp[A_] at hB
  |some X =>
   have hX:=rm hx;obtain⟨g1,g2⟩:=hm.at_ b X hX;rcases X with⟨t,cs⟩|⟨t,r⟩|r|x
   ·rw[hx] at CR hB;simp only[width] at CR;obtain rfl:i=0:=by omega
    simp only[A_,cd,ct] at hB;subst hB;simp only[hfb (fun x e=>by rw[hx] at e;cases e)]
    obtain⟨q1,q2,q3⟩:=g1;simp only[inside] at g2;refine⟨?_,?_⟩
    ·simp only[hold,hl,p1];refine⟨q1,q2,?_⟩;have e:(lR (off L h) cs).map (bS (fun j=>(pr (loc L h j).1).1 (loc L h j).2))=cs.map (bS ρ):=by
      rw[rL,← lp,← lp];exact qq (n:=h.length) (fun b hb=>qM b hb) cs g2
     rw[e];exact q3
    ·simp only[inside];refine we (n:=h.length) (fun b hb=>?_) cs g2
     have:=GU (L:=L) h (b:=b) (i:=0) hb (u7 _)
     simpa using this
   ·rw[hx] at CR hB;simp only[width] at CR;obtain rfl:i=0:=by omega
    simp only[A_,cd,ct] at hB;subst hB;simp only[hfb (fun x e=>by rw[hx] at e;cases e)]
    simp only[hold,hl,p1] at g1 ⊢;exact⟨g1,trivial⟩
   ·rw[hx] at CR hB;simp only[width] at CR;obtain rfl:i=0:=by omega
    simp only[A_,cd,ct] at hB;subst hB;simp only[hfb (fun x e=>by rw[hx] at e;cases e)]
    simp only[hold,hl,p1] at g1 ⊢;exact⟨g1,trivial⟩
   ·rw[hx] at CR hB;simp only[width] at CR;simp only[A_] at hB;rw[u6.2] at hB;cases hY:(L.lay x)[i]? with
    |none=>rw[hY] at hB;cases hB
    |some Y =>
     rw[hY] at hB;simp only[j_,ct] at hB;obtain⟨Y,rfl,rfl⟩:=H9 hB;have h3:=p4 x hx;obtain⟨q1,q2⟩:=h3.at_ i Y hY;have RV:=L.own x i Y hY;have q3:hold D0 C (pr b).1 i ((pr b).2 i) w Y:=yM RV q1;have RG:∀ i',i'<(L.lay x).length->(pr (loc L h (i'+off L h b)).1).1 (loc L h (i'+off L h b)).2=(pr b).1 i':=fun i' kx=>by
      rw[sE i' (off L h b),QG h b i' Bt (by rw[hx];exact kx)]
     rcases Y with⟨t,cs⟩|⟨t,r⟩|r|y
     ·obtain⟨z1,z2,z3⟩:=q3;simp only[inside] at q2;refine⟨?_,?_⟩
      ·simp only[yW,hold,hl];refine⟨z1,z2,?_⟩;have e:(lR (fun i=>i+off L h b) cs).map (bS (fun j=>(pr (loc L h j).1).1 (loc L h j).2))=cs.map (bS (pr b).1):=by
        rw[rL,← lp,← lp];exact qq (n:=(L.lay x).length) (fun i' kx=>RG i' kx) cs q2
       rw[e];exact z3
      ·simp only[yW,inside];refine we (n:=(L.lay x).length) (fun i' kx=>?_) cs q2
       have:=GU (L:=L) h (b:=b) (i:=i') Bt (by rw[hx];exact kx)
       omega
     ·simp only[yW,hold,hl] at q3 ⊢;exact⟨q3,trivial⟩
     ·simp[hO] at RV
     ·simp only[yW,hold,hl] at q3 ⊢;exact⟨q3,trivial⟩
 ·have e1:=hm.apart _ _ k (nk j k hk) (nk j' k nx);have Bt:=hb _ k (nk j k hk);have amN:=hb _ k (nk j' k nx);have o1:=GL h j Bt;have o2:=GL h j' amN;obtain⟨p1,p2,p3,p4,p5⟩:=Si (loc L h j).1;have e2:(loc L h j).2=(loc L h j').2:=by
   rw[← e1] at nx
   by_cases hx:∃ x,fW h (loc L h j).1=aa (.inr (.inr (.inr x)))
   ·obtain⟨x,hx⟩:=hx;exact(p4 x hx).apart _ _ k hk nx
   ·have hn:∀ x,fW h (loc L h j).1≠aa (.inr (.inr (.inr x))):=fun x e=>hx ⟨x,e⟩
    rw[p5 hn _ k hk,p5 hn _ k nx]
  rw[← o1.1,← o2.1,e1,e2]
 ·have Mp:=nk j k hk;have Bt:=hb _ k Mp;obtain⟨o1,o2⟩:=GL h j Bt;have hg:=FX (L:=L) (off L h) h 0 _ _ Bt o2;rw[bU,o1] at hg;show ∃ B,(F7 L (off L h) 0 h)[j]?=aa (aa B)
  rw[hg];obtain⟨X,hX⟩:=hm.some_ _ k Mp;obtain⟨p1,p2,p3,p4,p5⟩:=Si (loc L h j).1;rw[J6 hX] at o2 ⊢;rcases X with⟨t,cs⟩|tr|r|x
  ·have:(loc L h j).2=0:=by simp only[width] at o2;omega
   rw[this];exact⟨_,rfl⟩
  ·have:(loc L h j).2=0:=by simp only[width] at o2;omega
   rw[this];exact⟨_,rfl⟩
  ·have:(loc L h j).2=0:=by simp only[width] at o2;omega
   rw[this];exact⟨_,rfl⟩
  ·obtain⟨B,hB⟩:=(p4 x (J6 hX)).some_ _ k hk;simp only[A_];rw[u6.2,hB];exact⟨_,rfl⟩
theorem HM.close_ (hm:HM D0 C ρ ft (xV L h) w) (j8:sX h.length h=ao) :
  HM (F9 D0 L) C (fun b=>ρ (off L h b)) (fun b k=>b<h.length/\∃ i,i<width L (fW h b)/\ft (off L h b+i) k) h w:=by
 have YI:∀ b i,b<h.length->i<width L (fW h b)->(xV L h)[off L h b+i]?=(A_ L (off L h) (off L h b) (fW h b))[i]?:=fun b i hb hi=>by
  have:=FX (L:=L) (off L h) h 0 b i hb hi;rw[bU] at this;exact this
 refine⟨fun b B hB=>⟨?_,BO j8 hB⟩,fun b k hk=>?_,fun b k hk=>?_,fun b b' k hk nx=>?_,fun b k hk=>?_,hm.kept⟩
 ·have Bt:b<h.length:=(aT.1 hB).1;have hx:=J6 hB;have ZM:width L (fW h b)=1->(fun k=>b<h.length/\∃ i,i<width L (fW h b)/\ft (off L h b+i) k)=ft (off L h b):=fun hw=>funext fun k=>propext ⟨fun⟨_,i,hi,hk⟩=>by
   obtain rfl:i=0:=by omega
   exact hk,fun hk=>⟨Bt,0,by omega,hk⟩⟩
  have h0:=YI b 0 Bt (u7 _);rw[gR] at h0;rcases B with⟨t,cs⟩|⟨t,r⟩|r|x
  ·rw[ZM (by rw[hx];rfl)]
   rw[hx] at h0;obtain⟨g1,g2⟩:=hm.at_ _ _ h0;obtain⟨q1,q2,q3⟩:=g1;refine⟨q1,q2,?_⟩;rw[rL] at q3;exact q3
  ·rw[ZM (by rw[hx];rfl)]
   rw[hx] at h0;exact(hm.at_ _ _ h0).1
  ·rw[ZM (by rw[hx];rfl)]
   rw[hx] at h0;exact(hm.at_ _ _ h0).1
  ·refine⟨fun i=>ρ (off L h b+i),fun i k=>i<(L.lay x).length/\ft (off L h b+i) k,rfl,fun k=>⟨fun⟨_,i,hi,hk⟩=>⟨i,by rw[hx] at hi;exact hi,hk⟩,fun⟨i,hi,hk⟩=>⟨Bt,i,by rw[hx];exact hi,hk⟩⟩,?_⟩
   have J9:∀ i Y,(L.lay x)[i]?=aa (aa Y)->(xV L h)[off L h b+i]?=aa (aa (yW (fun i=>i+off L h b) Y)):=fun i Y hY=>by
    have CR:=(aT.1 hY).1;rw[YI b i Bt (by rw[hx];exact CR),hx]
    simp only[A_];rw[u6.2,hY]
    rfl
   refine⟨fun i Y hY=>?_,fun i k hk=>hm.lt _ k hk.2,fun i k hk=>dK ⟨Bt,i,by rw[hx];exact hk.1,hk.2⟩,fun i j k hi hj=>?_,fun i k hk=>?_,Kept.refl _ _⟩
   ·have CR:=(aT.1 hY).1;obtain⟨g1,g2⟩:=hm.at_ _ _ (J9 i Y hY);have amR:=BO (L.ins x) hY;have:=SH g1 (agj (ρn:=fun i=>ρ (off L h b+i)) (fun i=>by rw[sE i]) amR) (b:=i) rfl
    have e:(fun k=>i<(L.lay x).length/\ft (off L h b+i) k)=ft (off L h b+i):=funext fun k=>propext ⟨fun h=>h.2,fun h=>⟨CR,h⟩⟩
    rw[e];exact⟨yM (L.own x i Y hY) this.1,this.2⟩
   ·have:=hm.apart _ _ k hi.2 hj.2;omega
   ·obtain⟨Z,hZ⟩:=hm.some_ _ k hk.2;rw[YI b i Bt (by rw[hx];exact hk.1),hx] at hZ
    simp only[A_] at hZ;rw[u6.2] at hZ;cases hY:(L.lay x)[i]? with
    |none=>rw[hY] at hZ;cases hZ
    |some Y =>
     rw[hY] at hZ;simp only[j_,ct] at hZ;obtain⟨Y,rfl,_⟩:=H9 hZ;exact⟨Y,rfl⟩
 ·obtain⟨_,i,_,hk⟩:=hk;exact hm.lt _ k hk
 ·obtain⟨_,i,_,hk⟩:=hk;exact hm.fresh _ k hk
 ·obtain⟨hb,i,hi,hk⟩:=hk;obtain⟨qh,i',kx,nx⟩:=nx;have e:=hm.apart _ _ k hk nx;rcases nR b b' with ch|he|ch
  ·have:=If (L:=L) h b b' ch hb;omega
  ·exact he
  ·have:=If (L:=L) h b' b ch qh;omega
 ·obtain⟨hb,i,hi,hk⟩:=hk;obtain⟨Z,hZ⟩:=hm.some_ _ k hk;rw[YI b i hb hi] at hZ;cases hx:fW h b with
  |none =>
   rw[hx] at hZ hi;simp only[width] at hi;obtain rfl:i=0:=by omega
   simp[A_] at hZ
  |some X=>exact⟨X,rm hx⟩
structure xB (L:EP R R0) (hh:Hp R) (x:Out R) (v:Value) (hp:Hp R0):Prop where
 ex:∃ s:List Nat,v=pB hp.length (gh (nth s) (gh (off L x.hp) x.v))/\fv hp.length v=ao/\tW hp.length (nth s) hp 0 (xV L x.hp)/\vR (yK hp.length (nth s) 0 (xV L x.hp))=ao/\uI (xV L hh).length hp.length=ao/\F3 (fun b=>fp (nth s (off L x.hp b)) (off L hh b)) hh.length=ao /\
  sX (xV L x.hp).length (xV L x.hp)=ao/\sX x.hp.length x.hp=ao
theorem rh {f : FuncId} {fn : Func} {root : Code} {on : List Value → Hp R → Prop} {spec : Prim R} (hf : P.funcs[f]? = aa fn) (hb : fn.body = aa root) (Y2 : (fn.name == "runtime.NumGoroutine") = an)
  (H:∀ args hh x,spec args hh=aa x->hh.length≤x.hp.length/\(∀ b,x.lit=aa b->x.v=.bool b)/\(x.wr=[]->x.hp=hh) /\
   (on args hh->x.vc->At D0 P root (xV L hh).length (ia P fn.results.toList (xB L hh x)) [.inl []] ⟨vd (lR (off L hh) args)++ls (fn.ntmps-args.length) aj,[],xV L hh⟩)):rz (F9 D0 L) P f on spec where
 known:=⟨fn,hf,Y2,by rw[hb];rfl⟩
 run args hh x mO hx C ρ ft w hm hv hi:=by
  obtain⟨_,_,_,h4⟩:=H args hh x hx;obtain⟨ρ1,ft1,o1,o2⟩:=hm.open_;have hargs:args.map (bS ρ)=(lR (off L hh) args).map (bS ρ1):=by
   rw[rL,← lp,← lp];exact(qq (n:=hh.length) (fun b hb=>o1 b hb) args hi).symm
  have hlen:(lR (off L hh) args).length=args.length:=by
   have:∀ l:List Value,(lR (off L hh) l).length=l.length:=fun l=>by
    induction l with
    |nil=>simp[lR]
    |cons v l ih=>simp[lR,ih]
   exact this args
  rw[hargs];have j8:iC (xV L hh).length (lR (off L hh) args)=ao:=we (n:=hh.length) (fun b hb=>by
   have:=GU (L:=L) hh (b:=b) (i:=0) hb (u7 _)
   simpa using this) args hi
  have h5:=h4 mO hv;rw[← hlen] at h5;refine(Ni hf hb h5 o2 j8).mono fun e w' ⟨gx,ky,v,xb,g1,g2,g3,g4⟩=>?_
  obtain⟨s,e1,Jb,e2,e3,e3',e4,e5,e6⟩:=g3.ex;have UT:=g4.Vq e2 e3 e5;refine⟨_,_,fun b hb=>?_,?_,UT.close_ e6⟩
  ·show xE gx xb.length (nth s (off L x.hp b))=ρ b
   have h6:off L hh b<(xV L hh).length:=by
    have:=GU (L:=L) hh (b:=b) (i:=0) hb (u7 _)
    simpa using this
   have:=zL e4 hb;have h7:=jE e3';rw[cO this,xr (by omega),g1 _ h6,o1 b hb]
  ·rw[g2];rw[e1] at Jb ⊢;rw[JJ _ Jb,CN,CN]
 len args hh x hx:=(H args hh x hx).1
 lit args hh x hx:=(H args hh x hx).2.1
 still args hh x hx:=(H args hh x hx).2.2.1
end
end Rx
namespace Rx
open Go.ChangeShapes Go.WideShapes Go.ChangeAt Go.RowKit Go.Deep State
def Aj:Value->Value->Prop
 |.int k _,.int k' x=>k=k'/\(Lit.int k x).wf=ao
 |.bool _,.bool _=>True
 |.string _,.string s=>s.size≤maxLen
 |_,_=>False
def rX:List Value->List Value->Prop
 |[],[]=>True
 |t::tm,v::l=>Aj t v/\rX tm l
 |_,_=>False
theorem Bz:∀ {a b c d:List Value},rX a c->rX b d->rX (a++b) (c++d)
 |[],b,[],d,_,h=>h
 |[],b,_::_,d,h,_=>h.elim
 |_::_,b,[],d,h,_=>h.elim
 |t::a,b,v::c,d,h,h'=>⟨h.1,Bz h.2 h'⟩
theorem L9:∀ {a c:List Value} {f:Nat} {t:Value},rX a c->a[f]?=aa t->∃ v,c[f]?=aa v/\Aj t v
 |[],_,f,t,_,h=>by simp at h
 |_::_,[],f,t,h,_=>h.elim
 |u::a,v::c,f,t,h,ht=>by
  cases f with
  |zero=>simp only[cd,ct] at ht ⊢;subst ht;exact⟨v,rfl,h.1⟩
  |succ f=>simp only[bH] at ht ⊢;exact L9 h.2 ht
def Kf (P:Program) (rec:TypeId->Option (List Value)):Nat->List Field->Option (List Value)
 |_,[]=>aa []
 |off,f::fs =>
  match rec f.type with
  |some tm=>if fp f.offset off&&fp (P.cellsOf f.type) tm.length then
    match Kf P rec (off+tm.length) fs with
    |some r=>aa (tm++r)
    |none=>aj
   else aj
  |none=>aj
def MH (tm:List Value):Nat->List Value
 |0=>[]
 |n+1=>tm++MH tm n
theorem Wl {tm:List Value} {v:Value}:∀ {n},v∈MH tm n->v∈tm
 |0,h=>by simp[MH] at h
 |n+1,h=>by
  simp only[MH] at h;rcases b7.1 h with h|h
  ·exact h
  ·exact Wl h
def Gz (P:Program):Nat->TypeId->Option (List Value)
 |0,_=>aj
 |n+1,t =>
  match P.underlying t with
  |some (.int k)=>aa [.int k 0]
  |some .bool=>aa [.bool an]
  |some .string=>aa [.string ⟨#[]⟩]
  |some (.struct fs) =>
   match Kf P (Gz P n) 0 fs.toList with
   |some tm=>if fp (P.cellsOf t) tm.length then aa tm else aj
   |none=>aj
  |some (.array k el) =>
   match Gz P n el with
   |some tm=>if fp (P.cellsOf el) tm.length&&fp (P.cellsOf t) (k*tm.length) then aa (MH tm k) else aj
   |none=>aj
  |_=>aj
section
variable {H:Type} {enc:TypeId×Value->H} {P:Program} {w:World} {base:Nat} {spare:Nat->Bool} {held:Bool}
theorem XV {tm cs:List Value} {m:Nat} {e:TypeId} (hc:P.cellsOf e=tm.length) (ih:∀ (cs:List Value) (x:DataW H×List MemPlace),DJ enc P w base spare held m e cs=aa x->rX tm cs) :
  ∀ (k i0:Nat),(∀ i,i<i0+k->∃ y,DJ enc P w base spare held m e ((cs.drop (i*P.cellsOf e)).take (P.cellsOf e))=aa y)->rX (MH tm k) ((cs.drop (i0*tm.length)).take (k*tm.length))
 |0,i0,_=>by simp[MH,rX]
 |k+1,i0,hy=>by
  obtain⟨y,h1⟩:=hy i0 (by omega)
  have a1:=ih _ _ h1;rw[hc] at a1;have a2:=XV hc ih k (i0+1) fun i hi=>hy i (by omega)
  have:=Bz a1 a2;rw[show(k+1)*tm.length=tm.length+k*tm.length by rw[Wu];omega,v_,sc]
  rw[show(i0+1)*tm.length=i0*tm.length+tm.length by rw[Wu]] at this
  exact this
theorem Xv {rec:TypeId->Option (List Value)} {cs:List Value} {n:Nat}
  (ih:∀ (t:TypeId) (tm cs:List Value) (x:DataW H×List MemPlace),rec t=aa tm->DJ enc P w base spare held n t cs=aa x->rX tm cs) :
  ∀ (fs:List Field) (off:Nat) (tm:List Value),Kf P rec off fs=aa tm->(∀ f∈fs,∃ y,DJ enc P w base spare held n f.type ((cs.drop f.offset).take (P.cellsOf f.type))=aa y)->rX tm ((cs.drop off).take tm.length)
 |[],off,tm,h,_=>by simp only[Kf,ct] at h;subst h;simp[rX]
 |f::fs,off,tm,h,hy=>by
  simp only[Kf] at h;split at h
  ·rename_i RX h1;split at h
   ·rename_i hc;simp only[aM] at hc;have e1:=cO hc.1;have e2:=cO hc.2;split at h
    ·rename_i r hr;injection h with h
     subst h;obtain⟨y,Ao⟩:=hy f bL;have a1:=ih _ _ _ _ h1 Ao;rw[e1,e2] at a1;have a2:=Xv ih fs (off+RX.length) r hr fun g hg=>hy g (eo _ hg)
     have:=Bz a1 a2;rw[bF,v_,sc];exact this
    ·cases h
   ·cases h
  ·cases h
theorem QB:∀ (m:Nat) (t:TypeId) (tm cs:List Value) (fuel:Nat) (x:DataW H×List MemPlace),Gz P m t=aa tm->DJ enc P w base spare held fuel t cs=aa x->rX tm cs
 |0,_,_,_,_,_,h,_=>by simp[Gz] at h
 |m+1,t,tm,cs,fuel,x,h,ht=>by
  simp only[Gz] at h;split at h
  ·rename_i k hk;injection h with h
   subst h;obtain⟨n,rfl,_,hw⟩:=DataW.trod_int hk ht;exact⟨⟨rfl,hw⟩,trivial⟩
  ·rename_i hk;injection h with h
   subst h;obtain⟨b,rfl,_⟩:=DataW.trod_bool hk ht;exact⟨trivial,trivial⟩
  ·rename_i hk;injection h with h
   subst h;obtain⟨s,rfl,_,hs⟩:=DataW.trod_string hk ht;exact⟨hs,trivial⟩
  ·rename_i fs hk;split at h
   ·rename_i RX h1;split at h
    ·rename_i hc;injection h with h
     subst h;have hc:=cO hc;obtain⟨xs,n,rfl,_,hl,hxs,hf⟩:=DataW.trod_struct hk ht;have:=Xv (fun t tm cs x h1 h2=>QB m t tm cs n x h1 h2) fs.toList 0 RX h1 (cs:=cs) fun f hf'=>by
      obtain⟨i,hi⟩:=List.mem_iff_getElem?.1 hf';have kx:fs[i]?=aa f:=by simpa using hi
      have ch:i<xs.length:=by rw[hxs];exact(v9.1 kx).1
      exact⟨xs[i],by rw[hf i f kx,bd ch]⟩
     rw[se,jl (by omega)] at this
     exact this
    ·cases h
   ·cases h
  ·rename_i k el hk;split at h
   ·rename_i RX h1;split at h
    ·rename_i hc;injection h with h
     subst h;simp only[aM] at hc;have OQ:=cO hc.1;have pT:=cO hc.2;obtain⟨xs,n,rfl,_,hl,hxs,hf⟩:=DataW.trod_array hk ht;have:=XV (cs:=cs) OQ (fun cs x h2=>QB m el RX cs n x h1 h2) k 0 fun i hi=>by
      have ch:i<xs.length:=by omega
      exact⟨xs[i],by rw[hf i (by omega),bd ch]⟩
     rw[Bc,se,jl (by omega)] at this
     exact this
    ·cases h
   ·cases h
  ·cases h
end
structure O2 (W:World) (p:Place) (r:Row):Prop where
 ne:0<r.tm.length
 n:r.n≤p.cap
 cap:p.cap≤maxLen
 nil:p.nil=ao->p.cap=0
 ex:∃ arr,(p.nil=an->0<r.n->p.lI<W.heap.size/\∃ t fz,W.heap[p.lI]?=aa (.cells arr t fz))/\n8 r arr p.off
def Tx:Value->aW->Nat->Prop
 |.int k _,c,n=>c=yP c.i/\c.i.length=n/\∀ x∈c.i,(Lit.int k x).wf=ao
 |.bool _,c,n=>c=AF c.b/\c.b.length=n
 |.string _,c,n=>c=Fb c.s/\c.s.length=n/\∀ x∈c.s,x.size≤maxLen
 |_,_,_=>False
def G3:List Value->List aW->Nat->Prop
 |[],[],_=>True
 |t::tm,c::cs,n=>Tx t c n/\G3 tm cs n
 |_,_,_=>False
def cellAt (W:World) (a:Addr):Value:=(W.cell? a).getD undef
def tV (W:World) (b o s n f:Nat) (t:Value):aW :=
 match t with
 |.int _ _=>yP ((n9 n).map fun e=>match cellAt W ⟨b,o+(e*s+f),aj⟩ with
  |.int _ x=>x
  |_=>0)
 |.bool _=>AF ((n9 n).map fun e=>match cellAt W ⟨b,o+(e*s+f),aj⟩ with
  |.bool x=>x
  |_=>an)
 |.string _=>Fb ((n9 n).map fun e=>match cellAt W ⟨b,o+(e*s+f),aj⟩ with
  |.string x=>x
  |_=>⟨#[]⟩)
 |_=>Lj
def xc (W:World) (b o s n:Nat):Nat->List Value->List aW
 |_,[]=>[]
 |f,t::tm=>tV W b o s n f t::xc W b o s n (f+1) tm
theorem vm (W:World) (b o s n:Nat):∀ (tm:List Value) (f0 f:Nat),(xc W b o s n f0 tm).length=tm.length/\(xc W b o s n f0 tm)[f]?=(tm[f]?).map (tV W b o s n (f0+f))
 |[],f0,f=>⟨rfl,by simp[xc]⟩
 |t::tm,f0,f=>by
  obtain⟨h1,h2⟩:=vm W b o s n tm (f0+1) (f-1);refine⟨by simp[xc,h1],?_⟩
  cases f with
  |zero=>simp[xc]
  |succ f =>
   simp only[xc,bH];simp only[mi] at h2;rw[h2,show f0+1+f=f0+(f+1) by omega]
theorem KB:∀ {tm:List Value} {cs:List aW} {n:Nat},cs.length=tm.length->(∀ (f:Nat) (t:Value) (c:aW),tm[f]?=aa t->cs[f]?=aa c->Tx t c n)->G3 tm cs n
 |[],[],_,_,_=>trivial
 |[],_::_,_,h,_=>by simp at h
 |_::_,[],_,h,_=>by simp at h
 |t::tm,c::cs,n,h,hf=>⟨hf 0 t c rfl rfl,KB (by simpa using h) fun f t c h1 h2=>hf (f+1) t c h1 h2⟩
theorem BH {P:Program}:∀ (m:Nat) (t:TypeId) (tm:List Value),Gz P m t=aa tm->∀ v∈tm,(∃ k,v=.int k 0)∨v=.bool an∨v=.string ⟨#[]⟩
 |0,_,_,h=>by simp[Gz] at h
 |m+1,t,tm,h=>by
  simp only[Gz] at h;split at h
  ·injection h with h;subst h;intro v hv;simp at hv;exact dK ⟨_,hv⟩
  ·injection h with h;subst h;intro v hv;simp at hv;exact e7 (dK hv)
  ·injection h with h;subst h;intro v hv;simp at hv;exact e7 (e7 hv)
  ·rename_i fs hk;have key:∀ (fs:List Field) (off:Nat) (tm:List Value),Kf P (Gz P m) off fs=aa tm->∀ v∈tm,(∃ k,v=.int k 0)∨v=.bool an∨v=.string ⟨#[]⟩:=by
    intro fs
    induction fs with
    |nil=>intro off tm h v hv;simp only[Kf,ct] at h;subst h;cases hv
    |cons f fs ih =>
     intro off tm h v hv;simp only[Kf] at h;split at h
     ·rename_i RX h1;split at h
      ·split at h
       ·rename_i r hr;injection h with h
        subst h;rcases b7.1 hv with hv|hv
        ·exact BH m _ _ h1 v hv
        ·exact ih _ _ hr v hv
       ·cases h
      ·cases h
     ·cases h
   split at h
   ·rename_i RX h1;split at h
    ·injection h with h;subst h;exact key _ _ _ h1
    ·cases h
   ·cases h
  ·split at h
   ·rename_i RX h1;split at h
    ·injection h with h;subst h;exact fun v hv=>BH m _ _ h1 v (Wl hv)
    ·cases h
   ·cases h
  ·cases h
theorem slice_arg {H:Type} {enc:TypeId×Value->H} {P:Program} {W:World} {base:Nat} {t el:TypeId} {v:Value} {d:DataW H} {pl:List MemPlace} {tm:List Value} {m:Nat}
  (ht:P.underlying t=aa (.slice el)) (Bq:Gz P m el=aa tm) (kz:0<tm.length) (RW:P.cellsOf el=tm.length) (LV:0<tm.length/\tm.length<1000)
  (hv:Ww P W .any base t v) (h:DataW.Trod enc P W 0 (fun _=>ao) ao t v d pl) :
  ∃ (p:Place) (r:Row),r.tm=tm/\G3 tm r.ez r.n/\O2 W p r/\∀ (ρ:Env) (i:Nat),ρ i=p->v=bS ρ (.slice (aa ⟨i,0,aa (1000*tm.length)⟩) r.n 0):=by
 obtain⟨a0,len,cap,rfl⟩:=okWide_slice ht hv;obtain⟨fuel,hf⟩:=h;rcases open_slice ht hf with⟨GR,_⟩|⟨a,l,c,mm,n,D,Pl,GR,_,hl,hm,hmm,_,hi⟩
 ·simp[ns] at GR;obtain⟨rfl,rfl,rfl⟩:=GR;refine⟨⟨0,0,0,ao⟩,⟨tm,0,xc W 0 0 tm.length 0 0 tm⟩,rfl,?_,⟨kz,a_ _,dh _,fun _=>rfl,⟨#[],(fun h=>by cases h),?_⟩⟩,fun ρ i qM=>?_⟩
  ·refine KB (vm W 0 0 tm.length 0 tm 0 0).1 fun f t c h1 h2=>?_
   have h3:=(vm W 0 0 tm.length 0 tm 0 f).2;rw[h1,h2] at h3;simp only[j_,ct] at h3;subst h3;rcases BH _ _ _ Bq t (lB h1) with⟨k,rfl⟩|rfl|rfl<;>simp[tV,Tx,yP,AF,Fb]
  ·refine⟨(vm W 0 0 tm.length 0 tm 0 0).1,fun f t c h1 h2=>?_,fun f t c e h1 h2 he=>by simp at he⟩
   have h3:=(vm W 0 0 tm.length 0 tm 0 f).2;simp only at h1 h2;rw[h1,h2] at h3;simp only[j_,ct] at h3;subst h3;rcases BH _ _ _ Bq t (lB h1) with⟨k,rfl⟩|rfl|rfl<;>simp[tV,jJ,yP,AF,Fb]
  ·simp[bS,lK,qM]
 ·simp[ns] at GR;obtain⟨rfl,rfl,rfl⟩:=GR;have hmc:mm=cap:=by simpa using hmm
  have hel:∀ e,e<cap->∃ cs,rX tm cs/\∀ f,f<tm.length->W.cell? ((a.add (e*tm.length)).add f)=cs[f]?:=by
   intro e he;obtain⟨CF,hc,ht'⟩:=hi e (by omega)
   rw[RW] at hc;obtain⟨_,hlen,hat⟩:=World.cells?_some hc;exact⟨CF,QB _ _ _ _ _ _ Bq ht',hat⟩
  have afP:a.spot=aj:=by
   simp only[Ww,ht,Cell.okWide,Cell.ok] at hv;exact hv.2.2.2.1
  obtain⟨b,o,spot⟩:=a;simp only at afP;subst afP;have hat:∀ e f,e<cap->f<tm.length->∃ t v,tm[f]?=aa t/\W.cell? ⟨b,o+(e*tm.length+f),aj⟩=aa v/\Aj t v:=by
   intro e f he hf;obtain⟨cs,ux,hc⟩:=hel e he;obtain⟨v,hv,hk⟩:=L9 ux (bd hf);refine⟨tm[f],v,bd hf,?_,hk⟩;have:=hc f hf;rw[hv] at this;rw[pN,pN] at this;rw[← jg];exact this
  have hwf:∀ (f:Nat) (t:Value),tm[f]?=aa t->Tx t (tV W b o tm.length len f t) len/\∀ e,e<len->W.cell? ⟨b,o+(e*tm.length+f),aj⟩=aa (gF t (tV W b o tm.length len f t) e):=by
   intro f t ht1;have hf:f<tm.length:=(aT.1 ht1).1;have pW:∀ e,e<len->∃ v,W.cell? ⟨b,o+(e*tm.length+f),aj⟩=aa v/\Aj t v:=fun e he=>by
    obtain⟨t',v,h1,h2,h3⟩:=hat e f (by omega) hf
    rw[ht1] at h1;injection h1 with h1
    subst h1;exact⟨v,h2,h3⟩
   rcases BH _ _ _ Bq t (lB ht1) with⟨k,rfl⟩|rfl|rfl
   ·refine⟨⟨rfl,by simp[tV,yP],fun x hx=>?_⟩,fun e he=>?_⟩
    ·simp only[tV,yP,pb,RP] at hx;obtain⟨e,he,rfl⟩:=hx;obtain⟨v,h1,h2⟩:=pW e he;cases v<;>simp only[Aj] at h2
     obtain⟨rfl,h2⟩:=h2;simp only[cellAt,h1,lL];exact h2
    ·obtain⟨v,h1,h2⟩:=pW e he;cases v<;>simp only[Aj] at h2
     obtain⟨rfl,h2⟩:=h2;rw[h1];simp[gF,tV,yP,he,cellAt,h1]
   ·refine⟨⟨rfl,by simp[tV,AF]⟩,fun e he=>?_⟩
    obtain⟨v,h1,h2⟩:=pW e he;cases v<;>simp only[Aj] at h2
    rw[h1];simp[gF,tV,AF,he,cellAt,h1]
   ·refine⟨⟨rfl,by simp[tV,Fb],fun x hx=>?_⟩,fun e he=>?_⟩
    ·simp only[tV,Fb,pb,RP] at hx;obtain⟨e,he,rfl⟩:=hx;obtain⟨v,h1,h2⟩:=pW e he;cases v<;>simp only[Aj] at h2
     simp only[cellAt,h1,lL];exact h2
    ·obtain⟨v,h1,h2⟩:=pW e he;cases v<;>simp only[Aj] at h2
     rw[h1];simp[gF,tV,Fb,he,cellAt,h1]
  have aex:∀ (f:Nat) (t:Value) (c:aW),tm[f]?=aa t->(xc W b o tm.length len 0 tm)[f]?=aa c->c=tV W b o tm.length len f t:=fun f t c h1 h2=>by
   have h3:=(vm W b o tm.length len tm 0 f).2;rw[h1,h2] at h3
   simpa using h3
  have hlen:=(vm W b o tm.length len tm 0 0).1;have wk:∀ arr,(0<len->∃ t fz,W.heap[b]?=aa (.cells arr t fz))->n8 ⟨tm,len,xc W b o tm.length len 0 tm⟩ arr o:=by
   intro arr Gs;refine⟨hlen,fun f t c h1 h2=>?_,fun f t c e h1 h2 he=>?_⟩
   ·rw[aex f t c h1 h2];have:=(hwf f t h1).1;rcases BH _ _ _ Bq t (lB h1) with⟨k,rfl⟩|rfl|rfl<;>simp[tV,jJ,yP,AF,Fb]
   ·rw[aex f t c h1 h2];obtain⟨t',fz,hb⟩:=Gs (by simp only at he;omega)
    rw[← (hwf f t h1).2 e he,cell_of_row W b _ arr t' fz hb]
  refine⟨⟨b,o,cap,an⟩,⟨tm,len,xc W b o tm.length len 0 tm⟩,rfl,KB hlen fun f t c h1 h2=>by rw[aex f t c h1 h2];exact(hwf f t h1).1,⟨kz,hl,hm,(fun h=>by cases h),?_⟩,fun ρ i qM=>?_⟩
  ·by_cases h0:0<len
   ·obtain⟨t,v,_,h2,_⟩:=hat 0 0 (by omega) kz
    unfold World.cell? at h2;simp only[Option.isSome_none,fP,if_false] at h2;split at h2
    ·rename_i arr t' fz hb;exact⟨arr,fun _ _=>⟨by have:=v9.1 hb;exact this.1,_,_,hb⟩,wk arr fun _=>⟨_,_,hb⟩⟩
    ·cases h2
   ·exact⟨#[],fun _ h=>absurd h h0,wk #[] fun h=>absurd h h0⟩
  ·simp[bS,lK,qM,iI,cellOf];omega
def xO {R:Type}:List (Place×Row)->Hp R
 |[]=>[]
 |x::l=>aa (.inr (.inr (.inl x.2)))::xO l
theorem LU {R:Type}:∀ {l:List (Place×Row)} {i:Nat} {B:SB R},(xO l:Hp R)[i]?=aa (aa B)->∃ x,l[i]?=aa x/\B=.inr (.inr (.inl x.2))
 |[],i,B,h=>by simp[xO] at h
 |x::l,i,B,h=>by
  cases i with
  |zero=>simp only[xO,cd,ct] at h ⊢;exact⟨x,rfl,h.symm⟩
  |succ i=>simp only[xO,bH] at h ⊢;exact LU h
def viewsE (l:List (Place×Row)):Env:=fun i=>match l[i]? with
 |some x=>x.1
 |none=>⟨0,0,0,ao⟩
theorem adq {R:Type} {D:fJ R} {W:World} {l:List (Place×Row)} (h:∀ x∈l,O2 W x.1 x.2) (n:Nat):HM D ⟨W,fun _=>False,viewsE l,n⟩ (viewsE l) (fun _ _=>False) (xO l) W where
 at_ i B hB:=by
  obtain⟨x,hx,rfl⟩:=LU hB;obtain⟨h1,h2,h3,h4,arr,h5,h6⟩:=h x (lB hx);have e:viewsE l i=x.1:=by simp[viewsE,hx]
  refine⟨?_,trivial⟩;simp only[hold,e];exact⟨fun k hk=>hk,h1,h2,h3,h4,arr,fun hn h0=>⟨(h5 hn h0).1,fun hf=>hf,(h5 hn h0).2⟩,h6⟩
 lt i k hk:=hk.elim
 fresh i k hk:=hk.elim
 apart i j k hk:=hk.elim
 some_ i k hk:=hk.elim
 kept:=Kept.refl _ _
theorem Kept.below {W W':World} (h:Kept (fun _=>False) W W'):Below W.heap.size W W':=⟨h.os,h.tape,h.output,h.size,fun k hk=>h.block k hk fun hf=>hf⟩
theorem aaX {R:Type} {D:fJ R} {P:Program} {f:FuncId} {fn:Func} {root:Code} {args:List Value} {W:World} (l:List (Place×Row)) (hf:P.funcs[f]?=aa fn) (hb:fn.body=aa root)
  (hW:∀ x∈l,O2 W x.1 x.2) (hi:iC (xO l:Hp R).length args=ao)
  (h:At D P root (xO l:Hp R).length (ia P fn.results.toList fun v _=>v=.bool ao) [.inl []] ⟨vd args++ls (fn.ntmps-args.length) aj,[],xO l⟩) :
  Calls P f (args.map (bS (viewsE l))).toArray W fun e W'=>e=.returned (.bool ao)/\Below W.heap.size W W':=by
 refine(Ni hf hb h (adq hW 0) hi).mono fun e w' ⟨gx,ky,v,xb,_,h2,h3,h4⟩=>?_
 subst h3;exact⟨by rw[h2];simp,Kept.below h4.kept⟩
end Rx
namespace Rx
open Go.RowKit State
def PC (t:Value) (c:aW) (e n:Nat):aW :=
 match t with
 |.int _ _=>⟨cut c.i e n,[],[]⟩
 |.bool _=>⟨[],cut c.b e n,[]⟩
 |.string _=>⟨[],[],cut c.s e n⟩
 |_=>Lj
def xC:List Value->List aW->Nat->Nat->List aW
 |t::tm,c::cs,e,n=>PC t c e n::xC tm cs e n
 |_,_,_,_=>[]
theorem Cp:∀ {tm:List Value} {cs:List aW} {e n f:Nat},cs.length=tm.length->(xC tm cs e n).length=tm.length/\∀ t c',tm[f]?=aa t->(xC tm cs e n)[f]?=aa c'->∃ c,cs[f]?=aa c/\c'=PC t c e n
 |[],[],e,n,f,_=>⟨rfl,fun t c' h=>by simp at h⟩
 |[],_::_,e,n,f,h=>by simp at h
 |_::_,[],e,n,f,h=>by simp at h
 |t::tm,c::cs,e,n,f,h=>by
  obtain⟨h1,h2⟩:=Cp (tm:=tm) (cs:=cs) (e:=e) (n:=n) (f:=f-1) (by simpa using h)
  refine⟨by simp[xC,h1],fun t' c' ht hc=>?_⟩
  cases f with
  |zero =>
   simp only[xC,cd,ct] at ht hc ⊢;subst ht hc;exact⟨c,rfl,rfl⟩
  |succ f =>
   simp only[xC,bH] at ht hc ⊢;simp only[mi] at h2;exact h2 t' c' ht hc
theorem ac6 {α:Type} {l:List α} {e n i:Nat} {d:α} (hi:i<n):(cut l e n).getD i d=l.getD (e+i) d:=by
 simp only[cut,au,oF,hi,if_true,oH]
theorem ag1 {α:Type} {l:List α} {e n:Nat} (h:e+n≤l.length):(cut l e n).length=n:=by simp[cut];omega
theorem n8.cut {r:Row} {arr:Array Value} {o e n:Nat} (h:n8 r arr o) (hn:e+n≤r.n):n8 ⟨r.tm,n,xC r.tm r.ez e n⟩ arr (o+e*r.tm.length):=by
 obtain⟨h1,h2,h3⟩:=h;refine⟨(Cp (f:=0) h1).1,fun f t c ht hc=>?_,fun f t c i ht hc hi=>?_⟩
 ·obtain⟨c0,Dj,rfl⟩:=(Cp h1).2 t c ht hc;have:=h2 f t c0 ht Dj;cases t<;>simp only[jJ,PC] at this ⊢<;>first|exact ag1 (by omega)|exact this
 ·obtain⟨c0,Dj,rfl⟩:=(Cp h1).2 t c ht hc;have kx:i<n:=hi;have:=h3 f t c0 (e+i) ht Dj (by omega)
  show arr[o+e*r.tm.length+(i*r.tm.length+f)]?=_
  rw[show o+e*r.tm.length+(i*r.tm.length+f)=o+((e+i)*r.tm.length+f) by rw[Nat.add_mul];omega,this]
  cases t<;>simp only[gF,PC]<;>simp only[ac6 kx]
def ZH (C:Ctx) (p:Place) (r:Row):Prop:=0<r.tm.length/\r.n≤p.cap/\p.cap≤maxLen/\(p.nil=ao->p.cap=0) /\
 ∃ arr,(p.nil=an->0<r.n->p.lI<C.w0.heap.size/\¬ C.U p.lI/\∃ t fz,C.w0.heap[p.lI]?=aa (.cells arr t fz))/\n8 r arr p.off
section
variable {R:Type} {D:fJ R} {P:Program} {T:eJ R} {C:Ctx} {ρ gx:Env} {ft:Nat->Nat->Prop} {w w':World}
def w7 (ro:Nat->Bool) (hl:Hp R):Nat->Nat->List Value->Option (List Value×Hp R×Prop)
 |_,_,[]=>aa ([],[],True)
 |j,k,v::l =>
  match ro j with
  |false =>
   match w7 ro hl (j+1) k l with
   |some (a,h,p)=>aa (v::a,h,p)
   |none=>aj
  |true =>
   match v with
   |.slice (aa ⟨b,e,aa q⟩) n _ =>
    match fW hl b with
    |some (.inr (.inr (.inl r))) =>
     if fp (q%1000000) (1000*r.tm.length) then
      match w7 ro hl (j+1) (k+1) l with
      |some (a,h,p)=>aa (.slice (aa ⟨k,0,aa (1000*r.tm.length)⟩) n 0::a,aa (.inr (.inr (.inl ⟨r.tm,n,xC r.tm r.ez e n⟩)))::h,e+n≤r.n/\p)
      |none=>aj
     else aj
    |_=>aj
   |_=>aj
theorem Gq {ro:Nat->Bool} {hl:Hp R} (hm:HM D C ρ ft hl w):∀ (l:List Value) (j k:Nat) (a:List Value) (h:Hp R) (p:Prop),w7 ro hl j k l=aa (a,h,p)->p->hl.length≤k->iC hl.length l=ao->(∀ (b:Nat) (r:Row),fW hl b=aa (.inr (.inr (.inl r)):SB R)->r.tm.length<1000) ->
  ∃ pl:List Place,pl.length=h.length/\iC (k+h.length) a=ao /\
   (∀ ni:Env,(∀ i,i<hl.length->ni i=ρ i)->(∀ i q,pl[i]?=aa q->ni (k+i)=q)->a.map (bS ni)=l.map (bS ρ)) /\
   (∀ (i:Nat) (B:SB R),h[i]?=aa (aa B)->∃ (r:Row) (q:Place),B=.inr (.inr (.inl r))/\pl[i]?=aa q/\ZH C q r)
 |[],j,k,a,h,p,hv,_,_,_,_=>by
  simp only[w7,ct,te] at hv;obtain⟨rfl,rfl,_⟩:=hv;exact⟨[],rfl,rfl,fun _ _ _=>rfl,fun i B hB=>by simp at hB⟩
 |v::l,j,k,a,h,p,hv,hp,hk,j8,hsm=>by
  simp only[iC,aM] at j8;simp only[w7] at hv;split at hv
  ·split at hv
   ·rename_i a1 h1 p1 he;simp only[ct,te] at hv;obtain⟨rfl,rfl,rfl⟩:=hv;obtain⟨pl,q1,q2,q3,q4⟩:=Gq hm l _ _ _ _ _ he hp hk j8.2 hsm;refine⟨pl,q1,?_,fun ni e1 e2=>?_,q4⟩
    ·simp only[iC,aM];exact⟨BX (by omega) v j8.1,q2⟩
    ·simp only[gw,q3 ni e1 e2];rw[ng (n:=hl.length) (fun i hi=>e1 i hi) v j8.1]
   ·cases hv
  ·split at hv
   ·rename_i b e q n c;split at hv
    ·rename_i r hr;split at hv
     ·rename_i hq;have hq:=cO hq;split at hv
      ·rename_i a1 h1 p1 he;simp only[ct,te] at hv;obtain⟨rfl,rfl,rfl⟩:=hv;obtain⟨hp1,hp2⟩:=hp;obtain⟨pl,q1,q2,q3,q4⟩:=Gq hm l _ _ _ _ _ he hp2 (by omega) j8.2 hsm
       have hb:=rm hr;have Bt:b<hl.length:=(aT.1 hb).1;obtain⟨_,g1,g2,g3,g4,arr,g5,g6⟩:=(hm.at_ b _ hb).1;have apI:=hsm b r hr;have adZ:=g6.cut hp1;have ao7:EC (aa q)≤hl.length:=by
        have:=j8.1;simp only[fv,aM,vt] at this;exact this.2
       have main:∃ pp:Place,ZH C pp ⟨r.tm,n,xC r.tm r.ez e n⟩/\∀ ni:Env,ni k=pp->bS ni (.slice (aa ⟨k,0,aa (1000*r.tm.length)⟩) n 0)=bS ρ (.slice (aa ⟨b,e,aa q⟩) n c):=by
        have hz:1000*r.tm.length / 1000000=0:=by omega
        by_cases hn:(ρ b).nil=ao
        ·have hc:=g4 hn;refine⟨⟨0,(ρ b).off+e*r.tm.length,0,ao⟩,⟨g1,(by show n≤0;omega),dh _,(fun _=>rfl),arr,(fun h=>by cases h),adZ⟩,fun ni e2=>?_⟩
         simp only[bS,zq,e2,if_true];rw[if_pos hn]
        ·have xW:(ρ b).nil=an:=by simpa using hn
         by_cases hc:q / 1000000≠0/\(ρ b).cap≤e
         ·have uo:n=0:=by omega
          subst uo;refine⟨⟨(ρ (q / 1000000-1)).lI,(ρ (q / 1000000-1)).off,0,an⟩,⟨g1,a_ _,dh _,(fun h=>by cases h),arr,(fun _ h=>absurd h (Nat.lt_irrefl 0)),?_⟩,fun ni e2=>?_⟩
          ·obtain⟨z1,z2,z3⟩:=adZ;exact⟨z1,z2,fun f t c i _ _ hi=>absurd hi (Nat.not_lt_zero i)⟩
          ·simp only[bS,zq,e2,iI,cellOf,hz];rw[if_neg (by simp),if_neg hn,if_pos hc]
           simp
         ·refine⟨⟨(ρ b).lI,(ρ b).off+e*r.tm.length,(ρ b).cap-e,an⟩,⟨g1,(by show n≤(ρ b).cap-e;omega),(by show(ρ b).cap-e≤maxLen;omega),(fun h=>by cases h),arr,(fun _ h0=>g5 xW (by have h0':0<n:=h0;omega)),adZ⟩,fun ni e2=>?_⟩
          simp only[bS,zq,e2,iI,cellOf,hz,hq];rw[if_neg (by simp),if_neg hn,if_neg hc,if_neg (by simp)]
          have e3:1000*r.tm.length / 1000=r.tm.length:=by omega
          have e4:q%1000=0:=by omega
          have e5:1000*r.tm.length%1000=0:=by omega
          simp[e3,e4,e5]
       obtain⟨pp,v1,v2⟩:=main;refine⟨pp::pl,by simp[q1],?_,fun ni e1 e2=>?_,fun i B hB=>?_⟩
       ·simp only[iC,fv,EC,aM,fe,vt,cy];refine⟨⟨by omega,by omega⟩,?_⟩
        rw[show k+(h1.length+1)=k+1+h1.length by omega]
        exact q2
       ·simp only[gw];rw[v2 ni (e2 0 pp rfl),q3 ni e1 fun i q hi=>by rw[show k+1+i=k+(i+1) by omega];exact e2 (i+1) q (by simpa using hi)]
       ·cases i with
        |zero =>
         simp only[cd,ct] at hB ⊢;exact⟨_,pp,hB.symm,rfl,v1⟩
        |succ i =>
         simp only[bH] at hB ⊢;exact q4 i B hB
      ·cases hv
     ·cases hv
    ·cases hv
   ·cases hv
def rY:Nat->Nat->Hp R->Hp R
 |_,_,[]=>[]
 |0,0,l=>l
 |0,k+1,_::l=>aj::rY 0 k l
 |n+1,k,x::l=>x::rY n k l
theorem yc:∀ {n k:Nat} {l:Hp R},(rY n k l).length=l.length/\∀ (i:Nat) (B:SB R),(rY n k l)[i]?=aa (aa B)->l[i]?=aa (aa B)
 |n,k,[]=>by cases n<;>cases k<;>exact⟨rfl,fun i B h=>by simp[rY] at h⟩
 |0,0,x::l=>⟨rfl,fun i B h=>h⟩
 |0,k+1,x::l=>by
  obtain⟨h1,h2⟩:=yc (n:=0) (k:=k) (l:=l);refine⟨by simp[rY,h1],fun i B h=>?_⟩
  cases i with
  |zero=>simp[rY] at h
  |succ i=>simp only[rY,bH] at h ⊢;exact h2 i B h
 |n+1,k,x::l=>by
  obtain⟨h1,h2⟩:=yc (n:=n) (k:=k) (l:=l);refine⟨by simp[rY,h1],fun i B h=>?_⟩
  cases i with
  |zero=>simpa [rY] using h
  |succ i=>simp only[rY,bH] at h ⊢;exact h2 i B h
def zD (hl:Hp R):Bool :=
 match hl with
 |[]=>ao
 |some (.inr (.inr (.inl r)))::l=>gQ r.tm.length 1000&&zD l
 |_::l=>zD l
theorem I9:∀ {l:Hp R} {b:Nat} {r:Row},zD l=ao->fW l b=aa (.inr (.inr (.inl r)))->r.tm.length<1000
 |[],b,r,_,h=>by simp[fW] at h
 |x::l,b,r,hs,h=>by
  have hl:zD l=ao/\(x=aa (.inr (.inr (.inl r)))->r.tm.length<1000):=by
   rcases x with _|⟨t,cs⟩|⟨t,r0⟩|r0|x
   ·exact⟨hs,fun e=>by cases e⟩
   ·exact⟨hs,fun e=>by cases e⟩
   ·exact⟨hs,fun e=>by cases e⟩
   ·simp only[zD,aM,fe] at hs;exact⟨hs.2,fun e=>by injection e with e;injection e with e;injection e with e;injection e with e;subst e;exact hs.1⟩
   ·exact⟨hs,fun e=>by cases e⟩
  cases b with
  |zero=>simp[fW] at h;exact hl.2 h
  |succ b=>exact I9 hl.1 (by simpa [fW] using h)
def FK (ro:Nat->Bool) (spec:Prim R):Prim R:=fun args hl =>
 match w7 ro hl 0 hl.length args with
 |some (a,hv,p) =>
  if zD hl then
   match spec a (hl++hv) with
   |some x=>match x.wr with
    |[]=>if fv hl.length x.v then aa ⟨p/\x.vc,x.v,x.lit,hl,[],[]⟩ else aj
    |_=>if sX x.hp.length (rY hl.length hv.length x.hp) then aa ⟨p/\x.vc,x.v,x.lit,rY hl.length hv.length x.hp,[],[(0,0)]⟩ else aj
   |none=>aj
  else aj
 |none=>aj
theorem HM.part {h r:Hp R} (hm:HM D C ρ ft h w) (hl:∀ (i:Nat) (B:SB R),r[i]?=aa (aa B)->h[i]?=aa (aa B)) (hi:sX r.length r=ao):HM D C ρ (fun i k=>(∃ B,r[i]?=aa (aa B))/\ft i k) r w where
 at_ i B hB:=by
  obtain⟨h1,h2⟩:=hm.at_ i B (hl i B hB);refine⟨?_,BO hi hB⟩;have:(fun k=>(∃ B,r[i]?=aa (aa B))/\ft i k)=ft i:=funext fun k=>propext ⟨fun h=>h.2,fun h=>⟨⟨B,hB⟩,h⟩⟩
  rw[this];exact h1
 lt i k hk:=hm.lt i k hk.2
 fresh i k hk:=hm.fresh i k hk.2
 apart i j k hi hj:=hm.apart i j k hi.2 hj.2
 some_ i k hk:=hk.1
 kept:=hm.kept
theorem HM.ak3 {hl hv:Hp R} (hm:HM D C ρ ft hl w) (ni:Env) (pl:List Place) (h1:∀ i,i<hl.length->ni i=ρ i) (h2:∀ i q,pl[i]?=aa q->ni (hl.length+i)=q)
  (hv_:∀ (i:Nat) (B:SB R),hv[i]?=aa (aa B)->∃ (r:Row) (q:Place),B=.inr (.inr (.inl r))/\pl[i]?=aa q/\ZH C q r):HM D C ni ft (hl++hv) w where
 at_ i B hB:=by
  rcases cr i hl.length with ch|j6
  ·rw[cZ ch] at hB;obtain⟨g1,g2⟩:=hm.at_ i B hB;exact⟨H2 g1 h1 ch g2,Cl (by simp) g2⟩
  ·rw[dS j6] at hB;obtain⟨r,q,rfl,hq,hr⟩:=hv_ _ _ hB;have e:=h2 _ _ hq;rw[show hl.length+(i-hl.length)=i by omega] at e
   refine⟨?_,trivial⟩;simp only[hold,e];refine⟨fun k hk=>?_,hr⟩
   obtain⟨B',jB⟩:=hm.some_ i k hk;have:=(aT.1 jB).1;omega
 lt:=hm.lt
 fresh:=hm.fresh
 apart:=hm.apart
 some_ i k hk:=by
  obtain⟨B,hB⟩:=hm.some_ i k hk;have:=(aT.1 hB).1;exact⟨B,by rw[cZ this];exact hB⟩
 kept:=hm.kept
theorem Yc {n:Nat}:∀ {r:Hp R},(∀ (i:Nat) (B:SB R),r[i]?=aa (aa B)->inside n B)->sX n r=ao
 |[],_=>rfl
 |x::r,h=>by
  have hr:sX n r=ao:=Yc fun i B hB=>h (i+1) B (by simpa using hB)
  rcases x with _|⟨t,cs⟩|⟨t,ro⟩|ro|x
  ·exact hr
  ·simp only[sX,aM];exact⟨h 0 _ rfl,hr⟩
  ·exact hr
  ·exact hr
  ·exact hr
def ah7 (ro:Nat->Bool) (on:List Value->Hp R->Prop) (args:List Value) (hl:Hp R):Prop:=∀ a hv p,w7 ro hl 0 hl.length args=aa (a,hv,p)->on a (hl++hv)
theorem adS {f:FuncId} {on:List Value->Hp R->Prop} {spec:Prim R} (ro:Nat->Bool) (ok:rz D P f on spec):rz D P f (ah7 ro on) (FK ro spec) where
 known:=ok.known
 run args hl x mO hx C ρ ft w hm hv hi:=by
  unfold FK at hx;split at hx
  ·rename_i a Ez p he;split at hx
   ·rename_i hs;split at hx
    ·rename_i y hy;have main:p/\y.vc->Calls P f (args.map (bS ρ)).toArray w fun e w'=>∃ gx ky,(∀ i,i<(hl++Ez).length->i<hl.length->gx i=ρ i)/\e=.returned (bS gx y.v)/\HM D C gx ky y.hp w':=by
      intro⟨hp,hyv⟩;obtain⟨pl,q1,q2,q3,q4⟩:=Gq hm args 0 hl.length a Ez p he hp (a_ _) hi fun b r hb=>I9 hs hb
      let ni:Env:=fun i=>if i<hl.length then ρ i else(pl[i-hl.length]?).getD ⟨0,0,0,ao⟩
      have e1:∀ i,i<hl.length->ni i=ρ i:=fun i hi=>by simp only[ni,hi,if_true]
      have e2:∀ i q,pl[i]?=aa q->ni (hl.length+i)=q:=fun i q hq=>by
       have:¬ hl.length+i<hl.length:=by omega
       simp only[ni,this,if_false,FD,hq,lL]
      have Ku:=hm.ak3 ni pl e1 e2 q4;have:=ok.run a (hl++Ez) y (mO a Ez p he) hy C ni ft w Ku hyv (by rw[bF];exact q2)
      rw[q3 ni e1 e2] at this;refine this.mono fun e w' ⟨gx,ky,r1,r2,r3⟩=>⟨gx,ky,fun i hi kx=>(r1 i hi).trans (e1 i kx),r2,r3⟩
     split at hx
     ·rename_i hw;split at hx
      ·rename_i j8;cases hx;have yq:=ok.still _ _ _ hy hw;refine(main hv).mono fun e w' ⟨gx,ky,r1,r2,r3⟩=>?_
       rw[yq] at r3;have nk:∀ (i:Nat) (B:SB R),hl[i]?=aa (aa B)->(hl++Ez)[i]?=aa (aa B):=fun i B hB=>by
        rw[cZ (aT.1 hB).1];exact hB
       refine⟨gx,_,fun i hi=>r1 i (by simp;omega) hi,r2,r3.part nk (Yc fun i B hB=>(hm.at_ i B hB).2)⟩
      ·cases hx
     ·split at hx
      ·rename_i j8;cases hx;refine(main hv).mono fun e w' ⟨gx,ky,r1,r2,r3⟩=>?_
       refine⟨gx,_,fun i hi=>r1 i (by simp;omega) hi,r2,r3.part (fun i B hB=>yc.2 i B hB) (by rw[yc.1];exact j8)⟩
      ·cases hx
    ·cases hx
   ·cases hx
  ·cases hx
 len args hl x hx:=by
  unfold FK at hx;split at hx
  ·split at hx
   ·split at hx
    ·rename_i a Ez p he hs y hy;have:=ok.len _ _ _ hy;split at hx
     ·split at hx
      ·injection hx with hx;subst hx;exact a_ _
      ·cases hx
     ·split at hx
      ·injection hx with hx
       subst hx;simp only[yc.1];simp at this;omega
      ·cases hx
    ·cases hx
   ·cases hx
  ·cases hx
 lit args hl x hx b hb:=by
  unfold FK at hx;split at hx
  ·split at hx
   ·split at hx
    ·rename_i a Ez p he hs y hy;split at hx
     ·split at hx
      ·injection hx with hx;subst hx;exact ok.lit _ _ _ hy b hb
      ·cases hx
     ·split at hx
      ·injection hx with hx;subst hx;exact ok.lit _ _ _ hy b hb
      ·cases hx
    ·cases hx
   ·cases hx
  ·cases hx
 still args hl x hx hw:=by
  unfold FK at hx;split at hx
  ·split at hx
   ·split at hx
    ·split at hx
     ·split at hx
      ·injection hx with hx;subst hx;rfl
      ·cases hx
     ·split at hx
      ·injection hx with hx;subst hx;cases hw
      ·cases hx
    ·cases hx
   ·cases hx
  ·cases hx
def afL (ro:Nat->Bool) (when:List Value->Hp R->Option Bool) (args:List Value) (hl:Hp R):Option Bool :=
 match w7 ro hl 0 hl.length args with
 |some (a,hv,_)=>when a (hl++hv)
 |none=>aj
def Tl (ro:Nat->Bool) (c:je R):je R:=⟨afL ro c.when,FK ro c.yes,FK ro c.no⟩
theorem aeo {f:FuncId} {c:je R} (ro:Nat->Bool) (ok:b9 D P f c):b9 D P f (Tl ro c):=by
 intro b;have:=adS ro (ok b);have e:(Tl ro c).go b=FK ro (c.go b):=by cases b<;>rfl
 rw[e];refine⟨this.known,fun args h x mO=>this.run args h x fun a hv p he=>?_,this.len,this.lit,this.still⟩
 unfold rU Tl afL at mO;simp only[he] at mO;exact mO
def ve (ro:Nat->Bool) (d:Nat) (c:je R):je R:=bJ (fun _=>ao) d (Tl ro (bJ (fun _=>an) d c))
theorem o4 {f:FuncId} {c:je R} (ro:Nat->Bool) (d:Nat) (ok:b9 D P f c):GS D P f (ve ro d c):=aU _ _ (aeo _ (JL _ _ ok))
end
end Rx
namespace Rx
def sR:fJ Empty:=⟨fun _ _ _ _=>False,fun _ _ _ _ _ h _=>h,fun _ _ _ _ _ h _=>h.elim⟩
def dC (f:Func):Code:=f.body.getD .skip
theorem bK {p q:Prop} (h:q) (e:p=q):p:=by rw[e];exact h
theorem mixed:Tryz.prog.follows .mixedOrders=ao:=by kernel_rfl
def G4:Hp Empty->Bool
 |[]=>ao
 |none::l=>G4 l
 |some B::l=>!hO B&&G4 l
theorem Cm:∀ {l:Hp Empty} {b:Nat} {X:SB Empty},G4 l=ao->l[b]?=aa (aa X)->hO X=an
 |[],b,X,_,h=>by simp at h
 |none::l,b,X,hn,h=>by
  cases b with
  |zero=>simp at h
  |succ b =>
   simp only[bH] at h;simp only[G4] at hn;exact Cm hn h
 |some B::l,b,X,hn,h=>by
  simp only[G4,aM,mP] at hn;cases b with
  |zero=>simp only[cd,ct] at h;subst h;exact hn.1
  |succ b=>simp only[bH] at h;exact Cm hn.2 h
def zN:Nat->Bool:=fun _=>an
theorem l_ {R:Type} {x:Out R} (h:x.lit=aj):∀ b,x.lit=aa b->x.v=.bool b:=fun b hb=>by rw[h] at hb;cases hb
theorem fu {R:Type} {D:fJ R} {P:Program} {f:FuncId} {spec:Prim R} (fn:Func) (H:∀ args hh x,spec args hh=aa x->hh.length≤x.hp.length/\(∀ b,x.lit=aa b->x.v=.bool b)/\(x.wr=[]->x.hp=hh) /\
 (True → x.vc → At D P (dC fn) hh.length (ia P fn.results.toList (Ends hh.length x)) [.inl []] ⟨vd args ++ ls (fn.ntmps - args.length) aj, [], hh⟩)) (hf : P.funcs[f]? = aa fn := by kernel_rfl) (hb : fn.body = aa (dC fn) := by kernel_rfl) (hn : (fn.name == "runtime.NumGoroutine") = an := by kernel_rfl) : b9 D P f (a9 spec) := pZ (wa hf hb hn H)
theorem q4 {R:Type} {a b:Nat} {x:Out R} {C E:Prop} (h:E) (h1:a≤b:=by exact Nat.le_of_ble_eq_true rfl) (h2:x.lit=none:=by rfl) (h3:C:=by intro hw;first|rfl|cases hw):a≤b/\(∀ b,x.lit=some b->x.v=.bool b)/\C/\E:=⟨h1,l_ h2,h3,h⟩
theorem sB:(∀ {p:Prop} [Decidable p],(decide p=ao)=p)/\(∀ {p:Prop} {_:Decidable p},decide p=an↔¬p)/\(∀ n:Nat,0+n=n)/\(∀ {a b:Int},a≥b↔b≤a)/\(∀ {a b:Nat},a≥b↔b≤a)/\(∀ {a b:Int},¬a≤b↔b<a)/\(∀ {a b:Int},¬a<b↔b≤a)/\(∀ n:Nat,(n:Int).toNat=n)/\(∀ {α:Type} [BEq α] [LawfulBEq α] {a b:α},(a==b)=ao↔a=b)/\(∀ {α:Type} [BEq α] [LawfulBEq α] {a b:α},(a==b)=an↔a≠b)/\(∀ {α:Type} [BEq α] [LawfulBEq α] {a b:α},(a != b)=ao↔a≠b)/\(∀ {α:Type} [BEq α] [LawfulBEq α] {a b:α},(a != b)=an↔a=b)/\(∀ b:Bool,((!b)=ao)=(b=an))/\(∀ b:Bool,((!b)=an)=(b=ao)) :=
 ⟨decide_eq_true_eq,decide_eq_false_iff_not,bU,ge_iff_le,ge_iff_le,Int.not_le,IX,Int.toNat_natCast,beq_iff_eq,beq_eq_false_iff_ne,bne_iff_ne,bne_eq_false_iff_eq,fun b=>by cases b<;>simp,fun b=>by cases b<;>simp⟩
theorem jv {p q:Bool} (h:p=q):aC p=aC q:=congrArg aC h
theorem jw {p:Prop} [Decidable p] (h:p):aC (decide p)=aC ao:=congrArg aC (decide_eq_true h)
theorem ju {a b:Int} (h:b≤a):aC (decide (a<b))=aC an:=congrArg aC (decide_eq_false (IX.mpr h))
abbrev n4 (l:List (Option Value)):List (Option Value):=aj::aj::aj::aj::l
abbrev nH (l:List (Option Value)):List (Option Value):=n4 (n4 (n4 (n4 l)))
theorem yF {α:Type} {l:List α} {i:Nat} {d:α} (h:i<l.length):l.getD i d∈l:=by
 rw[au,bd h];exact List.getElem_mem h
theorem oc {α:Type} (l:List α) (i j:Nat) (a d:α):(l.set i a).getD j d=if i=j/\i<l.length then a else l.getD j d:=by
 simp only[au,List.getElem?_set]
 by_cases h:i=j
 ·subst h
  by_cases h2:i<l.length
  ·simp[h2]
  ·simp[h2,dc (nr h2)]
 ·simp[h]
theorem uD {α:Type} (l:List α) (a d:α) (j:Nat):(l++[a]).getD j d=if j=l.length then a else l.getD j d:=by
 simp only[au]
 by_cases h:j<l.length
 ·rw[cZ h,if_neg (by omega)]
 ·rw[dS (by omega)]
  by_cases h2:j=l.length
  ·simp[h2]
  ·rw[if_neg h2,dc (by simp;omega),dc (by omega)]
theorem xq {α:Type} {l:List α} {i:Nat} (d:α) (h:i<l.length):l.take (i+1)=l.take i++[l.getD i d]:=by
 rw[List.take_succ_eq_append_getElem h,au,bd h];rfl
def vI:Value->Int
 |.int _ x=>x
 |_=>0
def vB:Value->Bool
 |.bool b=>b
 |_=>an
def gm (l:List Value) (i:Nat):Value:=l.getD i (.bool an)
end Rx
namespace Gv
open Rx
abbrev W (n:Int):Int:=ar.wrap n
theorem ua {n:Int} (h:-9223372036854775808≤n/\n≤9223372036854775807):W n=n:=oo ⟨h.1,h.2⟩
theorem W_W (a b:Int):W (W a+b)=W (a+b):=by
 unfold W;rw[Fp,Fp,Fp];omega
structure Ref where
 i:Int
 g:Int
instance:DecidableEq Ref:=fun a b=>decidable_of_iff (a.i=b.i/\a.g=b.g) ⟨fun h=>by cases a;cases b;cases h.1;cases h.2;rfl,fun h=>by cases h;exact⟨rfl,rfl⟩⟩
def r0:Ref:=⟨0,0⟩
structure PM (N:Type) where
 vs:List N
 dE:List Int
 live:List Bool
 free:List Int
 held:Int
 cap:Int
 cW:Int
section
variable {N:Type}
def has (m:PM N) (r:Ref):Bool:=decide (0≤r.i)&&decide (r.i<m.vs.length)&&m.live.getD r.i.toNat an&&decide (m.dE.getD r.i.toNat 0=r.g)
def look (z:N) (m:PM N) (r:Ref):N:=if has m r then m.vs.getD r.i.toNat z else z
def seen (m:PM N):PM N:={ m with cW:=W (m.cW+1) }
def aE (m:PM N) (r:Ref):PM N:=if has m r then seen m else m
def pE (m:PM N) (r:Ref) (n:N):PM N:=if has m r then { seen m with vs:=m.vs.set r.i.toNat n } else m
def nextIdx (m:PM N):Int:=if m.free.length=0 then(m.vs.length:Int) else m.free.getD (m.free.length-1) 0
def jI (z:N) (m:PM N):PM N:=if m.free.length=0 then { m with vs:=m.vs++[z],dE:=m.dE++[0],live:=m.live++[an] } else { m with free:=m.free.take (m.free.length-1) }
def Ax (z:N) (m:PM N):Int:=(jI z m).dE.getD (nextIdx m).toNat 0+1
def put (z:N) (m:PM N) (v:N):PM N :=
 if m.held=m.cap then m else
  { jI z m with vs:=(jI z m).vs.set (nextIdx m).toNat v,live:=(jI z m).live.set (nextIdx m).toNat ao,dE:=(jI z m).dE.set (nextIdx m).toNat (Ax z m),held:=m.held+1 }
def me (z:N) (m:PM N):Ref:=if m.held=m.cap then r0 else⟨nextIdx m,Ax z m⟩
def drop (z:N) (m:PM N) (r:Ref):PM N :=
 if has m r then { seen m with vs:=m.vs.set r.i.toNat z,live:=m.live.set r.i.toNat an,held:=m.held-1,free:=if m.dE.getD r.i.toNat 0<4294967295 then m.free++[r.i] else m.free } else m
structure fY (n:Nat) (m:PM N):Prop where
 dE:m.dE.length=m.vs.length
 live:m.live.length=m.vs.length
 inn:∀ f∈m.free,0≤f/\f<m.vs.length/\m.live.getD f.toNat an=an
 lS:m.free.Nodup
 cells:m.vs.length≤n
 pJ:m.free.length≤n
 gen:∀ g∈m.dE,0≤g/\g≤n
 pos:∀ i,m.live.getD i an=ao->1≤m.dE.getD i 0
 SF:-n≤m.held/\m.held≤n
theorem fY.mono {m:PM N} {n k:Nat} (h:fY n m) (hk:n≤k):fY k m:=by
 obtain⟨h1,h2,h3,wZ,h4,h5,h6,Je,h8⟩:=h;exact⟨h1,h2,h3,wZ,by omega,by omega,fun g hg=>by have:=h6 g hg;omega,Je,by omega⟩
theorem sx {m:PM N} {r:Ref} (h:has m r=ao):0≤r.i/\r.i<m.vs.length/\m.live.getD r.i.toNat an=ao/\m.dE.getD r.i.toNat 0=r.g:=by
 simp only[has,aM,decide_eq_true_eq] at h;obtain⟨⟨⟨w1,w2⟩,w3⟩,w4⟩:=h;exact⟨w1,w2,w3,w4⟩
theorem XW {m:PM N} {r:Ref}:has m r=ao↔0≤r.i/\r.i<m.vs.length/\m.live.getD r.i.toNat an=ao/\m.dE.getD r.i.toNat 0=r.g:=by
 simp only[has,aM,decide_eq_true_eq,and_assoc]
theorem fY.z0 {m:PM N} {n:Nat} (h:fY n m):has m r0=an:=by
 cases hh:has m r0 with
 |false=>rfl
 |true =>
  obtain⟨_,_,w3,w4⟩:=sx hh;have:=h.pos _ w3;rw[w4] at this;simp[r0] at this
theorem Ah {l:List Int} {i n:Nat} (h:∀ g∈l,0≤g/\g≤(n:Int)):0≤l.getD i 0/\l.getD i 0≤n:=by
 rcases cr i l.length with hl|hl
 ·exact h _ (yF hl)
 ·rw[au,dc hl];simp
@[simp] theorem am9 (m:PM N) (r:Ref):has (seen m) r=has m r:=rfl
@[simp] theorem amq (z:N) (m:PM N) (r:Ref):look z (seen m) r=look z m r:=rfl
@[simp] theorem anC (m:PM N) (s r:Ref):has (aE m s) r=has m r:=by unfold aE;split<;>rfl
@[simp] theorem Ug (z:N) (m:PM N) (s r:Ref):look z (aE m s) r=look z m r:=by unfold aE;split<;>rfl
structure iM (S:List Ref) (k:Nat) (z:N) (m m':PM N):Prop where
 dE:m'.dE=m.dE
 live:m'.live=m.live
 free:m'.free=m.free
 held:m'.held=m.held
 cap:m'.cap=m.cap
 len:m'.vs.length=m.vs.length
 look:∀ r,r∉S->look z m' r=look z m r
 qA:∃ j:Nat,j≤k/\(m'.cW=m.cW/\j=0∨m'.cW=W (m.cW+j))
theorem iM.has {S:List Ref} {k:Nat} {z:N} {m m':PM N} (h:iM S k z m m') (r:Ref):has m' r=has m r:=by
 unfold Gv.has;rw[h.len,h.live,h.dE]
theorem iM.refl (S:List Ref) (k:Nat) (z:N) (m:PM N):iM S k z m m:=⟨rfl,rfl,rfl,rfl,rfl,rfl,fun _ _=>rfl,0,dh _,.inl ⟨rfl,rfl⟩⟩
theorem iM.trans {S S':List Ref} {k k':Nat} {z:N} {a b c:PM N} (h:iM S k z a b) (h':iM S' k' z b c):iM (S++S') (k+k') z a c:=by
 refine⟨h'.dE.trans h.dE,h'.live.trans h.live,h'.free.trans h.free,h'.held.trans h.held,h'.cap.trans h.cap,h'.len.trans h.len,fun r hr=>?_,?_⟩
 ·rw[b7,not_or] at hr;rw[h'.look r hr.2,h.look r hr.1]
 ·obtain⟨j,hj,e⟩:=h.qA;obtain⟨j',Ms,e'⟩:=h'.qA;refine⟨j+j',by omega,?_⟩
  rcases e with⟨e,rfl⟩|e<;>rcases e' with⟨e',rfl⟩|e'
  ·exact .inl ⟨e'.trans e,rfl⟩
  ·right;rw[e',e];congr 1;omega
  ·right;rw[e',e];congr 1
  ·right;rw[e',e,W_W];congr 1;omega
theorem iM.mono {S S':List Ref} {k k':Nat} {z:N} {a b:PM N} (h:iM S k z a b) (hS:∀ r,r∈S->r∈S') (hk:k≤k'):iM S' k' z a b:=by
 obtain⟨j,hj,e⟩:=h.qA;exact⟨h.dE,h.live,h.free,h.held,h.cap,h.len,fun r hr=>h.look r (fun tP=>hr (hS r tP)),j,jo hj hk,e⟩
theorem iM.to {S S1 S2:List Ref} {k k1 k2:Nat} {z:N} {a b c:PM N} (h:iM S1 k1 z a b) (h':iM S2 k2 z b c) (hS:∀ r,r∈S1∨r∈S2->r∈S) (hk:k1+k2≤k):iM S k z a c :=
 (h.trans h').mono (fun r hr=>hS r (b7.1 hr)) hk
theorem iM.ok {S:List Ref} {k n:Nat} {z:N} {m m':PM N} (h:iM S k z m m') (ho:fY n m):fY n m':=by
 obtain⟨h1,h2,h3,wZ,h4,h5,h6,Je,h8⟩:=ho;exact⟨by rw[h.dE,h.len,h1],by rw[h.live,h.len,h2],by rw[h.free,h.len,h.live];exact h3,by rw[h.free];exact wZ,by rw[h.len];exact h4,by rw[h.free];exact h5,by rw[h.dE];exact h6,by rw[h.dE,h.live];exact Je,by rw[h.held];exact h8⟩
theorem gE (z:N) (m:PM N) (r:Ref):iM [] 1 z m (aE m r):=by
 refine⟨?_,?_,?_,?_,?_,?_,fun s _=>Ug z m r s,?_⟩
 all_goals unfold aE;split
 all_goals first|rfl|exact⟨1,a_ _,.inr rfl⟩|exact⟨0,dh _,.inl ⟨rfl,rfl⟩⟩
theorem IE {m:PM N} {r s:Ref} (hr:has m r=ao) (hs:has m s=ao) (h:r.i.toNat=s.i.toNat):r=s:=by
 obtain⟨a1,a2,a3,a4⟩:=sx hr;obtain⟨b1,b2,b3,b4⟩:=sx hs;cases r;cases s;simp only[Ref.mk.injEq] at *
 refine⟨by omega,?_⟩
 rw[← a4,← b4,h]
theorem VY (z:N) (m:PM N) (r:Ref) (n:N):iM [r] 1 z m (pE m r n):=by
 by_cases h:has m r=ao
 ·have e:pE m r n={ seen m with vs:=m.vs.set r.i.toNat n }:=by unfold pE;rw[if_pos h]
  refine⟨by rw[e];rfl,by rw[e];rfl,by rw[e];rfl,by rw[e];rfl,by rw[e];rfl,by rw[e];simp,fun s hs=>?_,1,a_ _,.inr (by rw[e];rfl)⟩
  have kz:s≠r:=by simpa using hs
  have hh:has (pE m r n) s=has m s:=by rw[e];simp only[has,seen,fb];rfl
  unfold look;rw[hh];split
  ·rename_i h2;rw[e];simp only;rw[oc,if_neg];intro⟨h3,_⟩;exact kz (IE h2 h h3.symm)
  ·rfl
 ·have e:pE m r n=m:=by unfold pE;rw[if_neg h]
  rw[e];exact iM.refl _ _ _ _
theorem acE (z:N) {m:PM N} {r:Ref} (n:N) (h:has m r=ao):look z (pE m r n) r=n:=by
 have hh:=(VY z m r n).has r;unfold look;rw[hh,if_pos h];unfold pE;rw[if_pos h];simp only;obtain⟨a1,a2,_,_⟩:=sx h;rw[oc,if_pos ⟨rfl,by omega⟩]
theorem ZX {m:PM N} {n:Nat} (z:N) (h:fY n m):0≤nextIdx m/\nextIdx m<(jI z m).vs.length/\m.live.getD (nextIdx m).toNat an=an/\(jI z m).live.getD (nextIdx m).toNat an=an/\(jI z m).live.length=(jI z m).vs.length/\(jI z m).dE.length=(jI z m).vs.length:=by
 unfold nextIdx jI
 by_cases h0:m.free.length=0
 ·rw[if_pos h0,if_pos h0];simp only[bF,qZ];have h1:=h.live;have h2:=h.dE;refine⟨by omega,by omega,?_,?_,by omega,by omega⟩
  ·rw[au,dc (by omega)];rfl
  ·rw[uD,if_pos (by omega)]
 ·rw[if_neg h0,if_neg h0];obtain⟨a,b,c⟩:=h.inn _ (yF (d:=0) (i:=m.free.length-1) (by omega))
  exact⟨a,b,c,c,h.live,h.dE⟩
theorem abK (z:N) {m:PM N} {n:Nat} (h:fY n m) (r:Ref) (hr:has m r=ao):(jI z m).vs.getD r.i.toNat z=m.vs.getD r.i.toNat z/\(jI z m).live.getD r.i.toNat an=ao/\(jI z m).dE.getD r.i.toNat 0=r.g/\r.i<(jI z m).vs.length:=by
 obtain⟨a1,a2,a3,a4⟩:=sx hr;have h1:=h.live;have h2:=h.dE;unfold jI;split
 ·simp only[uD,bF,qZ];rw[if_neg (by omega),if_neg (by omega),if_neg (by omega)]
  exact⟨rfl,a3,a4,by omega⟩
 ·exact⟨rfl,a3,a4,a2⟩
structure anu (z:N) (m m':PM N) (r:Ref) (v:N):Prop where
 new:has m r=an
 has:has m' r=ao
 look:look z m' r=v
 old:∀ s,Gv.has m s=ao->Gv.has m' s=ao/\Gv.look z m' s=Gv.look z m s
 held:m'.held=m.held+1
 cap:m'.cap=m.cap
 qA:m'.cW=m.cW
theorem tu {m:PM N} {n:Nat} (z:N) (h:fY n m) (hc:m.held≠m.cap) (v:N):anu z m (put z m v) (me z m) v/\fY (n+1) (put z m v):=by
 obtain⟨a,b,c,c',d,e⟩:=ZX z h;have ep:put z m v={ jI z m with vs:=(jI z m).vs.set (nextIdx m).toNat v,live:=(jI z m).live.set (nextIdx m).toNat ao,dE:=(jI z m).dE.set (nextIdx m).toNat (Ax z m),held:=m.held+1 }:=by unfold put;rw[if_neg hc]
 have er:me z m=⟨nextIdx m,Ax z m⟩:=by unfold me;rw[if_neg hc]
 have um:has (put z m v) (me z m)=ao:=by
  rw[XW,er,ep];simp only[fb,oc];refine⟨a,b,?_,?_⟩
  ·rw[if_pos (by first|exact⟨rfl,by omega⟩|exact⟨trivial,by omega⟩)]
  ·rw[if_pos (by first|exact⟨rfl,by omega⟩|exact⟨trivial,by omega⟩)]
 have hold:∀ s,has m s=ao->has (put z m v) s=ao/\look z (put z m v) s=look z m s:=by
  intro s hs;obtain⟨q1,q2,q3,q4⟩:=abK z h s hs;obtain⟨s1,s2,s3,s4⟩:=sx hs;have kz:¬ (nextIdx m).toNat=s.i.toNat:=by intro e2;rw[e2,s3] at c;cases c
  have hh:has (put z m v) s=ao:=by
   rw[XW,ep];simp only[fb,oc];rw[if_neg (fun x=>kz x.1),if_neg (fun x=>kz x.1)]
   exact⟨s1,q4,q2,q3⟩
  refine⟨hh,?_⟩;unfold look;rw[if_pos hh,if_pos hs,ep];simp only[oc];rw[if_neg (fun x=>kz x.1),q1]
 refine⟨⟨?_,um,?_,hold,?_,?_,?_⟩,?_⟩
 ·cases hh:has m (me z m) with
  |false=>rfl
  |true =>
   obtain⟨_,_,s3,_⟩:=sx hh;rw[er] at s3;rw[s3] at c;cases c
 ·unfold look;rw[if_pos um,er,ep];simp only[oc];rw[if_pos (by first|exact⟨rfl,by omega⟩|exact⟨trivial,by omega⟩)]
 ·rw[ep]
 ·rw[ep];simp only[jI];split<;>rfl
 ·rw[ep];simp only[jI];split<;>rfl
 ·obtain⟨h1,h2,h3,wZ,h4,h5,h6,Je,h8⟩:=h;have hgb:=Ah (i:=(nextIdx m).toNat) h6;have hpg:1≤Ax z m/\Ax z m≤n+1:=by
   unfold Ax jI;split
   ·simp only[uD];split
    ·omega
    ·omega
   ·simp only;omega
  rw[ep];refine⟨by simp only[fb];exact e,by simp only[fb];exact d,?_,?_,?_,?_,?_,?_,by simp only;omega⟩
  ·intro f hf;have L6:f∈m.free/\f≠nextIdx m/\¬ m.free.length=0:=by
    simp only at hf;unfold jI at hf;split at hf
    ·rename_i h0;simp only at hf;rw[iS h0] at hf;cases hf
    ·rename_i h0;simp only at hf;refine⟨List.mem_of_mem_take hf,?_,h0⟩;intro e2;unfold nextIdx at e2;rw[if_neg h0] at e2;subst e2;have ajY:m.free=m.free.take (m.free.length-1)++[m.free.getD (m.free.length-1) 0]:=by
      have:=xq (l:=m.free) (i:=m.free.length-1) 0 (by omega)
      rw[← this,jl (by omega)]
     rw[ajY,cf] at wZ;exact wZ.2.2 _ hf _ (List.mem_singleton_self _) rfl
   obtain⟨k1,k2,k3⟩:=h3 f L6.1;simp only[fb,oc];have kz:¬ (nextIdx m).toNat=f.toNat:=fun e2=>L6.2.1 (by omega)
   rw[if_neg (fun x=>kz x.1)]
   have e3:(jI z m).live=m.live/\(jI z m).vs=m.vs:=by unfold jI;rw[if_neg L6.2.2];exact⟨rfl,rfl⟩
   rw[e3.1,e3.2];exact⟨k1,k2,k3⟩
  ·simp only;unfold jI;split
   ·exact wZ
   ·exact(List.take_sublist _ _).nodup wZ
  ·simp only[fb];unfold jI;split
   ·simp only[bF,qZ];omega
   ·simp only;omega
  ·simp only;unfold jI;split
   ·simp only;omega
   ·simp only[dQ];omega
  ·intro g hg;simp only at hg;rcases List.mem_or_eq_of_mem_set hg with hg|hg
   ·unfold jI at hg;split at hg
    ·simp only at hg;rcases b7.1 hg with hg|hg
     ·have:=h6 g hg;omega
     ·simp at hg;omega
    ·have:=h6 g hg;omega
   ·omega
  ·intro i hi;simp only[oc] at hi ⊢
   by_cases hx:(nextIdx m).toNat=i
   ·rw[if_pos ⟨hx,by omega⟩];omega
   ·rw[if_neg (fun x=>hx x.1)] at hi ⊢
    unfold jI at hi ⊢;split at hi
    ·rename_i h0;rw[if_pos h0];simp only[uD] at hi ⊢;split at hi
     ·cases hi
     ·rename_i h00;have:=Je i hi;rw[if_neg (by omega)]
      exact this
    ·rename_i h0;rw[if_neg h0];exact Je i hi
theorem tc {m:PM N} {n:Nat} (z:N) (h:fY n m) {r:Ref} (hr:has m r=ao):fY (n+1) (drop z m r)/\(∀ s,s≠r->has (drop z m r) s=has m s/\look z (drop z m r) s=look z m s)/\has (drop z m r) r=an/\(drop z m r).held=m.held-1/\(drop z m r).cap=m.cap/\(drop z m r).cW=W (m.cW+1):=by
 obtain⟨r1,r2,r3,r4⟩:=sx hr;obtain⟨h1,h2,h3,wZ,h4,h5,h6,Je,h8⟩:=h;have e:drop z m r={ seen m with vs:=m.vs.set r.i.toNat z,live:=m.live.set r.i.toNat an,held:=m.held-1,free:=if m.dE.getD r.i.toNat 0<4294967295 then m.free++[r.i] else m.free }:=by unfold drop;rw[if_pos hr]
 have hrn:r.i∉m.free:=fun hf=>by
  obtain⟨_,_,k⟩:=h3 _ hf;rw[r3] at k;cases k
 refine⟨⟨?_,?_,?_,?_,?_,?_,?_,?_,?_⟩,?_,?_,by rw[e],by rw[e];rfl,by rw[e];rfl⟩
 ·rw[e];simp only[fb];exact h1
 ·rw[e];simp only[fb];exact h2
 ·rw[e];simp only[fb,oc];intro f hf;have hh:f=r.i∨f∈m.free:=by
   split at hf
   ·rcases b7.1 hf with hf|hf
    ·exact .inr hf
    ·exact .inl (by simpa using hf)
   ·exact .inr hf
  rcases hh with rfl|hf
  ·exact⟨r1,r2,by rw[if_pos (by first|exact⟨rfl,by omega⟩|exact⟨trivial,by omega⟩)]⟩
  ·obtain⟨k1,k2,k3⟩:=h3 f hf;refine⟨k1,k2,?_⟩;split
   ·rfl
   ·exact k3
 ·rw[e];simp only;split
  ·rw[cf];refine⟨wZ,List.nodup_cons.2 ⟨by simp,List.nodup_nil⟩,fun a ha b hb=>?_⟩
   have:b=r.i:=by simpa using hb
   subst this;exact fun e2=>hrn (e2▸ha)
  ·exact wZ
 ·rw[e];simp only[fb];omega
 ·rw[e];simp only;split
  ·simp only[bF,qZ];omega
  ·omega
 ·rw[e];simp only[seen];intro g hg;have:=h6 g hg;omega
 ·rw[e];simp only[seen,oc];intro i hi;split at hi
  ·cases hi
  ·exact Je i hi
 ·rw[e];simp only;omega
 ·intro s hs;have hh:has (drop z m r) s=has m s:=by
   rw[e];unfold has;simp only[fb,seen,oc]
   by_cases hx:r.i.toNat=s.i.toNat/\r.i.toNat<m.live.length
   ·rw[if_pos hx]
    by_cases rV:has m s=ao
    ·exact absurd (IE rV hr hx.1.symm) hs
    ·have hs3:has m s=an:=by simpa using rV
     unfold has at hs3;rw[hs3];simp
   ·rw[if_neg hx];rfl
  refine⟨hh,?_⟩;unfold look;rw[hh];split
  ·rename_i h2;rw[e];simp only[oc];rw[if_neg];intro⟨h3,_⟩;exact hs (IE h2 hr h3.symm)
  ·rfl
 ·cases hh:has (drop z m r) r with
  |false=>rfl
  |true =>
   obtain⟨_,_,k,_⟩:=sx hh;rw[e] at k;simp only[oc] at k;rw[if_pos (by first|exact⟨rfl,by omega⟩|exact⟨trivial,by omega⟩)] at k
   cases k
end
end Gv
namespace Gv
open Rx
set_option linter.unusedSectionVars false
structure iO (E A:Type) where
 e0:E
 a0:A
 cmp:E->E->Int
 sum:E->A
 plus:A->A->A
structure Part (A:Type) where
 n:Int
 sum:A
structure Node (E A:Type) where
 e:E
 l:Ref
 r:Ref
 all:Part A
 h:Int
abbrev Po (E A:Type):=PM (Node E A)
def mx (a b:Int):Int:=if b>a then b else a
def mn (a b:Int):Int:=if b<a then b else a
section
variable {E A:Type} (O:iO E A)
def zn:Node E A:=⟨O.e0,r0,r0,⟨0,O.a0⟩,0⟩
def lk (m:Po E A) (r:Ref):Node E A:=look (zn O) m r
def one (e:E):Part A:=⟨1,O.sum e⟩
def ed (p q:Part A):Part A:=if p.n=0 then q else if q.n=0 then p else⟨W (p.n+q.n),O.plus p.sum q.sum⟩
def sn (m:Po E A) (r:Ref) (n l q:Node E A):Po E A:=pE m r ⟨n.e,n.l,n.r,ed O (ed O l.all (one O n.e)) q.all,W (1+mx l.h q.h)⟩
def tie (m:Po E A) (r:Ref) (n:Node E A):Po E A:=sn O (aE (aE m n.l) n.r) r n (lk O m n.l) (lk O (aE m n.l) n.r)
def oQ (m:Po E A) (r:Ref) (n:Node E A):Po E A :=
 tie O (tie O (aE m n.r) r ⟨n.e,n.l,(lk O m n.r).l,n.all,n.h⟩) n.r ⟨(lk O m n.r).e,r,(lk O m n.r).r,(lk O m n.r).all,(lk O m n.r).h⟩
def oU (m:Po E A) (r:Ref) (n:Node E A):Po E A :=
 tie O (tie O (aE m n.l) r ⟨n.e,(lk O m n.l).r,n.r,n.all,n.h⟩) n.l ⟨(lk O m n.l).e,(lk O m n.l).l,r,(lk O m n.l).all,(lk O m n.l).h⟩
def level (m:Po E A) (r:Ref) (n:Node E A):Ref×Po E A :=
 if(lk O m n.l).h>W ((lk O (aE m n.l) n.r).h+1) then
  if(lk O (aE (aE m n.l) n.r) (lk O m n.l).r).h>(lk O (aE (aE (aE m n.l) n.r) (lk O m n.l).r) (lk O m n.l).l).h then
   ((lk O m n.l).r,oU O (oQ O (aE (aE (aE (aE m n.l) n.r) (lk O m n.l).r) (lk O m n.l).l) n.l (lk O m n.l)) r ⟨n.e,(lk O m n.l).r,n.r,n.all,n.h⟩)
  else(n.l,oU O (aE (aE (aE (aE m n.l) n.r) (lk O m n.l).r) (lk O m n.l).l) r n)
 else if(lk O (aE m n.l) n.r).h>W ((lk O m n.l).h+1) then
  if(lk O (aE (aE m n.l) n.r) (lk O (aE m n.l) n.r).l).h>(lk O (aE (aE (aE m n.l) n.r) (lk O (aE m n.l) n.r).l) (lk O (aE m n.l) n.r).r).h then
   ((lk O (aE m n.l) n.r).l,oQ O (oU O (aE (aE (aE (aE m n.l) n.r) (lk O (aE m n.l) n.r).l) (lk O (aE m n.l) n.r).r) n.r (lk O (aE m n.l) n.r)) r ⟨n.e,n.l,(lk O (aE m n.l) n.r).l,n.all,n.h⟩)
  else(n.r,oQ O (aE (aE (aE (aE m n.l) n.r) (lk O (aE m n.l) n.r).l) (lk O (aE m n.l) n.r).r) r n)
 else(r,sn O (aE (aE m n.l) n.r) r n (lk O m n.l) (lk O (aE m n.l) n.r))
def Deep:Nat->Po E A->Ref->Prop
 |0,_,_=>False
 |k+1,m,r=>(lk O m r).h=0∨(Deep k m (lk O m r).l/\Deep k m (lk O m r).r)
def replace:Nat->Po E A->Ref->E->Bool×Po E A
 |0,m,_,_=>(an,m)
 |k+1,m,r,e =>
  if(lk O m r).h=0 then(an,aE m r)
  else if O.cmp e (lk O m r).e<0 then
   if(replace k (aE m r) (lk O m r).l e).1=ao then(ao,tie O (replace k (aE m r) (lk O m r).l e).2 r (lk O m r)) else replace k (aE m r) (lk O m r).l e
  else if O.cmp e (lk O m r).e>0 then
   if(replace k (aE m r) (lk O m r).r e).1=ao then(ao,tie O (replace k (aE m r) (lk O m r).r e).2 r (lk O m r)) else replace k (aE m r) (lk O m r).r e
  else(ao,tie O (aE m r) r ⟨e,(lk O m r).l,(lk O m r).r,(lk O m r).all,(lk O m r).h⟩)
def kZ:Nat->Po E A->Ref->Ref->E->Ref×Po E A
 |0,m,_,f,_=>(f,m)
 |k+1,m,r,f,e =>
  if(lk O m r).h=0 then(f,aE m r)
  else if O.cmp e (lk O m r).e<0 then
   level O (kZ k (aE m r) (lk O m r).l f e).2 r ⟨(lk O m r).e,(kZ k (aE m r) (lk O m r).l f e).1,(lk O m r).r,(lk O m r).all,(lk O m r).h⟩
  else
   level O (kZ k (aE m r) (lk O m r).r f e).2 r ⟨(lk O m r).e,(lk O m r).l,(kZ k (aE m r) (lk O m r).r f e).1,(lk O m r).all,(lk O m r).h⟩
def link:Nat->Po E A->Ref->Ref->Ref->Ref×Po E A
 |0,m,_,b,_=>(b,m)
 |k+1,m,a,b,c =>
  if(lk O m a).h>W ((lk O (aE m a) c).h+1) then
   level O (link k (aE (aE m a) c) (lk O m a).r b c).2 a ⟨(lk O m a).e,(lk O m a).l,(link k (aE (aE m a) c) (lk O m a).r b c).1,(lk O m a).all,(lk O m a).h⟩
  else if(lk O (aE m a) c).h>W ((lk O m a).h+1) then
   level O (link k (aE (aE m a) c) a b (lk O (aE m a) c).l).2 c ⟨(lk O (aE m a) c).e,(link k (aE (aE m a) c) a b (lk O (aE m a) c).l).1,(lk O (aE m a) c).r,(lk O (aE m a) c).all,(lk O (aE m a) c).h⟩
  else(b,sn O (aE (aE (aE m a) c) b) b ⟨(lk O (aE (aE m a) c) b).e,a,c,(lk O (aE (aE m a) c) b).all,(lk O (aE (aE m a) c) b).h⟩ (lk O m a) (lk O (aE m a) c))
def tj:Nat->Po E A->Ref->Ref->Ref->Prop
 |0,_,_,_,_=>False
 |k+1,m,a,b,c =>
  if(lk O m a).h>W ((lk O (aE m a) c).h+1) then tj k (aE (aE m a) c) (lk O m a).r b c
  else if(lk O (aE m a) c).h>W ((lk O m a).h+1) then tj k (aE (aE m a) c) a b (lk O (aE m a) c).l
  else True
def iL:Nat->Po E A->Ref->Ref×Ref×Po E A
 |0,m,r=>(r,r,m)
 |k+1,m,r =>
  if(lk O m r).l=r0 then((lk O m r).r,r,aE m r)
  else
   ((level O (iL k (aE m r) (lk O m r).l).2.2 r ⟨(lk O m r).e,(iL k (aE m r) (lk O m r).l).1,(lk O m r).r,(lk O m r).all,(lk O m r).h⟩).1,(iL k (aE m r) (lk O m r).l).2.1,
    (level O (iL k (aE m r) (lk O m r).l).2.2 r ⟨(lk O m r).e,(iL k (aE m r) (lk O m r).l).1,(lk O m r).r,(lk O m r).all,(lk O m r).h⟩).2)
def sw:Nat->Po E A->Ref->Prop
 |0,_,_=>False
 |k+1,m,r=>if(lk O m r).l=r0 then True else sw k (aE m r) (lk O m r).l
def glue (k:Nat) (m:Po E A) (a c:Ref):Ref×Po E A :=
 if c=r0 then(a,m) else link O k (iL O k m c).2.2 a (iL O k m c).2.1 (iL O k m c).1
def Dx (k:Nat) (m:Po E A) (a c:Ref):Prop :=
 if c=r0 then True else sw O k m c/\tj O k (iL O k m c).2.2 a (iL O k m c).2.1 (iL O k m c).1
def pick (K:Nat):Nat->Po E A->Ref->E->Ref×Ref×Po E A
 |0,m,r,_=>(r,r0,m)
 |k+1,m,r,e =>
  if(lk O m r).h=0 then(r,r0,aE m r)
  else if O.cmp e (lk O m r).e<0 then
   if(pick K k (aE m r) (lk O m r).l e).2.1=r0 then(r,(pick K k (aE m r) (lk O m r).l e).2.1,(pick K k (aE m r) (lk O m r).l e).2.2)
   else((level O (pick K k (aE m r) (lk O m r).l e).2.2 r ⟨(lk O m r).e,(pick K k (aE m r) (lk O m r).l e).1,(lk O m r).r,(lk O m r).all,(lk O m r).h⟩).1,(pick K k (aE m r) (lk O m r).l e).2.1,
    (level O (pick K k (aE m r) (lk O m r).l e).2.2 r ⟨(lk O m r).e,(pick K k (aE m r) (lk O m r).l e).1,(lk O m r).r,(lk O m r).all,(lk O m r).h⟩).2)
  else if O.cmp e (lk O m r).e>0 then
   if(pick K k (aE m r) (lk O m r).r e).2.1=r0 then(r,(pick K k (aE m r) (lk O m r).r e).2.1,(pick K k (aE m r) (lk O m r).r e).2.2)
   else((level O (pick K k (aE m r) (lk O m r).r e).2.2 r ⟨(lk O m r).e,(lk O m r).l,(pick K k (aE m r) (lk O m r).r e).1,(lk O m r).all,(lk O m r).h⟩).1,(pick K k (aE m r) (lk O m r).r e).2.1,
    (level O (pick K k (aE m r) (lk O m r).r e).2.2 r ⟨(lk O m r).e,(lk O m r).l,(pick K k (aE m r) (lk O m r).r e).1,(lk O m r).all,(lk O m r).h⟩).2)
  else((glue O K (aE m r) (lk O m r).l (lk O m r).r).1,r,(glue O K (aE m r) (lk O m r).l (lk O m r).r).2)
def qk (K:Nat):Nat->Po E A->Ref->E->Prop
 |0,_,_,_=>False
 |k+1,m,r,e =>
  if(lk O m r).h=0 then True
  else if O.cmp e (lk O m r).e<0 then qk K k (aE m r) (lk O m r).l e
  else if O.cmp e (lk O m r).e>0 then qk K k (aE m r) (lk O m r).r e
  else Dx O K (aE m r) (lk O m r).l (lk O m r).r
def lV (K:Nat):Nat->Po E A->Ref->E->Ref×Ref×Po E A
 |0,m,_,_=>(r0,r0,m)
 |k+1,m,r,e =>
  if(lk O m r).h=0 then(r0,r0,aE m r)
  else if O.cmp (lk O m r).e e<0 then
   ((link O K (lV K k (aE m r) (lk O m r).r e).2.2 (lk O m r).l r (lV K k (aE m r) (lk O m r).r e).1).1,(lV K k (aE m r) (lk O m r).r e).2.1,
    (link O K (lV K k (aE m r) (lk O m r).r e).2.2 (lk O m r).l r (lV K k (aE m r) (lk O m r).r e).1).2)
  else
   ((lV K k (aE m r) (lk O m r).l e).1,(link O K (lV K k (aE m r) (lk O m r).l e).2.2 (lV K k (aE m r) (lk O m r).l e).2.1 r (lk O m r).r).1,
    (link O K (lV K k (aE m r) (lk O m r).l e).2.2 (lV K k (aE m r) (lk O m r).l e).2.1 r (lk O m r).r).2)
def JB (K:Nat):Nat->Po E A->Ref->E->Prop
 |0,_,_,_=>False
 |k+1,m,r,e =>
  if(lk O m r).h=0 then True
  else if O.cmp (lk O m r).e e<0 then JB K k (aE m r) (lk O m r).r e/\tj O K (lV O K k (aE m r) (lk O m r).r e).2.2 (lk O m r).l r (lV O K k (aE m r) (lk O m r).r e).1
  else JB K k (aE m r) (lk O m r).l e/\tj O K (lV O K k (aE m r) (lk O m r).l e).2.2 (lV O K k (aE m r) (lk O m r).l e).2.1 r (lk O m r).r
def cv:Nat->Po E A->Ref->List E×Po E A
 |0,m,_=>([],m)
 |k+1,m,r =>
  if(lk O m r).h=0 then([],aE m r)
  else((cv k (aE m r) (lk O m r).l).1++(lk O m r).e::(cv k (cv k (aE m r) (lk O m r).l).2 (lk O m r).r).1,(cv k (cv k (aE m r) (lk O m r).l).2 (lk O m r).r).2)
def fX:Nat->Po E A->Node E A->Int->Int->Part A×Po E A
 |0,m,_,_,_=>(⟨0,O.a0⟩,m)
 |k+1,m,n,from_,to =>
  if mx from_ 0≥mn to n.all.n then(⟨0,O.a0⟩,m)
  else if mx from_ 0=0/\mn to n.all.n=n.all.n then(n.all,m)
  else
   let x:=fX k (aE m n.l) (lk O m n.l) (mx from_ 0) (mn to n.all.n)
   let s:=if mx from_ 0≤(lk O m n.l).all.n/\(lk O m n.l).all.n<mn to n.all.n then ed O x.1 (one O n.e) else x.1
   if mn to n.all.n≤W ((lk O m n.l).all.n+1) then(s,x.2)
   else
    let y:=fX k (aE x.2 n.r) (lk O x.2 n.r) (W (W (mx from_ 0-(lk O m n.l).all.n)-1)) (W (W (mn to n.all.n-(lk O m n.l).all.n)-1))
    (ed O s y.1,y.2)
def ji:Nat->Po E A->Node E A->Prop
 |0,_,_=>False
 |k+1,m,n=>n.h=0∨(Deep O k m n.l/\Deep O k m n.r)
def first (may:A->A->Bool):Nat->Po E A->Node E A->Part A->Int->Int×Po E A
 |0,m,_,_,_=>(-1,m)
 |k+1,m,n,a,from_ =>
  if n.h=0∨W (a.n+n.all.n)≤from_ then(-1,m)
  else if a.n≥from_/\may a.sum n.all.sum=an then(-1,m)
  else if(first may k (aE m n.l) (lk O m n.l) a from_).1≥0 then first may k (aE m n.l) (lk O m n.l) a from_
  else if(ed O a (lk O m n.l).all).n≥from_/\may (ed O a (lk O m n.l).all).sum (O.sum n.e)=ao then((ed O a (lk O m n.l).all).n,(first may k (aE m n.l) (lk O m n.l) a from_).2)
  else first may k (aE (first may k (aE m n.l) (lk O m n.l) a from_).2 n.r) (lk O (first may k (aE m n.l) (lk O m n.l) a from_).2 n.r) (ed O (ed O a (lk O m n.l).all) (one O n.e)) from_
def last (may:A->A->Bool):Nat->Po E A->Node E A->Part A->Int->Int×Po E A
 |0,m,_,_,_=>(-1,m)
 |k+1,m,n,a,to =>
  if n.h=0∨a.n≥to then(-1,m)
  else if W (a.n+n.all.n)≤to/\may a.sum n.all.sum=an then(-1,m)
  else
   let b:=ed O a (lk O m n.l).all
   let x:=last may k (aE (aE m n.l) n.r) (lk O (aE m n.l) n.r) (ed O b (one O n.e)) to
   if x.1≥0 then x
   else if b.n<to/\may b.sum (O.sum n.e)=ao then(b.n,x.2)
   else last may k x.2 (lk O m n.l) a to
def find:Nat->Po E A->Node E A->E->(E×Bool)×Po E A
 |0,m,_,_=>((O.e0,an),m)
 |k+1,m,n,e =>
  if n.h>0 then
   if O.cmp e n.e=0 then((n.e,ao),m)
   else if O.cmp e n.e<0 then find k (aE m n.l) (lk O m n.l) e
   else find k (aE m n.r) (lk O m n.r) e
  else((O.e0,an),m)
def kB:Nat->Po E A->Node E A->E->Int->Int×Po E A
 |0,m,_,_,c=>(c,m)
 |k+1,m,n,e,c =>
  if n.h>0 then
   if O.cmp e n.e≤0 then kB k (aE m n.l) (lk O m n.l) e c
   else kB k (aE m n.r) (lk O m n.r) e (W (c+W (n.all.n-(lk O m n.r).all.n)))
  else(c,m)
def q_:Nat->Po E A->Node E A->Int->E×Po E A
 |0,m,_,_=>(O.e0,m)
 |k+1,m,n,i =>
  if i=(lk O m n.l).all.n then(n.e,aE m n.l)
  else if i<(lk O m n.l).all.n then q_ k (aE m n.l) (lk O m n.l) i
  else q_ k (aE (aE m n.l) n.r) (lk O (aE m n.l) n.r) (W (i-W ((lk O m n.l).all.n+1)))
end
end Gv
namespace Wv
open Rx
structure It where
 k:Int
 i:Int
instance:DecidableEq It:=fun a b=>decidable_of_iff (a.k=b.k/\a.i=b.i) ⟨fun h=>by cases a;cases b;cases h.1;cases h.2;rfl,fun h=>by cases h;exact⟨rfl,rfl⟩⟩
def ah (a b:It):Prop:=a.k<b.k∨a.k=b.k/\a.i<b.i
instance (a b:It):Decidable (ah a b):=inferInstanceAs (Decidable (_∨_))
def kP (a b:It):Int:=if a.k<b.k then -1 else if a.k>b.k then 1 else if a.i<b.i then -1 else if a.i>b.i then 1 else 0
def CB (a b:Int):Int:=if a<b then -1 else if a>b then 1 else 0
theorem wT (a b:It):kP a b>0↔ah b a:=by unfold kP ah;repeat' split;all_goals omega
theorem ac2 (a b:It):kP a b=1↔ah b a:=by unfold kP ah;repeat' split;all_goals omega
theorem aeh (a b:It):kP a b = -1↔ah a b:=by unfold kP ah;repeat' split;all_goals omega
abbrev iz:It:=⟨0,0⟩
theorem It.Q0 {a b:It} (h:a.k=b.k) (h':a.i=b.i):a=b:=by cases a;cases b;cases h;cases h';rfl
theorem si {a b:It} (h:ah a b):¬ ah b a:=by unfold ah at *;omega
theorem abk {a b:It} (h:¬ ah a b) (h':¬ ah b a):a=b:=It.Q0 (by unfold ah at *;omega) (by unfold ah at *;omega)
def up:Option It->Option It->Option It
 |a,aj=>a
 |none,aa b=>aa b
 |some a,aa b=>if ah a b then aa b else aa a
def dn:Option It->Option It->Option It
 |a,aj=>a
 |none,aa b=>aa b
 |some a,aa b=>if ah b a then aa b else aa a
theorem QU (a:Option It):up aj a=a:=by cases a<;>rfl
theorem QW (a:Option It):dn aj a=a:=by cases a<;>rfl
theorem VW:∀ a b c:Option It,up (up a b) c=up a (up b c)
 |a,b,aj=>by cases a<;>cases b<;>rfl
 |a,aj,aa c=>by cases a<;>rfl
 |none,aa b,aa c=>by rw[QU,QU]
 |some a,aa b,aa c=>by
  simp only[up]
  by_cases h1:ah a b<;>by_cases h2:ah b c<;>simp only[h1,h2,if_true,if_false,up]
  ·rw[if_pos (by unfold ah at *;omega)]
  ·rw[if_neg (by unfold ah at *;omega)]
theorem adY:∀ a b c:Option It,dn (dn a b) c=dn a (dn b c)
 |a,b,aj=>by cases a<;>cases b<;>rfl
 |a,aj,aa c=>by cases a<;>rfl
 |none,aa b,aa c=>by rw[QW,QW]
 |some a,aa b,aa c=>by
  simp only[dn]
  by_cases h1:ah b a<;>by_cases h2:ah c b<;>simp only[h1,h2,if_true,if_false,dn]
  ·rw[if_pos (by unfold ah at *;omega)]
  ·rw[if_neg (by unfold ah at *;omega)]
def hi:List It->Option It
 |[]=>aj
 |x::l=>up (aa x) (hi l)
def lo:List It->Option It
 |[]=>aj
 |x::l=>dn (aa x) (lo l)
theorem KM:∀ x y:List It,hi (x++y)=up (hi x) (hi y)
 |[],y=>(QU _).symm
 |a::x,y=>by
  show up (aa a) (hi (x++y))=up (up (aa a) (hi x)) (hi y)
  rw[KM x y,VW]
theorem So:∀ x y:List It,lo (x++y)=dn (lo x) (lo y)
 |[],y=>(QW _).symm
 |a::x,y=>by
  show dn (aa a) (lo (x++y))=dn (dn (aa a) (lo x)) (lo y)
  rw[So x y,adY]
theorem Xt (a:It) (b:Option It):(up (aa a) b).isSome=ao:=by cases b<;>simp only[up]<;>(try split)<;>rfl
theorem age (a:It) (b:Option It):(dn (aa a) b).isSome=ao:=by cases b<;>simp only[dn]<;>(try split)<;>rfl
theorem Yw:∀ l:List It,(hi l).isSome=ao↔l≠[]
 |[]=>by simp[hi]
 |a::l=>by simp only[hi,Xt,true_iff];exact N9 _ _
theorem XM:∀ l:List It,(lo l).isSome=ao↔l≠[]
 |[]=>by simp[lo]
 |a::l=>by simp only[lo,age,true_iff];exact N9 _ _
theorem abB:∀ (l:List It) (h:It),lo l=aa h->∀ e∈l,¬ ah e h
 |[],h,hh=>by cases hh
 |a::l,h,hh=>by
  intro e he;simp only[lo] at hh;cases hl:lo l with
  |none =>
   have:l=[]:=by
    rcases HI l with h0|⟨y,z,h0⟩
    ·exact h0
    ·have:=(XM l).2 (by rw[h0];simp)
     rw[hl] at this;cases this
   subst this;rw[hl] at hh;injection hh with hh
   subst hh;simp only[ib] at he;subst he;unfold ah;omega
  |some b =>
   have ih:=abB l b hl;rw[hl] at hh;simp only[dn] at hh;rcases bO.1 he with he|he
   ·subst he;split at hh<;>(injection hh with hh;subst hh)<;>unfold ah at *<;>omega
   ·have:=ih e he;split at hh<;>(injection hh with hh;subst hh)<;>unfold ah at *<;>omega
def tn (x:It) (l:List It):Nat->Nat
 |0=>0
 |k+1=>if ah x (l.getD k iz) then tn x l k else k+1
theorem UL (x:It) (l:List It):∀ k,tn x l k≤k
 |0=>a_ _
 |k+1=>by rw[tn];split;exact Nat.le_succ_of_le (UL x l k);exact a_ _
def ins (x:It) (l:List It):List It:=l.take (tn x l l.length)++x::l.drop (tn x l l.length)
def oB (l:List It):List It:=l.foldl (fun s x=>ins x s) []
theorem Ej (l:List It) (x:It):oB (l++[x])=ins x (oB l):=by unfold oB;rw[List.foldl_append];rfl
theorem Xn (x:It) (l:List It):(ins x l).length=l.length+1:=by
 have:=UL x l l.length;unfold ins;simp;omega
theorem NC {α:Type} {P:List α->Prop} (h0:P []) (h1:∀ l x,P l->P (l++[x])):∀ l,P l:=by
 intro l;have:∀ n (l:List α),l.length=n->P l:=by
  intro n
  induction n with
  |zero=>intro l h;rw[iS h];exact h0
  |succ n ih =>
   intro l h;rcases HI l with e|⟨y,z,e⟩
   ·rw[e] at h;cases h
   ·rw[e,List.concat_eq_append] at h ⊢;refine h1 y z (ih y ?_);rw[bF] at h
    simpa using h
 exact this _ l rfl
theorem XT (l:List It):(oB l).length=l.length:=NC (P:=fun l=>(oB l).length=l.length) rfl (fun l x h=>by rw[Ej,Xn,h];simp) l
end Wv
namespace Ti
open Rx
set_option maxRecDepth 100000
def oW (x:List Int) (k:Nat):Int:=(x.take k).sum
def qs (x:List Int):Nat->Int
 |0=>0
 |1=>oW x 1
 |k+2=>min (qs x (k+1)) (oW x (k+2))
def low (x:List Int):Int:=qs x x.length
structure Small (x:List Int):Prop where
 len:x.length≤60
 lo:∀ i,i<x.length->-1099511627776≤x.getD i 0
 hi:∀ i,i<x.length->x.getD i 0≤1099511627776
theorem aay {x:List Int} {k:Nat} (h:k<x.length):oW x (k+1)=oW x k+x.getD k 0:=by
 unfold oW;rw[xq 0 h,Qh];simp
theorem Mf {x:List Int} (hx:Small x):∀ k,k≤x.length->-(k:Int)*1099511627776≤oW x k/\oW x k≤(k:Int)*1099511627776
 |0,_=>by simp[oW]
 |k+1,h=>by
  have h1:=Mf hx k (by omega)
  have h2:=hx.lo k (by omega)
  have h3:=hx.hi k (by omega)
  rw[aay (by omega)]
  omega
theorem AN {x:List Int} (hx:Small x) (k:Nat) (hk:k≤x.length):-65970697666560≤oW x k/\oW x k≤65970697666560:=by
 have:=Mf hx k hk;have:=hx.len;omega
theorem Gx {x:List Int} (hx:Small x):∀ k,k≤x.length->-65970697666560≤qs x k/\qs x k≤65970697666560
 |0,_=>by simp[qs]
 |1,h=>AN hx 1 h
 |k+2,h=>by
  have h1:=Gx hx (k+1) (by omega)
  have h2:=AN hx (k+2) h;simp only[qs];omega
def vI {R:Type} (l:List Int):Option (SB R):=aa (.inr (.inr (.inl ⟨[.int .i64 0],l.length,[⟨l,[],[]⟩]⟩)))
def z0:Nat->Bool:=fun j=>fp j 0
theorem Pq {x:List Int} {k:Nat} (h:0<k):qs x (k+1)=min (qs x k) (oW x (k+1)):=by
 cases k with
 |zero=>omega
 |succ k=>rfl
structure Td where
 n:Int
 s:Int
 l:Int
def Td.v (t:Td):Value:=.agg ⟨[.int .i64 t.n,.int .i64 t.s,.int .i64 t.l]⟩
def Hq (x:Int):Int:=ar.wrap x
def Td.plus (t u:Td):Td:=if t.n=0 then u else if u.n=0 then t else⟨Hq (t.n+u.n),Hq (t.s+u.s),min t.l (Hq (t.s+u.l))⟩
def Td.least (t:Td) (x:Int):Int:=if t.n=0 then x else min x (Hq (x+t.l))
def TW {R:Type}:eJ R:=[(1000000000,lP)]
theorem ak' {R:Type} {D:fJ R}:cN D Tryz.prog (TW:eJ R):=⟨ix,trivial⟩
def ed {R:Type}:Prim R:=fun args hh=>match args,hh with
 |[.agg ⟨[.int .i64 n,.int .i64 s,.int .i64 l]⟩,.agg ⟨[.int .i64 n',.int .i64 s',.int .i64 l']⟩],[]=>aa ⟨True,.agg ⟨[.int .i64 (Td.plus ⟨n,s,l⟩ ⟨n',s',l'⟩).n,.int .i64 (Td.plus ⟨n,s,l⟩ ⟨n',s',l'⟩).s,.int .i64 (Td.plus ⟨n,s,l⟩ ⟨n',s',l'⟩).l]⟩,aj,hh,[],[]⟩
 |_,_=>aj
theorem uy {R:Type} {D:fJ R}:b9 D Tryz.prog 227 (a9 ed):=by
 refine fu Tryz.f227 fun args hh x hx=>?_
 unfold ed at hx;split at hx
 ·rename_i n s l n' s' l';cases hx;refine q4 fun _ hv=>?_
  generalize hG:Rx.Ends (R:=R) _ _=G;refine cL (T:=TW) ak' mixed 200 ?_;refine bK (q:=((n==(0:Int))=ao->aX (G (bz (aJ [.int ar n',.int ar s',.int ar l'])) [aa (.inl (51,[.int ar n,.int ar s,.int ar l])),aa (.inl (51,[.int ar n',.int ar s',.int ar l'])),aa (.inl (51,[.int ar n',.int ar s',.int ar l']))]))/\((n==(0:Int))=an->((n'==(0:Int))=ao->aX (G (bz (aJ [.int ar n,.int ar s,.int ar l])) [aa (.inl (51,[.int ar n,.int ar s,.int ar l])),aa (.inl (51,[.int ar n',.int ar s',.int ar l'])),aa (.inl (51,[.int ar n,.int ar s,.int ar l]))]))/\((n'==(0:Int))=an->Vc True/\Vc True/\Vc True/\aX (G (bz (aJ [.int ar (ck ar (n+n')),.int ar (ck ar (s+s')),.int ar (if ck ar (s+l')<l then ck ar (s+l') else l)])) [aa (.inl (51,[.int ar n,.int ar s,.int ar l])),aa (.inl (51,[.int ar n',.int ar s',.int ar l'])),aa (.inl (51,[.int ar (ck ar (n+n')),.int ar (ck ar (s+s')),.int ar (if ck ar (s+l')<l then ck ar (s+l') else l)]))])))) ?_ (by kernel_rfl)
  have fin:∀ (t:Td) (hp:Hp R),t=Td.plus ⟨n,s,l⟩ ⟨n',s',l'⟩->G t.v hp:=by
   intro t hp ht;subst ht;subst hG;exact⟨⟨[],rfl,rfl,trivial,rfl,rfl,rfl,rfl⟩⟩
  clear hG;refine⟨fun h=>⟨?_⟩,fun h=>⟨fun h'=>⟨?_⟩,fun h'=>⟨⟨trivial⟩,⟨trivial⟩,⟨trivial⟩,⟨?_⟩⟩⟩⟩
  ·exact fin ⟨n',s',l'⟩ _ (by rw[Td.plus,if_pos (eq_of_beq h)])
  ·exact fin ⟨n,s,l⟩ _ (by rw[Td.plus,if_neg (ne_of_beq_false h),if_pos (eq_of_beq h')])
  ·have e:∀ p q:Int,(if p<q then p else q)=min q p:=fun p q=>by split<;>omega
   refine fin ⟨Hq (n+n'),Hq (s+s'),if Hq (s+l')<l then Hq (s+l') else l⟩ _ ?_
   rw[Td.plus,if_neg (ne_of_beq_false h),if_neg (ne_of_beq_false h')];simp only[e]
 ·cases hx
def qN (x:List Int):Td:=⟨x.length,oW x x.length,low x⟩
theorem Kj {x:Int} (h:-9223372036854775808≤x/\x≤9223372036854775807):Hq x=x:=oo ⟨h.1,h.2⟩
theorem yd {y z:List Int} (j:Nat):oW (y++z) (y.length+j)=oW y y.length+oW z j:=by
 unfold oW;rw[List.take_length_add_append,Qh,jP]
theorem Ga {y z:List Int} {k:Nat} (h:k≤y.length):oW (y++z) k=oW y k:=by
 unfold oW;rw[Bm h]
theorem O_ {y z:List Int}:∀ k,k≤y.length->qs (y++z) k=qs y k
 |0,_=>rfl
 |1,h=>Ga h
 |k+2,h=>by
  simp only[qs];rw[O_ (k+1) (by omega),Ga h]
theorem Kl {y z:List Int} (hy:y.length≠0):∀ j,1≤j->j≤z.length->qs (y++z) (y.length+j)=min (qs y y.length) (oW y y.length+qs z j)
 |0,h,_=>by omega
 |1,_,h=>by
  rw[Pq (show 0<y.length by omega),O_ y.length (a_ _),yd]
  rfl
 |j+2,_,h=>by
  have ih:=Kl (z:=z) hy (j+1) (by omega) (by omega)
  rw[show y.length+(j+2)=y.length+(j+1)+1 by omega,Pq (show 0<y.length+(j+1) by omega),ih,show y.length+(j+1)+1=y.length+(j+2) by omega,yd]
  simp only[qs];omega
theorem R7 {y z:List Int} {i:Nat} (h:i<y.length):(y++z).getD i 0=y.getD i 0:=by
 simp only[au,cZ h]
theorem Qb {y z:List Int} {i:Nat}:(y++z).getD (y.length+i) 0=z.getD i 0:=by
 simp only[au];rw[dS (by omega),FD]
theorem Small.left {y z:List Int} (h:Small (y++z)):Small y:=by
 obtain⟨h1,h2,h3⟩:=h;simp only[bF] at h1 h2 h3;refine⟨by omega,fun i hi=>?_,fun i hi=>?_⟩
 ·have:=h2 i (by omega);rwa [R7 hi] at this
 ·have:=h3 i (by omega);rwa [R7 hi] at this
theorem Small.right {y z:List Int} (h:Small (y++z)):Small z:=by
 obtain⟨h1,h2,h3⟩:=h;simp only[bF] at h1 h2 h3;refine⟨by omega,fun i hi=>?_,fun i hi=>?_⟩
 ·have:=h2 (y.length+i) (by omega);rwa [Qb] at this
 ·have:=h3 (y.length+i) (by omega);rwa [Qb] at this
theorem Sv {y z:List Int} (h:Small (y++z)):(qN y).plus (qN z)=qN (y++z):=by
 by_cases hy:y.length=0
 ·have:y=[]:=iS hy;subst this;rw[Td.plus,if_pos (show(qN []).n=0 from rfl)];rfl
 by_cases hz:z.length=0
 ·have:z=[]:=iS hz;subst this;rw[Td.plus,if_neg (by simp only[qN];omega),if_pos (show(qN []).n=0 from rfl),Bd]
 have a1:=AN h.left y.length (a_ _);have a2:=AN h.right z.length (a_ _);have a3:=Gx h.right z.length (a_ _);have a4:=h.len;have e1:=yd (y:=y) (z:=z) z.length;have e2:=Kl (y:=y) (z:=z) hy z.length (by omega) (a_ _)
 rw[bF] at a4;rw[Td.plus,if_neg (by simp only[qN];omega),if_neg (by simp only[qN];omega)]
 simp only[qN,low,bF] at *
 rw[Kj (by omega),Kj (by omega),Kj (by omega),e1,e2]
 simp
end Ti
end Go.Proofs.YtjlomlgdgpoepaaGreat
