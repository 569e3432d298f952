import Derived.Test.YtjlomlgdgpoepaaGreatZoa
import Derived.Below
import Derived.Deep.Slices
import Derived.ChangeArms
import Derived.WideShapes
import Derived.DataReads
import Derived.OpenShut
import Derived.ProofKit
import Derived.Test.YtjlomlgdgpoepaaGreatProg
import Derived.KernelRfl
set_option linter.unusedVariables false
set_option linter.unusedSimpArgs false
namespace Go.Proofs.YtjlomlgdgpoepaaGreat
open _root_.Array renaming getD→Ec,getElem?_eq_some_iff→wC,getElem?_setIfInBounds_ne→AF,mem_toList_iff→Jl,mk→aP
open _root_.Bool renaming and_eq_true→aM,and_self→TE,false_and→Cy,false_eq_true→fX,false→an,not_eq_true'→m8,or_eq_true→jY,true_and→js,true→ao
open _root_.Classical renaming axiomOfChoice→W7,byContradiction→iM,epsilon_spec→XI
open _root_.False renaming elim→kV
open _root_.Go renaming undef→vT
open _root_.Go.Act renaming eval→Cw,put→Cx
open _root_.Go.DataW renaming trod→Ed
open _root_.Go.IntKind renaming i64→ar,wrap_i64→FV,wrap→ck
open _root_.Go.Region renaming binds→Lj,ready→Lk,wanted→kL
open _root_.Go.Value renaming agg→bG,bool→aE,cells→nM,okWide→WX
open _root_.Int renaming not_lt→Jm
open _root_.List renaming append_nil→BB,cons_ne_nil→OF,drop_drop→sF,drop_eq_nil_iff→Jk,drop_zero→sG,eq_nil_of_length_eq_zero→jd,eq_nil_or_concat→Ic,ext_getElem?→oc,getD_eq_getElem?_getD→au,getElem?_append_left→da,getElem?_append_right→dW,getElem?_cons_succ→bK,getElem?_cons_zero→cf,getElem?_drop→o_,getElem?_eq_getElem→bc,getElem?_eq_none→df,getElem?_eq_some_iff→aU,getElem?_map→fu,getElem?_range→td,getElem?_take_of_lt→FU,getElem?_take→o9,getElem?_toArray→jP,length_append→bE,length_cons→cy,length_set→fh,length_singleton→rC,length_take→ej,map_cons→gC,mem_append→bY,mem_cons_of_mem→dX,mem_cons_self→bL,mem_cons→bN,mem_map→px,mem_of_getElem?→lI,mem_range→Sc,mem_singleton→iu,nodup_append→ch,range→oD,replicate→lC,sum_append→QI,take_add→wD,take_append_of_le_length→BI,take_length→jB,take_of_length_le→jw,take_zero→sE
open _root_.Nat renaming add_assoc→jr,add_comm→sY,add_sub_cancel_left→F9,add_sub_cancel→mA,add_zero→gZ,beq→fj,ble_eq→vR,ble→vd,blt_eq→fo,blt→gY,eq_of_beq_eq_true→cQ,le_of_ble_eq_true→jQ,le_of_not_lt→nL,le_refl→a_,le_trans→jz,lt_of_lt_of_le→lH,lt_or_ge→ct,lt_trichotomy→od,mod_mod_of_dvd→Ll,one_pos→Ha,strongRecOn→tW,succ_mul→WW,zero_add→bW,zero_le→dv,zero_mul→BA
open _root_.Option renaming getD_some→lS,map_some→kp,none→aj,some→aa
open _root_.Option.some renaming injEq→cv
open _root_.Or renaming inl→dO,inr→e_
open _root_.Prod.mk renaming injEq→tL
namespace Rx
open Go.RowKit State
def knQ (f:Nat->Bool) (q:Nat):Bool :=
 match gY q 1000000 with
 |true=>ao
 |false=>f (q / 1000000-1)
def knS (f:Nat->Bool):Option Nat->Bool
 |none=>ao
 |some q=>knQ f q
mutual
def ml (f:Nat->Bool):Value->Bool
 |.pointer (aa a)=>f a.block
 |.slice (aa a) _ _=>f a.block&&knS f a.spot
 |.map (aa r)|.chan (aa r)=>f r
 |.agg ⟨l⟩=>Bw f l
 |.tuple ⟨l⟩=>Bw f l
 |.func _ ⟨g⟩ ⟨c⟩=>Bw f g&&Bw f c
 |.iface _ v=>ml f v
 |_=>ao
def Bw (f:Nat->Bool):List Value->Bool
 |[]=>ao
 |v::l=>ml f v&&Bw f l
end
section
variable {ρ gF:Env} {f g:Nat->Bool} {n:Nat}
theorem YV {q:Nat} (h:knQ f q=ao) (h0:q / 1000000≠0):f (q / 1000000-1)=ao:=by
 unfold knQ at h;split at h
 ·rename_i hb;rw[fo] at hb;omega
 ·exact h
theorem acv {q:Nat} (h:q / 1000000≠0->f (q / 1000000-1)=ao):knQ f q=ao:=by
 unfold knQ;split
 ·rfl
 ·rename_i hb;refine h fun h0=>?_
  have:gY q 1000000=ao:=by rw[fo];omega
  rw[hb] at this;cases this
theorem aeB {s:Option Nat} (h:∀ b,f b=ao->g b=ao) (hv:knS f s=ao):knS g s=ao:=by
 cases s with
 |none=>rfl
 |some q=>exact acv fun h0=>h _ (YV hv h0)
theorem ahk {a:Addr} {k c:Nat} (h:∀ b,f b=ao->ρ b=gF b) (ha:f a.block=ao) (hs:knS f a.spot=ao):lP ρ a k c=lP gF a k c:=by
 have hA:iQ ρ a=iQ gF a:=by unfold iQ;rw[h _ ha]
 unfold lP;rw[hA,h _ ha];cases hq:a.spot with
 |none=>rfl
 |some q =>
  rw[hq] at hs;simp only;split
  ·rfl
  ·split
   ·rename_i h0;rw[h (q / 1000000-1) (YV hs h0.1)]
   ·rfl
mutual
theorem Wg (h:∀ b,f b=ao->ρ b=gF b):∀ v,ml f v=ao->bV ρ v=bV gF v
 |.pointer (aa a),hv=>by
  simp only[ml] at hv;simp only[bV,iQ];rw[h _ hv]
 |.pointer aj,_=>by simp[bV]
 |.slice (aa a) k c,hv=>by
  simp only[ml,aM] at hv;simp only[bV];exact ahk h hv.1 hv.2
 |.slice aj _ _,_=>by simp[bV]
 |.map (aa r),hv=>by simp only[ml] at hv;simp[bV,h _ hv]
 |.map aj,_=>by simp[bV]
 |.chan (aa r),hv=>by simp only[ml] at hv;simp[bV,h _ hv]
 |.chan aj,_=>by simp[bV]
 |.agg ⟨l⟩,hv=>by simp only[ml] at hv;simp only[bV,En h l hv]
 |.tuple ⟨l⟩,hv=>by simp only[ml] at hv;simp only[bV,En h l hv]
 |.func fn ⟨l⟩ ⟨c⟩,hv=>by
  simp only[ml,aM] at hv;simp only[bV,En h l hv.1,En h c hv.2]
 |.iface t v,hv=>by simp only[ml] at hv;simp only[bV,Wg h v hv]
 |.int _ _,_=>by simp
 |.bool _,_=>by simp
 |.string _,_=>by simp
 |.float _ _,_=>by simp[bV]
 |.complex _ _ _,_=>by simp[bV]
 |.nilFunc,_=>by simp[bV]
 |.nilIface,_=>by simp[bV]
theorem En (h:∀ b,f b=ao->ρ b=gF b):∀ l,Bw f l=ao->nS ρ l=nS gF l
 |[],_=>rfl
 |v::l,hv=>by
  simp only[Bw,aM] at hv;simp only[nS,Wg h v hv.1,En h l hv.2]
end
mutual
theorem abV (h:∀ b,b<n->f b=ao):∀ v,fD n v=ao->ml f v=ao
 |.pointer (aa a),hv=>by simp only[fD,fo] at hv;simp only[ml];exact h _ hv
 |.pointer aj,_=>by simp[ml]
 |.slice (aa a) k c,hv=>by
  simp only[fD,aM,fo,vR] at hv;simp only[ml,aM];refine⟨h _ hv.1,?_⟩;cases hs:a.spot with
  |none=>rfl
  |some q =>
   rw[hs] at hv;simp only[FN] at hv;exact acv fun h0=>h _ (by omega)
 |.slice aj _ _,_=>by simp[ml]
 |.map (aa r),hv=>by simp only[fD,fo] at hv;simp only[ml];exact h _ hv
 |.map aj,_=>by simp[ml]
 |.chan (aa r),hv=>by simp only[fD,fo] at hv;simp only[ml];exact h _ hv
 |.chan aj,_=>by simp[ml]
 |.agg ⟨l⟩,hv=>by simp only[fD] at hv;simp only[ml];exact Ej h l hv
 |.tuple ⟨l⟩,hv=>by simp only[fD] at hv;simp only[ml];exact Ej h l hv
 |.func fn ⟨l⟩ ⟨c⟩,hv=>by
  simp only[fD,aM] at hv;simp only[ml,aM];exact⟨Ej h l hv.1,Ej h c hv.2⟩
 |.iface t v,hv=>by simp only[fD] at hv;simp only[ml];exact abV h v hv
 |.int _ _,_=>by simp[ml]
 |.bool _,_=>by simp[ml]
 |.string _,_=>by simp[ml]
 |.float _ _,_=>by simp[ml]
 |.complex _ _ _,_=>by simp[ml]
 |.nilFunc,_=>by simp[ml]
 |.nilIface,_=>by simp[ml]
theorem Ej (h:∀ b,b<n->f b=ao):∀ l,iJ n l=ao->Bw f l=ao
 |[],_=>by simp[Bw]
 |v::l,hv=>by
  simp only[iJ,aM] at hv;simp only[Bw,aM];exact⟨abV h v hv.1,Ej h l hv.2⟩
end
mutual
theorem Vy (h:∀ b,f b=ao->g b=ao):∀ v,ml f v=ao->ml g v=ao
 |.pointer (aa a),hv=>by simp only[ml] at *;exact h _ hv
 |.pointer aj,_=>by simp[ml]
 |.slice (aa a) k c,hv=>by
  simp only[ml,aM] at *
  exact⟨h _ hv.1,aeB h hv.2⟩
 |.slice aj _ _,_=>by simp[ml]
 |.map (aa r),hv=>by simp only[ml] at *;exact h _ hv
 |.map aj,_=>by simp[ml]
 |.chan (aa r),hv=>by simp only[ml] at *;exact h _ hv
 |.chan aj,_=>by simp[ml]
 |.agg ⟨l⟩,hv=>by simp only[ml] at *;exact Cf h l hv
 |.tuple ⟨l⟩,hv=>by simp only[ml] at *;exact Cf h l hv
 |.func fn ⟨l⟩ ⟨c⟩,hv=>by
  simp only[ml,aM] at *
  exact⟨Cf h l hv.1,Cf h c hv.2⟩
 |.iface t v,hv=>by simp only[ml] at *;exact Vy h v hv
 |.int _ _,_=>by simp[ml]
 |.bool _,_=>by simp[ml]
 |.string _,_=>by simp[ml]
 |.float _ _,_=>by simp[ml]
 |.complex _ _ _,_=>by simp[ml]
 |.nilFunc,_=>by simp[ml]
 |.nilIface,_=>by simp[ml]
theorem Cf (h:∀ b,f b=ao->g b=ao):∀ l,Bw f l=ao->Bw g l=ao
 |[],_=>by simp[Bw]
 |v::l,hv=>by
  simp only[Bw,aM] at *
  exact⟨Vy h v hv.1,Cf h l hv.2⟩
end
end
section
variable {R:Type} {D:fR R} {C:Ctx} {ρ gF:Env} {ft kF:Nat->Nat->Prop} {w w':World} {h hr hx h':Hp R}
theorem HM.alV (hm:HM D C ρ ft h w) {f:Nat->Bool} (qW:∀ b,f b=ao->gF b=ρ b) (hh:∀ (b:Nat) (X:SB R),h[b]?=aa (aa X)->f b=ao) (hc:∀ (b:Nat) (t:TypeId) (cs:List Value),h[b]?=aa (aa (.inl (t,cs)))->Bw f cs=ao):HM D C gF ft h w where
 at_ i B hi:=by
  obtain⟨h1,h2⟩:=hm.at_ i B hi;refine⟨?_,h2⟩;have e:=qW i (hh i B hi);rcases B with⟨t,cs⟩|⟨t,r⟩|r|x
  ·simp only[hold,e] at h1 ⊢;have:cs.map (bV gF)=cs.map (bV ρ):=by
    rw[← lB,← lB];exact En qW cs (hc i t cs hi)
   rw[this];exact h1
  ·simp only[hold,e] at h1 ⊢;exact h1
  ·simp only[hold,e] at h1 ⊢;exact h1
  ·simp only[hold,e] at h1 ⊢;exact h1
 lt:=hm.lt
 fresh:=hm.fresh
 apart:=hm.apart
 some_:=hm.some_
 kept:=hm.kept
theorem HM.grow (hm:HM D C ρ ft h w) (k:Nat):HM D C ρ ft (h++lC k aj) w:=by
 refine hm.step (fun _=>False) (Kept.refl _ _) (fun _ _=>rfl) (by simp) ?_ ?_ ?_ ?_
 ·intro i B' hi jN;have ki:h.length≤i:=nL hi;rw[dW ki] at jN;have:=lI jN;have:=(List.mem_replicate.1 this).2;cases this
 ·intro i hi _;exact⟨da hi,fun k=>Iff.rfl⟩
 ·intro i k hi hk;obtain⟨B',jN⟩:=hm.some_ i k hk;have cd:=(aU.1 jN).1;exact absurd cd hi
 ·intro i j k hi hj Hy HC;exact hm.apart i j k Hy HC
theorem HM.al9 {ρ0:Env} (hm:HM D C ρ ft h w) (nA:∀ (b:Nat) (X:SB R),hr[b]?=aa (aa X)->h[b]?=aa (aa X)) {n:Nat}
  (mR:HM D (Qw w hr ft ρ0 n) gF kF hx w') (qW:∀ b,b<hx.length->ρ b=gF b) (hle:hx.length≤h.length)
  (hv:∀ (b:Nat) (X:SB R),hx[b]?=aa (aa X)->(b<hr.length->∃ Y,hr[b]?=aa (aa Y))/\(ij X=an∨∃ Y,hr[b]?=aa (aa Y)/\ij Y=ao))
  (hlen:h'.length=h.length)
  (uM:∀ (b:Nat),(∃ Y,hr[b]?=aa (aa Y)/\ij Y=an)∨(hr.length≤b/\b<hx.length)->h'[b]?=if b<hx.length then hx[b]? else aa aj)
  (QA:∀ (b:Nat),b<h.length->¬ ((∃ Y,hr[b]?=aa (aa Y)/\ij Y=an)∨(hr.length≤b/\b<hx.length))->h'[b]?=h[b]?) :
  ∃ KL,HM D C ρ KL h' w':=by
 let T:Nat->Prop:=fun b=>(∃ Y,hr[b]?=aa (aa Y)/\ij Y=an)∨(hr.length≤b/\b<hx.length)
 refine⟨fun b k=>(T b/\kF b k)∨(¬ T b/\ft b k),?_⟩
 have eT:∀ {b},T b->(fun k=>(T b/\kF b k)∨(¬ T b/\ft b k))=kF b:=fun {b} hb=>funext fun k=>propext ⟨fun h=>h.elim (fun h=>h.2) (fun h=>absurd hb h.1),fun h=>dO ⟨hb,h⟩⟩
 have afu:∀ b k,(∃ X,hr[b]?=aa (aa X))->ft b k->∃ j,T j/\ft j k:=fun b k ⟨X,hX⟩ hb=>by
  refine⟨b,dO ⟨X,hX,?_⟩,hb⟩;cases hX2:ij X with
  |false=>rfl
  |true =>
   have:=(hm.at_ b X (nA b X hX)).1;rcases X with⟨t,cs⟩|⟨t,r⟩|r|x<;>simp[ij] at hX2
   exact absurd hb (this.1 k)
 have kj:∀ i B,h'[i]?=aa (aa B)->i<h.length:=fun i B hB=>by
  have:=(aU.1 hB).1;omega
 refine hm.step T ?_ (fun _ _=>rfl) (Nat.le_of_eq hlen.symm) ?_ ?_ ?_ ?_
 ·exact⟨mR.kept.os,mR.kept.tape,mR.kept.output,mR.kept.size,fun k hk hn=>mR.kept.block k hk fun⟨b,hX,hb⟩=>hn (afu b k hX hb)⟩
 ·intro i B hi hB;have MU:=hi (kj i B hB);rw[uM i MU] at hB;split at hB
  ·rename_i cd;obtain⟨g1,g2⟩:=mR.at_ i B hB;have SQ:ij B=an:=by
    rcases(hv i B hB).2 with h1|⟨Y,hY,X9⟩
    ·exact h1
    ·rcases MU with⟨Y',S7,J4⟩|si
     ·rw[hY] at S7;injection S7 with e;injection e with e;subst e;rw[X9] at J4;cases J4
     ·have:=(aU.1 hY).1;omega
   refine⟨?_,CF (by omega) g2⟩
   show hold D C ρ i (fun k=>(T i/\kF i k)∨(¬ T i/\ft i k)) w' B
   rw[eT MU];exact zz SQ (I2 g1 qW cd g2)
  ·cases hB
 ·intro i hi hn;exact⟨QA i hi hn,fun k=>⟨fun h=>h.elim (fun h=>absurd h.1 hn) (fun h=>h.2),fun h=>e_ ⟨hn,h⟩⟩⟩
 ·intro i k hi hk;have MU:T i:=by
   rcases hk with h|h
   ·exact h.1
   ·obtain⟨B,hB⟩:=hm.some_ i k h.2;exact hi (aU.1 hB).1
  have nQ:kF i k:=hk.elim (fun h=>h.2) (fun h=>absurd MU h.1)
  refine⟨?_,mR.lt i k nQ,?_⟩
  ·rcases mR.fresh i k nQ with⟨b,hX,hb⟩|si
   ·exact dO (afu b k hX hb)
   ·exact e_ si
  ·obtain⟨B,hB⟩:=mR.some_ i k nQ;refine⟨B,?_⟩;rw[uM i MU,if_pos (aU.1 hB).1];exact hB
 ·intro i j k hi hj Hy HC;have key:∀ l,(l<h.length->T l)->((T l/\kF l k)∨(¬ T l/\ft l k))->kF l k:=fun l hl uS=>by
   rcases uS with h|h
   ·exact h.2
   ·obtain⟨B,hB⟩:=hm.some_ l k h.2;exact absurd (hl (aU.1 hB).1) h.1
  exact mR.apart i j k (key i hi Hy) (key j hj HC)
end
mutual
def aiZ:Value->List Nat
 |.pointer (aa a)=>[a.block]
 |.slice (aa ⟨b,_,aa q⟩) _ _=>match fj (q / 1000000) 0 with
  |true=>[b]
  |false=>[b,q / 1000000-1]
 |.slice (aa a) _ _=>[a.block]
 |.map (aa r)|.chan (aa r)=>[r]
 |.agg ⟨l⟩=>tc l
 |.tuple ⟨l⟩=>tc l
 |.func _ ⟨f⟩ ⟨c⟩=>tc f++tc c
 |.iface _ v=>aiZ v
 |_=>[]
def tc:List Value->List Nat
 |[]=>[]
 |v::l=>aiZ v++tc l
end
def mem (l:List Nat) (i:Nat):Bool :=
 match l with
 |[]=>an
 |j::l=>fj j i||mem l i
theorem mem_iff {l:List Nat} {i:Nat}:mem l i=ao↔i∈l:=by
 induction l with
 |nil=>simp[mem]
 |cons j l ih=>simp only[mem,jY,ih,Nat.beq_eq,bN];exact⟨fun h=>h.imp Eq.symm id,fun h=>h.imp Eq.symm id⟩
def tmpsOf:List Operand->List Nat
 |[]=>[]
 |.tmp t::l=>t::tmpsOf l
 |_::l=>tmpsOf l
structure Rec (R:Type) where
 o:Oper
 pre:List Nat
 run:Bool
 v:Value
 lit:Option Bool
 hr:Hp R
 hx:Hp R
 w:Bool
 wl:List (Nat×Nat)
section
variable {R:Type} {D:fR R} {P:Program} {T:eM R}
def Iw (h:Hp R) (b:Nat):Bool :=
 match h[b]? with
 |some (aa X)=>!ij X
 |_=>an
def newAt (r:Rec R) (b:Nat):Bool:=vd r.hr.length b&&gY b r.hx.length
def gQ (r:Rec R) (b:Nat):Bool:=r.w&&((Iw r.hr b && !LU r.o r.wl b)||newAt r b)
def DH (r:Rec R) (b:Nat):Bool:=Iw r.hr b||newAt r b
def E6 (r:Rec R):Bool:=gY r.hr.length r.hx.length
def gg {α:Type} (h:List (Option α)) (b:Nat):Option α :=
 match h[b]? with
 |some x=>x
 |none=>aj
def content (p:Nat->Bool) (b:Nat):List (Rec R)->Nat->Option (SB R)->Option (SB R)
 |[],_,acc=>acc
 |r::l,j,acc=>content p b l (j+1) (if p j&&gQ r b then gg r.hx b else acc)
def fp:List (Rec R)->Nat->Nat
 |[],n=>n
 |r::l,n=>fp l (if E6 r then r.hx.length else n)
def QD (recs:List (Rec R)):List Nat->Nat->Bool
 |[],_=>an
 |j::l,b=>(match recs[j]? with
  |some q=>newAt q b
  |none=>an)||QD recs l b
def Cc (n:Nat) (recs:List (Rec R)) (r:Rec R) (b:Nat):Bool:=gY b n||newAt r b||QD recs r.pre b
def VW (f:Nat->Bool):Hp R->Bool
 |[]=>ao
 |some (.inl (_,cs))::h=>Bw f cs&&VW f h
 |_::h=>VW f h
def allKnown (n:Nat) (all:List (Rec R)):List (Rec R)->Bool
 |[]=>ao
 |r::l=>ml (Cc n all r) r.v&&VW (Cc n all r) r.hx&&allKnown n all l
def nB:List Oper->Nat->Nat->Option Nat
 |[],_,_=>aj
 |o::l,t,i=>match o.dst with
  |some u=>if fj u t then aa i else nB l t (i+1)
  |none=>nB l t (i+1)
def Fb (ops:List Oper) (recs:List (Rec R)) (pre tms:List Nat):Nat->List (Option Value)->List (Option Value)
 |_,[]=>[]
 |t,x::l=>(if mem tms t then
   match nB ops t 0 with
   |some j=>if mem pre j then(match recs[j]? with
    |some r=>aa r.v
    |none=>aj) else if vd recs.length j then x else aj
   |none=>x
  else aj)::Fb ops recs pre tms (t+1) l
def KV (ops:List Oper) (li:List (Nat×Bool)) (recs:List (Rec R)) (pre:List Nat):List Nat->List (Nat×Bool)
 |[]=>[]
 |t::l=>(match nB ops t 0 with
  |some j=>if mem pre j then(match recs[j]? with
   |some r=>(match r.lit with
    |some b=>[(t,b)]
    |none=>[])
   |none=>[]) else[]
  |none=>match look li t with
   |some b=>[(t,b)]
   |none=>[])++KV ops li recs pre l
def Gz:List (Option Value)->List Value
 |[]=>[]
 |some v::l=>v::Gz l
 |none::l=>Gz l
def lj (h0:Hp R) (recs:List (Rec R)) (p:Nat->Bool) (sel:Nat->Bool):Nat->Nat->Hp R
 |_,0=>[]
 |b,n+1=>(if sel b then content p b recs 0 (gg h0 b) else aj)::lj h0 recs p sel (b+1) n
def ins (j:Nat) (l:List Nat):List Nat:=if mem l j then l else j::l
def iC:List Nat->List Nat->List Nat
 |[],l=>l
 |j::m,l=>iC m (ins j l)
theorem Lr {i j:Nat} {l:List Nat}:i∈ins j l↔i=j∨i∈l:=by
 unfold ins;split
 ·rename_i h;have:=mem_iff.1 h;exact⟨e_,fun h=>h.elim (fun e=>by rw[e];exact this) id⟩
 ·simp
theorem NB {i:Nat}:∀ {m l:List Nat},i∈iC m l↔i∈m∨i∈l
 |[],l=>by simp[iC]
 |j::m,l=>by
  simp only[iC,NB,Lr,bN]
  constructor
  ·rintro (h|h|h)
   ·exact dO (e_ h)
   ·exact dO (dO h)
   ·exact e_ h
  ·rintro ((h|h)|h)
   ·exact e_ (dO h)
   ·exact dO h
   ·exact e_ (e_ h)
def L1 (recs:List (Rec R)):List Edge->Option (List Nat)
 |[]=>aa []
 |e::l =>
  match L1 recs l with
  |none=>aj
  |some r=>if Lj .any e then(match recs[e.on]? with
   |some q=>aa (ins e.on (iC q.pre r))
   |none=>aj) else aa r
def HI (recs:List (Rec R)) (pre:List Nat) (g:Option (Nat×Bool)):Nat :=
 match g with
 |none=>0
 |some (j,want) =>
  if mem pre j then
   match recs[j]? with
   |some r=>match r.o.dst with
    |some _=>match r.lit with
     |some b=>if b==want then 0 else 1
     |none=>match Ly r.v with
      |true=>1
      |false=>2
    |none=>3
   |none=>3
  else 3
def rX:Hp R->Hp R->Bool
 |[],[]=>ao
 |[],aj::hx=>rX [] hx
 |[],aa X::hx=>!ij X&&rX [] hx
 |_::_,[]=>an
 |none::hr,aj::hx=>rX hr hx
 |none::_,aa _::_=>an
 |some Y::hr,aj::hx=>rX hr hx
 |some Y::hr,aa X::hx=>(!ij X||ij Y)&&rX hr hx
def reach (h:Hp R):Nat->List Nat->List Nat
 |0,l=>l
 |n+1,l=>reach h n (l++tc (l.flatMap fun b=>match gg h b with
  |some (.inl (_,cs))=>cs
  |_=>[]))
def TJ (o:Oper) (B:List Nat) (h:Hp R):List Nat :=
 match o.op with
 |.call ⟨.value _,_,_⟩=>reach h 2 B
 |.call ⟨.invoke _ _,_,_⟩=>reach h 2 B
 |.move _|.assign _|.fieldAddr _ _ _|.nilCheck _|.extract _ _|.makeFunc _ _ _=>[]
 |_=>B
def xm (ops:List Oper) (cl:SS R) (recs:List (Rec R)) (pre:List Nat) (o:Oper):List (Option Value):=Fb ops recs pre (tmpsOf o.op.operands.toList) 0 cl.tm
def X2 (ops:List Oper) (cl:SS R) (recs:List (Rec R)) (pre:List Nat) (o:Oper):Nat->Bool :=
 mem (TJ o (tc (Gz (xm ops cl recs pre o))) (lj cl.hp recs (mem pre) (fun _=>ao) 0 (fp recs cl.hp.length)))
def o6 (ops:List Oper) (cl:SS R) (recs:List (Rec R)) (pre:List Nat) (o:Oper):SS R :=
 ⟨xm ops cl recs pre o,KV ops cl.li recs pre (tmpsOf o.op.operands.toList),
  lj cl.hp recs (mem pre) (X2 ops cl recs pre o) 0 (fp recs cl.hp.length)⟩
def af5 (n:Nat) (d:Option Tmp):Bool :=
 match d with
 |some t=>gY t n
 |none=>ao
def E7 (cl:SS R) (st:SS R) (o:Oper) (x:Out R):Bool :=
 tidy st o.dst x&&af5 cl.tm.length o.dst&&tF st.hp.length st.hp&&iJ st.hp.length (Gz st.tm)&&rX st.hp x.hp
def alU (we:List (Nat×Bool)) (d:Option Tmp):Option Bool :=
 match d with
 |some t=>look we t
 |none=>aj
def AQ (recs:List (Rec R)) (r:Rec R):List (Rec R):=recs++[r]
def HJ (P:Program) (T:eM R) (cl:SS R) (we:List (Nat×Bool)) (o:Oper) (pre:List Nat) (tm:List (Option Value)) (li:List (Nat×Bool)) (hr:Hp R) (k:Rec R->Prop) (su:Bool):Prop :=
 match ME P T ⟨tm,li,hr⟩ o su with
 |none=>oB 21
 |some x =>
  if E7 cl ⟨tm,li,hr⟩ o x then
   Zz (Zs (⟨tm,li,hr⟩:SS R) o) x.vc (MW x.hp fun hx=>fV x.v fun v =>
    match x.lit with
    |some b=>fB b fun b=>fB (!x.wr.isEmpty) fun wr=>k ⟨o,pre,ao,v,aa b,hr,hx,wr,x.wr⟩
    |none=>fB (!x.wr.isEmpty) fun wr=>match alU we o.dst with
     |some b=>Vc (v=.bool b)/\k ⟨o,pre,ao,.bool b,aa b,hr,hx,wr,x.wr⟩
     |none=>k ⟨o,pre,ao,v,aj,hr,hx,wr,x.wr⟩)
  else oB 22
def Dr (P:Program) (T:eM R) (ops:List Oper) (cl:SS R) (we:List (Nat×Bool)) (k:List (Rec R)->Prop) (fk:Nat->Bool->Prop):List Oper->List (Rec R)->Prop
 |[],recs=>k recs
 |o::l,recs =>
  match L1 recs o.after.toList with
  |none=>oB 20
  |some pre=>UZ pre fun pre =>
   match HI recs pre o.guard with
   |0=>Yx (xm ops cl recs pre o) fun tm=>fLi (KV ops cl.li recs pre (tmpsOf o.op.operands.toList)) fun li=>MW (lj cl.hp recs (mem pre) (fun _=>ao) 0 (fp recs cl.hp.length)) fun hp =>
    UZ (TJ o (tc (Gz tm)) hp) fun sel=>MW (lj cl.hp recs (mem pre) (mem sel) 0 (fp recs cl.hp.length)) fun hr =>
    match HO P T (⟨tm,li,hr⟩:SS R) o with
    |none=>HJ P T cl we o pre tm li hr (fun r=>Dr P T ops cl we k fk l (AQ recs r)) ao
    |some c=>(c=ao->HJ P T cl we o pre tm li hr (fun r=>Dr P T ops cl we k fk l (AQ recs r)) ao) /\
     (c=an->HJ P T cl we o pre tm li hr (fun r=>Dr P T ops cl we k fk l (AQ recs r)) an)
   |1=>Dr P T ops cl we k fk l (AQ recs ⟨o,pre,an,undef,aj,[],[],an,[]⟩)
   |2 =>
    match o.guard with
    |some (j,_)=>match recs[j]? with
     |some r=>match r.o.dst,r.v with
      |some t,.bool c=>fk t c
      |_,_=>oB 23
     |none=>oB 24
    |none=>oB 25
   |_=>oB 26
def Gt (f:Nat->Bool):Nat->Bool
 |0=>ao
 |n+1=>f n&&Gt f n
def afB (a b:Rec R) (n:Nat):Bool:=!Gt (fun i=>!((gQ a i&&DH b i)||(gQ b i&&DH a i))) n
def ac6 (i:Nat) (a b:Rec R):Bool :=
 match b.o.dst with
 |some t=>!mem (tmpsOf a.o.op.operands.toList) t||mem b.pre i
 |none=>ao
def Fw (n:Nat) (i j:Nat) (a b:Rec R):Bool :=
 ac6 i a b&&(match a.o.dst,b.o.dst with
  |some t,aa u=>!fj t u
  |_,_=>ao) &&
 (mem b.pre i || !((a.w||b.w)&&afB a b n))
def Lz (n:Nat) (i:Nat) (a:Rec R):Nat->List (Rec R)->Bool
 |_,[]=>ao
 |j,b::l=>Fw n i j a b&&Lz n i a (j+1) l
def B2 (n:Nat):Nat->List (Rec R)->Bool
 |_,[]=>ao
 |i,a::l=>Lz n i a (i+1) l&&B2 n (i+1) l
def Ix (ops:List Oper) (recs:List (Rec R)):Nat->List (Option Value)->List (Option Value)
 |_,[]=>[]
 |t,x::l=>(match nB ops t 0 with
  |some j=>(match recs[j]? with
   |some r=>aa r.v
   |none=>aj)
  |none=>x)::Ix ops recs (t+1) l
def afK (ops:List Oper) (N:Nat) (recs:List (Rec R)) (li:List (Nat×Bool)):List (Nat×Bool) :=
 (recs.flatMap fun r=>match r.o.dst,r.lit with
  |some t,aa b=>if gY t N then[(t,b)] else[]
  |_,_=>[])++li.filter fun q=>match nB ops q.1 0 with
   |some _=>an
   |none=>ao
def Bl (ops:List Oper) (cl:SS R) (recs:List (Rec R)):SS R :=
 ⟨Ix ops recs 0 cl.tm,afK ops cl.tm.length recs cl.li,lj cl.hp recs (fun _=>ao) (fun _=>ao) 0 (fp recs cl.hp.length)⟩
def E_ (P:Program) (T:eM R) (ops:List Oper) (cl:SS R) (k:SS R->Prop):Nat->List (Nat×Bool)->Prop
 |0,_=>oB 27
 |n+1,we=>Dr P T ops cl we
   (fun recs=>if B2 (fp recs cl.hp.length) 0 recs&&allKnown cl.hp.length recs recs then Jy (Bl ops cl recs) k else oB 28)
   (fun t c=>(c=ao->E_ P T ops cl k n ((t,ao)::we))/\(c=an->E_ P T ops cl k n ((t,an)::we))) ops []
end
end Rx
namespace Rx
open Go.RowKit State
section
variable {R:Type} {D:fR R} {P:Program} {T:eM R}
theorem jy {h0:Hp R} {recs:List (Rec R)} {p sel:Nat->Bool}:∀ (n b i:Nat),(lj h0 recs p sel b n).length=n/\(i<n->(lj h0 recs p sel b n)[i]?=aa (if sel (b+i) then content p (b+i) recs 0 (gg h0 (b+i)) else aj))
 |0,b,i=>⟨rfl,fun h=>by omega⟩
 |n+1,b,i=>by
  obtain⟨h1,h2⟩:=jy (h0:=h0) (recs:=recs) (p:=p) (sel:=sel) n (b+1) (i-1);refine⟨by simp[lj,h1],fun h=>?_⟩
  cases i with
  |zero=>simp[lj]
  |succ i =>
   simp only[lj,bK];have:=h2 (by omega)
   simp only[mA] at this;rw[this,show b+1+i=b+(i+1) by omega]
theorem wa {p q:Nat->Bool} {b:Nat}:∀ (recs:List (Rec R)) (j0:Nat) (acc:Option (SB R)),(∀ j r,recs[j]?=aa r->gQ r b=ao->p (j0+j)=q (j0+j))->content p b recs j0 acc=content q b recs j0 acc
 |[],_,_,_=>rfl
 |r::l,j0,acc,h=>by
  simp only[content];have h0:=h 0 r (by simp)
  have e:(p j0&&gQ r b)=(q j0&&gQ r b):=by
   cases ht:gQ r b with
   |false=>simp
   |true=>rw[← gZ j0,h0 ht]
  rw[e];exact wa l (j0+1) _ fun j r' hj ht=>by
   have:=h (j+1) r' (by simpa using hj) ht
   rwa [show j0+(j+1)=j0+1+j by omega] at this
theorem Lc {p:Nat->Bool} {b:Nat}:∀ (recs:List (Rec R)) (j0:Nat) (acc:Option (SB R)) (i:Nat) (r:Rec R),recs[i]?=aa r->p (j0+i)=ao->gQ r b=ao ->
  (∀ j r',recs[j]?=aa r'->i<j->p (j0+j)=ao->gQ r' b=an)->content p b recs j0 acc=gg r.hx b
 |[],_,_,i,r,hi,_,_,_=>by simp at hi
 |r0::l,j0,acc,i,r,hi,hp,ht,hn=>by
  simp only[content];cases i with
  |zero =>
   simp only[cf,cv] at hi;subst hi;rw[gZ] at hp;simp only[hp,ht,TE,if_true];have:∀ (l:List (Rec R)) (j1:Nat) (acc:Option (SB R)),(∀ j r',l[j]?=aa r'->p (j1+j)=ao->gQ r' b=an)->content p b l j1 acc=acc:=by
    intro l
    induction l with
    |nil=>intro j1 acc _;rfl
    |cons r' l ih =>
     intro j1 acc h;simp only[content];have h0:=h 0 r' (by simp)
     have e:(p j1&&gQ r' b)=an:=by
      cases xc:p j1 with
      |false=>simp
      |true=>simp[h0 (by rw[gZ];exact xc)]
     rw[e];exact ih (j1+1) acc fun j r'' hj S3=>h (j+1) r'' (by simpa using hj) (by rwa [show j1+(j+1)=j1+1+j by omega])
   exact this l (j0+1) _ fun j r' hj S3=>hn (j+1) r' (by simpa using hj) (by omega) (by rwa [show j0+(j+1)=j0+1+j by omega])
  |succ i =>
   simp only[bK] at hi;exact Lc l (j0+1) _ i r hi (by rwa [show j0+1+i=j0+(i+1) by omega]) ht fun j r' hj cd S3=>hn (j+1) r' (by simpa using hj) (by omega) (by rwa [show j0+(j+1)=j0+1+j by omega])
theorem uP {p:Nat->Bool} {b:Nat}:∀ (recs:List (Rec R)) (j0:Nat) (acc:Option (SB R)),content p b recs j0 acc=acc∨∃ i r,recs[i]?=aa r/\p (j0+i)=ao/\gQ r b=ao/\content p b recs j0 acc=gg r.hx b
 |[],_,_=>dO rfl
 |r::l,j0,acc=>by
  simp only[content];rcases uP (p:=p) (b:=b) l (j0+1) (if p j0&&gQ r b then gg r.hx b else acc) with h|⟨i,r',h1,h2,h3,h4⟩
  ·cases hc:(p j0&&gQ r b) with
   |false=>rw[hc] at h;left;simpa using h
   |true =>
    rw[hc] at h;simp only[aM] at hc;exact e_ ⟨0,r,by simp,by simpa using hc.1,hc.2,by simpa using h⟩
  ·exact e_ ⟨i+1,r',by simpa using h1,by rwa [show j0+(i+1)=j0+1+i by omega],h3,h4⟩
theorem Kb {p:Nat->Bool} {b:Nat}:∀ (recs:List (Rec R)) (i j0:Nat) (acc:Option (SB R)),(∀ j,i≤j->p (j0+j)=an)->content p b (recs.take i) j0 acc=content p b recs j0 acc
 |[],i,j0,acc,_=>by simp
 |r::l,0,j0,acc,h=>by
  simp only[sE];have:content p b (r::l) j0 acc=content (fun _=>an) b (r::l) j0 acc:=wa _ _ _ fun j _ _ _=>h j (by omega)
  rw[this];have key:∀ (l:List (Rec R)) (j1:Nat),content (fun _=>an) b l j1 acc=acc:=fun l=>by
   induction l with
   |nil=>intro _;rfl
   |cons r l ih=>intro j1;simp only[content,Cy,fX,if_false];exact ih _
  rw[key]
  rfl
 |r::l,i+1,j0,acc,h=>by
  simp only[List.take_succ_cons,content];exact Kb l i (j0+1) _ fun j hj=>by have:=h (j+1) (by omega);rwa [show j0+(j+1)=j0+1+j by omega] at this
theorem Xx (l:List (Rec R)) (r:Rec R) (n:Nat):fp (l++[r]) n=if E6 r then r.hx.length else fp l n:=by
 induction l generalizing n with
 |nil=>rfl
 |cons a l ih=>simp only[List.cons_append,fp,ih]
theorem Qb {recs:List (Rec R)} {b:Nat}:∀ {l:List Nat},QD recs l b=ao->∃ j q,j∈l/\recs[j]?=aa q/\newAt q b=ao
 |[],h=>by cases h
 |j::l,h=>by
  simp only[QD,jY] at h;rcases h with h|h
  ·split at h
   ·rename_i q hq;exact⟨j,q,bL,hq,h⟩
   ·cases h
  ·obtain⟨j',q,h1,h2,h3⟩:=Qb h;exact⟨j',q,dX _ h1,h2,h3⟩
theorem Yv {f:Nat->Bool}:∀ {h:Hp R} {b:Nat} {t:TypeId} {cs:List Value},VW f h=ao->h[b]?=aa (aa (.inl (t,cs)))->Bw f cs=ao
 |[],b,t,cs,_,hb=>by simp at hb
 |x::h,b,t,cs,hk,hb=>by
  have hr:VW f h=ao/\(b=0->Bw f cs=ao):=by
   rcases x with _|⟨t',Dd⟩|⟨t',ro⟩|ro|x
   ·exact⟨hk,fun e=>by subst e;simp at hb⟩
   ·simp only[VW,aM] at hk;refine⟨hk.2,fun e=>?_⟩
    subst e;simp only[cf,cv,Sum.inl.injEq,tL] at hb;rw[← hb.2];exact hk.1
   ·exact⟨hk,fun e=>by subst e;simp at hb⟩
   ·exact⟨hk,fun e=>by subst e;simp at hb⟩
   ·exact⟨hk,fun e=>by subst e;simp at hb⟩
  cases b with
  |zero=>exact hr.2 rfl
  |succ b=>simp only[bK] at hb;exact Yv hr.1 hb
theorem Fk {n:Nat} {all:List (Rec R)}:∀ {l:List (Rec R)} {i:Nat} {r:Rec R},allKnown n all l=ao->l[i]?=aa r->ml (Cc n all r) r.v=ao/\VW (Cc n all r) r.hx=ao
 |[],i,r,_,h=>by simp at h
 |r0::l,i,r,h,hi=>by
  simp only[allKnown,aM] at h;cases i with
  |zero=>simp only[cf,cv] at hi;subst hi;exact h.1
  |succ i=>simp only[bK] at hi;exact Fk h.2 hi
theorem F_ {recs:List (Rec R)}:∀ {es:List Edge} {pre:List Nat},L1 recs es=aa pre->(∀ e∈es,Lj .any e=ao->e.on∈pre) /\
  ∀ j∈pre,∃ e∈es,Lj .any e=ao/\∃ q,recs[e.on]?=aa q/\(j=e.on∨j∈q.pre)
 |[],pre,h=>by
  simp only[L1] at h;injection h with h
  subst h;exact⟨(fun e he=>by cases he),fun j hj=>by cases hj⟩
 |e::l,pre,h=>by
  simp only[L1] at h;split at h
  ·cases h
  ·rename_i r hr;obtain⟨h1,h2⟩:=F_ hr;split at h
   ·rename_i hb;split at h
    ·rename_i q hq;injection h with h
     subst h;refine⟨fun e' wu qC=>?_,fun j hj=>?_⟩
     ·rcases bN.1 wu with rfl|wu
      ·exact Lr.2 (dO rfl)
      ·exact Lr.2 (e_ (NB.2 (e_ (h1 e' wu qC))))
     ·rcases Lr.1 hj with rfl|hj
      ·exact⟨e,bL,hb,q,hq,dO rfl⟩
      ·rcases NB.1 hj with hj|hj
       ·exact⟨e,bL,hb,q,hq,e_ hj⟩
       ·obtain⟨e',g1,g2,g3⟩:=h2 j hj;exact⟨e',dX _ g1,g2,g3⟩
    ·cases h
   ·rename_i hb;injection h with h
    subst h;refine⟨fun e' wu qC=>?_,fun j hj=>?_⟩
    ·rcases bN.1 wu with rfl|wu
     ·exact absurd qC hb
     ·exact h1 e' wu qC
    ·obtain⟨e',g1,g2,g3⟩:=h2 j hj;exact⟨e',dX _ g1,g2,g3⟩
theorem Xj {ops:List Oper}:∀ {t i0 j:Nat},nB ops t i0=aa j->∃ k o,j=i0+k/\ops[k]?=aa o/\o.dst=aa t:=by
 induction ops with
 |nil=>intro t i0 j h;cases h
 |cons o l ih =>
  intro t i0 j h;simp only[nB] at h;split at h
  ·rename_i u hu;split at h
   ·rename_i hb;injection h with h
    have:=cQ hb;subst this;exact⟨0,o,by omega,by simp,hu⟩
   ·obtain⟨k,o',h1,h2,h3⟩:=ih h;exact⟨k+1,o',by omega,by simpa using h2,h3⟩
  ·obtain⟨k,o',h1,h2,h3⟩:=ih h;exact⟨k+1,o',by omega,by simpa using h2,h3⟩
theorem UG {ops:List Oper}:∀ {t i0 k:Nat} {o:Oper},ops[k]?=aa o->o.dst=aa t->(∀ j o',ops[j]?=aa o'->j<k->o'.dst≠aa t)->nB ops t i0=aa (i0+k):=by
 induction ops with
 |nil=>intro t i0 k o h;simp at h
 |cons o0 l ih =>
  intro t i0 k o h hd hn;simp only[nB];cases k with
  |zero =>
   simp only[cf,cv] at h;subst h;simp[hd]
  |succ k =>
   simp only[bK] at h;have h0:=hn 0 o0 (by simp) (by omega)
   have rest:=ih (i0:=i0+1) h hd fun j o' hj cd=>hn (j+1) o' (by simpa using hj) (by omega)
   rw[show i0+1+k=i0+(k+1) by omega] at rest
   cases hu:o0.dst with
   |none=>simp only;exact rest
   |some u =>
    simp only;have:fj u t=an:=by
     cases hb:fj u t with
     |false=>rfl
     |true=>exact absurd (by rw[hu,cQ hb]) h0
    rw[this];exact rest
theorem Jc {ops:List Oper} {recs:List (Rec R)} {pre tms:List Nat}:∀ {l:List (Option Value)} {t0 i:Nat} {v:Value},(Fb ops recs pre tms t0 l).length=l.length /\
  ((Fb ops recs pre tms t0 l)[i]?=aa (aa v)->t0+i∈tms/\((∃ j r,nB ops (t0+i) 0=aa j/\j∈pre/\recs[j]?=aa r/\v=r.v)∨(nB ops (t0+i) 0=aj/\l[i]?=aa (aa v))∨(∃ j,nB ops (t0+i) 0=aa j/\recs.length≤j/\l[i]?=aa (aa v)))):=by
 intro l
 induction l with
 |nil=>intro t0 i v;exact⟨rfl,fun h=>by simp[Fb] at h⟩
 |cons x l ih =>
  intro t0 i v;obtain⟨h1,_⟩:=ih (t0:=t0+1) (i:=i) (v:=v);refine⟨by simp[Fb,h1],fun h=>?_⟩
  cases i with
  |zero =>
   simp only[Fb,cf,cv,gZ] at h ⊢;split at h
   ·rename_i hm;refine⟨mem_iff.1 hm,?_⟩;split at h
    ·rename_i j hj;split at h
     ·rename_i S3;split at h
      ·rename_i r hr;injection h with h
       exact dO ⟨j,r,hj,mem_iff.1 S3,hr,h.symm⟩
      ·cases h
     ·split at h
      ·rename_i hle;exact e_ (e_ ⟨j,hj,jQ hle,h⟩)
      ·cases h
    ·rename_i hj;exact e_ (dO ⟨hj,h⟩)
   ·cases h
  |succ i =>
   simp only[Fb,bK] at h ⊢;obtain⟨_,h2⟩:=ih (t0:=t0+1) (i:=i) (v:=v);have:=h2 h
   rwa [show t0+1+i=t0+(i+1) by omega] at this
theorem aeS {ops:List Oper} {li:List (Nat×Bool)} {recs:List (Rec R)} {pre:List Nat}:∀ {l:List Nat} {t:Nat} {b:Bool},(t,b)∈KV ops li recs pre l ->
  t∈l/\((∃ j r,nB ops t 0=aa j/\j∈pre/\recs[j]?=aa r/\r.lit=aa b)∨(nB ops t 0=aj/\(t,b)∈li)):=by
 intro l
 induction l with
 |nil=>intro t b h;cases h
 |cons u l ih =>
  intro t b h;simp only[KV] at h;rcases bY.1 h with h|h
  ·split at h
   ·rename_i j hj;split at h
    ·rename_i hp;split at h
     ·rename_i r hr;split at h
      ·rename_i b' qC;simp only[iu,tL] at h;obtain⟨rfl,rfl⟩:=h;exact⟨bL,dO ⟨j,r,hj,mem_iff.1 hp,hr,qC⟩⟩
      ·cases h
     ·cases h
    ·cases h
   ·rename_i hj;split at h
    ·rename_i b' qC;simp only[iu,tL] at h;obtain⟨rfl,rfl⟩:=h;exact⟨bL,e_ ⟨hj,NC qC⟩⟩
    ·cases h
  ·obtain⟨h1,h2⟩:=ih h;exact⟨dX _ h1,h2⟩
theorem ac9 {l:List (Option Value)} {v:Value}:∀ {i:Nat},l[i]?=aa (aa v)->v∈Gz l:=by
 induction l with
 |nil=>intro i h;simp at h
 |cons x l ih =>
  intro i h;cases i with
  |zero =>
   simp only[cf,cv] at h;subst h;exact bL
  |succ i =>
   simp only[bK] at h;cases x with
   |none=>exact ih h
   |some u=>exact dX _ (ih h)
theorem sc:∀ {hr hx:Hp R} {b:Nat} {X:SB R},rX hr hx=ao->hr.length≤hx.length/\(hx[b]?=aa (aa X)->(b<hr.length->∃ Y,hr[b]?=aa (aa Y))/\(ij X=an∨∃ Y,hr[b]?=aa (aa Y)/\ij Y=ao))
 |[],[],b,X,_=>⟨a_ _,fun h=>by simp at h⟩
 |[],aj::hx,b,X,h=>by
  simp only[rX] at h;have ih:=fun b=>sc (b:=b) (X:=X) h
  refine⟨by simp,fun hb=>⟨fun cd=>by simp at cd,?_⟩⟩
  cases b with
  |zero=>simp at hb
  |succ b =>
   simp only[bK] at hb;rcases((ih b).2 hb).2 with h1|⟨Y,hY,_⟩
   ·exact dO h1
   ·simp at hY
 |[],aa X'::hx,b,X,h=>by
  simp only[rX,aM,m8] at h;have ih:=fun b=>sc (b:=b) (X:=X) h.2
  refine⟨by simp,fun hb=>⟨fun cd=>by simp at cd,?_⟩⟩
  cases b with
  |zero =>
   simp only[cf,cv] at hb;subst hb;exact dO h.1
  |succ b =>
   simp only[bK] at hb;rcases((ih b).2 hb).2 with h1|⟨Y,hY,_⟩
   ·exact dO h1
   ·simp at hY
 |_::_,[],b,X,h=>by simp[rX] at h
 |none::hr,aj::hx,b,X,h=>by
  simp only[rX] at h;have ih:=fun b=>sc (b:=b) (X:=X) h
  refine⟨by have:=(ih 0).1;simpa using this,fun hb=>?_⟩
  cases b with
  |zero=>simp at hb
  |succ b=>simp only[bK,cy] at hb ⊢;exact⟨fun cd=>((ih b).2 hb).1 (by omega),((ih b).2 hb).2⟩
 |none::_,aa _::_,b,X,h=>by simp[rX] at h
 |some Y::hr,aj::hx,b,X,h=>by
  simp only[rX] at h;have ih:=fun b=>sc (b:=b) (X:=X) h
  refine⟨by have:=(ih 0).1;simpa using this,fun hb=>?_⟩
  cases b with
  |zero=>simp at hb
  |succ b=>simp only[bK,cy] at hb ⊢;exact⟨fun cd=>((ih b).2 hb).1 (by omega),((ih b).2 hb).2⟩
 |some Y::hr,aa X'::hx,b,X,h=>by
  simp only[rX,aM,jY,m8] at h;have ih:=fun b=>sc (b:=b) (X:=X) h.2
  refine⟨by have:=(ih 0).1;simpa using this,fun hb=>?_⟩
  cases b with
  |zero =>
   simp only[cf,cv] at hb;subst hb;exact⟨fun _=>⟨Y,by simp⟩,h.1.imp id fun hv=>⟨Y,by simp,hv⟩⟩
  |succ b=>simp only[bK,cy] at hb ⊢;exact⟨fun cd=>((ih b).2 hb).1 (by omega),((ih b).2 hb).2⟩
theorem Ac {f:Nat->Bool}:∀ {n i:Nat},Gt f n=ao->i<n->f i=ao
 |0,i,_,h=>by omega
 |n+1,i,h,hi=>by
  simp only[Gt,aM] at h
  by_cases he:i=n
  ·rw[he];exact h.1
  ·exact Ac h.2 (by omega)
theorem Mq {n i:Nat} {a:Rec R}:∀ {l:List (Rec R)} {j k:Nat} {b:Rec R},Lz n i a j l=ao->l[k]?=aa b->Fw n i (j+k) a b=ao
 |[],j,k,b,_,h=>by simp at h
 |b0::l,j,k,b,h,hk=>by
  simp only[Lz,aM] at h;cases k with
  |zero=>simp only[cf,cv] at hk;subst hk;exact h.1
  |succ k =>
   simp only[bK] at hk;have:=Mq h.2 hk
   rwa [show j+1+k=j+(k+1) by omega] at this
theorem Ke {n:Nat}:∀ {l:List (Rec R)} {i0 i j:Nat} {a b:Rec R},B2 n i0 l=ao->l[i]?=aa a->l[j]?=aa b->i<j->Fw n (i0+i) (i0+j) a b=ao
 |[],_,i,j,a,b,_,h,_,_=>by simp at h
 |a0::l,i0,i,j,a,b,h,hi,hj,cd=>by
  simp only[B2,aM] at h;cases j with
  |zero=>omega
  |succ j =>
   simp only[bK] at hj;cases i with
   |zero =>
    simp only[cf,cv] at hi;subst hi;have:=Mq h.1 hj
    rwa [show i0+1+j=i0+(j+1) by omega] at this
   |succ i =>
    simp only[bK] at hi;have:=Ke h.2 hi hj (by omega)
    rwa [show i0+1+i=i0+(i+1) by omega,show i0+1+j=i0+(j+1) by omega] at this
end
end Rx
namespace Rx
open Go.RowKit State
section
variable {R:Type} {D:fR R} {P:Program} {T:eM R}
structure afl (P:Program) (T:eM R) (ops:List Oper) (cl:SS R) (ahead:List (Rec R)) (i:Nat) (r:Rec R):Prop where
 o:ops[i]?=aa r.o
 pre:L1 ahead r.o.after.toList=aa r.pre
 X4:(HI ahead r.pre r.o.guard=1/\r.v=undef/\r.lit=aj/\r.hr=[]/\r.hx=[]/\r.w=an) ∨
  (HI ahead r.pre r.o.guard=0/\∃ x,(∃ b,goes (HO P T (o6 ops cl ahead r.pre r.o) r.o) b/\ME P T (o6 ops cl ahead r.pre r.o) r.o b=aa x)/\E7 cl (o6 ops cl ahead r.pre r.o) r.o x=ao/\x.vc /\
   r.v=x.v/\(∀ b,r.lit=aa b->x.lit=aa b∨x.v=.bool b)/\r.hr=(o6 ops cl ahead r.pre r.o).hp/\r.hx=x.hp/\r.w = !x.wr.isEmpty/\r.wl=x.wr)
def Du (P:Program) (T:eM R) (ops:List Oper) (cl:SS R) (recs:List (Rec R)):Prop:=∀ i r,recs[i]?=aa r->afl P T ops cl (recs.take i) i r
theorem Du.add {ops:List Oper} {cl:SS R} {recs:List (Rec R)} {r:Rec R} (h:Du P T ops cl recs) (hr:afl P T ops cl recs recs.length r):Du P T ops cl (AQ recs r):=by
 intro i q hq;unfold AQ at hq ⊢;rcases ct i recs.length with cd|ki
 ·rw[da cd] at hq;rw[BI (by omega)]
  exact h i q hq
 ·rw[dW ki] at hq;have:i=recs.length:=by
   rcases ct recs.length i with cd|hle
   ·rw[df (by simp;omega)] at hq;cases hq
   ·omega
  subst this;simp at hq;subst hq;rw[List.take_left']
  ·exact hr
  ·rfl
theorem ad5 {e:Bool} {p q:Prop} (h:Zz e p q) (he:e=ao->p):p/\q:=by
 cases e with
 |true=>exact⟨he rfl,h⟩
 |false=>exact⟨h.1.out,h.2⟩
theorem Ds {ops:List Oper} {cl:SS R} {we:List (Nat×Bool)} {k:List (Rec R)->Prop} {fk:Nat->Bool->Prop}:∀ (l:List Oper) {recs:List (Rec R)},ops.drop recs.length=l->Du P T ops cl recs ->
  Dr P T ops cl we k fk l recs->(∃ IJ,IJ.length=ops.length/\Du P T ops cl IJ/\k IJ)∨∃ t c,fk t c
 |[],recs,hl,uz,h=>by
  rcases ct recs.length ops.length with cd|ki
  ·exact absurd hl (by rw[Jk];omega)
  ·-- not ao_ aqG the operations
   refine dO ⟨recs,?_,uz,h⟩;rcases ct ops.length recs.length with cd|hle
   ·have hq:recs[ops.length]?=aa (recs[ops.length]):=bc cd;have:=(uz _ _ hq).o;rw[df (a_ _)] at this;cases this
   ·omega
 |o::l,recs,hl,uz,h=>by
  have ho:ops[recs.length]?=aa o:=by
   have:=congrArg (fun m=>m[0]?) hl
   simpa [o_] using this
  have T4:∀ r:Rec R,ops.drop (AQ recs r).length=l:=fun r=>by
   unfold AQ;rw[bE,rC,← sF,hl]
   rfl
  simp only[Dr,Vi,aa4,abu,Kj] at h;split at h
  ·exact h.elim
  ·rename_i pre hp;have za:(⟨xm ops cl recs pre o,KV ops cl.li recs pre (tmpsOf o.op.operands.toList),lj cl.hp recs (mem pre) (mem (TJ o (tc (Gz (xm ops cl recs pre o))) (lj cl.hp recs (mem pre) (fun _=>ao) 0 (fp recs cl.hp.length)))) 0 (fp recs cl.hp.length)⟩:SS R)=o6 ops cl recs pre o:=rfl
   have hsh:lj cl.hp recs (mem pre) (mem (TJ o (tc (Gz (xm ops cl recs pre o))) (lj cl.hp recs (mem pre) (fun _=>ao) 0 (fp recs cl.hp.length)))) 0 (fp recs cl.hp.length)=(o6 ops cl recs pre o).hp:=rfl
   simp only[za] at h;simp only[hsh] at h;split at h
   ·rename_i hg
    have one:∀ b,goes (HO P T (o6 ops cl recs pre o) o) b->HJ P T cl we o pre (xm ops cl recs pre o) (KV ops cl.li recs pre (tmpsOf o.op.operands.toList)) (o6 ops cl recs pre o).hp (fun r=>Dr P T ops cl we k fk l (AQ recs r)) b ->
      (∃ IJ,IJ.length=ops.length/\Du P T ops cl IJ/\k IJ)∨∃ t c,fk t c:=by
     intro su Ot h;simp only[HJ,Kj,Zq,agk] at h;have ZC:(⟨xm ops cl recs pre o,KV ops cl.li recs pre (tmpsOf o.op.operands.toList),(o6 ops cl recs pre o).hp⟩:SS R)=o6 ops cl recs pre o:=rfl;simp only[ZC] at h;split at h
     ·exact h.elim
     ·rename_i x hx;split at h
      ·rename_i hs;obtain⟨PD,h⟩:=ad5 h (X6 hx);split at h
       ·rename_i b hb;exact Ds l (T4 _) (uz.add ⟨ho,hp,e_ ⟨hg,x,⟨su,Ot,hx⟩,hs,PD,rfl,(fun c hc=>dO (by rw[hb];exact hc)),rfl,rfl,rfl,rfl⟩⟩) h
       ·rename_i hb;split at h
        ·rename_i b JI;exact Ds l (T4 _) (uz.add ⟨ho,hp,e_ ⟨hg,x,⟨su,Ot,hx⟩,hs,PD,h.1.out.symm,(fun c hc=>e_ (by injection hc with hc;subst hc;exact h.1.out)),rfl,rfl,rfl,rfl⟩⟩) h.2
        ·exact Ds l (T4 _) (uz.add ⟨ho,hp,e_ ⟨hg,x,⟨su,Ot,hx⟩,hs,PD,rfl,(fun c hc=>by cases hc),rfl,rfl,rfl,rfl⟩⟩) h
      ·exact h.elim
    split at h
    ·rename_i hf;exact one ao (dO ⟨hf,rfl⟩) h
    ·rename_i c hf;cases c with
     |true=>exact one ao (e_ hf) (h.1 rfl)
     |false=>exact one an (e_ hf) (h.2 rfl)
   ·rename_i hg;exact Ds l (T4 _) (uz.add ⟨ho,hp,dO ⟨hg,rfl,rfl,rfl,rfl,rfl⟩⟩) h
   ·split at h
    ·split at h
     ·split at h
      ·exact e_ ⟨_,_,h⟩
      ·exact h.elim
     ·exact h.elim
    ·exact h.elim
   ·exact h.elim
theorem Ld {ops:List Oper} {cl:SS R} {k:SS R->Prop}:∀ (n:Nat) {we:List (Nat×Bool)},E_ P T ops cl k n we ->
  ∃ recs,recs.length=ops.length/\Du P T ops cl recs/\B2 (fp recs cl.hp.length) 0 recs=ao/\allKnown cl.hp.length recs recs=ao/\k (Bl ops cl recs)
 |0,we,h=>h.elim
 |n+1,we,h=>by
  simp only[E_,KX] at h;rcases Ds ops (recs:=[]) rfl (fun i r hr=>by simp at hr) h with⟨recs,h1,h2,h3⟩|⟨t,c,h3⟩
  ·split at h3
   ·rename_i hb;rw[aM] at hb;exact⟨recs,h1,h2,hb.1,hb.2,h3⟩
   ·exact h3.elim
  ·cases c with
   |true=>exact Ld n (h3.1 rfl)
   |false=>exact Ld n (h3.2 rfl)
structure Good (P:Program) (T:eM R) (ops:List Oper) (cl:SS R) (recs:List (Rec R)):Prop where
 len:recs.length=ops.length
 all:Du P T ops cl recs
 amh:B2 (fp recs cl.hp.length) 0 recs=ao
 known:allKnown cl.hp.length recs recs=ao
variable {ops:List Oper} {cl:SS R} {recs:List (Rec R)}
theorem Good.P0 (g:Good P T ops cl recs):∀ (i:Nat) {r:Rec R} {j:Nat},recs[i]?=aa r->j∈r.pre->j<i:=by
 intro i
 induction i using tW with
 |_ i ih =>
  intro r j hr hj;obtain⟨_,h2⟩:=F_ (g.all i r hr).pre;obtain⟨e,_,_,q,hq,Vj⟩:=h2 j hj;have cd:e.on<i:=by
   have:=(aU.1 hq).1;rw[ej] at this;omega
  rcases Vj with rfl|Vj
  ·exact cd
  ·have:=ih e.on cd (r:=q) (j:=j) (by rw[FU cd] at hq;exact hq) Vj
   omega
theorem Good.akT (g:Good P T ops cl recs) {i:Nat} {r:Rec R} (hr:recs[i]?=aa r):∀ j,i≤j->mem r.pre j=an:=fun j hj=>by
 cases hm:mem r.pre j with
 |false=>rfl
 |true=>have:=g.P0 i hr (mem_iff.1 hm);omega
theorem Good.pair (g:Good P T ops cl recs) {i j:Nat} {a b:Rec R} (hi:recs[i]?=aa a) (hj:recs[j]?=aa b) (cd:i<j):Fw (fp recs cl.hp.length) i j a b=ao:=by
 have:=Ke g.amh hi hj cd
 simpa using this
theorem DY {r:Rec R}:E6 r=ao↔r.hr.length<r.hx.length:=by simp[E6,fo]
theorem Ar {r:Rec R} {b:Nat}:newAt r b=ao↔r.hr.length≤b/\b<r.hx.length:=by simp[newAt,fo]
theorem qQ {h:Hp R} {b:Nat}:Iw h b=ao↔∃ X,h[b]?=aa (aa X)/\ij X=an:=by
 unfold Iw
 constructor
 ·intro hh;split at hh
  ·rename_i X hX;exact⟨X,hX,by simpa using hh⟩
  ·cases hh
 ·intro⟨X,hX,hv⟩;rw[hX];simp[hv]
theorem Good.hr (g:Good P T ops cl recs) {i:Nat} {r:Rec R} (hr:recs[i]?=aa r):r.hr=[]/\r.hx=[]/\r.w=an ∨
  ∃ sel,r.hr=lj cl.hp recs (mem r.pre) sel 0 (fp (recs.take i) cl.hp.length):=by
 rcases(g.all i r hr).X4 with⟨_,_,_,h1,h2,h3⟩|⟨_,x,_,_,_,_,_,h1,_,_⟩
 ·exact dO ⟨h1,h2,h3⟩
 ·refine e_ ⟨X2 ops cl (recs.take i) r.pre r.o,?_⟩;rw[h1];simp only[o6];have hz:∀ j,i≤j->mem r.pre (0+j)=an:=fun j hj=>by rw[bW];exact g.akT hr j hj
  apply oc;intro b;rcases ct b (fp (recs.take i) cl.hp.length) with cd|ki
  ·rw[(jy _ 0 b).2 cd,(jy _ 0 b).2 cd,Kb recs i 0 _ hz]
  ·rw[df (by rw[(jy _ 0 0).1];exact ki),df (by rw[(jy _ 0 0).1];exact ki)]
theorem Good.EN (g:Good P T ops cl recs) {i b:Nat} {r:Rec R} {X:SB R} (hr:recs[i]?=aa r) (hb:r.hr[b]?=aa (aa X)) :
  b<fp (recs.take i) cl.hp.length/\content (mem r.pre) b recs 0 (gg cl.hp b)=aa X:=by
 rcases g.hr hr with⟨h1,_⟩|⟨sel,h1⟩
 ·rw[h1] at hb;simp at hb
 ·rw[h1] at hb;have cd:b<fp (recs.take i) cl.hp.length:=by
   have:=(aU.1 hb).1
   rwa [(jy _ 0 0).1] at this
  rw[(jy _ 0 b).2 cd,bW] at hb;refine⟨cd,?_⟩;split at hb
  ·injection hb
  ·cases hb
theorem Good.hx (g:Good P T ops cl recs) {i:Nat} {r:Rec R} (hr:recs[i]?=aa r) (hT:cN D P T):r.hr.length≤r.hx.length/\(r.w=an->r.hx=r.hr) /\
  ∀ (b:Nat) (X:SB R),r.hx[b]?=aa (aa X)->(b<r.hr.length->∃ Y,r.hr[b]?=aa (aa Y))/\(ij X=an∨∃ Y,r.hr[b]?=aa (aa Y)/\ij Y=ao):=by
 rcases(g.all i r hr).X4 with⟨_,_,_,h1,h2,h3⟩|⟨_,x,hx,hs,_,_,_,h1,h2,h3,_⟩
 ·refine⟨by rw[h1,h2];exact a_ _,fun _=>by rw[h1,h2],fun b X hb=>?_⟩
  rw[h2] at hb;simp at hb
 ·simp only[E7,aM] at hs;have hb:=fun b X=>sc (b:=b) (X:=X) hs.2
  rw[h1,h2];refine⟨(hs.2 |> sc (b:=0) (X:=.inl (0,[]))).1,fun hw=>?_,fun b X=>(hb b X).2⟩
  obtain⟨su,_,hx⟩:=hx;refine acm hT hx ?_;rw[h3] at hw
  simpa using hw
theorem Good.kept (g:Good P T ops cl recs) {i:Nat} {r:Rec R} (hr:recs[i]?=aa r) (hT:cN D P T) {b:Nat} (hb:b<r.hr.length) (hk:LU r.o r.wl b=ao):r.hx[b]?=r.hr[b]?:=by
 rcases(g.all i r hr).X4 with⟨_,_,_,h1,h2,h3⟩|⟨_,x,hx,hs,_,_,_,h1,h2,_,h4⟩
 ·rw[h1,h2]
 ·obtain⟨su,_,hx⟩:=hx;rw[h1] at hb;rw[h1,h2];rw[h4] at hk;exact ad8 hT hx b hb hk
theorem Good.abN (g:Good P T ops cl recs) {i:Nat} {r:Rec R} (hr:recs[i]?=aa r) (h:E6 r=ao∨r.w=ao):r.hr.length=fp (recs.take i) cl.hp.length:=by
 rcases g.hr hr with⟨h1,h2,h3⟩|⟨sel,h1⟩
 ·rcases h with h|h
  ·rw[DY,h1,h2] at h;simp at h
  ·rw[h3] at h;cases h
 ·rw[h1,(jy _ 0 0).1]
theorem Good.afy (g:Good P T ops cl recs) {i:Nat} {r:Rec R} (hr:recs[i]?=aa r):r.hr.length≤fp (recs.take i) cl.hp.length:=by
 rcases g.hr hr with⟨h1,_⟩|⟨sel,h1⟩
 ·rw[h1];simp
 ·rw[h1,(jy _ 0 0).1];exact a_ _
theorem Good.abl (g:Good P T ops cl recs) {i:Nat} {r:Rec R} (hr:recs[i]?=aa r):fp (recs.take (i+1)) cl.hp.length=if E6 r then r.hx.length else fp (recs.take i) cl.hp.length:=by
 rw[List.take_add_one,hr];exact Xx _ _ _
theorem Good.alo (g:Good P T ops cl recs) (i:Nat):fp (recs.take i) cl.hp.length≤fp (recs.take (i+1)) cl.hp.length:=by
 rcases ct i recs.length with cd|ki
 ·have hr:recs[i]?=aa recs[i]:=bc cd;rw[g.abl hr];split
  ·rename_i ha;have h1:=g.abN hr (dO ha);have:=DY.1 ha;omega
  ·exact a_ _
 ·rw[jw ki,jw (by omega)]
  exact a_ _
theorem Good.Qy (g:Good P T ops cl recs) {i j:Nat} (h:i≤j):fp (recs.take i) cl.hp.length≤fp (recs.take j) cl.hp.length:=by
 induction j with
 |zero =>
  have:i=0:=by omega
  rw[this];exact a_ _
 |succ j ih =>
  by_cases he:i=j+1
  ·rw[he];exact a_ _
  ·exact jz (ih (by omega)) (g.alo j)
theorem Good.afH (g:Good P T ops cl recs) (i:Nat):cl.hp.length≤fp (recs.take i) cl.hp.length:=by
 have:=g.Qy (dv i)
 rwa [sE] at this
theorem Good.Np (g:Good P T ops cl recs) (i:Nat):fp (recs.take i) cl.hp.length≤fp recs cl.hp.length:=by
 rcases Nat.le_total i recs.length with h|h
 ·have:=g.Qy h
  rwa [jB] at this
 ·rw[jw h];exact a_ _
theorem Good.afo (g:Good P T ops cl recs) (hT:cN D P T) {i:Nat} {r:Rec R} (hr:recs[i]?=aa r):r.hx.length≤fp (recs.take (i+1)) cl.hp.length:=by
 rw[g.abl hr];split
 ·exact a_ _
 ·rename_i ha;have h1:=g.afy hr;have:¬ r.hr.length<r.hx.length:=fun h=>ha (DY.2 h)
  omega
theorem Good.acI (g:Good P T ops cl recs) (hT:cN D P T) {i:Nat} {r:Rec R} (hr:recs[i]?=aa r):r.hx.length≤fp recs cl.hp.length:=jz (g.afo hT hr) (g.Np _)
theorem Good.OW (g:Good P T ops cl recs) (hT:cN D P T) {i b:Nat} {r:Rec R} (hr:recs[i]?=aa r) (h:newAt r b=ao):fp (recs.take i) cl.hp.length≤b/\b<fp (recs.take (i+1)) cl.hp.length:=by
 obtain⟨h1,h2⟩:=Ar.1 h;have ha:E6 r=ao:=DY.2 (by omega)
 have h3:=g.abN hr (dO ha);have h4:=g.afo hT hr;omega
theorem Good.Hv (g:Good P T ops cl recs) (hT:cN D P T) {i b:Nat} {r:Rec R} (hr:recs[i]?=aa r) (h:newAt r b=ao):cl.hp.length≤b:=jz (g.afH i) (g.OW hT hr h).1
theorem Good.ak1 (g:Good P T ops cl recs) (hT:cN D P T) {i b:Nat} {r:Rec R} (hr:recs[i]?=aa r) (h:newAt r b=ao):b<fp recs cl.hp.length:=lH (g.OW hT hr h).2 (g.Np _)
theorem Good.RT (g:Good P T ops cl recs) (hT:cN D P T) {i j c:Nat} {a b:Rec R} (hi:recs[i]?=aa a) (hj:recs[j]?=aa b) (ha:newAt a c=ao) (hb:newAt b c=ao):i=j:=by
 have h1:=g.OW hT hi ha;have h2:=g.OW hT hj hb;rcases od i j with h|h|h
 ·have:=g.Qy (show i+1≤j from h)
  omega
 ·exact h
 ·have:=g.Qy (show j+1≤i from h)
  omega
theorem Good.adZ (g:Good P T ops cl recs) (hT:cN D P T) {i b:Nat} {r:Rec R} {X:SB R} (hr:recs[i]?=aa r) (ht:gQ r b=ao) (hb:gg r.hx b=aa X):ij X=an:=by
 have hx:r.hx[b]?=aa (aa X):=by
  unfold gg at hb;split at hb
  ·rename_i hh;rw[hh,hb]
  ·cases hb
 rcases((g.hx hr hT).2.2 b X hx).2 with h|⟨Y,hY,hv⟩
 ·exact h
 ·simp only[gQ,aM,jY] at ht;rcases ht.2 with h|h
  ·obtain⟨Z,hZ,WQ⟩:=qQ.1 h.1;rw[hY] at hZ;injection hZ with hZ;injection hZ with hZ
   subst hZ;rw[hv] at WQ;cases WQ
  ·have h1:=(Ar.1 h).1;have:=(aU.1 hY).1;omega
theorem Good.adS (g:Good P T ops cl recs) (hT:cN D P T) {p:Nat->Bool} {b:Nat} {X:SB R} (h:content p b recs 0 (gg cl.hp b)=aa X) (hv:ij X=ao):gg cl.hp b=aa X:=by
 rcases uP (p:=p) (b:=b) recs 0 (gg cl.hp b) with e|⟨i,r,hr,_,ht,e⟩
 ·rw[← e];exact h
 ·rw[e] at h;have:=g.adZ hT hr ht h;rw[hv] at this;cases this
theorem Pe {α:Type} {h:List (Option α)} {b:Nat} {X:α} (hh:gg h b=aa X):b<h.length:=by
 unfold gg at hh;split at hh
 ·rename_i hx;exact(aU.1 hx).1
 ·cases hh
theorem Good.acr (g:Good P T ops cl recs) (hT:cN D P T) {b:Nat} {X:SB R} (h:gg cl.hp b=aa X) (hv:ij X=ao):∀ (i:Nat) {r:Rec R},recs[i]?=aa r->gQ r b=an:=by
 intro i
 induction i using tW with
 |_ i ih =>
  intro r hr;cases ht:gQ r b with
  |false=>rfl
  |true =>
   exfalso
   simp only[gQ,aM,jY] at ht;rcases ht.2 with h1|h1
   ·obtain⟨Y,hY,WQ⟩:=qQ.1 h1.1;obtain⟨_,hc⟩:=g.EN hr hY;rcases uP (p:=mem r.pre) (b:=b) recs 0 (gg cl.hp b) with e|⟨j,q,hq,hp,MK,e⟩
    ·rw[e,h] at hc;injection hc with hc
     subst hc;rw[hv] at WQ;cases WQ
    ·rw[bW] at hp;rw[ih j (g.P0 i hr (mem_iff.1 hp)) hq] at MK;cases MK
   ·have h2:=g.Hv hT hr h1;have:=Pe h;omega
theorem Good.NI (g:Good P T ops cl recs) {i j:Nat} {a b:Rec R} (hi:recs[i]?=aa a) (hj:recs[j]?=aa b) (cd:i<j) (hn:mem b.pre i=an) {c:Nat} (hc:c<fp recs cl.hp.length) :
  ¬ (gQ a c=ao/\DH b c=ao)/\¬ (gQ b c=ao/\DH a c=ao):=by
 have:=g.pair hi hj cd;simp only[Fw,aM,jY,m8] at this;obtain⟨_,h2⟩:=this;rcases h2 with h2|h3
 ·rw[hn] at h2;cases h2
 ·have key:(a.w=ao∨b.w=ao)->((gQ a c&&DH b c)||(gQ b c&&DH a c))=an:=fun hw=>by
   have hw':(a.w||b.w)=ao:=by simpa using hw
   rw[hw',js] at h3;unfold afB at h3;simp only[Bool.not_eq_false'] at h3;have:=Ac h3 hc
   simpa only [m8] using this
  refine⟨fun⟨h5,h6⟩=>?_,fun⟨h5,h6⟩=>?_⟩
  ·have hw:a.w=ao:=by simp only[gQ,aM] at h5;exact h5.1
   have:=key (dO hw);rw[h5,h6] at this;simp at this
  ·have hw:b.w=ao:=by simp only[gQ,aM] at h5;exact h5.1
   have:=key (e_ hw);rw[h5,h6] at this;simp at this
structure Next (recs:List (Rec R)) (p:Nat->Bool) (i:Nat) (r:Rec R):Prop where
 at_:recs[i]?=aa r
 new:p i=an
 pre:∀ j,j∈r.pre->p j=ao
 closed:∀ j q,p j=ao->recs[j]?=aa q->∀ l∈q.pre,p l=ao
variable {p:Nat->Bool} {i:Nat} {r:Rec R}
theorem Next.alone (n:Next recs p i r) (g:Good P T ops cl recs) {j:Nat} {q:Rec R} (hq:recs[j]?=aa q) (hp:p j=ao) (hm:mem r.pre j=an) {c:Nat} (hc:c<fp recs cl.hp.length) :
  ¬ (gQ q c=ao/\DH r c=ao)/\¬ (gQ r c=ao/\DH q c=ao):=by
 rcases ct j i with cd|ki
 ·exact g.NI hq n.at_ cd hm hc
 ·have kG:j≠i:=fun e=>by rw[e,n.new] at hp;cases hp
  have cd:i<j:=by omega
  have hn:mem q.pre i=an:=by
   cases Ki:mem q.pre i with
   |false=>rfl
   |true =>
    have:=n.closed j q hp hq i (mem_iff.1 Ki);rw[n.new] at this;cases this
  obtain⟨h1,h2⟩:=g.NI n.at_ hq cd hn hc;exact⟨h2,h1⟩
theorem Next.later (n:Next recs p i r) (g:Good P T ops cl recs) {j:Nat} {q:Rec R} (hq:recs[j]?=aa q) (hp:p j=ao) (cd:i<j):mem q.pre i=an:=by
 cases Ki:mem q.pre i with
 |false=>rfl
 |true =>
  have:=n.closed j q hp hq i (mem_iff.1 Ki);rw[n.new] at this;cases this
theorem Next.sub (n:Next recs p i r) (g:Good P T ops cl recs) (hT:cN D P T) {b:Nat} {X:SB R} (hb:r.hr[b]?=aa (aa X)):content p b recs 0 (gg cl.hp b)=aa X:=by
 obtain⟨cd,hc⟩:=g.EN n.at_ hb;rw[← hc];refine wa recs 0 _ fun j q hq ht=>?_
 rw[bW];cases hv:ij X with
 |true =>
  have:=g.acr hT (g.adS hT hc hv) hv j hq;rw[ht] at this;cases this
 |false =>
  cases hm:mem r.pre j with
  |true=>exact n.pre j (mem_iff.1 hm)
  |false =>
   cases hp:p j with
   |false=>rfl
   |true =>
    have Vk:b<fp recs cl.hp.length:=lH cd (g.Np i);exact absurd ⟨ht,by simp only[DH,jY];exact dO (qQ.2 ⟨X,hb,hv⟩)⟩ (n.alone g hq hp hm Vk).1
def rI (p:Nat->Bool) (i:Nat):Nat->Bool:=fun j=>fj j i||p j
theorem z8 (p:Nat->Bool) (i:Nat):rI p i i=ao:=by simp[rI]
theorem yk (p:Nat->Bool) {i j:Nat} (h:j≠i):rI p i j=p j:=by
 have:fj j i=an:=by
  cases hb:fj j i with
  |false=>rfl
  |true=>exact absurd (cQ hb) h
 simp[rI,this]
theorem Next.D6 (n:Next recs p i r) {b:Nat} (ht:gQ r b=an):content (rI p i) b recs 0 (gg cl.hp b)=content p b recs 0 (gg cl.hp b):=by
 refine wa recs 0 _ fun j q hq MK=>?_
 rw[bW];refine yk p fun e=>?_
 subst e;rw[n.at_] at hq;injection hq with hq
 subst hq;rw[ht] at MK;cases MK
theorem Next.Xo (n:Next recs p i r) (g:Good P T ops cl recs) (hT:cN D P T) {b:Nat} (ht:gQ r b=ao):content (rI p i) b recs 0 (gg cl.hp b)=gg r.hx b:=by
 have Jg:DH r b=ao:=by
  simp only[gQ,aM,jY] at ht;simp only[DH,jY];exact ht.2.imp (fun h=>h.1) id
 have hb:b<fp recs cl.hp.length:=by
  simp only[DH,jY] at Jg;rcases Jg with h|h
  ·obtain⟨X,hX,_⟩:=qQ.1 h;exact lH (g.EN n.at_ hX).1 (g.Np i)
  ·exact g.ak1 hT n.at_ h
 refine Lc recs 0 _ i r n.at_ (by rw[bW];exact z8 p i) ht fun j q hq cd hp=>?_
 rw[bW,yk p (by omega)] at hp
 cases MK:gQ q b with
 |false=>rfl
 |true=>exact absurd ⟨MK,Jg⟩ (g.NI n.at_ hq cd (n.later g hq hp cd) hb).2
theorem Next.akd (n:Next recs p i r) (g:Good P T ops cl recs) (hT:cN D P T) {b:Nat} (hb:newAt r b=ao):∀ (j:Nat) {q:Rec R},p j=ao->recs[j]?=aa q->gQ q b=an:=by
 intro j
 induction j using tW with
 |_ j ih =>
  intro q hp hq;cases ht:gQ q b with
  |false=>rfl
  |true =>
   exfalso
   simp only[gQ,aM,jY] at ht;rcases ht.2 with h1|h1
   ·obtain⟨Y,hY,_⟩:=qQ.1 h1.1;obtain⟨_,hc⟩:=g.EN hq hY;rcases uP (p:=mem q.pre) (b:=b) recs 0 (gg cl.hp b) with e|⟨l,q',hq',xc,MK,e⟩
    ·rw[e] at hc;have:=Pe hc;have:=g.Hv hT n.at_ hb;omega
    ·rw[bW] at xc;rw[ih l (g.P0 j hq (mem_iff.1 xc)) (n.closed j q hp hq l (mem_iff.1 xc)) hq'] at MK;cases MK
   ·have:=g.RT hT n.at_ hq hb h1;rw[← this,n.new] at hp;cases hp
theorem Next.aeC (n:Next recs p i r) (g:Good P T ops cl recs) (hT:cN D P T) {b:Nat} (hb:newAt r b=ao):content p b recs 0 (gg cl.hp b)=aj:=by
 rcases uP (p:=p) (b:=b) recs 0 (gg cl.hp b) with e|⟨j,q,hq,hp,ht,e⟩
 ·rw[e];cases h:gg cl.hp b with
  |none=>rfl
  |some X =>
   have:=Pe h;have:=g.Hv hT n.at_ hb;omega
 ·rw[bW] at hp;rw[n.akd g hT hb j hp hq] at ht;cases ht
theorem Next.V0 (n:Next recs p i r) (g:Good P T ops cl recs) (hT:cN D P T) {j:Nat} {q:Rec R} (hq:recs[j]?=aa q) (hp:p j=ao) {b:Nat} (h:Cc cl.hp.length recs q b=ao):(!newAt r b)=ao:=by
 cases hb:newAt r b with
 |false=>rfl
 |true =>
  exfalso
  simp only[Cc,jY,fo] at h;rcases h with(h|h)|h
  ·have:=g.Hv hT n.at_ hb;omega
  ·have:=g.RT hT n.at_ hq hb h;rw[← this,n.new] at hp;cases hp
  ·obtain⟨l,q',h1,h2,h3⟩:=Qb h;have:=g.RT hT n.at_ h2 hb h3;have Jz:=n.closed j q hp hq l h1;rw[← this,n.new] at Jz;cases Jz
theorem Next.agI (n:Next recs p i r) (g:Good P T ops cl recs) (hT:cN D P T) (UD:∀ b t cs,gg cl.hp b=aa (.inl (t,cs))->iJ cl.hp.length cs=ao) {b:Nat} {t:TypeId} {cs:List Value}
  (h:content p b recs 0 (gg cl.hp b)=aa (.inl (t,cs))):Bw (fun b=>!newAt r b) cs=ao:=by
 rcases uP (p:=p) (b:=b) recs 0 (gg cl.hp b) with e|⟨j,q,hq,hp,ht,e⟩
 ·rw[e] at h;refine Ej (fun c hc=>?_) cs (UD b t cs h)
  cases hb:newAt r c with
  |false=>rfl
  |true=>have:=g.Hv hT n.at_ hb;omega
 ·rw[bW] at hp;rw[e] at h;have hx:q.hx[b]?=aa (aa (.inl (t,cs))):=by
   unfold gg at h;split at h
   ·rename_i hh;rw[hh,h]
   ·cases h
  exact Cf (fun c hc=>n.V0 g hT hq hp hc) cs (Yv (Fk g.known hq).2 hx)
end
end Rx
namespace Rx
open Go.RowKit State
section
variable {R:Type} {D:fR R} {P:Program} {T:eM R} {C:Ctx} {ops:List Oper} {cl:SS R} {recs:List (Rec R)} {w w':World}
theorem Good.recAt (g:Good P T ops cl recs) {j:Nat} {o:Oper} (h:ops[j]?=aa o):∃ r,recs[j]?=aa r/\r.o=o:=by
 have hl:j<recs.length:=by rw[g.len];exact(aU.1 h).1
 have hr:recs[j]?=aa recs[j]:=bc hl;refine⟨_,hr,?_⟩;have:=(g.all j _ hr).o;rw[h] at this;injection this with this
 exact this.symm
theorem Good.aj' (g:Good P T ops cl recs) {i j:Nat} {a b:Oper} {t:Tmp} (hi:ops[i]?=aa a) (hj:ops[j]?=aa b) (ha:a.dst=aa t) (hb:b.dst=aa t):i=j:=by
 have key:∀ (i j:Nat) (a b:Oper),ops[i]?=aa a->ops[j]?=aa b->a.dst=aa t->b.dst=aa t->i<j->False:=by
  intro i j a b hi hj ha hb cd;obtain⟨ra,h1,h2⟩:=g.recAt hi;obtain⟨rb,h3,h4⟩:=g.recAt hj;have:=g.pair h1 h3 cd;simp only[Fw,aM,h2,h4,ha,hb] at this;have:=this.1;simp at this
 rcases od i j with h|h|h
 ·exact(key i j a b hi hj ha hb h).elim
 ·exact h
 ·exact(key j i b a hj hi hb ha h).elim
theorem Good.KY (g:Good P T ops cl recs) {i:Nat} {a:Oper} {t:Tmp} (hi:ops[i]?=aa a) (ha:a.dst=aa t):nB ops t 0=aa i:=by
 have:=UG (i0:=0) hi ha fun j o' hj cd e=>by
  have:=g.aj' hj hi e ha;omega
 rwa [bW] at this
theorem RE {t j:Nat} (h:nB ops t 0=aa j):∃ o,ops[j]?=aa o/\o.dst=aa t:=by
 obtain⟨k,o,h1,h2,h3⟩:=Xj h;rw[bW] at h1;subst h1;exact⟨o,h2,h3⟩
theorem XQ {pre tms:List Nat}:∀ {l:List (Option Value)} {t0 i:Nat} {x:Option Value},l[i]?=aa x->(Fb ops recs pre tms t0 l)[i]?=aa (if mem tms (t0+i) then
   match nB ops (t0+i) 0 with
   |some j=>if mem pre j then(match recs[j]? with
    |some r=>aa r.v
    |none=>aj) else if vd recs.length j then x else aj
   |none=>x
  else aj):=by
 intro l
 induction l with
 |nil=>intro t0 i x h;simp at h
 |cons y l ih =>
  intro t0 i x h;cases i with
  |zero =>
   simp only[cf,cv] at h;subst h;simp only[Fb,cf,gZ]
   all_goals rfl
  |succ i =>
   simp only[bK] at h;simp only[Fb,bK];rw[ih (t0:=t0+1) h,show t0+1+i=t0+(i+1) by omega]
theorem IN {i j:Nat} {r:Rec R} (h:(recs.take i)[j]?=aa r):j<i/\recs[j]?=aa r:=by
 have cd:j<i:=by
  have:=(aU.1 h).1;rw[ej] at this;omega
 rw[FU cd] at h;exact⟨cd,h⟩
theorem Good.lit (g:Good P T ops cl recs) (hT:cN D P T) (ou:LI cl.li cl.tm):∀ (i:Nat) {r:Rec R},recs[i]?=aa r ->
  (∀ b,r.lit=aa b->r.v=.bool b/\∀ t,r.o.dst=aa t->t<cl.tm.length) /\
  ∀ x,E7 cl (o6 ops cl (recs.take i) r.pre r.o) r.o x=ao->LI (o6 ops cl (recs.take i) r.pre r.o).li (o6 ops cl (recs.take i) r.pre r.o).tm:=by
 intro i
 induction i using tW with
 |_ i ih =>
  intro r hr;have hLI:LI (o6 ops cl (recs.take i) r.pre r.o).li (o6 ops cl (recs.take i) r.pre r.o).tm:=by
   intro t b DR;simp only[o6] at DR ⊢;obtain⟨h1,h2⟩:=aeS DR;rcases h2 with⟨j,q,h3,h4,h5,h6⟩|⟨h3,h4⟩
   ·obtain⟨hji,hq⟩:=IN h5;obtain⟨o,ho,hd⟩:=RE h3;have Yc:q.o=o:=by
     have:=(g.all j q hq).o;rw[ho] at this;injection this with this
     exact this.symm
    obtain⟨hv,ht⟩:=(ih j hji hq).1 b h6;have cd:=ht t (by rw[Yc];exact hd)
    have:=XQ (ops:=ops) (recs:=recs.take i) (pre:=r.pre) (tms:=tmpsOf r.o.op.operands.toList) (t0:=0) (bc cd);rw[bW,mem_iff.2 h1,h3] at this;simp only[if_true,mem_iff.2 h4,h5,hv] at this;exact this
   ·have h5:=ou t b h4;have:=XQ (ops:=ops) (recs:=recs.take i) (pre:=r.pre) (tms:=tmpsOf r.o.op.operands.toList) (t0:=0) h5;rw[bW,mem_iff.2 h1,h3] at this;simp only[xm]
    simpa using this
  refine⟨fun b hb=>?_,fun _ _=>hLI⟩
  rcases(g.all i r hr).X4 with⟨_,_,h1,_⟩|⟨_,x,hx,hs,_,hv,Za,_⟩
  ·rw[h1] at hb;cases hb
  ·refine⟨?_,fun t ht=>?_⟩
   ·rw[hv];rcases Za b hb with h|h
    ·obtain⟨su,Ot,hx⟩:=hx;exact(UN hT Ot hx (D:=D)).lit hLI b h
    ·exact h
   ·simp only[E7,aM,af5] at hs;have:=hs.1.1.1.2;rw[ht] at this
    simpa [fo] using this
structure zD (D:fR R) (C:Ctx) (ops:List Oper) (cl:SS R) (recs:List (Rec R)) (p:Nat->Bool) (a:Act) (w:World):Prop where
 defers:a.defers=[]
 closed:∀ j q,p j=ao->recs[j]?=aa q->∀ l∈q.pre,p l=ao
 src:∀ b t cs,gg cl.hp b=aa (.inl (t,cs))->iJ cl.hp.length cs=ao
 ex:∃ ρ ft,(∀ i,i<C.n0->ρ i=C.e0 i)/\a.tmps.size=cl.tm.length /\
  (∀ t v,(∀ j,nB ops t 0=aa j->p j=an)->cl.tm[t]?=aa (aa v)->a.tmps[t]?=aa (bV ρ v)/\fD cl.hp.length v=ao) /\
  (∀ t j q,t<cl.tm.length->nB ops t 0=aa j->p j=ao->recs[j]?=aa q->a.tmps[t]?=aa (bV ρ q.v)) /\
  HM D C ρ ft (lj cl.hp recs p (fun _=>ao) 0 (fp recs cl.hp.length)) w
theorem Un (b:Nat) (acc:Option (SB R)):∀ (l:List (Rec R)) (j1:Nat),content (fun _=>an) b l j1 acc=acc:=by
 intro l
 induction l with
 |nil=>intro _;rfl
 |cons r l ih=>intro j1;simp only[content,Cy,fX,if_false];exact ih _
theorem yg {h:Hp R} {b:Nat} (cd:b<h.length):h[b]?=aa (gg h b):=by
 unfold gg;rw[bc cd]
theorem acy {α:Type} {h:List (Option α)} {b:Nat} (ki:h.length≤b):gg h b=aj:=by
 unfold gg;rw[df ki]
theorem zD.start (g:Good P T ops cl recs) (hT:cN D P T) {a:Act} (hm:M D C cl a w):zD D C ops cl recs (fun _=>an) a w:=by
 obtain⟨ρ,ft,h0,h1,h2⟩:=hm.ex;refine⟨hm.defers,(fun j q hp=>by cases hp),(fun b t cs hb=>?_),ρ,ft,h0,h1.size,fun t v _ hv=>h1.val t v hv,(fun t j q _ _ hp=>by cases hp),?_⟩
 ·have cd:=Pe hb;exact(h2.at_ b (.inl (t,cs)) (by rw[yg cd,hb])).2
 ·have hle:=g.Np 0;rw[sE] at hle;simp only[fp] at hle;have:lj cl.hp recs (fun _=>an) (fun _=>ao) 0 (fp recs cl.hp.length)=cl.hp++lC (fp recs cl.hp.length-cl.hp.length) aj:=by
   apply oc;intro b;rcases ct b (fp recs cl.hp.length) with cd|ki
   ·rw[(jy _ 0 b).2 cd,Un,bW];rcases ct b cl.hp.length with aaJ|aiy
    ·rw[da aaJ,yg aaJ]
     rfl
    ·have ant:b-cl.hp.length<fp recs cl.hp.length-cl.hp.length:=by omega
     rw[dW aiy,acy aiy,List.getElem?_replicate,if_pos ant]
     rfl
   ·rw[df (by rw[(jy _ 0 0).1];exact ki),df (by rw[bE,List.length_replicate];omega)]
  rw[this];exact h2.grow _
theorem zD.yield {a:Act} {p:Nat->Bool} (g:Good P T ops cl recs) (hT:cN D P T) (ou:LI cl.li cl.tm) (h:zD D C ops cl recs p a w) {j:Nat} {q:Rec R} {b:Bool} {t:Tmp} (hq:recs[j]?=aa q) (hp:p j=ao)
  (hd:q.o.dst=aa t) (hb:q.lit=aa b):yielded ops.toArray a.tmps j=aa b:=by
 obtain⟨ρ,ft,_,_,_,h4,_⟩:=h.ex;have ho:=(g.all j q hq).o;obtain⟨hv,ht⟩:=(g.lit hT ou j hq).1 b hb;have:=h4 t j q (ht t hd) (g.KY ho hd) hp hq;rw[hv,Wl] at this;exact I5 (by unfold LR;rw[ho];exact hd) this
theorem zD.ajD {a:Act} {p:Nat->Bool} (g:Good P T ops cl recs) (h:zD D C ops cl recs p a w) {j:Nat} {q:Rec R} {t:Tmp} (hq:recs[j]?=aa q) (hp:p j=ao)
  (hd:q.o.dst=aa t) (hv:q.v=vT):yielded ops.toArray a.tmps j=aj:=by
 obtain⟨ρ,ft,_,om,_,h4,_⟩:=h.ex;have ho:=(g.all j q hq).o;have key:a.tmps[t]?=aj∨a.tmps[t]?=aa vT:=by
  rcases ct t cl.tm.length with cd|ki
  ·right
   have:=h4 t j q cd (g.KY ho hd) hp hq;rw[hv] at this
   simpa [vT,bV,nS] using this
  ·left
   exact Array.getElem?_eq_none (by omega)
 unfold yielded;rcases key with key|key<;>simp[ho,hd,key,vT]
theorem zD.step {a:Act} {p:Nat->Bool} (g:Good P T ops cl recs) (hT:cN D P T) (ou:LI cl.li cl.tm) (va:C.n0≤cl.hp.length) (h:zD D C ops cl recs p a w) {i:Nat} {r:Rec R} (n:Next recs p i r)
  {K:Act->World->Prop} {Q:Exit->Act->World->Prop} (hK:∀ a' w',zD D C ops cl recs (rI p i) a' w'->K a' w'):wpOp P ops.toArray Q i K a w:=by
 have ho:=(g.all i r n.at_).o;have SN:∀ j q,rI p i j=ao->recs[j]?=aa q->∀ l∈q.pre,rI p i l=ao:=by
  intro j q hp hq l hl
  by_cases BJ:l=i
  ·subst BJ;exact z8 p l
  ·rw[yk p BJ]
   by_cases hj:j=i
   ·subst hj;rw[n.at_] at hq;injection hq with hq
    subst hq;exact n.pre l hl
   ·rw[yk p hj] at hp;exact h.closed j q hp hq l hl
 obtain⟨ρ,ft,h0,h1,h2,h3,h4⟩:=h.ex;have afF:∀ b,b<cl.hp.length->newAt r b=an:=fun b hb=>by
  cases hh:newAt r b with
  |false=>rfl
  |true=>have:=g.Hv hT n.at_ hh;omega
 have frame:∀ (nI:Env) (KL:Nat->Nat->Prop) (w':World) (v:Value),(∀ b,newAt r b=an->nI b=ρ b) ->
   v=bV nI r.v->HM D C nI KL (lj cl.hp recs (rI p i) (fun _=>ao) 0 (fp recs cl.hp.length)) w' ->
   zD D C ops cl recs (rI p i) (a.put r.o.dst v) w':=by
  intro nI KL w' v qW hv hm;have afq:∀ u,fD cl.hp.length u=ao->bV ρ u=bV nI u:=fun u hu=>nG (n:=cl.hp.length) (fun b hb=>(qW b (afF b hb)).symm) u hu
  have afN:∀ j q,p j=ao->recs[j]?=aa q->bV ρ q.v=bV nI q.v:=fun j q hp hq =>
   Wg (f:=Cc cl.hp.length recs q) (fun b hb=>(qW b (by simpa using n.V0 g hT hq hp hb)).symm) q.v (Fk g.known hq).1
  refine⟨by cases r.o.dst<;>exact h.defers,SN,h.src,nI,KL,fun b hb=>?_,?_,fun t u hd hu=>?_,fun t j q ht hd hp hq=>?_,hm⟩
  ·rw[qW b (afF b (by omega))];exact h0 b hb
  ·cases hd:r.o.dst with
   |none=>exact h1
   |some t=>simp[Cx,h1]
  ·obtain⟨k1,k2⟩:=h2 t u (fun j hj=>by
    have:=hd j hj
    by_cases hji:j=i
    ·subst hji;rw[z8] at this;cases this
    ·rwa [yk p hji] at this) hu
   refine⟨?_,k2⟩;cases xj:r.o.dst with
   |none=>simp only[Cx];rw[k1,afq u k2]
   |some t' =>
    have kG:t'≠t:=fun e=>by
     subst e;have:=hd i (g.KY ho xj);rw[z8] at this;cases this
    simp only[Cx];rw[AF kG,k1,afq u k2]
  ·by_cases hj:j=i
   ·subst hj;rw[n.at_] at hq;injection hq with hq
    subst hq;obtain⟨o,ho',hdo⟩:=RE hd;rw[ho] at ho';injection ho' with ho'
    subst ho';simp only[hdo,Cx];rw[Array.getElem?_setIfInBounds];simp[h1,ht,hv]
   ·rw[yk p hj] at hp;have k1:=h3 t j q ht hd hp hq;cases xj:r.o.dst with
    |none=>simp only[Cx];rw[k1,afN j q hp hq]
    |some t' =>
     have kG:t'≠t:=fun e=>by
      subst e;rw[g.KY ho xj] at hd;injection hd with hd
      exact hj hd.symm
     simp only[Cx];rw[AF kG,k1,afN j q hp hq]
 have guard:∀ (m:Nat),HI (recs.take i) r.pre r.o.guard=m->m<2->kL r.o (yielded ops.toArray a.tmps)=(fj m 0):=by
  intro m hg hm;unfold HI at hg;split at hg
  ·rename_i hgd;subst hg;simp[kL,hgd]
  ·rename_i j want hgd;split at hg
   ·rename_i hmj;split at hg
    ·rename_i q hq;obtain⟨_,hq⟩:=IN hq;split at hg
     ·rename_i t hd;split at hg
      ·rename_i b hb;have hy:=h.yield g hT ou hq (n.pre j (mem_iff.1 hmj)) hd hb;split at hg
       ·rename_i hbw;subst hg;simp[kL,hgd,hy]
        simpa using hbw
       ·rename_i hbw;subst hg;simp[kL,hgd,hy];have:(b==want)=an:=by simpa using hbw
        rw[this]
        rfl
      ·split at hg
       ·rename_i hu;subst hg;have hy:=h.ajD g hq (n.pre j (mem_iff.1 hmj)) hd (OR hu);have e:kL r.o (yielded ops.toArray a.tmps)=((aj:Option Bool)==aa want):=by simp only[kL,hgd,hy]
        rw[e];cases want<;>rfl
       ·omega
     ·omega
    ·omega
   ·omega
 have hL:(lj cl.hp recs p (fun _=>ao) 0 (fp recs cl.hp.length)).length=fp recs cl.hp.length:=(jy _ 0 0).1
 have P3:∀ b,b<fp recs cl.hp.length->(lj cl.hp recs (rI p i) (fun _=>ao) 0 (fp recs cl.hp.length))[b]?=aa (content (rI p i) b recs 0 (gg cl.hp b)):=fun b hb=>by
  rw[(jy _ 0 b).2 hb,bW];simp
 have J2:∀ b,b<fp recs cl.hp.length->(lj cl.hp recs p (fun _=>ao) 0 (fp recs cl.hp.length))[b]?=aa (content p b recs 0 (gg cl.hp b)):=fun b hb=>by
  rw[(jy _ 0 b).2 hb,bW];simp
 unfold wpOp;rw[jP,ho];simp only;rcases(g.all i r n.at_).X4 with⟨hg,hv,hl,hhr,Bt,hw⟩|⟨hg,x,hx,hs,PD,hv,Za,hhr,Bt,hw⟩
 ·rw[guard 1 hg (by omega)]
  simp only[fj,fX,if_false];have hnt:∀ b,gQ r b=an:=fun b=>by simp[gQ,hw]
  have T0:lj cl.hp recs (rI p i) (fun _=>ao) 0 (fp recs cl.hp.length)=lj cl.hp recs p (fun _=>ao) 0 (fp recs cl.hp.length):=by
   apply oc;intro b;rcases ct b (fp recs cl.hp.length) with cd|ki
   ·rw[P3 b cd,J2 b cd,n.D6 (hnt _)]
   ·rw[df (by rw[(jy _ 0 0).1];exact ki),df (by rw[(jy _ 0 0).1];exact ki)]
  refine hK _ _ (frame ρ ft w undef (fun _ _=>rfl) ?_ ?_)
  ·rw[hv];simp[undef,bV,nS]
  ·rw[T0];exact h4
 ·rw[guard 0 hg (by omega)]
  simp only[fj,if_true]
  left
  have hsx:=hs;simp only[E7,aM] at hsx;obtain⟨⟨⟨⟨k1,k2⟩,k3⟩,k4⟩,k5⟩:=hsx;simp only[tidy,aM] at k1;obtain⟨su,Ot,hx⟩:=hx;have uz:=UN hT Ot hx (D:=D);have hLI:=(g.lit hT ou i n.at_).2 x hs;have AX:=g.hx n.at_ hT;have hrN:r.hr.length≤fp recs cl.hp.length:=jz (g.afy n.at_) (g.Np i);have hxN:r.hx.length≤fp recs cl.hp.length:=g.acI hT n.at_;have nA:∀ (b:Nat) (X:SB R),r.hr[b]?=aa (aa X)->(lj cl.hp recs p (fun _=>ao) 0 (fp recs cl.hp.length))[b]?=aa (aa X):=fun b X hb=>by
   have cd:b<fp recs cl.hp.length:=by
    have:=(aU.1 hb).1;omega
   rw[J2 b cd,n.sub g hT hb]
  rw[← hhr] at k3 k4 k5;have alS:=h4.sub nA k3 0;have hTM:TM ρ r.hr.length (o6 ops cl (recs.take i) r.pre r.o).tm a:=by
   refine⟨?_,fun t v yu=>?_⟩
   ·simp only[o6,xm];rw[(Jc (t0:=0) (i:=0) (v:=undef)).1,h1]
   ·have kj:fD r.hr.length v=ao:=xd.1 k4 v (ac9 yu);simp only[o6,xm] at yu;have Gr:t<cl.tm.length:=by
     have:=(aU.1 yu).1
     rwa [(Jc (t0:=0) (i:=0) (v:=undef)).1] at this
    obtain⟨_,hh⟩:=(Jc (t0:=0) (i:=t) (v:=v)).2 yu;rw[bW] at hh;rcases hh with⟨j,q,g1,g2,g3,g4⟩|⟨g1,g2⟩|⟨j,g1,g2,g3⟩
    ·obtain⟨_,hq⟩:=IN g3;have:=h3 t j q Gr g1 (n.pre j g2) hq;rw[← g4] at this;exact⟨this,kj⟩
    ·exact⟨(h2 t v (fun j hj=>by rw[g1] at hj;cases hj) g2).1,kj⟩
    ·have hlen:i<recs.length:=(aU.1 n.at_).1;have hij:i≤j:=by
      rw[ej] at g2;omega
     refine⟨(h2 t v (fun j' Mw=>?_) g3).1,kj⟩
     rw[g1] at Mw;injection Mw with Mw
     subst Mw;cases S3:p j with
     |false=>rfl
     |true =>
      exfalso
      rcases ct i j with cd|ki
      ·obtain⟨o,hoj,hdo⟩:=RE g1;obtain⟨q,hq,Yc⟩:=g.recAt hoj;have S_:=g.pair n.at_ hq cd;simp only[Fw,aM] at S_;have UX:=S_.1.1;simp only[ac6,Yc,hdo,jY,m8] at UX;have hmt:mem (tmpsOf r.o.op.operands.toList) t=ao:=mem_iff.2 (by
        have:=((Jc (t0:=0) (i:=t) (v:=v)).2 yu).1
        rwa [bW] at this)
       rcases UX with UX|UX
       ·rw[hmt] at UX;cases UX
       ·have:=h.closed j q S3 hq i (mem_iff.1 UX);rw[n.new] at this;cases this
      ·have:j=i:=by omega
       subst this;rw[n.new] at S3;cases S3
  have ob:=uz.run (Qw w r.hr ft ρ 0) ρ _ a w K Q (by rw[← hhr];exact hTM) hLI (by rw[← hhr];exact alS) PD
  refine ob fun gF kF w' ai7 mR=>?_
  rw[← hhr] at ai7;rw[← Bt] at mR;have Ki:HM D C (fun b=>if newAt r b then gF b else ρ b) ft (lj cl.hp recs p (fun _=>ao) 0 (fp recs cl.hp.length)) w:=by
   have cd:∀ (b:Nat) (X:SB R),(lj cl.hp recs p (fun _=>ao) 0 (fp recs cl.hp.length))[b]?=aa (aa X)->content p b recs 0 (gg cl.hp b)=aa X:=fun b X hb=>by
    have cd:=(aU.1 hb).1;rw[hL] at cd;rw[J2 b cd] at hb;injection hb
   refine h4.alV (f:=fun b=>!newAt r b) (fun b hb=>?_) (fun b X hb=>?_) (fun b t cs hb=>n.agI g hT h.src (cd b _ hb))
   ·have:newAt r b=an:=by simpa using hb
    simp[this]
   ·cases hnb:newAt r b with
    |false=>rfl
    |true =>
     have:=cd b X hb;rw[n.aeC g hT hnb] at this;cases this
  have R9:∀ b,b<r.hx.length->(if newAt r b then gF b else ρ b)=gF b:=fun b hb=>by
   split
   ·rfl
   ·rename_i hnb;refine(ai7 b ?_).symm;refine iM fun ki=>hnb (Ar.2 ⟨by omega,hb⟩)
  have hex:∃ KL,HM D C (fun b=>if newAt r b then gF b else ρ b) KL (lj cl.hp recs (rI p i) (fun _=>ao) 0 (fp recs cl.hp.length)) w':=by
   refine Ki.al9 nA (n:=0) (h':=lj cl.hp recs (rI p i) (fun _=>ao) 0 (fp recs cl.hp.length)) mR R9 (by rw[hL];exact hxN) AX.2.2
    (by rw[(jy _ 0 0).1,hL]) (fun b hb=>?_) (fun b hb hn=>?_)
   ·-- anP may have aoc
    have hbN:b<fp recs cl.hp.length:=by
     rcases hb with⟨Y,hY,_⟩|hb
     ·have:=(aU.1 hY).1;omega
     ·omega
    by_cases hkp:∃ Y,r.hr[b]?=aa (aa Y)/\LU r.o r.wl b=ao
    ·obtain⟨Y,hY,hk⟩:=hkp;have cd:=(aU.1 hY).1;have hxe:=g.kept n.at_ hT cd hk;have hlx:b<r.hx.length:=lH cd AX.1;have hnt:gQ r b=an:=by
      have hnw:newAt r b=an:=by
       cases hh:newAt r b with
       |false=>rfl
       |true=>have:=(Ar.1 hh).1;omega
      simp[gQ,hk,hnw]
     rw[if_pos hlx,P3 b hbN,n.D6 hnt,n.sub g hT hY,hxe,hY]
    ·by_cases WN:r.w=ao
     ·have ht:gQ r b=ao:=by
       simp only[gQ,WN,js,jY,aM,m8];rcases hb with hb|hb
       ·refine dO ⟨qQ.2 hb,?_⟩;obtain⟨Y,hY,_⟩:=hb;cases hk:LU r.o r.wl b with
        |false=>rfl
        |true=>exact absurd ⟨Y,hY,hk⟩ hkp
       ·exact e_ (Ar.2 hb)
      rw[P3 b hbN,n.Xo g hT ht];split
      ·rename_i cd;rw[yg cd]
      ·rename_i ki;rw[acy (by omega)]
     ·have sw:r.w=an:=by cases hh:r.w<;>simp_all
      have hxe:=AX.2.1 sw;rcases hb with⟨Y,hY,X9⟩|hb
      ·have cd:=(aU.1 hY).1;rw[if_pos (by rw[hxe];exact cd),P3 b hbN,n.D6 (by simp[gQ,sw]),n.sub g hT hY,hxe,hY]
      ·rw[hxe] at hb;omega
   ·rw[hL] at hb;have hnt:gQ r b=an:=by
     cases ht:gQ r b with
     |false=>rfl
     |true =>
      simp only[gQ,aM,jY] at ht;rcases ht.2 with h5|h5
      ·exact absurd (dO (qQ.1 h5.1)) hn
      ·exact absurd (e_ (Ar.1 h5)) hn
    rw[P3 b hb,J2 b hb,n.D6 hnt]
  obtain⟨KL,aaB⟩:=hex;refine hK _ _ (frame _ KL _ _ (fun b hb=>by simp[hb]) ?_ aaB)
  rw[hv];exact(nG (n:=r.hx.length) R9 _ (by rw[Bt];exact k1.1)).symm
theorem Good.alF (g:Good P T ops cl recs) (hT:cN D P T) {i:Nat} {r:Rec R} (hr:recs[i]?=aa r):fD (fp recs cl.hp.length) r.v=ao:=by
 have hN:=g.acI hT hr;rcases(g.all i r hr).X4 with⟨_,hv,_⟩|⟨_,x,_,hs,_,hv,_,_,Bt,_⟩
 ·rw[hv];simp[undef,fD,iJ]
 ·simp only[E7,aM,tidy] at hs;rw[hv];rw[Bt] at hN;exact B7 hN _ hs.1.1.1.1.1
def vx (f:Nat->Bool):Nat->Nat
 |0=>0
 |n+1=>(if f n then 0 else 1)+vx f n
theorem GU {f h:Nat->Bool}:∀ {n:Nat},(∀ j,j<n->f j=h j)->vx f n=vx h n
 |0,_=>rfl
 |n+1,hh=>by simp only[vx];rw[hh n (by omega),GU (fun j hj=>hh j (by omega))]
theorem Su {f:Nat->Bool} {i:Nat}:∀ {n:Nat},i<n->f i=an->vx (rI f i) n+1=vx f n
 |0,h,_=>by omega
 |n+1,h,hf=>by
  simp only[vx]
  by_cases he:i=n
  ·subst he;rw[z8,hf,GU (f:=rI f i) (h:=f) (fun j hj=>yk f (by omega))]
   simp;omega
  ·rw[yk f (Ne.symm he)];have:=Su (n:=n) (by omega) hf
   omega
theorem SK {f:Nat->Bool} {i:Nat}:∀ {n:Nat},i<n->f i=an->0<vx f n
 |0,h,_=>by omega
 |n+1,h,hf=>by
  simp only[vx]
  by_cases he:i=n
  ·subst he;rw[hf];simp;omega
  ·have:=SK (n:=n) (by omega) hf;omega
def nr (listed:Array Bool):Nat->Bool:=fun j=>listed.getD j an
theorem FI:∀ {l:List (Option Value)} {t0 i:Nat},(Ix ops recs t0 l).length=l.length/\∀ x,l[i]?=aa x->(Ix ops recs t0 l)[i]?=aa (match nB ops (t0+i) 0 with
  |some j=>(match recs[j]? with
   |some r=>aa r.v
   |none=>aj)
  |none=>x):=by
 intro l
 induction l with
 |nil=>intro t0 i;exact⟨rfl,fun x h=>by simp at h⟩
 |cons y l ih =>
  intro t0 i;refine⟨by simp[Ix,(ih (t0:=t0+1) (i:=0)).1],fun x h=>?_⟩
  cases i with
  |zero =>
   simp only[cf,cv] at h;subst h;simp only[Ix,cf,gZ]
   all_goals rfl
  |succ i =>
   simp only[bK] at h;simp only[Ix,bK];rw[(ih (t0:=t0+1) (i:=i)).2 x h,show t0+1+i=t0+(i+1) by omega]
theorem zD.done {a:Act} {p:Nat->Bool} (g:Good P T ops cl recs) (hT:cN D P T) (ou:LI cl.li cl.tm) (h:zD D C ops cl recs p a w) (qk:∀ j,j<ops.length->p j=ao):M D C (Bl ops cl recs) a w:=by
 obtain⟨ρ,ft,h0,h1,h2,h3,h4⟩:=h.ex;have hp:∀ j r,recs[j]?=aa r->p j=ao:=fun j r hr=>qk j (by rw[← g.len];exact(aU.1 hr).1)
 have T0:lj cl.hp recs p (fun _=>ao) 0 (fp recs cl.hp.length)=(Bl ops cl recs).hp:=by
  simp only[Bl];apply oc;intro b;rcases ct b (fp recs cl.hp.length) with cd|ki
  ·rw[(jy _ 0 b).2 cd,(jy _ 0 b).2 cd];simp only[if_true]
   congr 1
   exact wa recs 0 _ fun j r hr _=>by rw[bW];exact hp j r hr
  ·rw[df (by rw[(jy _ 0 0).1];exact ki),df (by rw[(jy _ 0 0).1];exact ki)]
 have hhl:(Bl ops cl recs).hp.length=fp recs cl.hp.length:=by rw[← T0,(jy _ 0 0).1]
 rw[T0] at h4;refine⟨h.defers,fun t b DR=>?_,ρ,ft,h0,⟨?_,fun t v yu=>?_⟩,h4⟩
 ·simp only[Bl,afK] at DR ⊢;rcases bY.1 DR with DR|DR
  ·obtain⟨r,hr,DR⟩:=List.mem_flatMap.1 DR;obtain⟨j,hj,hj2⟩:=List.mem_iff_getElem.1 hr;have um:recs[j]?=aa r:=by rw[bc hj,hj2]
   split at DR
   ·rename_i u c hd Za;split at DR
    ·simp only[iu,tL] at DR;obtain⟨rfl,rfl⟩:=DR;obtain⟨hv,ht⟩:=(g.lit hT ou j um).1 b Za;have cd:=ht t hd;have:=(FI (ops:=ops) (recs:=recs) (l:=cl.tm) (t0:=0) (i:=t)).2 _ (bc cd);rw[bW,g.KY (g.all j r um).o hd] at this;simp only[um,hv] at this;exact this
    ·simp at DR
   ·simp at DR
  ·obtain⟨h5,h6⟩:=List.mem_filter.1 DR;have:=(FI (ops:=ops) (recs:=recs) (l:=cl.tm) (t0:=0) (i:=t)).2 _ (ou t b h5);rw[bW] at this;cases hd:nB ops t 0 with
   |none=>rw[hd] at this;exact this
   |some j=>rw[hd] at h6;cases h6
 ·simp only[Bl];rw[(FI (t0:=0) (i:=0)).1];exact h1
 ·simp only[Bl] at yu;have Gr:t<cl.tm.length:=by
   have:=(aU.1 yu).1
   rwa [(FI (t0:=0) (i:=0)).1] at this
  rw[(FI (ops:=ops) (recs:=recs) (l:=cl.tm) (t0:=0) (i:=t)).2 _ (bc Gr),bW] at yu;rw[hhl];cases hd:nB ops t 0 with
  |none =>
   rw[hd] at yu;injection yu with yu
   obtain⟨k1,k2⟩:=h2 t v (fun j hj=>by rw[hd] at hj;cases hj) (by rw[bc Gr];exact congrArg aa yu)
   have hle:=g.Np 0;rw[sE] at hle;exact⟨k1,B7 hle v k2⟩
  |some j =>
   rw[hd] at yu;simp only at yu;split at yu
   ·rename_i r hr;injection yu with yu
    injection yu with yu
    subst yu;exact⟨h3 t j r Gr hd (hp j r hr) hr,g.alF hT hr⟩
   ·cases yu
theorem PR {listed:Array Bool} {i j:Nat} (hi:i<listed.size):nr (listed.setIfInBounds i ao) j=rI (nr listed) i j:=by
 unfold nr
 by_cases he:j=i
 ·subst he;rw[z8];simp[Ec,hi]
 ·rw[yk _ he];exact getD_set_ne an (Ne.symm he)
theorem agS (g:Good P T ops cl recs) (hT:cN D P T) (ou:LI cl.li cl.tm) (va:C.n0≤cl.hp.length) {Q:Exit->Act->World->Prop} (hQ:∀ a w,M D C (Bl ops cl recs) a w->Q .normal a w) :
  ∀ (fuel:Nat) (listed:Array Bool) (a:Act) (w:World),listed.size=ops.length->vx (nr listed) ops.length≤fuel->zD D C ops cl recs (nr listed) a w->wpAny P .any ops.toArray Q fuel listed a w:=by
 have aft:∀ (listed:Array Bool) (a:Act) (w:World),listed.size=ops.length->zD D C ops cl recs (nr listed) a w->Lk .any ops.toArray listed=[]->Q .normal a w:=by
  intro listed a w om hi hr;refine hQ a w (hi.done g hT ou fun j=>?_)
  induction j using tW with
  |_ j ih =>
   intro hj;cases hp:nr listed j with
   |true=>rfl
   |false =>
    exfalso
    have ho:ops[j]?=aa ops[j]:=bc hj;obtain⟨r,hrr,hro⟩:=g.recAt ho;have:j∈Lk .any ops.toArray listed:=by
     refine mem_ready.2 ⟨?_,ops[j],by rw[jP,ho],fun e he hb=>?_⟩
     ·unfold nr at hp;simp only[Ec,om,hj,dif_pos] at hp ⊢;exact hp
     ·have h1:=(F_ (g.all j r hrr).pre).1 e (by rw[hro];exact Jl.2 he) hb
      have cd:=g.P0 j hrr h1;exact ih e.on cd (by omega)
    rw[hr] at this;cases this
 intro fuel
 induction fuel with
 |zero =>
  intro listed a w om hle hi;have qk:∀ j,j<ops.length->nr listed j=ao:=fun j hj=>by
   cases hp:nr listed j with
   |true=>rfl
   |false=>have:=SK hj hp;omega
  have hr:Lk .any ops.toArray listed=[]:=by
   refine List.eq_nil_iff_forall_not_mem.2 fun j hj=>?_
   obtain⟨h1,o,h2,_⟩:=mem_ready.1 hj;have cd:j<ops.length:=by
    rw[jP] at h2;exact(aU.1 h2).1
   have:=qk j cd;unfold nr at this;simp only[Ec,om,cd,dif_pos] at this h1;rw[this] at h1;cases h1
  exact⟨hr,aft listed a w om hi hr⟩
 |succ fuel ih =>
  intro listed a w om hle hi;refine⟨aft listed a w om hi,fun i hir=>?_⟩
  obtain⟨h1,o,h2,h3⟩:=mem_ready.1 hir;rw[jP] at h2;have cd:i<ops.length:=(aU.1 h2).1;obtain⟨r,hrr,hro⟩:=g.recAt h2;have uM:nr listed i=an:=by
   unfold nr;simp only[Ec,om,cd,dif_pos] at h1 ⊢;exact h1
  have hn:Next recs (nr listed) i r:=by
   refine⟨hrr,uM,fun j hj=>?_,hi.closed⟩
   obtain⟨e,he,hb,q,hq,Vj⟩:=(F_ (g.all i r hrr).pre).2 j hj;have m7:=h3 e (by rw[hro] at he;exact Jl.1 he) hb
   rcases Vj with rfl|Vj
   ·exact m7
   ·exact hi.closed e.on q m7 (IN hq).2 j Vj
  refine hi.step g hT ou va hn fun a' w' kQ=>ih _ a' w' (by simpa using om) ?_ ?_
  ·have e:vx (nr (listed.setIfInBounds i ao)) ops.length=vx (rI (nr listed) i) ops.length:=GU fun j _=>PR (by omega)
   have:=Su cd uM;omega
  ·have e:nr (listed.setIfInBounds i ao)=rI (nr listed) i:=funext fun j=>PR (by omega)
   rw[e];exact kQ
theorem YE (hT:cN D P T) (Mp:P.follows .mixedOrders=ao) {id:Nat} {k:SS R->Prop} {m:Nat} {we:List (Nat×Bool)} {a:Act} {Q:Exit->Act->World->Prop} (h:E_ P T ops cl k m we) (hm:M D C cl a w) (hn:C.n0≤cl.hp.length)
  (hK:∀ oV a' w',k oV->C.n0≤oV.hp.length->M D C oV a' w'->Q .normal a' w'):(Code.region id ops.toArray ao).wp P Q a w:=by
 obtain⟨recs,h1,h2,h3,w8,h4⟩:=Ld m h;have g:Good P T ops cl recs:=⟨h1,h2,h3,w8⟩;refine wp_region_any Mp ?_;have mR:M D C cl a { w with drawn:=w.drawn+1 }:=by
  obtain⟨ρ,ft,q0,q1,q2⟩:=hm.ex;exact⟨hm.defers,hm.li,ρ,ft,q0,q1,q2.same rfl rfl rfl rfl⟩
 have hz:nr (Array.replicate ops.toArray.size an)=fun _=>an:=by
  funext j
  unfold nr;simp only[Ec];split
  ·simp
  ·rfl
 refine agS g hT hm.li hn (fun a' w' hM=>hK _ a' w' h4 ?_ hM) _ _ a _ (by simp) ?_ ?_
 ·have:=g.afH recs.length;rw[jB] at this;simp only[Bl];rw[(jy _ 0 0).1];omega
 ·rw[hz];have:∀ n,vx (fun _=>an) n≤n:=fun n=>by
   induction n with
   |zero=>simp[vx]
   |succ n ih=>simp only[vx];simp;omega
  simpa using this ops.length
 ·rw[hz];exact zD.start g hT mR
end
end Rx
namespace Rx
open Go.RowKit State
section
variable {R:Type} {D:fR R} {P:Program} {T:eM R} {C:Ctx} {w w':World}
def rx (D:fR R) (P:Program) (T:eM R) (root:Code) (n0:Nat) (k:Exit->SS R->Prop):Nat->List (It R)->SS R->Prop
 |0,todo,σ=>At D P root n0 k todo σ
 |n+1,todo,σ =>
  match todo with
  |[]=>k .normal σ
  |.inr (.inl _)::r=>rx D P T root n0 k n r σ
  |.inr (.inr J)::r=>aY (J σ)
  |.inl p::r =>
   match jj root p with
   |none=>oB 5
   |some c =>
    match c with
    |.skip=>rx D P T root n0 k n r σ
    |.label _=>rx D P T root n0 k n r σ
    |.seq _ _=>rx D P T root n0 k n (.inl (p++[0]) :: .inl (p++[1])::r) σ
    |.block id _=>rx D P T root n0 k n (.inl (p++[0]) :: .inr (.inl id)::r) σ
    |.cond x _ _ =>
     match Gj σ.li x with
     |some ao=>rx D P T root n0 k n (.inl (p++[0])::r) σ
     |some an=>rx D P T root n0 k n (.inl (p++[1])::r) σ
     |none =>
      match x with
      |.tmp t=>match σ.tm[t]? with
       |some (aa (.bool b)) =>
        (b=ao->Jy (assume σ t ao) fun σ=>rx D P T root n0 k n (.inl (p++[0])::r) σ) /\
        (b=an->Jy (assume σ t an) fun σ=>rx D P T root n0 k n (.inl (p++[1])::r) σ)
       |_=>oB 6
      |_=>oB 7
    |.exit id =>
     match DW id r with
     |some r'=>rx D P T root n0 k n r' σ
     |none=>k (.exit id) σ
    |.ret=>k .ret σ
    |.region _ ⟨ops⟩ an=>wA P T ops ops σ fun oV=>rx D P T root n0 k n r oV
    |.region _ ⟨ops⟩ ao=>E_ P T ops σ (fun oV=>rx D P T root n0 k n r oV) (ops.length+1) []
    |_=>At D P root n0 k (.inl p::r) σ
theorem cK (hT:cN D P T) (Mp:P.follows .mixedOrders=ao) {root:Code} {n0:Nat} {k:Exit->SS R->Prop}:∀ (n:Nat) {todo:List (It R)} {σ:SS R},rx D P T root n0 k n todo σ->At D P root n0 k todo σ
 |0,todo,σ,h=>h
 |n+1,todo,σ,h=>by
  refine⟨fun C a w hC hn hm=>?_⟩
  have ih:∀ {todo:List (It R)} {σ:SS R} {a:Act} {w:World},rx D P T root n0 k n todo σ->n0≤σ.hp.length->M D C σ a w->pN D P C root k todo .normal a w:=fun h hn hm=>(cK hT Mp n h).run C _ _ hC hn hm
  unfold rx at h;simp only[KX] at h;split at h
  ·exact⟨σ,h,hm⟩
  ·rename_i id r;show pN D P C root k r .normal a w
   exact ih h hn hm
  ·rename_i J r;exact⟨σ,h.out,by rw[hC];exact hn,hm⟩
  ·rename_i p r;split at h
   ·exact h.elim
   ·rename_i c hc;simp only[pN,hc];have sub:∀ (i:Nat) (d:Code),jj c [i]=aa d->jj root (p++[i])=aa d:=fun i d hd=>by rw[oA p root c [i] hc];exact hd
    split at h
    ·exact wp_skip (ih h hn hm)
    ·exact wp_label (ih h hn hm)
    ·rename_i x y;have h1:=ih h hn hm;simp only[pN,sub 0 x (by simp[jj])] at h1
     refine wp_seq (wp_mono h1 fun e a' w' h2=>?_)
     cases e with
     |normal =>
      simp only[sub 1 y (by simp[jj])] at h2
      exact h2
     |_=>exact h2
    ·rename_i id x;have h1:=ih h hn hm;simp only[pN,sub 0 x (by simp[jj])] at h1
     exact wp_block h1
    ·rename_i x y z;split at h
     ·rename_i hl;have h1:=ih h hn hm;simp only[pN,sub 0 y (by simp[jj])] at h1
      obtain⟨ρ,ft,_,g1,_⟩:=hm.ex;have:=(eJ g1 (yD hm.li hl)).1;exact wp_cond_true (by simpa using this) h1
     ·rename_i hl;have h1:=ih h hn hm;simp only[pN,sub 1 z (by simp[jj])] at h1
      obtain⟨ρ,ft,_,g1,_⟩:=hm.ex;have:=(eJ g1 (yD hm.li hl)).1;exact wp_cond_false (by simpa using this) h1
     ·split at h
      ·rename_i t _;split at h
       ·rename_i b hb;have ht:=Y9 hm hb;have he:a.eval (.tmp t)=.bool b:=by simp[Cw,ht]
        cases b with
        |true =>
         have h1:=ih (h.1 rfl) (by simpa [assume] using hn) (hm.assume hb)
         simp only[pN,sub 0 y (by simp[jj])] at h1
         exact wp_cond_true he h1
        |false =>
         have h1:=ih (h.2 rfl) (by simpa [assume] using hn) (hm.assume hb)
         simp only[pN,sub 1 z (by simp[jj])] at h1
         exact wp_cond_false he h1
       ·exact h.elim
      ·exact h.elim
    ·rename_i id;refine wp_exit (E0 ?_);split at h
     ·rename_i r' xc;rw[xc];exact ih h hn hm
     ·rename_i xc;rw[xc];exact⟨σ,h,hm⟩
    ·exact wp_ret (HL ⟨σ,h,hm⟩)
    ·rename_i id ops;refine wp_region_list ?_;exact Gy hT ops h hm (by omega) fun oV a' w' h' yt mR=>ih h' (by omega) mR
    ·rename_i id ops;exact YE hT Mp h hm (by omega) fun oV a' w' h' yt mR=>ih h' (by omega) mR
    ·have:=h.run C a w hC hn hm
     simpa only [pN,hc] using this
end
end Rx
namespace Rx
open Go.RowKit State
def C5 (s:Nat->Nat) (q:Nat):Nat :=
 match gY q 1000000 with
 |true=>q
 |false=>q%1000000+1000000*(s (q / 1000000-1)+1)
def wj (s:Nat->Nat) (a:Addr):Addr :=
 match a with
 |⟨b,o,aj⟩=>⟨s b,o,aj⟩
 |⟨b,o,aa q⟩=>⟨s b,o,aa (C5 s q)⟩
mutual
def gr (s:Nat->Nat):Value->Value
 |.pointer (aa a)=>.pointer (aa (wj s a))
 |.slice (aa a) n c=>.slice (aa (wj s a)) n c
 |.map (aa r)=>.map (aa (s r))
 |.chan (aa r)=>.chan (aa (s r))
 |.agg ⟨l⟩=>.agg ⟨ma s l⟩
 |.tuple ⟨l⟩=>.tuple ⟨ma s l⟩
 |.func fn ⟨f⟩ ⟨c⟩=>.func fn ⟨ma s f⟩ ⟨ma s c⟩
 |.iface t v=>.iface t (gr s v)
 |v=>v
def ma (s:Nat->Nat):List Value->List Value
 |[]=>[]
 |v::l=>gr s v::ma s l
end
def Kx (p:Nat->Bool) (q:Nat):Bool :=
 match gY q 1000000 with
 |true=>ao
 |false=>p (q / 1000000-1)
def My (p:Nat->Bool) (a:Addr):Bool :=
 match a with
 |⟨b,_,aj⟩=>p b
 |⟨b,_,aa q⟩=>p b&&Kx p q
mutual
def mX (p:Nat->Bool):Value->Bool
 |.pointer (aa a)=>My p a
 |.slice (aa a) _ _=>My p a
 |.map (aa r)|.chan (aa r)=>p r
 |.agg ⟨l⟩=>Aj p l
 |.tuple ⟨l⟩=>Aj p l
 |.func _ ⟨f⟩ ⟨c⟩=>Aj p f&&Aj p c
 |.iface _ v=>mX p v
 |_=>ao
def Aj (p:Nat->Bool):List Value->Bool
 |[]=>ao
 |v::l=>mX p v&&Aj p l
end
section
variable {ρ gF:Env} {s u:Nat->Nat} {p:Nat->Bool} {n m:Nat}
theorem qn {a b:Nat}:gY a b=ao↔a<b:=by rw[fo]
theorem uN {q:Nat} (s:Nat->Nat) (h:q<1000000):C5 s q=q:=by
 unfold C5;rw[qn.2 h]
theorem FA {q:Nat} (s:Nat->Nat) (h:¬ q<1000000):C5 s q=q%1000000+1000000*(s (q / 1000000-1)+1):=by
 unfold C5;split
 ·rename_i hb;exact absurd (qn.1 hb) h
 ·rfl
theorem ahy (s:Nat->Nat) (q:Nat):C5 s q%1000000=q%1000000:=by
 by_cases h:q<1000000
 ·rw[uN s h]
 ·rw[FA s h];omega
theorem RB (s:Nat->Nat) (q:Nat):C5 s q / 1000000=if q / 1000000=0 then 0 else s (q / 1000000-1)+1:=by
 by_cases h:q<1000000
 ·rw[uN s h,if_pos (by omega)];omega
 ·rw[FA s h,if_neg (by omega)];omega
theorem ah' (s u:Nat->Nat) (q:Nat):C5 s (C5 u q)=C5 (fun i=>s (u i)) q:=by
 by_cases h:q<1000000
 ·rw[uN u h,uN s h,uN _ h]
 ·rw[FA u h,FA _ h,FA s (by omega)]
  have e1:(q%1000000+1000000*(u (q / 1000000-1)+1))%1000000=q%1000000:=by omega
  have e2:(q%1000000+1000000*(u (q / 1000000-1)+1)) / 1000000-1=u (q / 1000000-1):=by omega
  rw[e1,e2]
theorem acM (s:Nat->Nat) (e q:Nat):cellOf e (aa (C5 s q))=cellOf e (aa q):=by
 have h:=ahy s q;simp only[cellOf,h];rw[← Ll (C5 s q) (by decide:1000∣1000000),h,Ll q (by decide:1000∣1000000)]
theorem YT (a:Addr):iQ ρ (wj s a)=iQ (fun i=>ρ (s i)) a:=by
 obtain⟨b,o,q⟩:=a;cases q with
 |none=>rfl
 |some q=>simp only[wj,iQ,acM]
theorem Ab (ρ:Env) (b o q k c:Nat):lP ρ ⟨b,o,aa q⟩ k c=if(ρ b).nil=ao then .slice aj k 0
  else if q / 1000000≠0/\(ρ b).cap≤o then .slice (aa ⟨(ρ (q / 1000000-1)).lO,(ρ (q / 1000000-1)).off,aj⟩) k 0
  else .slice (aa (iQ ρ ⟨b,o,aa q⟩)) k ((ρ b).cap-o):=rfl
theorem ahj (a:Addr) (k c:Nat):lP ρ (wj s a) k c=lP (fun i=>ρ (s i)) a k c:=by
 have h:=YT (ρ:=ρ) (s:=s) a;obtain⟨b,o,q⟩:=a;cases q with
 |none=>simp only[wj,lP] at *;rw[h]
 |some q =>
  show lP ρ ⟨s b,o,aa (C5 s q)⟩ k c=_
  have h:iQ ρ ⟨s b,o,aa (C5 s q)⟩=_:=h;rw[Ab,Ab,h,RB]
  by_cases hn:(ρ (s b)).nil=ao
  ·rw[if_pos hn,if_pos hn]
  ·rw[if_neg hn,if_neg hn]
   by_cases h0:q / 1000000=0
   ·rw[if_pos h0,if_neg (by simp),if_neg (by simp[h0])]
   ·rw[if_neg h0]
    by_cases hc:(ρ (s b)).cap≤o
    ·rw[if_pos ⟨by omega,hc⟩,if_pos ⟨h0,hc⟩];rfl
    ·rw[if_neg (fun hh=>hc hh.2),if_neg (fun hh=>hc hh.2)]
mutual
theorem CV:∀ v,bV ρ (gr s v)=bV (fun i=>ρ (s i)) v
 |.pointer (aa a)=>by simp only[gr,bV,YT]
 |.pointer aj=>by simp[gr,bV]
 |.slice (aa a) k c=>by simp only[gr,bV,ahj]
 |.slice aj _ _=>by simp[gr,bV]
 |.map (aa r)=>by simp[gr,bV]
 |.map aj=>by simp[gr,bV]
 |.chan (aa r)=>by simp[gr,bV]
 |.chan aj=>by simp[gr,bV]
 |.agg ⟨l⟩=>by simp only[gr,bV,BZ l]
 |.tuple ⟨l⟩=>by simp only[gr,bV,BZ l]
 |.func fn ⟨f⟩ ⟨c⟩=>by simp only[gr,bV,BZ f,BZ c]
 |.iface t v=>by simp only[gr,bV,CV v]
 |.int _ _=>by simp[gr]
 |.bool _=>by simp[gr]
 |.string _=>by simp[gr]
 |.float _ _=>by simp[gr,bV]
 |.complex _ _ _=>by simp[gr,bV]
 |.nilFunc=>by simp[gr,bV]
 |.nilIface=>by simp[gr,bV]
theorem BZ:∀ l,nS ρ (ma s l)=nS (fun i=>ρ (s i)) l
 |[]=>by simp[ma,nS]
 |v::l=>by simp only[ma,nS,CV v,BZ l]
end
theorem so {a:Addr} (h:My p a=ao):p a.block=ao/\∀ q,a.spot=aa q->Kx p q=ao:=by
 obtain⟨b,o,q⟩:=a;cases q with
 |none=>exact⟨h,fun q e=>by cases e⟩
 |some q =>
  simp only[My,aM] at h;exact⟨h.1,fun q' e=>by injection e with e;subst e;exact h.2⟩
theorem RJ {q:Nat} (h:Kx p q=ao) (h0:q / 1000000≠0):p (q / 1000000-1)=ao:=by
 unfold Kx at h;split at h
 ·rename_i hb;have:=qn.1 hb;omega
 ·exact h
theorem ait {q:Nat} (p:Nat->Bool) (h:q<1000000):Kx p q=ao:=by
 unfold Kx;rw[qn.2 h]
theorem abI {q:Nat} (p:Nat->Bool) (h:¬ q<1000000):Kx p q=p (q / 1000000-1):=by
 unfold Kx;split
 ·rename_i hb;exact absurd (qn.1 hb) h
 ·rfl
theorem aje {p':Nat->Bool} {t:Nat} (h:∀ i,p i=ao->p' (s i)=ao) (ht:Kx p t=ao):Kx p' (C5 s t)=ao:=by
 by_cases hq:t<1000000
 ·rw[uN s hq];exact ait p' hq
 ·rw[abI p hq] at ht;have ki:¬ C5 s t<1000000:=by rw[FA s hq];omega
  rw[abI p' ki,RB,if_neg (by omega)]
  exact h _ ht
theorem YL {a:Addr} (h:∀ i,p i=ao->ρ i=gF i) (ha:My p a=ao):iQ ρ a=iQ gF a:=by
 unfold iQ;rw[h _ (so ha).1]
theorem agD {a:Addr} {k c:Nat} (h:∀ i,p i=ao->ρ i=gF i) (ha:My p a=ao):lP ρ a k c=lP gF a k c:=by
 unfold lP;rw[YL h ha,h _ (so ha).1];cases hs:a.spot with
 |none=>rfl
 |some q =>
  simp only;split
  ·rfl
  ·split
   ·rename_i hq;rw[h (q / 1000000-1) (RJ ((so ha).2 q hs) hq.1)]
   ·rfl
mutual
theorem abF (h:∀ i,p i=ao->ρ i=gF i):∀ v,mX p v=ao->bV ρ v=bV gF v
 |.pointer (aa a),hv=>by simp only[mX] at hv;simp only[bV,YL h hv]
 |.pointer aj,_=>by simp[bV]
 |.slice (aa a) k c,hv=>by simp only[mX] at hv;simp only[bV,agD h hv]
 |.slice aj _ _,_=>by simp[bV]
 |.map (aa r),hv=>by simp only[mX] at hv;simp[bV,h _ hv]
 |.map aj,_=>by simp[bV]
 |.chan (aa r),hv=>by simp only[mX] at hv;simp[bV,h _ hv]
 |.chan aj,_=>by simp[bV]
 |.agg ⟨l⟩,hv=>by simp only[mX] at hv;simp only[bV,Ca h l hv]
 |.tuple ⟨l⟩,hv=>by simp only[mX] at hv;simp only[bV,Ca h l hv]
 |.func fn ⟨f⟩ ⟨c⟩,hv=>by
  simp only[mX,aM] at hv;simp only[bV,Ca h f hv.1,Ca h c hv.2]
 |.iface t v,hv=>by simp only[mX] at hv;simp only[bV,abF h v hv]
 |.int _ _,_=>by simp
 |.bool _,_=>by simp
 |.string _,_=>by simp
 |.float _ _,_=>by simp[bV]
 |.complex _ _ _,_=>by simp[bV]
 |.nilFunc,_=>by simp[bV]
 |.nilIface,_=>by simp[bV]
theorem Ca (h:∀ i,p i=ao->ρ i=gF i):∀ l,Aj p l=ao->nS ρ l=nS gF l
 |[],_=>rfl
 |v::l,hv=>by
  simp only[Aj,aM] at hv;simp only[nS,abF h v hv.1,Ca h l hv.2]
end
theorem Yd (a:Addr):wj s (wj u a)=wj (fun i=>s (u i)) a:=by
 obtain⟨b,o,q⟩:=a;cases q with
 |none=>rfl
 |some q=>simp only[wj];rw[ah']
mutual
theorem af4:∀ v,gr s (gr u v)=gr (fun i=>s (u i)) v
 |.pointer (aa a)=>by simp only[gr,Yd]
 |.pointer aj=>by simp[gr]
 |.slice (aa a) k c=>by simp only[gr,Yd]
 |.slice aj _ _=>by simp[gr]
 |.map (aa r)=>by simp[gr]
 |.map aj=>by simp[gr]
 |.chan (aa r)=>by simp[gr]
 |.chan aj=>by simp[gr]
 |.agg ⟨l⟩=>by simp only[gr,Cm l]
 |.tuple ⟨l⟩=>by simp only[gr,Cm l]
 |.func fn ⟨f⟩ ⟨c⟩=>by simp only[gr,Cm f,Cm c]
 |.iface t v=>by simp only[gr,af4 v]
 |.int _ _=>by simp[gr]
 |.bool _=>by simp[gr]
 |.string _=>by simp[gr]
 |.float _ _=>by simp[gr]
 |.complex _ _ _=>by simp[gr]
 |.nilFunc=>by simp[gr]
 |.nilIface=>by simp[gr]
theorem Cm:∀ l,ma s (ma u l)=ma (fun i=>s (u i)) l
 |[]=>by simp[ma]
 |v::l=>by simp only[ma,af4 v,Cm l]
end
theorem ac8 {a:Addr} (h:∀ i,p i=ao->s i=i) (ha:My p a=ao):wj s a=a:=by
 have h1:=(so ha).1;have h2:=(so ha).2;obtain⟨b,o,q⟩:=a;cases q with
 |none=>simp only[wj];rw[h b h1]
 |some q =>
  simp only[wj];rw[h b h1]
  congr 2
  by_cases hq:q<1000000
  ·exact uN s hq
  ·rw[FA s hq,h _ (RJ (h2 q rfl) (by omega))]
   omega
mutual
theorem afX (h:∀ i,p i=ao->s i=i):∀ v,mX p v=ao->gr s v=v
 |.pointer (aa a),hv=>by simp only[mX] at hv;simp only[gr,ac8 h hv]
 |.pointer aj,_=>by simp[gr]
 |.slice (aa a) k c,hv=>by simp only[mX] at hv;simp only[gr,ac8 h hv]
 |.slice aj _ _,_=>by simp[gr]
 |.map (aa r),hv=>by simp only[mX] at hv;simp[gr,h _ hv]
 |.map aj,_=>by simp[gr]
 |.chan (aa r),hv=>by simp only[mX] at hv;simp[gr,h _ hv]
 |.chan aj,_=>by simp[gr]
 |.agg ⟨l⟩,hv=>by simp only[mX] at hv;simp only[gr,E4 h l hv]
 |.tuple ⟨l⟩,hv=>by simp only[mX] at hv;simp only[gr,E4 h l hv]
 |.func fn ⟨f⟩ ⟨c⟩,hv=>by
  simp only[mX,aM] at hv;simp only[gr,E4 h f hv.1,E4 h c hv.2]
 |.iface t v,hv=>by simp only[mX] at hv;simp only[gr,afX h v hv]
 |.int _ _,_=>by simp[gr]
 |.bool _,_=>by simp[gr]
 |.string _,_=>by simp[gr]
 |.float _ _,_=>by simp[gr]
 |.complex _ _ _,_=>by simp[gr]
 |.nilFunc,_=>by simp[gr]
 |.nilIface,_=>by simp[gr]
theorem E4 (h:∀ i,p i=ao->s i=i):∀ l,Aj p l=ao->ma s l=l
 |[],_=>by simp[ma]
 |v::l,hv=>by
  simp only[Aj,aM] at hv;simp only[ma,afX h v hv.1,E4 h l hv.2]
end
theorem agZ {a:Addr} {k c:Nat} (h:∀ i,i<n->s i<m) (hv:fD n (.slice (aa a) k c)=ao):fD m (.slice (aa (wj s a)) k c)=ao:=by
 obtain⟨b,o,q⟩:=a;simp only[fD,aM,fo,vR] at hv ⊢;cases q with
 |none =>
  simp only[wj,FN];exact⟨h b hv.1,dv _⟩
 |some q =>
  simp only[wj,FN] at hv ⊢;refine⟨h b hv.1,?_⟩;rw[RB];split
  ·omega
  ·rename_i h0;have:=h (q / 1000000-1) (by omega)
   omega
theorem ahK {a:Addr} (h:∀ i,i<n->s i<m) (hv:fD n (.pointer (aa a))=ao):fD m (.pointer (aa (wj s a)))=ao:=by
 obtain⟨b,o,q⟩:=a;simp only[fD,fo] at hv ⊢;cases q<;>exact h b hv
mutual
theorem abj (h:∀ i,i<n->s i<m):∀ v,fD n v=ao->fD m (gr s v)=ao
 |.pointer (aa a),hv=>by simp only[gr];exact ahK h hv
 |.pointer aj,_=>by simp[gr,fD]
 |.slice (aa a) k c,hv=>by simp only[gr];exact agZ h hv
 |.slice aj _ _,_=>by simp[gr,fD]
 |.map (aa r),hv=>by simp only[gr,fD,fo] at *;exact h r hv
 |.map aj,_=>by simp[gr,fD]
 |.chan (aa r),hv=>by simp only[gr,fD,fo] at *;exact h r hv
 |.chan aj,_=>by simp[gr,fD]
 |.agg ⟨l⟩,hv=>by simp only[gr,fD] at *;exact wF h l hv
 |.tuple ⟨l⟩,hv=>by simp only[gr,fD] at *;exact wF h l hv
 |.func fn ⟨f⟩ ⟨c⟩,hv=>by
  simp only[gr,fD,aM] at *
  exact⟨wF h f hv.1,wF h c hv.2⟩
 |.iface t v,hv=>by simp only[gr,fD] at *;exact abj h v hv
 |.int _ _,_=>by simp[gr,fD]
 |.bool _,_=>by simp[gr,fD]
 |.string _,_=>by simp[gr,fD]
 |.float _ _,_=>by simp[gr,fD]
 |.complex _ _ _,_=>by simp[gr,fD]
 |.nilFunc,_=>by simp[gr,fD]
 |.nilIface,_=>by simp[gr,fD]
theorem wF (h:∀ i,i<n->s i<m):∀ l,iJ n l=ao->iJ m (ma s l)=ao
 |[],_=>by simp[ma,iJ]
 |v::l,hv=>by
  simp only[iJ,aM] at hv;simp only[ma,iJ,aM];exact⟨abj h v hv.1,wF h l hv.2⟩
end
mutual
theorem ab6:∀ v,mX (fun i=>gY i n) v=ao->fD n v=ao
 |.pointer (aa a),hv=>by
  simp only[mX] at hv
  simpa [fD] using(so hv).1
 |.pointer aj,_=>by simp[fD]
 |.slice (aa a) k c,hv=>by
  simp only[mX] at hv;have h1:=(so hv).1;have h2:=(so hv).2;simp only[fo] at h1;simp only[fD,aM,fo,vR];refine⟨h1,?_⟩;cases hs:a.spot with
  |none=>simp[FN]
  |some q =>
   simp only[FN]
   by_cases h0:q / 1000000=0
   ·omega
   ·have:=RJ (h2 q hs) h0;simp only[fo] at this;omega
 |.slice aj _ _,_=>by simp[fD]
 |.map (aa r),hv=>by simpa [mX,fD] using hv
 |.map aj,_=>by simp[fD]
 |.chan (aa r),hv=>by simpa [mX,fD] using hv
 |.chan aj,_=>by simp[fD]
 |.agg ⟨l⟩,hv=>by simp only[mX] at hv;simp only[fD];exact Cn l hv
 |.tuple ⟨l⟩,hv=>by simp only[mX] at hv;simp only[fD];exact Cn l hv
 |.func fn ⟨f⟩ ⟨c⟩,hv=>by
  simp only[mX,aM] at hv;simp only[fD,aM];exact⟨Cn f hv.1,Cn c hv.2⟩
 |.iface t v,hv=>by simp only[mX] at hv;simp only[fD];exact ab6 v hv
 |.int _ _,_=>by simp[fD]
 |.bool _,_=>by simp[fD]
 |.string _,_=>by simp[fD]
 |.float _ _,_=>by simp[fD]
 |.complex _ _ _,_=>by simp[fD]
 |.nilFunc,_=>by simp[fD]
 |.nilIface,_=>by simp[fD]
theorem Cn:∀ l,Aj (fun i=>gY i n) l=ao->iJ n l=ao
 |[],_=>by simp[iJ]
 |v::l,hv=>by
  simp only[Aj,aM] at hv;simp only[iJ,aM];exact⟨ab6 v hv.1,Cn l hv.2⟩
end
end
mutual
def pQ (k:Nat):Value->Value
 |.slice (aa ⟨b,o,aa q⟩) n c=>match gY b k with
  |true=>.slice (aa ⟨b,o,aa q⟩) n c
  |false=>.slice aj n 0
 |.agg ⟨l⟩=>.agg ⟨w6 k l⟩
 |.tuple ⟨l⟩=>.tuple ⟨w6 k l⟩
 |.func fn ⟨f⟩ ⟨c⟩=>.func fn ⟨w6 k f⟩ ⟨w6 k c⟩
 |.iface t v=>.iface t (pQ k v)
 |v=>v
def w6 (k:Nat):List Value->List Value
 |[]=>[]
 |v::l=>pQ k v::w6 k l
end
def WS:Place:=⟨0,0,0,ao⟩
def xR (ρ:Env) (k:Nat):Env:=fun i=>if i<k then ρ i else WS
section
variable {ρ:Env} {k:Nat}
theorem yf {i:Nat} (h:i<k):xR ρ k i=ρ i:=by simp[xR,h]
theorem XO {i:Nat} (h:¬ i<k):xR ρ k i=WS:=by simp[xR,h]
mutual
theorem J1:∀ v,fD k (pQ k v)=ao->bV ρ (pQ k v)=bV (xR ρ k) v
 |.pointer (aa a),hv=>by
  simp only[pQ] at hv ⊢;exact nG (n:=k) (fun i hi=>(yf hi).symm) _ hv
 |.pointer aj,_=>by simp[pQ,bV]
 |.slice (aa ⟨b,o,aj⟩) n c,hv=>by
  simp only[pQ] at hv ⊢;exact nG (n:=k) (fun i hi=>(yf hi).symm) _ hv
 |.slice (aa ⟨b,o,aa q⟩) n c,hv=>by
  simp only[pQ] at hv ⊢;split
  ·rename_i hb;rw[hb] at hv;exact nG (n:=k) (fun i hi=>(yf hi).symm) _ hv
  ·rename_i hb;have ki:¬ b<k:=fun h=>by rw[qn.2 h] at hb;cases hb
   simp only[bV,lP];rw[XO ki]
   rfl
 |.slice aj _ _,_=>by simp[pQ,bV]
 |.map (aa r),hv=>by
  simp only[pQ] at hv ⊢;exact nG (n:=k) (fun i hi=>(yf hi).symm) _ hv
 |.map aj,_=>by simp[pQ,bV]
 |.chan (aa r),hv=>by
  simp only[pQ] at hv ⊢;exact nG (n:=k) (fun i hi=>(yf hi).symm) _ hv
 |.chan aj,_=>by simp[pQ,bV]
 |.agg ⟨l⟩,hv=>by simp only[pQ,fD] at hv;simp only[pQ,bV,Eh l hv]
 |.tuple ⟨l⟩,hv=>by simp only[pQ,fD] at hv;simp only[pQ,bV,Eh l hv]
 |.func fn ⟨f⟩ ⟨c⟩,hv=>by
  simp only[pQ,fD,aM] at hv;simp only[pQ,bV,Eh f hv.1,Eh c hv.2]
 |.iface t v,hv=>by simp only[pQ,fD] at hv;simp only[pQ,bV,J1 v hv]
 |.int _ _,_=>by simp[pQ]
 |.bool _,_=>by simp[pQ]
 |.string _,_=>by simp[pQ]
 |.float _ _,_=>by simp[pQ,bV]
 |.complex _ _ _,_=>by simp[pQ,bV]
 |.nilFunc,_=>by simp[pQ,bV]
 |.nilIface,_=>by simp[pQ,bV]
theorem Eh:∀ l,iJ k (w6 k l)=ao->nS ρ (w6 k l)=nS (xR ρ k) l
 |[],_=>by simp[w6,nS]
 |v::l,hv=>by
  simp only[w6,iJ,aM] at hv;simp only[w6,nS,J1 v hv.1,Eh l hv.2]
end
end
def AU:List Value->List aW->Bool
 |[],[]=>ao
 |.int _ _::tm,c::cs=>c.i.isEmpty&&AU tm cs
 |.bool _::tm,c::cs=>c.b.isEmpty&&AU tm cs
 |.string _::tm,c::cs=>c.s.isEmpty&&AU tm cs
 |_,_=>an
structure T3 (r:Row):Prop where
 n:r.n=0
 ne:0<r.tm.length
 ew:AU r.tm r.ew=ao
theorem SW:∀ {tm:List Value} {cs:List aW},AU tm cs=ao->cs.length=tm.length/\∀ (f:Nat) (t:Value) (c:aW),tm[f]?=aa t->cs[f]?=aa c->jU t c 0
 |[],[],_=>⟨rfl,fun f t c h=>by simp at h⟩
 |[],_::_,h=>by simp[AU] at h
 |v::tm,[],h=>by cases v<;>simp[AU] at h
 |v::tm,c::cs,h=>by
  have:jU v c 0/\AU tm cs=ao:=by
   cases v<;>simp only[AU,aM,List.isEmpty_iff] at h<;>first|exact⟨by simp[jU,h.1],h.2⟩|cases h
  obtain⟨h1,h2⟩:=SW this.2;refine⟨by simp[h1],fun f t c' ht hc=>?_⟩
  cases f with
  |zero =>
   simp only[cf,cv] at ht hc;subst ht;subst hc;exact this.1
  |succ f =>
   simp only[bK] at ht hc;exact h2 f t c' ht hc
section
variable {R:Type} {D:fR R} {C:Ctx} {ρ ρn:Env} {ft:Nat->Nat->Prop} {w:World} {h hn:Hp R}
theorem abz {b:Nat} {F:Nat->Prop} {t:TypeId} {r:Row} (hr:T3 r) (hp:ρ b=WS) (hF:∀ k,¬ F k):hold D C ρ b F w (.inr (.inl (t,r))):=by
 obtain⟨c1,c2⟩:=SW hr.ew;simp only[hold,hp,WS];refine⟨fun k=>⟨fun hk=>absurd hk (hF k),fun hk=>by cases hk.1⟩,hr.ne,by rw[hr.n];exact a_ _,dv _,by simp,#[],(fun hk=>by cases hk),⟨c1,fun f t c ht hc=>by rw[hr.n];exact c2 f t c ht hc,fun f t c e _ _ he=>by rw[hr.n] at he;omega⟩⟩
def BU (n:Nat) (c:aW):aW:=⟨c.i.take n,c.b.take n,c.s.take n⟩
structure ZZ (r' r:Row):Prop where
 tm:r'.tm=r.tm
 n:r'.n≤r.n
 ew:r'.ew=r.ew.map (BU r'.n)
theorem Zh {t:Value} {c:aW} {n m:Nat} (h:jU t c n) (hm:m≤n):jU t (BU m c) m:=by
 cases t<;>simp only[jU,BU] at h ⊢<;>first|exact h|(rw[ej];omega)
theorem UJ {t:Value} {c:aW} {m e:Nat} (h:e<m):gJ t (BU m c) e=gJ t c e:=by
 cases t<;>simp only[gJ,BU,au,o9,h,if_true]
theorem oC.lt {r' r:Row} {arr:Array Value} {o:Nat} (h:oC r arr o) (hl:ZZ r' r):oC r' arr o where
 len:=by rw[hl.ew,hl.tm,List.length_map];exact h.len
 JL f t c ht hc:=by
  rw[hl.tm] at ht;rw[hl.ew,fu] at hc;cases DN:r.ew[f]? with
  |none=>rw[DN] at hc;cases hc
  |some c0 =>
   rw[DN] at hc;injection hc with hc
   subst hc;exact Zh (h.JL f t c0 ht DN) hl.n
 cell f t c e ht hc he:=by
  rw[hl.tm] at ht ⊢;rw[hl.ew,fu] at hc;cases DN:r.ew[f]? with
  |none=>rw[DN] at hc;cases hc
  |some c0 =>
   rw[DN] at hc;injection hc with hc
   subst hc;rw[UJ he];exact h.cell f t c0 e ht DN (lH he hl.n)
def Gk (r' r:Row):Prop:=r'=r∨ZZ r' r
def LS (y x:(TypeId×Row) ⊕ Row ⊕ R):Prop :=
 match y,x with
 |.inl (t,r),.inl (t',r')=>t'=t/\Gk r' r
 |.inl _,.inr _=>False
 |.inr _,.inl _=>False
 |.inr y,.inr x=>y=x
def Pu (ρ ρn:Env) (n:Nat) (Y X:SB R):Prop :=
 match Y,X with
 |.inl (t,cs),.inl (t',Dd)=>t=t'/\Dd.map (bV ρn)=cs.map (bV ρ)/\iJ n Dd=ao
 |.inl _,_=>False
 |.inr _,.inl _=>False
 |.inr y,.inr x=>LS y x
theorem LS.refl (y:(TypeId×Row) ⊕ Row ⊕ R):LS y y:=by
 rcases y with⟨t,r⟩|r|x
 ·exact⟨rfl,dO rfl⟩
 ·rfl
 ·rfl
theorem SJ {i b:Nat} {F:Nat->Prop} {Y X:SB R} {n:Nat} (hh:hold D C ρ i F w Y) (hl:Pu ρ ρn n Y X) (hp:ρn b=ρ i):hold D C ρn b F w X/\inside n X:=by
 rcases Y with⟨t,cs⟩|Y
 ·rcases X with⟨t',Dd⟩|X
  ·obtain⟨rfl,h2,h3⟩:=hl;simp only[hold] at hh ⊢;rw[hp,h2];exact⟨hh,h3⟩
  ·cases hl
 ·rcases X with⟨t',Dd⟩|X
  ·cases hl
  ·replace hl:LS Y X:=hl
   rcases Y with⟨t,r⟩|Y<;>rcases X with⟨t',r'⟩|X
   ·have hq:t'=t/\(r'=r∨ZZ r' r):=hl;clear hl;obtain⟨e1,e2⟩:=hq;subst e1;rcases e2 with e3|hl
    ·subst e3;simp only[hold] at hh ⊢;rw[hp];exact⟨hh,trivial⟩
    ·simp only[hold] at hh ⊢;rw[hp];obtain⟨h1,h2,h3,h4,h5,arr,h6,h7⟩:=hh;exact⟨⟨h1,by rw[hl.tm];exact h2,jz hl.n h3,h4,h5,arr,by rw[hl.tm];exact h6,h7.lt hl⟩,trivial⟩
   ·exact kV hl
   ·exact kV hl
   ·have hl:Y=X:=hl;subst hl;rcases Y with r|x
    ·simp only[hold] at hh ⊢;rw[hp];exact⟨hh,trivial⟩
    ·simp only[hold] at hh ⊢;rw[hp];exact⟨hh,trivial⟩
theorem HM.rename (hm:HM D C ρ ft h w) (s:Nat->Nat)
  (hb:∀ (b:Nat) (X:SB R),hn[b]?=aa (aa X)->(ρn b=ρ (s b)/\∃ Y,h[s b]?=aa (aa Y)/\Pu ρ ρn hn.length Y X)∨(h.length≤s b/\ρn b=WS/\∃ t r,X=.inr (.inl (t,r))/\T3 r))
  (hi:∀ (b b':Nat) (X X':SB R),s b<h.length->hn[b]?=aa (aa X)->hn[b']?=aa (aa X')->s b=s b'->b=b') :
  HM D C ρn (fun b k=>(∃ X,hn[b]?=aa (aa X))/\ft (s b) k) hn w where
 at_ b X hX:=by
  rcases hb b X hX with⟨h1,Y,hY,hl⟩|⟨ki,hp,t,r,rfl,hr⟩
  rotate_left
  ·exact⟨abz hr hp fun k hk=>by
    obtain⟨B,hB⟩:=hm.some_ _ k hk.2;have:=(aU.1 hB).1;omega,trivial⟩
  have:=SJ (hm.at_ (s b) Y hY).1 hl h1;have e:(fun k=>(∃ X,hn[b]?=aa (aa X))/\ft (s b) k)=ft (s b):=funext fun k=>propext ⟨fun h=>h.2,fun h=>⟨⟨X,hX⟩,h⟩⟩
  rw[e];exact this
 lt b k hk:=hm.lt _ k hk.2
 fresh b k hk:=hm.fresh _ k hk.2
 apart b b' k hk nQ:=by
  obtain⟨⟨X,hX⟩,h1⟩:=hk;obtain⟨⟨X',hX'⟩,h2⟩:=nQ;have cd:s b<h.length:=by
   obtain⟨B,hB⟩:=hm.some_ _ k h1;exact(aU.1 hB).1
  exact hi b b' X X' cd hX hX' (hm.apart _ _ k h1 h2)
 some_ b k hk:=hk.1
 kept:=hm.kept
def zm (s:Nat->Nat):SB R->SB R
 |.inl (t,cs)=>.inl (t,ma s cs)
 |.inr x=>.inr x
theorem se {ρ:Env} {s:Nat->Nat} (l:List Value):(ma s l).map (bV ρ)=l.map (bV (fun i=>ρ (s i))):=by rw[← lB,← lB,BZ]
end
end Rx
namespace Rx
open Go.RowKit State
def nth:List Nat->Nat->Nat
 |[],_=>0
 |a::_,0=>a
 |_::l,i+1=>nth l i
def pos:List Nat->Nat->Nat
 |[],_=>0
 |a::l,b=>match fj a b with
  |true=>0
  |false=>pos l b+1
def wg:List Nat->Bool
 |[]=>ao
 |a::l=>!mem l a&&wg l
theorem H8:∀ {s:List Nat} {i:Nat},i<s.length->nth s i∈s
 |[],i,h=>by simp at h
 |a::l,0,_=>by simp[nth]
 |a::l,i+1,h=>by
  simp only[nth];exact dX _ (H8 (by simpa using h))
theorem oY:∀ {s:List Nat} {b:Nat},b∈s->nth s (pos s b)=b/\pos s b<s.length
 |[],b,h=>by cases h
 |a::l,b,h=>by
  simp only[pos];split
  ·rename_i hb;exact⟨cQ hb,by simp⟩
  ·rename_i hb;have hl:b∈l:=by
    rcases bN.1 h with rfl|h
    ·simp at hb
    ·exact h
   obtain⟨h1,h2⟩:=oY hl;exact⟨by simpa [nth] using h1,by simp;omega⟩
theorem X7:∀ {s:List Nat} {i:Nat},wg s=ao->i<s.length->pos s (nth s i)=i
 |[],i,_,h=>by simp at h
 |a::l,0,_,_=>by simp[nth,pos]
 |a::l,i+1,hn,h=>by
  simp only[wg,aM,m8] at hn;have hi:i<l.length:=by simpa using h
  have hm:=H8 hi;simp only[nth,pos];have kG:fj a (nth l i)=an:=by
   cases hb:fj a (nth l i) with
   |false=>rfl
   |true =>
    rw[← cQ hb] at hm;rw[mem_iff.2 hm] at hn;simp at hn
  rw[kG];simp only;rw[X7 hn.2 hi]
section
variable {R:Type} {D:fR R} {P:Program} {T:eM R} {C:Ctx} {ρ gF:Env} {ft kF:Nat->Nat->Prop} {w w':World} {h hr hx h':Hp R}
theorem Cj {a b:Nat} (h:a<b):gY a b=ao:=qn.2 h
theorem z5 {a b:Nat} (h:¬ a<b):gY a b=an:=by
 cases hb:gY a b with
 |false=>rfl
 |true=>exact absurd (qn.1 hb) h
theorem fK {α:Type} {l:List α} {k:Nat} (h:l.length=k):cut l 0 k=l:=by subst h;exact agU l
def Kz:Value->Value
 |.slice (aa ⟨b,0,aa q⟩) n c=>match fj (q / 1000000) (b+1)&&fj (q%1000) 0 with
  |true=>.slice (aa ⟨b,0,aa (q%1000000)⟩) n c
  |false=>.slice (aa ⟨b,0,aa q⟩) n c
 |v=>v
theorem NH (ρ:Env) (v:Value):bV ρ (Kz v)=bV ρ v:=by
 unfold Kz;split
 ·rename_i b q n c;split
  ·rename_i h;simp only[aM] at h;have h1:=cQ h.1;have h2:=cQ h.2;simp only[bV,Ab]
   by_cases hn:(ρ b).nil=ao
   ·rw[if_pos hn,if_pos hn]
   ·rw[if_neg hn,if_neg hn,if_neg (fun h=>h.1 (by omega))]
    by_cases hc:(ρ b).cap≤0
    ·rw[if_pos ⟨by omega,hc⟩,show q / 1000000-1=b by omega]
     have h3:q%1000000%1000=0:=by omega
     have h4:(ρ b).cap=0:=by omega
     simp only[iQ,cellOf,BA,bW,h3,h4,gZ]
    ·rw[if_neg (fun h=>hc h.2)]
     have h3:q%1000000%1000=q%1000:=by omega
     simp only[iQ,cellOf,BA,bW,h3]
  ·rfl
 ·rfl
theorem NN (m:Nat) (v:Value):fD m (Kz v)=fD m v:=by
 unfold Kz;split
 ·rename_i b q n c;split
  ·rename_i h;simp only[aM] at h;have h1:=cQ h.1;rw[Bool.eq_iff_iff];simp only[fD,FN,aM,fo,vR];omega
  ·rfl
 ·rfl
def Ik:List Value->List Value
 |[]=>[]
 |v::l=>Kz v::Ik l
theorem KI (ρ:Env):∀ l:List Value,(Ik l).map (bV ρ)=l.map (bV ρ)
 |[]=>rfl
 |v::l=>by simp only[Ik,gC,NH,KI ρ l]
theorem KG (m:Nat):∀ l:List Value,iJ m (Ik l)=iJ m l
 |[]=>rfl
 |v::l=>by simp only[Ik,iJ,NN,KG m l]
structure alN (k:Nat) (s:Nat->Nat) (hp:Hp R) (j:Nat) (t:TypeId) (cs:List Value):Prop where
 ex:∃ Dd,gg hp j=aa (.inl (t,Dd))/\Ik Dd=Ik (w6 k (ma s cs))
def Bc (k:Nat) (s:Nat->Nat) (hp:Hp R) (j:Nat):SB R->Prop
 |.inl (t,cs)=>gg hp j=aa (.inl (t,w6 k (ma s cs)))∨alN k s hp j t cs
 |.inr (.inl (t,r'))=>match gY j k with
  |true=>∃ r,gg hp j=aa (.inr (.inl (t,r)))/\Gk r' r
  |false=>T3 r'
 |.inr (.inr x)=>gg hp j=aa (.inr (.inr x))
def ur (k:Nat) (s:Nat->Nat) (hp:Hp R):Nat->Hp R->Prop
 |_,[]=>True
 |b,aj::l=>ur k s hp (b+1) l
 |b,aa X::l=>Bc k s hp (s b) X/\ur k s hp (b+1) l
def zw (k:Nat) (s:Nat->Nat):Nat->Hp R->List Nat
 |_,[]=>[]
 |b,aj::l=>zw k s (b+1) l
 |b,aa _::l=>match gY (s b) k with
  |true=>s b::zw k s (b+1) l
  |false=>zw k s (b+1) l
theorem ur.get {k:Nat} {s:Nat->Nat} {hp:Hp R}:∀ {b:Nat} {l:Hp R} {i:Nat} {X:SB R},ur k s hp b l->l[i]?=aa (aa X)->Bc k s hp (s (b+i)) X
 |b,[],i,X,_,hi=>by simp at hi
 |b,aj::l,i,X,h,hi=>by
  cases i with
  |zero=>simp at hi
  |succ i =>
   simp only[bK] at hi;have:=ur.get (b:=b+1) h hi
   rwa [show b+1+i=b+(i+1) by omega] at this
 |b,aa Y::l,i,X,h,hi=>by
  cases i with
  |zero =>
   simp only[cf,cv] at hi;subst hi;exact h.1
  |succ i =>
   simp only[bK] at hi;have:=ur.get (b:=b+1) h.2 hi
   rwa [show b+1+i=b+(i+1) by omega] at this
theorem Iu {k:Nat} {s:Nat->Nat}:∀ {b:Nat} {l:Hp R} {i:Nat} {X:SB R},s (b+i)<k->l[i]?=aa (aa X)->s (b+i)∈zw k s b l
 |b,[],i,X,_,hi=>by simp at hi
 |b,aj::l,i,X,hk,hi=>by
  cases i with
  |zero=>simp at hi
  |succ i =>
   simp only[bK] at hi;rw[show b+(i+1)=b+1+i by omega] at hk ⊢
   exact Iu (s:=s) (b:=b+1) hk hi
 |b,aa Y::l,i,X,hk,hi=>by
  simp only[zw];cases i with
  |zero =>
   simp only[gZ] at hk ⊢;rw[qn.2 hk];exact bL
  |succ i =>
   simp only[bK] at hi;rw[show b+(i+1)=b+1+i by omega] at hk ⊢
   have:=Iu (s:=s) (b:=b+1) hk hi;split
   ·exact dX _ this
   ·exact this
theorem M_ {k:Nat} {s:Nat->Nat}:∀ {b:Nat} {l:Hp R} {i j:Nat} {X Y:SB R},wg (zw k s b l)=ao->s (b+i)<k->l[i]?=aa (aa X)->l[j]?=aa (aa Y)->s (b+i)=s (b+j)->i=j
 |b,[],i,j,X,Y,_,_,hi,_,_=>by simp at hi
 |b,aj::l,i,j,X,Y,hn,hk,hi,hj,he=>by
  cases i with
  |zero=>simp at hi
  |succ i =>
   cases j with
   |zero=>simp at hj
   |succ j =>
    simp only[bK] at hi hj;rw[show b+(i+1)=b+1+i by omega] at hk he
    rw[show b+(j+1)=b+1+j by omega] at he
    rw[M_ (b:=b+1) (s:=s) hn hk hi hj he]
 |b,aa Z::l,i,j,X,Y,hn,hk,hi,hj,he=>by
  have yt:wg (zw k s (b+1) l)=ao/\(s b<k->¬ s b∈zw k s (b+1) l):=by
   simp only[zw] at hn;split at hn
   ·simp only[wg,aM,m8] at hn;exact⟨hn.2,fun _ hm=>by rw[mem_iff.2 hm] at hn;simp at hn⟩
   ·rename_i hb;exact⟨hn,fun cd=>by rw[qn.2 cd] at hb;cases hb⟩
  cases i with
  |zero =>
   cases j with
   |zero=>rfl
   |succ j =>
    simp only[bK] at hj;simp only[gZ] at hk he;rw[show b+(j+1)=b+1+j by omega] at he
    have:=Iu (s:=s) (b:=b+1) (k:=k) (by rw[← he];exact hk) hj
    rw[← he] at this;exact absurd this (yt.2 hk)
  |succ i =>
   simp only[bK] at hi;rw[show b+(i+1)=b+1+i by omega] at hk he
   cases j with
   |zero =>
    simp only[gZ] at he;have:=Iu (s:=s) (b:=b+1) hk hi;rw[he] at this hk;exact absurd this (yt.2 hk)
   |succ j =>
    simp only[bK] at hj;rw[show b+(j+1)=b+1+j by omega] at he
    rw[M_ (b:=b+1) (s:=s) yt.1 hk hi hj he]
theorem rH {b:Nat} {X:SB R} (hb:gg h b=aa X):h[b]?=aa (aa X):=by
 unfold gg at hb;split at hb
 ·rename_i hh;rw[hh,hb]
 ·cases hb
theorem Kp {b:Nat} {X:SB R} (hb:h[b]?=aa (aa X)):gg h b=aa X:=by
 unfold gg;rw[hb]
theorem ahZ {n:Nat} {s:Nat->Nat} {ρn:Env} {X:SB R} (qW:∀ b,ρn b=ρ (s b)) (hi:inside n X):Pu ρ ρn n (zm s X) X:=by
 have e:ρn=fun b=>ρ (s b):=funext qW
 rcases X with⟨t,cs⟩|X
 ·refine⟨rfl,?_,hi⟩;rw[se,e]
 ·exact LS.refl X
theorem Bc.anR {n:Nat} {s:Nat->Nat} {ρn:Env} {X:SB R} {hp:Hp R} {j:Nat} (h:Bc hp.length s hp j X) (kj:∀ Y,hp[j]?=aa (aa Y)->inside hp.length Y) (qW:∀ b,ρn b=xR ρ hp.length (s b)) (hi:inside n X) :
  (j<hp.length/\∃ Y,hp[j]?=aa (aa Y)/\Pu ρ ρn n Y X)∨(hp.length≤j/\∃ t r,X=.inr (.inl (t,r))/\T3 r):=by
 have lt:∀ {Y},hp[j]?=aa (aa Y)->j<hp.length:=fun hY=>(aU.1 hY).1
 rcases X with⟨t,cs⟩|⟨t,r'⟩|x
 ·have hT:∃ Dd,gg hp j=aa (.inl (t,Dd))/\Ik Dd=Ik (w6 hp.length (ma s cs)):=by
   rcases h with h|⟨⟨Dd,h1,h2⟩⟩
   ·exact⟨_,h,rfl⟩
   ·exact⟨Dd,h1,h2⟩
  obtain⟨Dd,h1,h2⟩:=hT;have hY:=rH h1;refine dO ⟨lt hY,_,hY,rfl,?_,hi⟩;have akH:=kj _ hY;simp only[inside] at akH;have anK:iJ hp.length (w6 hp.length (ma s cs))=ao:=by rw[← KG,← h2,KG];exact akH
  rw[← KI ρ Dd,h2,KI,← lB,← lB,Eh _ anK,BZ]
  congr 1
  exact funext qW
 ·simp only[Bc] at h;split at h
  ·obtain⟨r,h1,h2⟩:=h;exact dO ⟨lt (rH h1),_,rH h1,⟨rfl,h2⟩⟩
  ·rename_i hb;refine e_ ⟨?_,t,r',rfl,h⟩;rcases ct j hp.length with h'|h'
   ·rw[qn.2 h'] at hb;cases hb
   ·exact h'
 ·exact dO ⟨lt (rH h),_,rH h,by cases x<;>rfl⟩
theorem HM.WL {s:Nat->Nat} {hp hn:Hp R} (hm:HM D C ρ ft hp w) (h2:ur hp.length s hp 0 hn) (h3:wg (zw hp.length s 0 hn)=ao) (h5:tF hn.length hn=ao) :
  HM D C (fun b=>xR ρ hp.length (s b)) (fun b k=>(∃ X,hn[b]?=aa (aa X))/\ft (s b) k) hn w:=by
 refine hm.rename s (fun b X hX=>?_) fun b b' X X' cd hX hX' he=>M_ (b:=0) h3 (by simpa using cd) hX hX' (by simpa using he)
 have:=h2.get hX;rw[bW] at this;rcases this.anR (fun Y hY=>(hm.at_ _ Y hY).2) (fun _=>rfl) (BV h5 hX) with⟨cd,Y,hY,hl⟩|⟨ki,t,r,rfl,hr⟩
 ·exact dO ⟨yf cd,Y,hY,hl⟩
 ·exact e_ ⟨ki,XO (by omega),t,r,rfl,hr⟩
structure Ends (n:Nat) (x:Out R) (v:Value) (hp:Hp R):Prop where
 ex:∃ s:List Nat,v=pQ hp.length (gr (nth s) x.v)/\fD hp.length v=ao/\ur hp.length (nth s) hp 0 x.hp/\wg (zw hp.length (nth s) 0 x.hp)=ao/\Gt (fun i=>fj (nth s i) i) n=ao/\vd n hp.length=ao/\tF x.hp.length x.hp=ao
theorem HM.ends {n:Nat} {x:Out R} {v:Value} {hp:Hp R} (he:Ends n x v hp) (hm:HM D C ρ ft hp w) :
  ∃ gF kF,(∀ i,i<n->gF i=ρ i)/\bV ρ v=bV gF x.v/\HM D C gF kF x.hp w:=by
 obtain⟨s,h1,SF,h2,h3,h4,J5,h5⟩:=he.ex;refine⟨fun b=>xR ρ hp.length (nth s b),_,fun i hi=>?_,?_,hm.WL h2 h3 h5⟩
 ·have:=Ac h4 hi;show xR ρ hp.length (nth s i)=ρ i
  rw[cQ this];have:=jQ J5;exact yf (by omega)
 ·rw[h1] at SF ⊢;rw[J1 _ SF,CV]
theorem wG {f : FuncId} {fn : Func} {root : Code} {on : List Value → Hp R → Prop} {spec : Prim R} (hf : P.funcs[f]? = aa fn) (hb : fn.body = aa root) (Y8 : (fn.name == "runtime.NumGoroutine") = an)
  (H:∀ args hh x,spec args hh=aa x->hh.length≤x.hp.length/\(∀ b,x.lit=aa b->x.v=.bool b)/\(x.wr=[]->x.hp=hh) /\
   (on args hh->x.vc->At D P root hh.length (iB P fn.results.toList (Ends hh.length x)) [.inl []] ⟨vG args++lC (fn.ntmps-args.length) aj,[],hh⟩)):rR D P f on spec where
 known:=⟨fn,hf,Y8,by rw[hb];rfl⟩
 run args hh x m7 hx C ρ ft w hm hv hi:=by
  obtain⟨_,_,_,h4⟩:=H args hh x hx;refine(Nz hf hb (h4 m7 hv) hm hi).mono fun e w' ⟨gF,kF,v,xc,g1,g2,g3,g4⟩=>?_
  obtain⟨nI,KL,q1,q2,q3⟩:=g4.ends g3;exact⟨nI,KL,fun i hi=>(q1 i hi).trans (g1 i hi),by rw[g2,q2],q3⟩
 len args hh x hx:=(H args hh x hx).1
 lit args hh x hx:=(H args hh x hx).2.1
 still args hh x hx:=(H args hh x hx).2.2.1
def Sub (hr h:Hp R):Prop:=∀ (b:Nat) (X:SB R),hr[b]?=aa (aa X)->h[b]?=aa (aa X)∨∃ t r,X=.inr (.inr (.inl r))/\h[b]?=aa (aa (.inr (.inl (t,r))))
def Bi (hr:Hp R) (b:Nat):Prop:=∃ X,hr[b]?=aa (aa X)/\ij X=an
def TI (w:World) (hr:Hp R) (ft:Nat->Nat->Prop) (ρ:Env) (n:Nat):Ctx:=⟨w,fun k=>∃ b,Bi hr b/\ft b k,ρ,n⟩
theorem HM.an2 (hm:HM D C ρ ft h w) (nA:Sub hr h) (hlen:hr.length=h.length) (n:Nat):HM D (TI w hr ft ρ n) ρ (fun b k=>Bi hr b/\ft b k) hr w where
 at_ i B hB:=by
  rcases nA i B hB with hi|⟨t,r,rfl,hi⟩
  ·obtain⟨h1,h2⟩:=hm.at_ i B hi;refine⟨?_,by rw[hlen];exact h2⟩
   cases hv:ij B with
   |false =>
    have e:(fun k=>Bi hr i/\ft i k)=ft i:=funext fun k=>propext ⟨fun h=>h.2,fun h=>⟨⟨B,hB,hv⟩,h⟩⟩
    rw[e];exact zz hv h1
   |true =>
    rcases B with⟨t,cs⟩|⟨t,r⟩|r|x<;>simp[ij] at hv
    obtain⟨g1,g2,g3,g4,g5,arr,g6,g7⟩:=h1;refine⟨fun k hk=>?_,g2,g3,g4,g5,arr,fun hn h0=>?_,g7⟩
    ·exact g1 k hk.2
    ·obtain⟨q1,q2,t,fz,q3⟩:=g6 hn h0;refine⟨lH q1 hm.kept.size,fun⟨b,_,hb⟩=>?_,t,fz,by rw[← q3];exact hm.kept.block _ q1 q2⟩
     rcases hm.fresh b _ hb with hu|ki
     ·exact q2 hu
     ·omega
  ·obtain⟨h1,h2⟩:=hm.at_ i _ hi;obtain⟨g1,g2,g3,g4,g5,arr,g6,g7⟩:=h1;have CS:¬ Bi hr i:=fun⟨X,hX,hv⟩=>by
    rw[hB] at hX;injection hX with hX;injection hX with hX
    subst hX;simp[ij] at hv
   refine⟨⟨fun k hk=>CS hk.1,g2,g3,g4,g5,arr,fun hn _=>?_,g7⟩,trivial⟩
   obtain⟨q1,q2⟩:=g6 hn;have MR:ft i (ρ i).lO:=(g1 _).2 ⟨hn,rfl⟩;refine⟨hm.lt i _ MR,fun⟨b,hb,hbk⟩=>?_,t,(0,0),q1⟩
   rw[hm.apart b i _ hbk MR] at hb;exact CS hb
 lt i k hk:=hm.lt i k hk.2
 fresh i k hk:=dO ⟨i,hk.1,hk.2⟩
 apart i j k hi hj:=hm.apart i j k hi.2 hj.2
 some_ i k hk:=by obtain⟨X,hX,_⟩:=hk.1;exact⟨X,hX⟩
 kept:=Kept.refl _ _
theorem HM.ajg (hm:HM D C ρ ft h w) (nA:Sub hr h) (hlen:hr.length=h.length) {n:Nat}
  (mR:HM D (TI w hr ft ρ n) gF kF hx w') (qW:∀ b,b<h.length->gF b=ρ b) (hlx:h.length≤hx.length)
  (hv:∀ (b:Nat) (X:SB R),hx[b]?=aa (aa X)->ij X=an∨∃ Y,hr[b]?=aa (aa Y)/\ij Y=ao)
  (amf:h'.length=hx.length) (uM:∀ (b:Nat),Bi hr b∨h.length≤b->h'[b]?=hx[b]?) (QA:∀ (b:Nat),b<h.length->¬ Bi hr b->h'[b]?=h[b]?) :
  HM D C gF (fun b k=>((Bi hr b∨h.length≤b)/\kF b k)∨(¬ (Bi hr b∨h.length≤b)/\ft b k)) h' w':=by
 refine hm.step (Bi hr) ⟨mR.kept.os,mR.kept.tape,mR.kept.output,mR.kept.size,fun k hk hn=>mR.kept.block k hk hn⟩ qW (by omega) ?_ ?_ ?_ ?_
 ·intro i B hi hB;have FM:Bi hr i∨h.length≤i:=by
   rcases ct i h.length with cd|si
   ·exact dO (hi cd)
   ·exact e_ si
  rw[uM i FM] at hB;obtain⟨g1,g2⟩:=mR.at_ i B hB;have SQ:ij B=an:=by
   rcases hv i B hB with h1|⟨Y,hY,X9⟩
   ·exact h1
   ·rcases FM with⟨Y',S7,J4⟩|si
    ·rw[hY] at S7;injection S7 with e;injection e with e;subst e;rw[X9] at J4;cases J4
    ·have:=(aU.1 hY).1;omega
  refine⟨?_,by rw[amf];exact g2⟩
  have e:(fun k=>((Bi hr i∨h.length≤i)/\kF i k)∨(¬ (Bi hr i∨h.length≤i)/\ft i k))=kF i:=funext fun k=>propext ⟨fun h=>h.elim (fun h=>h.2) (fun h=>absurd FM h.1),fun h=>dO ⟨FM,h⟩⟩
  rw[e];exact zz SQ g1
 ·intro i hi hn;refine⟨QA i hi hn,fun k=>?_⟩
  have:¬ (Bi hr i∨h.length≤i):=fun hh=>hh.elim hn (fun h=>by omega)
  exact⟨fun h=>h.elim (fun h=>absurd h.1 this) (fun h=>h.2),fun h=>e_ ⟨this,h⟩⟩
 ·intro i k hi hk;have FM:Bi hr i∨h.length≤i:=by
   rcases ct i h.length with cd|si
   ·exact dO (hi cd)
   ·exact e_ si
  have nQ:kF i k:=hk.elim (fun h=>h.2) (fun h=>absurd FM h.1)
  refine⟨?_,mR.lt i k nQ,?_⟩
  ·rcases mR.fresh i k nQ with⟨b,hb,hbk⟩|si
   ·exact dO ⟨b,hb,hbk⟩
   ·exact e_ si
  ·obtain⟨B,hB⟩:=mR.some_ i k nQ;exact⟨B,by rw[uM i FM];exact hB⟩
 ·intro i j k hi hj Hy HC;have MU:Bi hr i∨h.length≤i:=by
   rcases ct i h.length with cd|si
   ·exact dO (hi cd)
   ·exact e_ si
  have hTj:Bi hr j∨h.length≤j:=by
   rcases ct j h.length with cd|si
   ·exact dO (hj cd)
   ·exact e_ si
  exact mR.apart i j k (Hy.elim (fun h=>h.2) (fun h=>absurd MU h.1)) (HC.elim (fun h=>h.2) (fun h=>absurd hTj h.1))
def Gx (z:Bool):SB R->SB R
 |.inr (.inl (t,r))=>match z with
  |true=>.inr (.inr (.inl r))
  |false=>.inr (.inl (t,r))
 |B=>B
def pq (z:Nat->Bool) (u:Nat->Nat) (h:Hp R):Nat->List Nat->Hp R
 |_,[]=>[]
 |i,b::l=>(match gg h b with
  |some B=>aa (zm u (Gx (z i) B))
  |none=>aj)::pq z u h (i+1) l
def PI (s:List Nat) (h:Hp R):List Nat->Bool
 |[]=>ao
 |b::l=>gY b h.length&&(match gg h b with
  |some (.inl (_,cs))=>Aj (mem s) cs
  |_=>ao)&&PI s h l
def MP:List Nat->List Nat->List Nat
 |[],_=>[]
 |a::l,seen=>if mem seen a then MP l seen else a::MP l (a::seen)
def qF (s:List Nat) (n i:Nat):Nat:=if gY i s.length then nth s i else n+(i-s.length)
def J' (f:Nat->Nat):Option (SB R)->Option (SB R)
 |some B=>aa (zm f B)
 |none=>aj
def yW (s:List Nat) (f:Nat->Nat) (hl hx:Hp R):Nat->Hp R->Hp R
 |_,[]=>[]
 |b,x::h=>(if mem s b&&Iw hl (pos s b) then J' f (gg hx (pos s b)) else x)::yW s f hl hx (b+1) h
def zi (f:Nat->Nat):Hp R->Hp R
 |[]=>[]
 |x::l=>J' f x::zi f l
def D_ (z:Nat->Bool) (d:Nat) (spec:Prim R):Prim R:=fun args h =>
 UZ (MP (reach h d (tc args)) []) fun s =>
  if Aj (mem s) args&&PI s h s&&wg s then
   MW (pq z (pos s) h 0 s) fun hl =>
    match spec (ma (pos s) args) hl with
    |some x=>if rX hl x.hp&&fD x.hp.length x.v then
      aa ⟨x.vc,gr (qF s h.length) x.v,x.lit,yW s (qF s h.length) hl x.hp 0 h++zi (qF s h.length) (x.hp.drop s.length),[],match x.wr with
       |[]=>[]
       |_=>[(0,0)]⟩
     else aj
    |none=>aj
  else aj
def aar (z:Nat->Bool) (d:Nat) (when:List Value->Hp R->Option Bool) (args:List Value) (h:Hp R):Option Bool :=
 UZ (MP (reach h d (tc args)) []) fun s=>MW (pq z (pos s) h 0 s) fun hl=>when (ma (pos s) args) hl
def bJ (z:Nat->Bool) (d:Nat) (c:jo R):jo R:=⟨aar z d c.when,D_ z d c.yes,D_ z d c.no⟩
mutual
theorem af0 {p q:Nat->Bool} {s:Nat->Nat} (h:∀ i,p i=ao->q (s i)=ao):∀ v,mX p v=ao->mX q (gr s v)=ao
 |.pointer (aa a),hv=>by simp only[gr,mX] at *;exact acF h hv
 |.pointer aj,_=>by simp[gr,mX]
 |.slice (aa a) k c,hv=>by simp only[gr,mX] at *;exact acF h hv
 |.slice aj _ _,_=>by simp[gr,mX]
 |.map (aa r),hv=>by simp only[gr,mX] at *;exact h r hv
 |.map aj,_=>by simp[gr,mX]
 |.chan (aa r),hv=>by simp only[gr,mX] at *;exact h r hv
 |.chan aj,_=>by simp[gr,mX]
 |.agg ⟨l⟩,hv=>by simp only[gr,mX] at *;exact FD h l hv
 |.tuple ⟨l⟩,hv=>by simp only[gr,mX] at *;exact FD h l hv
 |.func fn ⟨f⟩ ⟨c⟩,hv=>by
  simp only[gr,mX,aM] at *
  exact⟨FD h f hv.1,FD h c hv.2⟩
 |.iface t v,hv=>by simp only[gr,mX] at *;exact af0 h v hv
 |.int _ _,_=>by simp[gr,mX]
 |.bool _,_=>by simp[gr,mX]
 |.string _,_=>by simp[gr,mX]
 |.float _ _,_=>by simp[gr,mX]
 |.complex _ _ _,_=>by simp[gr,mX]
 |.nilFunc,_=>by simp[gr,mX]
 |.nilIface,_=>by simp[gr,mX]
theorem FD {p q:Nat->Bool} {s:Nat->Nat} (h:∀ i,p i=ao->q (s i)=ao):∀ l,Aj p l=ao->Aj q (ma s l)=ao
 |[],_=>by simp[ma,Aj]
 |v::l,hv=>by
  simp only[Aj,aM] at hv;simp only[ma,Aj,aM];exact⟨af0 h v hv.1,FD h l hv.2⟩
theorem acF {p q:Nat->Bool} {s:Nat->Nat} (h:∀ i,p i=ao->q (s i)=ao) {a:Addr} (ha:My p a=ao):My q (wj s a)=ao:=by
 have h1:=(so ha).1;have h2:=(so ha).2;obtain⟨b,o,t⟩:=a;cases t with
 |none=>exact h b h1
 |some t =>
  have h3:Kx q (C5 s t)=ao:=aje h (h2 t rfl);simp only[wj,My];rw[h b h1,h3]
  rfl
end
theorem ss {z:Nat->Bool} {u:Nat->Nat} {h:Hp R}:∀ {l:List Nat} {i0 i:Nat},(pq z u h i0 l).length=l.length/\(i<l.length->(pq z u h i0 l)[i]?=aa (match gg h (nth l i) with
  |some B=>aa (zm u (Gx (z (i0+i)) B))
  |none=>aj))
 |[],i0,i=>⟨rfl,fun h=>by simp at h⟩
 |b::l,i0,i=>by
  obtain⟨h1,h2⟩:=ss (z:=z) (u:=u) (h:=h) (l:=l) (i0:=i0+1) (i:=i-1);refine⟨by simp[pq,h1],fun hl=>?_⟩
  cases i with
  |zero=>simp only[pq,cf,nth,gZ]
  |succ i =>
   simp only[cy] at hl;have:=h2 (by omega)
   simp only[pq,bK,nth];simp only[mA] at this;rw[this,show i0+1+i=i0+(i+1) by omega]
theorem C_ {s:List Nat} {h:Hp R}:∀ {l:List Nat} {b:Nat},PI s h l=ao->b∈l->b<h.length/\∀ t cs,gg h b=aa (.inl (t,cs))->Aj (mem s) cs=ao
 |[],b,_,hb=>by cases hb
 |a::l,b,hs,hb=>by
  simp only[PI,aM,fo] at hs;rcases bN.1 hb with rfl|hb
  ·refine⟨hs.1.1,fun t cs e=>?_⟩
   have:=hs.1.2;rw[e] at this;exact this
  ·exact C_ hs.2 hb
theorem nU {s:List Nat} {f:Nat->Nat} {hl hx:Hp R}:∀ {h:Hp R} {b0 b:Nat},(yW s f hl hx b0 h).length=h.length/\(b<h.length->(yW s f hl hx b0 h)[b]?=aa (if mem s (b0+b)&&Iw hl (pos s (b0+b)) then J' f (gg hx (pos s (b0+b))) else gg h b))
 |[],b0,b=>⟨rfl,fun h=>by simp at h⟩
 |x::h,b0,b=>by
  obtain⟨h1,h2⟩:=nU (s:=s) (f:=f) (hl:=hl) (hx:=hx) (h:=h) (b0:=b0+1) (b:=b-1);refine⟨by simp[yW,h1],fun cd=>?_⟩
  cases b with
  |zero=>simp[yW,gg]
  |succ b =>
   simp only[cy] at cd;have:=h2 (by omega)
   simp only[yW,bK];simp only[mA] at this;rw[this,show b0+1+b=b0+(b+1) by omega]
   simp[gg]
theorem vr {f:Nat->Nat}:∀ {l:Hp R} {i:Nat},(zi f l).length=l.length/\(zi f l)[i]?=(l[i]?).map (J' f)
 |[],i=>⟨rfl,by simp[zi]⟩
 |x::l,i=>by
  obtain⟨h1,h2⟩:=vr (f:=f) (l:=l) (i:=i-1);refine⟨by simp[zi,h1],?_⟩
  cases i with
  |zero=>simp[zi]
  |succ i=>simp only[zi,bK];simpa using h2
end
end Rx
namespace Rx
open Go.RowKit State
def aa1:Option Code->Bool
 |some (.loop _)=>ao
 |_=>an
section
variable {R:Type} {D:fR R} {P:Program} {C:Ctx} {w:World}
def IY:List (Option Value)->List (Option Value)
 |[]=>[]
 |some v::l=>aa (Kz v)::IY l
 |none::l=>aj::IY l
theorem Wm {k:Nat} {u:Nat->Nat} {tm:List (Option Value)}:∀ {ts:List Nat} {vs:List Value} {i:Nat} {v:Value},IY (Ko tm ts)=IY (vG (w6 k (ma u vs)))->slot ts vs i=aa v->∃ v',tm[i]?=aa (aa v')/\Kz v'=Kz (pQ k (gr u v))
 |[],_,i,v,_,h=>by simp[slot] at h
 |_::_,[],i,v,_,h=>by simp[slot] at h
 |t::ts,x::vs,i,v,hv,h=>by
  simp only[Ko,vG,ma,w6] at hv;simp only[slot] at h;cases hm:tm[t]? with
  |none=>rw[hm] at hv;simp only[IY] at hv;injection hv with h1 h2;cases h1
  |some o =>
   cases o with
   |none=>rw[hm] at hv;simp only[IY] at hv;injection hv with h1 h2;cases h1
   |some v' =>
    rw[hm] at hv;simp only[IY] at hv;injection hv with h1 h2
    injection h1 with h1
    split at h
    ·rename_i hb;have:=cQ hb;subst this;injection h with h
     subst h;exact⟨v',hm,h1⟩
    ·exact Wm h2 h
structure jJ (R:Type) (n0 N:Nat) (ts:List Nat) (vs:List Value) (h:Hp R) (tv:List (Option Value)) (hp:Hp R) (tl:Nat):Prop where
 ex:∃ s:List Nat,IY tv=IY (vG (w6 hp.length (ma (nth s) vs)))/\ur hp.length (nth s) hp 0 h/\wg (zw hp.length (nth s) 0 h)=ao/\Gt (fun i=>fj (nth s i) i) n0=ao/\vd n0 hp.length=ao/\tl=N
theorem Vn:∀ {ts:List Nat} {vs:List Value} {i:Nat} {v:Value},slot ts vs i=aa v->v∈vs
 |[],_,i,v,h=>by simp[slot] at h
 |_::_,[],i,v,h=>by simp[slot] at h
 |t::ts,x::vs,i,v,h=>by
  simp only[slot] at h;split at h
  ·injection h with h;subst h;exact bL
  ·exact dX _ (Vn h)
theorem M.ZA {σ:SS R} {a:Act} {n0 N:Nat} {ts:List Nat} {vs:List Value} {h:Hp R} (hC:C.n0=n0) (hm:M D C σ a w) (hf:jJ R n0 N ts vs h (Ko σ.tm ts) σ.hp σ.tm.length) (hv:iJ h.length vs=ao) (hi:tF h.length h=ao):M D C ⟨frame ts vs 0 N,[],h⟩ a w:=by
 obtain⟨ρ,ft,h0,h1,h2⟩:=hm.ex;obtain⟨s,f1,f2,f3,f4,f5,f6⟩:=hf.ex;refine⟨hm.defers,fun t b hb=>(by cases hb),fun b=>xR ρ σ.hp.length (nth s b),_,fun i kQ=>?_,⟨?_,fun t v ht=>?_⟩,h2.WL f2 f3 hi⟩
 ·have:=Ac f4 (by omega:i<n0)
  show xR ρ σ.hp.length (nth s i)=C.e0 i
  rw[cQ this];have:=jQ f5;rw[yf (by omega),h0 i kQ]
 ·rw[h1.size,f6,(GH ts vs N 0 0).1]
 ·have hl:t<N:=by have:=(aU.1 ht).1;rw[(GH ts vs N 0 0).1] at this;exact this
  rw[(GH ts vs N 0 t).2 hl,bW] at ht;injection ht with ht
  obtain⟨v',g1,e1⟩:=Wm f1 ht;obtain⟨g2,g3⟩:=h1.val t _ g1;refine⟨?_,xd.1 hv v (Vn ht)⟩;have g4:fD σ.hp.length (pQ σ.hp.length (gr (nth s) v))=ao:=by rw[← NN,← e1,NN];exact g3
  rw[g2,← NH ρ v',e1,NH,J1 _ g4,CV]
theorem kC {root:Code} {n0:Nat} {k:Exit->SS R->Prop} {p:List Nat} {r:List (It R)} {σ:SS R} (hc:aa1 (jj root p)=ao) {ι:Type} (I:ι->Prop) (ts:List Nat) (V:ι->List Value) (H:ι->Hp R) (μ:ι->Nat) (N:Nat)
  (kj:∀ i,I i->iJ (H i).length (V i)=ao/\tF (H i).length (H i)=ao/\n0≤(H i).length)
  (h0:∃ i,I i/\jJ R n0 N ts (V i) (H i) (Ko σ.tm ts) σ.hp σ.tm.length)
  (step:∀ i,I i->At D P root n0 k (.inl (p++[0]) :: .inr (.inr fun oV=>∃ j,I j/\μ j<μ i/\jJ R n0 N ts (V j) (H j) (Ko oV.tm ts) oV.hp oV.tm.length)::r) ⟨frame ts (V i) 0 N,[],H i⟩) :
  At D P root n0 k (.inl p::r) σ:=by
 have DN:∃ body,jj root p=aa (.loop body):=by
  unfold aa1 at hc;split at hc
  ·exact⟨_,by assumption⟩
  ·cases hc
 obtain⟨body,hc⟩:=DN;refine⟨fun C a w hC hn hm=>?_⟩
 simp only[pN,hc];obtain⟨i0,hI0,hf0⟩:=h0;obtain⟨q1,q2,_⟩:=kj i0 hI0;have key:∀ (i:ι) (a:Act) (w:World),I i->M D C ⟨frame ts (V i) 0 N,[],H i⟩ a w->(Code.loop body).wp P (pN D P C root k r) a w:=by
  intro i a w hI hM
  have least:∀ (a:Act) (w:World),(∃ i,I i/\M D C ⟨frame ts (V i) 0 N,[],H i⟩ a w) ->
    ∃ n i,μ i=n/\I i/\M D C ⟨frame ts (V i) 0 N,[],H i⟩ a w/\∀ j,I j->M D C ⟨frame ts (V j) 0 N,[],H j⟩ a w->n≤μ j:=by
   intro a w ⟨i,hI,hM⟩;have:∀ (n:Nat) (i:ι),μ i=n->I i->M D C ⟨frame ts (V i) 0 N,[],H i⟩ a w->∃ n i,μ i=n/\I i/\M D C ⟨frame ts (V i) 0 N,[],H i⟩ a w/\∀ j,I j->M D C ⟨frame ts (V j) 0 N,[],H j⟩ a w->n≤μ j:=by
    intro n
    induction n using tW with
    |_ n ih =>
     intro i hn hI hM
     by_cases hex:∃ j,I j/\M D C ⟨frame ts (V j) 0 N,[],H j⟩ a w/\μ j<n
     ·obtain⟨j,hJ,hMj,cd⟩:=hex;exact ih (μ j) cd j rfl hJ hMj
     ·exact⟨n,i,hn,hI,hM,fun j hJ hMj=>nL fun cd=>hex ⟨j,hJ,hMj,cd⟩⟩
   exact this _ i rfl hI hM
  have spec:=fun a w h=>XI (p:=fun n=>∃ i,μ i=n/\I i/\M D C ⟨frame ts (V i) 0 N,[],H i⟩ a w/\∀ j,I j->M D C ⟨frame ts (V j) 0 N,[],H j⟩ a w->n≤μ j) (least a w h)
  refine wp_loop (fun a w=>∃ i,I i/\M D C ⟨frame ts (V i) 0 N,[],H i⟩ a w) (fun a w=>Classical.epsilon fun n=>∃ i,μ i=n/\I i/\M D C ⟨frame ts (V i) 0 N,[],H i⟩ a w/\∀ j,I j->M D C ⟨frame ts (V j) 0 N,[],H j⟩ a w->n≤μ j) ⟨i,hI,hM⟩ ?_
  intro a w ⟨i,hI,hM⟩;obtain⟨i',e1,hI',YD,aqk⟩:=spec a w ⟨i,hI,hM⟩;obtain⟨_,_,yt⟩:=kj i' hI';have ZX:=(step i' hI').run C a w hC yt YD;simp only[pN] at ZX;rw[show jj root (p++[0])=aa body by rw[oA p root _ [0] hc];simp[jj]] at ZX
  refine wp_mono ZX fun e a' w' h=>?_
  cases e with
  |normal =>
   obtain⟨oV,⟨j,hJ,cd,Fq⟩,_,hM2⟩:=h;obtain⟨g1,g2,_⟩:=kj j hJ;have hM3:=hM2.ZA hC Fq g1 g2;refine⟨⟨j,hJ,hM3⟩,?_⟩;obtain⟨i2,e2,_,_,al3⟩:=spec a' w' ⟨j,hJ,hM3⟩;have:=al3 j hJ hM3;omega
  |_=>exact h
 exact key i0 a w hI0 (hm.ZA hC hf0 q1 q2)
end
end Rx
namespace Rx
open Go.RowKit State
section
variable {R:Type} {D:fR R} {P:Program} {T:eM R} {C:Ctx} {w w':World}
def eqP:List Nat->List Nat->Bool
 |[],[]=>ao
 |a::l,b::r=>fj a b&&eqP l r
 |_,_=>an
def aky:List (List Nat)->List Nat->Bool
 |[],_=>an
 |q::l,p=>eqP q p||aky l p
def Fv (S:List (List Nat)) (D:fR R) (P:Program) (T:eM R) (root:Code) (n0:Nat) (k:Exit->SS R->Prop):Nat->List (It R)->SS R->Prop
 |0,todo,σ=>At D P root n0 k todo σ
 |n+1,todo,σ =>
  match todo with
  |[]=>k .normal σ
  |.inr (.inl _)::r=>Fv S D P T root n0 k n r σ
  |.inr (.inr J)::r=>aY (J σ)
  |.inl p::r =>
   if aky S p then At D P root n0 k (.inl p::r) σ else
   match jj root p with
   |none=>oB 5
   |some c =>
    match c with
    |.skip=>Fv S D P T root n0 k n r σ
    |.label _=>Fv S D P T root n0 k n r σ
    |.seq _ _=>Fv S D P T root n0 k n (.inl (p++[0]) :: .inl (p++[1])::r) σ
    |.block id _=>Fv S D P T root n0 k n (.inl (p++[0]) :: .inr (.inl id)::r) σ
    |.cond x _ _ =>
     match Gj σ.li x with
     |some ao=>Fv S D P T root n0 k n (.inl (p++[0])::r) σ
     |some an=>Fv S D P T root n0 k n (.inl (p++[1])::r) σ
     |none =>
      match x with
      |.tmp t=>match σ.tm[t]? with
       |some (aa (.bool b)) =>
        (b=ao->Jy (assume σ t ao) fun σ=>Fv S D P T root n0 k n (.inl (p++[0])::r) σ) /\
        (b=an->Jy (assume σ t an) fun σ=>Fv S D P T root n0 k n (.inl (p++[1])::r) σ)
       |_=>oB 6
      |_=>oB 7
    |.exit id =>
     match DW id r with
     |some r'=>Fv S D P T root n0 k n r' σ
     |none=>k (.exit id) σ
    |.ret=>k .ret σ
    |.region _ ⟨ops⟩ an=>wA P T ops ops σ fun oV=>Fv S D P T root n0 k n r oV
    |.region _ ⟨ops⟩ ao=>E_ P T ops σ (fun oV=>Fv S D P T root n0 k n r oV) (ops.length+1) []
    |_=>At D P root n0 k (.inl p::r) σ
theorem mP (S:List (List Nat)) (hT:cN D P T) (Mp:P.follows .mixedOrders=ao) {root:Code} {n0:Nat} {k:Exit->SS R->Prop}:∀ (n:Nat) {todo:List (It R)} {σ:SS R},Fv S D P T root n0 k n todo σ->At D P root n0 k todo σ
 |0,todo,σ,h=>h
 |n+1,todo,σ,h=>by
  refine⟨fun C a w hC hn hm=>?_⟩
  have ih:∀ {todo:List (It R)} {σ:SS R} {a:Act} {w:World},Fv S D P T root n0 k n todo σ->n0≤σ.hp.length->M D C σ a w->pN D P C root k todo .normal a w:=fun h hn hm=>(mP S hT Mp n h).run C _ _ hC hn hm
  unfold Fv at h;simp only[KX] at h;split at h
  ·exact⟨σ,h,hm⟩
  ·rename_i id r;show pN D P C root k r .normal a w
   exact ih h hn hm
  ·rename_i J r;exact⟨σ,h.out,by rw[hC];exact hn,hm⟩
  ·rename_i p r;split at h
   ·exact h.run C a w hC hn hm
   split at h
   ·exact h.elim
   ·rename_i c hc;simp only[pN,hc];have sub:∀ (i:Nat) (d:Code),jj c [i]=aa d->jj root (p++[i])=aa d:=fun i d hd=>by rw[oA p root c [i] hc];exact hd
    split at h
    ·exact wp_skip (ih h hn hm)
    ·exact wp_label (ih h hn hm)
    ·rename_i x y;have h1:=ih h hn hm;simp only[pN,sub 0 x (by simp[jj])] at h1
     refine wp_seq (wp_mono h1 fun e a' w' h2=>?_)
     cases e with
     |normal =>
      simp only[sub 1 y (by simp[jj])] at h2
      exact h2
     |_=>exact h2
    ·rename_i id x;have h1:=ih h hn hm;simp only[pN,sub 0 x (by simp[jj])] at h1
     exact wp_block h1
    ·rename_i x y z;split at h
     ·rename_i hl;have h1:=ih h hn hm;simp only[pN,sub 0 y (by simp[jj])] at h1
      obtain⟨ρ,ft,_,g1,_⟩:=hm.ex;have:=(eJ g1 (yD hm.li hl)).1;exact wp_cond_true (by simpa using this) h1
     ·rename_i hl;have h1:=ih h hn hm;simp only[pN,sub 1 z (by simp[jj])] at h1
      obtain⟨ρ,ft,_,g1,_⟩:=hm.ex;have:=(eJ g1 (yD hm.li hl)).1;exact wp_cond_false (by simpa using this) h1
     ·split at h
      ·rename_i t _;split at h
       ·rename_i b hb;have ht:=Y9 hm hb;have he:a.eval (.tmp t)=.bool b:=by simp[Cw,ht]
        cases b with
        |true =>
         have h1:=ih (h.1 rfl) (by simpa [assume] using hn) (hm.assume hb)
         simp only[pN,sub 0 y (by simp[jj])] at h1
         exact wp_cond_true he h1
        |false =>
         have h1:=ih (h.2 rfl) (by simpa [assume] using hn) (hm.assume hb)
         simp only[pN,sub 1 z (by simp[jj])] at h1
         exact wp_cond_false he h1
       ·exact h.elim
      ·exact h.elim
    ·rename_i id;refine wp_exit (E0 ?_);split at h
     ·rename_i r' xc;rw[xc];exact ih h hn hm
     ·rename_i xc;rw[xc];exact⟨σ,h,hm⟩
    ·exact wp_ret (HL ⟨σ,h,hm⟩)
    ·rename_i id ops;refine wp_region_list ?_;exact Gy hT ops h hm (by omega) fun oV a' w' h' yt mR=>ih h' (by omega) mR
    ·rename_i id ops;exact YE hT Mp h hm (by omega) fun oV a' w' h' yt mR=>ih h' (by omega) mR
    ·have:=h.run C a w hC hn hm
     simpa only [pN,hc] using this
theorem At.DC {root:Code} {n0:Nat} {k:Exit->SS R->Prop} {todo:List (It R)} {tm:List (Option Value)} {li:List (Nat×Bool)} {hp:Hp R} (li':List (Nat×Bool)) (hl:∀ x∈li',tm[x.1]?=aa (aa (.bool x.2)))
  (h:At D P root n0 k todo ⟨tm,li',hp⟩):At D P root n0 k todo ⟨tm,li,hp⟩ :=
 ⟨fun C a w hC hn hm=>h.run C a w hC hn ⟨hm.defers,fun t b hb=>hl (t,b) hb,hm.ex⟩⟩
end
end Rx
namespace Rx
open Go.RowKit State
def Ga (ts:List Nat):Nat->List (Option Value)->List (Option Value)
 |_,[]=>[]
 |i,x::l=>(match mem ts i with
  |true=>x
  |false=>aj)::Ga ts (i+1) l
section
variable {R:Type} {D:fR R} {P:Program} {T:eM R} {C:Ctx} {w w':World}
theorem KP (ts:List Nat):∀ (l:List (Option Value)) (i j:Nat),(Ga ts i l).length=l.length/\∀ v,(Ga ts i l)[j]?=aa (aa v)->l[j]?=aa (aa v)
 |[],i,j=>⟨rfl,fun v h=>by simp[Ga] at h⟩
 |x::l,i,j=>by
  obtain⟨h1,h2⟩:=KP ts l (i+1) (j-1);refine⟨by simp[Ga,h1],fun v h=>?_⟩
  cases j with
  |zero =>
   simp only[Ga,cf,cv] at h ⊢;split at h
   ·exact h
   ·cases h
  |succ j =>
   simp only[Ga,bK] at h ⊢;simp only[mA] at h2;exact h2 v h
theorem M.Iy {σ:SS R} {a:Act} {ts:List Nat} (hm:M D C σ a w):M D C ⟨Ga ts 0 σ.tm,[],σ.hp⟩ a w:=by
 obtain⟨ρ,ft,h0,h1,h2⟩:=hm.ex;exact⟨hm.defers,fun t b hb=>(by cases hb),ρ,ft,h0,⟨by rw[h1.size,(KP ts σ.tm 0 0).1],fun t v ht=>h1.val t v ((KP ts σ.tm 0 t).2 v ht)⟩,h2⟩
theorem At.fit {root:Code} {n0:Nat} {k:Exit->SS R->Prop} {todo:List (It R)} {σ:SS R} (ts:List Nat) (V:List Value) (H:Hp R) (N:Nat) (kj:iJ H.length V=ao/\tF H.length H=ao/\n0≤H.length)
  (hf:jJ R n0 N ts V H (Ko σ.tm ts) σ.hp σ.tm.length) (h:At D P root n0 k todo ⟨frame ts V 0 N,[],H⟩):At D P root n0 k todo σ :=
 ⟨fun C a w hC _ hm=>h.run C a w hC kj.2.2 (hm.ZA hC hf kj.1 kj.2.1)⟩
end
end Rx
namespace Rx
open Go.RowKit State
section
variable {R:Type} {D:fR R} {P:Program} {T:eM R}
theorem z9 {z:Nat->Bool} {d:Nat} {spec:Prim R} {args:List Value} {h:Hp R} {y:Out R} (hy:D_ z d spec args h=aa y) :
  ∃ s x,s=MP (reach h d (tc args)) []/\Aj (mem s) args=ao/\PI s h s=ao/\wg s=ao/\spec (ma (pos s) args) (pq z (pos s) h 0 s)=aa x/\rX (pq z (pos s) h 0 s) x.hp=ao/\fD x.hp.length x.v=ao /\
   y=⟨x.vc,gr (qF s h.length) x.v,x.lit,yW s (qF s h.length) (pq z (pos s) h 0 s) x.hp 0 h++zi (qF s h.length) (x.hp.drop s.length),[],match x.wr with
    |[]=>[]
    |_=>[(0,0)]⟩:=by
 simp only[D_,Vi,Kj] at hy;split at hy
 ·rename_i hc;simp only[aM] at hc;split at hy
  ·rename_i x hx;split at hy
   ·rename_i hb;simp only[aM] at hb;injection hy with hy
    exact⟨_,x,rfl,hc.1.1,hc.1.2,hc.2,hx,hb.1,hb.2,hy.symm⟩
   ·cases hy
  ·cases hy
 ·cases hy
theorem Ow {s:List Nat} {n i:Nat} (h:i<s.length):qF s n i=nth s i:=by
 unfold qF;rw[qn.2 h];rfl
theorem aed {s:List Nat} {n i:Nat} (h:¬ i<s.length):qF s n i=n+(i-s.length):=by
 unfold qF;split
 ·rename_i hb;exact absurd (qn.1 hb) h
 ·rfl
theorem Jh {f:Nat->Nat} {x:Option (SB R)} {X:SB R} (h:J' f x=aa X):∃ Y,x=aa Y/\X=zm f Y:=by
 cases x with
 |none=>cases h
 |some Y=>injection h with h;exact⟨Y,rfl,h.symm⟩
theorem Gb {f:Nat->Nat} {B:SB R}:ij (zm f B)=ij B:=by
 rcases B with⟨t,cs⟩|B<;>rfl
def liftOn (z:Nat->Bool) (d:Nat) (on:List Value->Hp R->Prop) (args:List Value) (h:Hp R):Prop :=
 on (ma (pos (MP (reach h d (tc args)) [])) args) (pq z (pos (MP (reach h d (tc args)) [])) h 0 (MP (reach h d (tc args)) []))
theorem adP {f:FuncId} {on:List Value->Hp R->Prop} {spec:Prim R} (z:Nat->Bool) (d:Nat) (ok:rR D P f on spec):rR D P f (liftOn z d on) (D_ z d spec) where
 known:=ok.known
 len args h y hy:=by
  obtain⟨s,x,_,_,_,_,_,_,_,rfl⟩:=z9 hy;simp only[bE];have:=(nU (s:=s) (f:=qF s h.length) (hl:=pq z (pos s) h 0 s) (hx:=x.hp) (h:=h) (b0:=0) (b:=0)).1;omega
 lit args h y hy b hb:=by
  obtain⟨s,x,_,_,_,_,hx,_,_,rfl⟩:=z9 hy;have:=ok.lit _ _ _ hx b hb;simp only[this,gr]
 still args h y hy hw:=by
  obtain⟨s,x,hs0,h1,h2,h3,hx,h5,h6,rfl⟩:=z9 hy;have hw':x.wr=[]:=by
   simp only at hw;split at hw
   ·assumption
   ·cases hw
  have he:=ok.still _ _ _ hx hw';simp only[he];have ou:(pq z (pos s) h 0 s).length=s.length:=(ss (i0:=0) (i:=0)).1;have hd:(pq z (pos s) h 0 s).drop s.length=[]:=by rw[Jk];omega
  rw[hd];simp only[zi,BB];apply oc;intro b;rcases ct b h.length with cd|ki
  ·rw[(nU (b0:=0) (b:=b)).2 cd,bW];split
   ·rename_i hc;simp only[aM] at hc;have hm:=mem_iff.1 hc.1;obtain⟨p1,p2⟩:=oY hm;obtain⟨X,hX,hv⟩:=qQ.1 hc.2;have hg:=(ss (z:=z) (u:=pos s) (h:=h) (l:=s) (i0:=0) (i:=pos s b)).2 p2;rw[hX,p1] at hg;injection hg with hg
    cases hb:gg h b with
    |none=>rw[hb] at hg;cases hg
    |some B =>
     rw[hb] at hg;simp only at hg;injection hg with hg
     rw[Kp hX,yg cd,hb,hg];simp only[J'];have hfr:Gx (z (0+pos s b)) B=B:=by
      rcases B with⟨t,cs⟩|⟨t,r⟩|r|q
      ·rfl
      ·cases hz:z (0+pos s b) with
       |false=>rfl
       |true =>
        rw[hz] at hg;rw[hg] at hv;simp[Gx,zm,ij] at hv
      ·rfl
      ·rfl
     rw[hfr]
     congr 2
     rcases B with⟨t,cs⟩|B
     ·simp only[zm];rw[Cm,E4 (p:=mem s)]
      ·intro i hi;obtain⟨q1,q2⟩:=oY (mem_iff.1 hi);rw[Ow q2,q1]
      ·exact(C_ h2 hm).2 t cs hb
     ·rfl
   ·rw[yg cd]
  ·rw[df ki,df (by rw[(nU (b0:=0) (b:=0)).1];exact ki)]
 run args h y m7 hy C ρ ft w hm PD kj:=by
  obtain⟨s,x,hs0,h1,h2,h3,hx,h5,h6,rfl⟩:=z9 hy;simp only at PD ⊢;unfold liftOn at m7;rw[← hs0] at m7;have ou:(pq z (pos s) h 0 s).length=s.length:=(ss (i0:=0) (i:=0)).1;have AX:s.length≤x.hp.length:=by rw[← ou];exact(sc (b:=0) (X:=.inl (0,[])) h5).1
  have adE:∀ b,b∈s->b<h.length:=fun b hb=>(C_ h2 hb).1
  let hr:Hp R:=(oD h.length).map fun b=>if mem s b then(match gg h b with
   |some B=>aa (Gx (z (pos s b)) B)
   |none=>aj) else aj
  have hrl:hr.length=h.length:=by simp[hr]
  have EN:∀ (b:Nat) (X:SB R),hr[b]?=aa (aa X)->b∈s/\∃ B,gg h b=aa B/\X=Gx (z (pos s b)) B:=by
   intro b X hX;have cd:b<h.length:=by
    have:=(aU.1 hX).1;omega
   simp only[hr,fu,td cd,kp] at hX;split at hX
   ·rename_i C7;refine⟨mem_iff.1 C7,?_⟩;cases hb:gg h b with
    |none=>rw[hb] at hX;simp at hX
    |some B=>rw[hb] at hX;simp at hX;exact⟨B,rfl,hX.symm⟩
   ·simp at hX
  have Zv:∀ (b:Nat) (B:SB R),b∈s->gg h b=aa B->hr[b]?=aa (aa (Gx (z (pos s b)) B)):=by
   intro b B hb hB;simp only[hr,fu,td (adE b hb),kp,mem_iff.2 hb,if_true,hB]
  have nA:Sub hr h:=by
   intro b X hX;obtain⟨_,B,hB,rfl⟩:=EN b X hX;have jN:=rH hB;rcases B with⟨t,cs⟩|⟨t,r⟩|r|q
   ·exact dO jN
   ·cases hz:z (pos s b) with
    |false=>exact dO jN
    |true=>exact e_ ⟨t,r,rfl,jN⟩
   ·exact dO jN
   ·exact dO jN
  have ami:=hm.an2 nA hrl 0;have hpn:∀ i,i<s.length->pos s (nth s i)=i:=fun i hi=>X7 h3 hi
  have anE:HM D (TI w hr ft ρ 0) (fun i=>ρ (nth s i)) (fun b k=>(∃ X,(pq z (pos s) h 0 s)[b]?=aa (aa X))/\(Bi hr (nth s b)/\ft (nth s b) k)) (pq z (pos s) h 0 s) w:=by
   refine ami.rename (nth s) (fun i X hX=>dO ⟨rfl,?_⟩) fun i j X Y _ hX hY he=>?_
   ·have hi:i<s.length:=by have:=(aU.1 hX).1;omega
    have hg:=(ss (z:=z) (u:=pos s) (h:=h) (l:=s) (i0:=0) (i:=i)).2 hi;rw[hX,bW] at hg;injection hg with hg
    cases hb:gg h (nth s i) with
    |none=>rw[hb] at hg;cases hg
    |some B =>
     rw[hb] at hg;simp only at hg;injection hg with hg
     have hq:=Zv (nth s i) B (H8 hi) hb;rw[hpn i hi] at hq;refine⟨_,hq,?_⟩;rw[hg];rcases B with⟨t,cs⟩|B
     ·have ajB:=(C_ h2 (H8 hi)).2 t cs hb;refine⟨rfl,?_,?_⟩
      ·rw[se,← lB,← lB];refine Ca (p:=mem s) (fun b hb=>?_) cs ajB
       rw[(oY (mem_iff.1 hb)).1]
      ·rw[ou];refine Cn _ (FD (p:=mem s) (q:=fun i=>gY i s.length) (fun b hb=>qn.2 (oY (mem_iff.1 hb)).2) cs ajB)
     ·rcases B with⟨t,r⟩|r|q
      ·cases hz:z i
       ·exact⟨rfl,dO rfl⟩
       ·rfl
      ·rfl
      ·rfl
   ·have hi:i<s.length:=by have:=(aU.1 hX).1;omega
    have hj:j<s.length:=by have:=(aU.1 hY).1;omega
    rw[← hpn i hi,he,hpn j hj]
  have hargs:args.map (bV ρ)=(ma (pos s) args).map (bV (fun i=>ρ (nth s i))):=by
   rw[se,← lB,← lB];refine Ca (p:=mem s) (fun b hb=>?_) args h1
   rw[(oY (mem_iff.1 hb)).1]
  rw[hargs];have anB:iJ (pq z (pos s) h 0 s).length (ma (pos s) args)=ao:=by
   rw[ou];exact Cn _ (FD (p:=mem s) (q:=fun i=>gY i s.length) (fun b hb=>qn.2 (oY (mem_iff.1 hb)).2) args h1)
  refine(ok.run _ _ _ m7 hx _ _ _ w anE PD anB).mono fun e w' ⟨gF,kF,g1,g2,g3⟩=>?_
  rw[ou] at g1
  let tB:Nat->Nat:=fun b=>if mem s b then pos s b else s.length+(b-h.length)
  let nI:Env:=fun b=>if b<h.length then ρ b else gF (s.length+(b-h.length))
  let Pz:Hp R:=(oD (h.length+(x.hp.length-s.length))).map fun b=>if b<h.length then(if mem s b then J' (qF s h.length) (gg x.hp (pos s b)) else aj) else J' (qF s h.length) (gg x.hp (s.length+(b-h.length)))
  have aaI:Pz.length=h.length+(x.hp.length-s.length):=by simp[Pz]
  have RP:∀ (b:Nat),b<h.length+(x.hp.length-s.length)->Pz[b]?=aa (if b<h.length then(if mem s b then J' (qF s h.length) (gg x.hp (pos s b)) else aj) else J' (qF s h.length) (gg x.hp (s.length+(b-h.length)))):=fun b hb=>by
   simp only[Pz,fu,td hb,kp]
  have LP:∀ (b:Nat) (X:SB R),Pz[b]?=aa (aa X)->∃ Y,x.hp[tB b]?=aa (aa Y)/\X=zm (qF s h.length) Y/\nI b=gF (tB b)/\(b<h.length->b∈s)/\(h.length≤b->¬ b∈s):=by
   intro b X hX;have cd:b<h.length+(x.hp.length-s.length):=by
    have:=(aU.1 hX).1;omega
   rw[RP b cd] at hX;injection hX with hX
   split at hX
   ·rename_i hb;split at hX
    ·rename_i C7;obtain⟨Y,hY,rfl⟩:=Jh hX;obtain⟨p1,p2⟩:=oY (mem_iff.1 C7);refine⟨Y,?_,rfl,?_,fun _=>mem_iff.1 C7,fun ki=>by omega⟩
     ·simp only[tB,C7,if_true];exact rH hY
     ·simp only[tB,C7,if_true,nI,hb];rw[g1 _ p2,p1]
    ·cases hX
   ·rename_i hb;obtain⟨Y,hY,rfl⟩:=Jh hX;have hns:¬ b∈s:=fun hh=>hb (adE b hh)
    have C7:mem s b=an:=by
     cases hh:mem s b with
     |false=>rfl
     |true=>exact absurd (mem_iff.1 hh) hns
    refine⟨Y,?_,rfl,?_,fun cd=>absurd cd hb,fun _=>hns⟩
    ·simp only[tB,C7,fX,if_false];exact rH hY
    ·simp only[tB,C7,fX,if_false,nI,hb]
  have ae1:∀ i,i<x.hp.length->nI (qF s h.length i)=gF i/\qF s h.length i<h.length+(x.hp.length-s.length):=by
   intro i hi
   by_cases hs:i<s.length
   ·rw[Ow hs];have:=adE _ (H8 hs);refine⟨?_,by omega⟩
    simp only[nI,this,if_true];exact(g1 i hs).symm
   ·rw[aed hs];refine⟨?_,by omega⟩
    simp only[nI];rw[if_neg (by omega)]
    congr 1
    omega
  have aaB:HM D (TI w hr ft ρ 0) nI (fun b k=>(∃ X,Pz[b]?=aa (aa X))/\kF (tB b) k) Pz w':=by
   refine g3.rename tB (fun b X hX=>dO ?_) fun b b' X X' _ hX hX' he=>?_
   ·obtain⟨Y,hY,rfl,qW,_⟩:=LP b X hX;refine⟨qW,Y,hY,?_⟩;rcases Y with⟨t,cs⟩|Y
    ·have Hz:=(g3.at_ _ _ hY).2;simp only[inside] at Hz;refine⟨rfl,?_,?_⟩
     ·rw[se,← lB,← lB];exact qH (n:=x.hp.length) (fun i hi=>(ae1 i hi).1) cs Hz
     ·rw[aaI];exact wF (n:=x.hp.length) (fun i hi=>(ae1 i hi).2) cs Hz
    ·exact LS.refl Y
   ·obtain⟨_,_,_,_,a1,a2⟩:=LP b X hX;obtain⟨_,_,_,_,b1,b2⟩:=LP b' X' hX';simp only[tB] at he;rcases ct b h.length with c1|c1<;>rcases ct b' h.length with c2|c2
    ·rw[mem_iff.2 (a1 c1),mem_iff.2 (b1 c2)] at he;simp only[if_true] at he;rw[← (oY (a1 c1)).1,he,(oY (b1 c2)).1]
    ·have:=(oY (a1 c1)).2;have C7:mem s b'=an:=by
      cases hh:mem s b' with
      |false=>rfl
      |true=>exact absurd (mem_iff.1 hh) (b2 c2)
     rw[mem_iff.2 (a1 c1),C7] at he;simp at he;omega
    ·have:=(oY (b1 c2)).2;have C7:mem s b=an:=by
      cases hh:mem s b with
      |false=>rfl
      |true=>exact absurd (mem_iff.1 hh) (a2 c1)
     rw[mem_iff.2 (b1 c2),C7] at he;simp at he;omega
    ·have C7:mem s b=an:=by
      cases hh:mem s b with
      |false=>rfl
      |true=>exact absurd (mem_iff.1 hh) (a2 c1)
     have anV:mem s b'=an:=by
      cases hh:mem s b' with
      |false=>rfl
      |true=>exact absurd (mem_iff.1 hh) (b2 c2)
     rw[C7,anV] at he;simp at he;omega
  have hbk:=fun b X=>sc (b:=b) (X:=X) h5
  have VH:∀ b,Bi hr b↔(b∈s/\Iw (pq z (pos s) h 0 s) (pos s b)=ao):=by
   intro b
   constructor
   ·intro⟨X,hX,hv⟩;obtain⟨hb,B,hB,rfl⟩:=EN b X hX;refine⟨hb,qQ.2 ?_⟩;obtain⟨p1,p2⟩:=oY hb;have hg:=(ss (z:=z) (u:=pos s) (h:=h) (l:=s) (i0:=0) (i:=pos s b)).2 p2;rw[p1,hB,bW] at hg;exact⟨_,hg,by rw[Gb];exact hv⟩
   ·intro⟨hb,hh⟩;obtain⟨X,hX,hv⟩:=qQ.1 hh;obtain⟨p1,p2⟩:=oY hb;have hg:=(ss (z:=z) (u:=pos s) (h:=h) (l:=s) (i0:=0) (i:=pos s b)).2 p2;rw[hX,p1,bW] at hg;injection hg with hg
    cases hB:gg h b with
    |none=>rw[hB] at hg;cases hg
    |some B =>
     rw[hB] at hg;simp only at hg;injection hg with hg
     refine⟨_,Zv b B hb hB,?_⟩;rw[hg,Gb] at hv;exact hv
  have ahw:=hm.ajg nA hrl (n:=0) (h':=yW s (qF s h.length) (pq z (pos s) h 0 s) x.hp 0 h++zi (qF s h.length) (x.hp.drop s.length)) aaB
   (fun b hb=>by simp only[nI,hb,if_true]) (by rw[aaI];omega) ?_ ?_ ?_ ?_
  ·refine⟨nI,_,fun i hi=>by simp only[nI,hi,if_true],?_,ahw⟩
   rw[g2,CV,nG (n:=x.hp.length) (fun i hi=>(ae1 i hi).1) x.v h6]
  ·intro b X hX;obtain⟨Y,hY,rfl,_,a1,a2⟩:=LP b X hX;rw[Gb];rcases((hbk _ Y).2 hY).2 with h7|⟨Z,hZ,hv⟩
   ·exact dO h7
   ·right
    rcases ct b h.length with c1|c1
    ·have hb:=a1 c1;obtain⟨p1,p2⟩:=oY hb;simp only[tB,mem_iff.2 hb,if_true] at hZ;have hg:=(ss (z:=z) (u:=pos s) (h:=h) (l:=s) (i0:=0) (i:=pos s b)).2 p2;rw[hZ,p1,bW] at hg;injection hg with hg
     cases hB:gg h b with
     |none=>rw[hB] at hg;cases hg
     |some B =>
      rw[hB] at hg;simp only at hg;injection hg with hg
      refine⟨_,Zv b B hb hB,?_⟩;rw[hg,Gb] at hv;exact hv
    ·have C7:mem s b=an:=by
      cases hh:mem s b with
      |false=>rfl
      |true=>exact absurd (mem_iff.1 hh) (a2 c1)
     simp only[tB,C7,fX,if_false] at hZ;have:=(aU.1 hZ).1;omega
  ·rw[bE,(nU (b0:=0) (b:=0)).1,vr (i:=0) |>.1,aaI,List.length_drop]
  ·intro b hb;rcases ct b h.length with c1|c1
   ·have ho:Bi hr b:=hb.elim id fun ki=>by omega
    obtain⟨VD,hoa⟩:=(VH b).1 ho;rw[da (by rw[(nU (b0:=0) (b:=0)).1];exact c1),(nU (b0:=0) (b:=b)).2 c1,bW,RP b (by omega)]
    rw[mem_iff.2 VD,hoa];simp only[TE,if_true,c1]
   ·rw[dW (by rw[(nU (b0:=0) (b:=0)).1];exact c1),(nU (b0:=0) (b:=0)).1,vr.2,o_]
    rcases ct b (h.length+(x.hp.length-s.length)) with c2|c2
    ·rw[RP b c2,if_neg (by omega)]
     have:s.length+(b-h.length)<x.hp.length:=by omega
     rw[yg this]
     rfl
    ·rw[df (by omega),df (by rw[aaI];omega)]
     rfl
  ·intro b hb hn;rw[da (by rw[(nU (b0:=0) (b:=0)).1];exact hb),(nU (b0:=0) (b:=b)).2 hb,bW]
   split
   ·rename_i hc;simp only[aM] at hc;exact absurd ((VH b).2 ⟨mem_iff.1 hc.1,hc.2⟩) hn
   ·rw[yg hb]
theorem K8 {f:FuncId} {c:jo R} (z:Nat->Bool) (d:Nat) (ok:b8 D P f c):b8 D P f (bJ z d c):=by
 intro b;have:=adP z d (ok b);have e:(bJ z d c).go b=D_ z d (c.go b):=by cases b<;>rfl
 rw[e];refine⟨this.known,fun args h x m7=>this.run args h x ?_,this.len,this.lit,this.still⟩
 unfold su bJ aar at m7;simp only[Vi,Kj] at m7;exact m7
theorem aT {f:FuncId} {c:jo R} (z:Nat->Bool) (d:Nat) (ok:b8 D P f c):HT D P f (bJ z d c):=by
 refine⟨K8 z d ok,fun b args h x hx i hi hk=>?_⟩
 have e:(bJ z d c).go b=D_ z d (c.go b):=by cases b<;>rfl
 rw[e] at hx;obtain⟨s,y,_,_,_,_,_,_,_,rfl⟩:=z9 hx;simp only at hk;split at hk<;>cases hk
def KN (K:List Nat):Nat->List Nat->List (Nat×Nat)
 |_,[]=>[]
 |i,b::l=>if mem K i then KN K (i+1) l else(b,0)::KN K (i+1) l
def V1 (K:List Nat) (d:Nat) (spec:Prim R):Prim R:=fun args h =>
 match D_ (fun _=>an) d spec args h with
 |some x=>aa ⟨x.vc,x.v,x.lit,x.hp,x.rd,match x.wr with
  |[]=>[]
  |_=>(0,1)::KN K 0 (MP (reach h d (tc args)) [])⟩
 |none=>aj
def Dk (K:List Nat) (d:Nat) (c:jo R):jo R:=⟨aar (fun _=>an) d c.when,V1 K d c.yes,V1 K d c.no⟩
def Lx (K:List Nat) (c:jo R):Prop:=∀ b args h x,c.go b args h=aa x->∀ i,i∈K->i<h.length->x.hp[i]?=h[i]?
theorem UK {K:List Nat} {b:Nat}:∀ {s:List Nat} {i j:Nat},s[j]?=aa b->mem K (i+j)=an->IW (KN K i s) b=ao
 |[],_,_,h,_=>by simp at h
 |c::l,i,0,h,hK=>by
  simp only[cf,cv] at h;subst h;rw[gZ] at hK;simp[KN,hK,IW]
 |c::l,i,j+1,h,hK=>by
  simp only[bK] at h;have:=UK (i:=i+1) h (by rwa [show i+1+j=i+(j+1) by omega])
  simp only[KN];split
  ·exact this
  ·simp[IW,this]
theorem agC {s:List Nat} {i:Nat} (h:i<s.length):s[i]?=aa (nth s i):=by
 induction s generalizing i with
 |nil=>simp at h
 |cons a l ih =>
  cases i with
  |zero=>rfl
  |succ i =>
   simp only[bK,nth];exact ih (by simpa using h)
theorem Dw {f:FuncId} {c:jo R} (K:List Nat) (d:Nat) (ok:b8 D P f c) (hK:Lx K c):HT D P f (Dk K d c):=by
 have U0:∀ b args h x,(Dk K d c).go b args h=aa x->∃ y,(bJ (fun _=>an) d c).go b args h=aa y/\x=⟨y.vc,y.v,y.lit,y.hp,y.rd,match y.wr with
   |[]=>[]
   |_=>(0,1)::KN K 0 (MP (reach h d (tc args)) [])⟩:=by
  intro b args h x hx;cases b
  all_goals
   simp only[Dk,jo.go,V1] at hx;split at hx
   ·rename_i y hy;injection hx with hx
    exact⟨y,hy,hx.symm⟩
   ·cases hx
 refine⟨fun b=>?_,fun b args h x hx i hi hk=>?_⟩
 ·have o:=K8 (fun _=>an) d ok b
  refine⟨o.known,fun args h x m7 hx=>?_,fun args h x hx=>?_,fun args h x hx=>?_,fun args h x hx hw=>?_⟩
  ·obtain⟨y,hy,rfl⟩:=U0 _ _ _ _ hx;exact o.run args h y m7 hy
  ·obtain⟨y,hy,rfl⟩:=U0 _ _ _ _ hx;exact o.len args h y hy
  ·obtain⟨y,hy,rfl⟩:=U0 _ _ _ _ hx;exact o.lit args h y hy
  ·obtain⟨y,hy,rfl⟩:=U0 _ _ _ _ hx;refine o.still args h y hy ?_;simp only at hw;split at hw
   ·assumption
   ·cases hw
 ·obtain⟨y,hy,rfl⟩:=U0 _ _ _ _ hx;have e:(bJ (fun _=>an) d c).go b=D_ (fun _=>an) d (c.go b):=by cases b<;>rfl
  rw[e] at hy;obtain⟨s,x,hs0,h1,h2,h3,Pz,h5,h6,rfl⟩:=z9 hy;have hkp:IW (KN K 0 s) i=an:=by
   simp only at hk;split at hk
   ·cases hk
   ·rw[← hs0] at hk
    simpa [Qp] using hk
  clear hk;have ou:(pq (fun _=>an) (pos s) h 0 s).length=s.length:=(ss (i0:=0) (i:=0)).1
  have AO:(yW s (qF s h.length) (pq (fun _=>an) (pos s) h 0 s) x.hp 0 h).length=h.length:=(nU (b0:=0) (b:=0)).1
  simp only;rw[da (by rw[AO];exact hi),(nU (b0:=0) (b:=i)).2 hi,bW]
  split
  ·rename_i hc;simp only[aM] at hc;have hm:=mem_iff.1 hc.1;obtain⟨p1,p2⟩:=oY hm;have hmK:pos s i∈K:=by
    cases hmk:mem K (pos s i) with
    |true=>exact mem_iff.1 hmk
    |false =>
     have:=UK (K:=K) (i:=0) (agC p2) (by rwa [bW])
     rw[p1] at this;rw[this] at hkp;cases hkp
   have hke:=hK b _ _ _ Pz (pos s i) hmK (by rw[ou];exact p2)
   obtain⟨X,hX,hv⟩:=qQ.1 hc.2;rw[hX] at hke;have hg:=(ss (z:=fun _=>an) (u:=pos s) (h:=h) (l:=s) (i0:=0) (i:=pos s i)).2 p2
   rw[hX,p1] at hg;injection hg with hg
   cases hb:gg h i with
   |none=>rw[hb] at hg;cases hg
   |some B =>
    rw[hb] at hg;simp only at hg;injection hg with hg
    rw[Kp hke,yg hi,hb,hg];have hfr:Gx an B=B:=by rcases B with⟨t,cs⟩|⟨t,r⟩|r|q<;>rfl
    simp only[J',hfr]
    congr 2
    rcases B with⟨t,cs⟩|B
    ·simp only[zm];rw[Cm,E4 (p:=mem s)]
     ·intro j hj;obtain⟨q1,q2⟩:=oY (mem_iff.1 hj);rw[Ow q2,q1]
     ·exact(C_ h2 hm).2 t cs hb
    ·rfl
  ·rw[yg hi]
end
end Rx
namespace Rx
open Go.RowKit State
section
variable {R R0:Type}
structure EE (R R0:Type) where
 lay:R->Hp R0
 ne:∀ x,0<(lay x).length
 own:∀ (x:R) (b:Nat) (X:SB R0),(lay x)[b]?=aa (aa X)->ij X=an
 ins:∀ x,tF (lay x).length (lay x)=ao
def GK (D0:fR R0) (L:EE R R0):fR R where
 H x p F w:=∃ MF PJ,MF 0=p/\(∀ k,F k↔∃ i,PJ i k)/\HM D0 ⟨w,F,MF,0⟩ MF PJ (L.lay x) w
 Iy x p F w w' h hk:=by
  obtain⟨MF,PJ,h1,h2,h3⟩:=h;refine⟨MF,PJ,h1,h2,?_⟩;refine⟨fun i B hi=>⟨zz (L.own x i B hi) (K9 (h3.at_ i B hi).1 fun k nQ=>hk k ((h2 k).2 ⟨i,nQ⟩)),(h3.at_ i B hi).2⟩,fun i k MG=>?_,fun i k MG=>dO ((h2 k).2 ⟨i,MG⟩),h3.apart,h3.some_,Kept.refl _ _⟩
  have h4:=hk k ((h2 k).2 ⟨i,MG⟩);have h5:=h3.lt i k MG;rw[Array.getElem?_eq_getElem h5] at h4;exact(wC.1 h4).1
 lt x p F w k h hk:=by
  obtain⟨MF,PJ,h1,h2,h3⟩:=h;obtain⟨i,hi⟩:=(h2 k).1 hk;exact h3.lt i k hi
variable {L:EE R R0}
def width (L:EE R R0):Option (SB R)->Nat
 |some (.inr (.inr (.inr x)))=>(L.lay x).length
 |_=>1
def off (L:EE R R0):Hp R->Nat->Nat
 |[],b=>b
 |_::_,0=>0
 |x::l,b+1=>width L x+off L l b
def loc (L:EE R R0):Hp R->Nat->Nat×Nat
 |[],j=>(j,0)
 |x::l,j=>if j<width L x then(0,j) else((loc L l (j-width L x)).1+1,(loc L l (j-width L x)).2)
def Bb (L:EE R R0) (s:Nat->Nat) (o:Nat):Option (SB R)->Hp R0
 |none=>[aj]
 |some (.inl (t,cs))=>[aa (.inl (t,ma s cs))]
 |some (.inr (.inl tr))=>[aa (.inr (.inl tr))]
 |some (.inr (.inr (.inl r)))=>[aa (.inr (.inr (.inl r)))]
 |some (.inr (.inr (.inr x)))=>zi (fun i=>i+o) (L.lay x)
def Gi (L:EE R R0) (s:Nat->Nat):Nat->Hp R->Hp R0
 |_,[]=>[]
 |o,x::l=>Bb L s o x++Gi L s (o+width L x) l
def yr (L:EE R R0) (h:Hp R):Hp R0:=Gi L (off L h) 0 h
theorem vt (x:Option (SB R)):0<width L x:=by
 rcases x with _|⟨t,cs⟩|tr|r|x
 ·exact Ha
 ·exact Ha
 ·exact Ha
 ·exact Ha
 ·exact L.ne x
theorem CJ (s:Nat->Nat) (o:Nat) (x:Option (SB R)):(Bb L s o x).length=width L x:=by
 rcases x with _|⟨t,cs⟩|tr|r|x
 ·rfl
 ·rfl
 ·rfl
 ·rfl
 ·exact(vr (i:=0)).1
theorem GB (s:Nat->Nat):∀ (h:Hp R) (o b i:Nat),b<h.length->i<width L (gg h b)->(Gi L s o h)[off L h b+i]?=(Bb L s (o+off L h b) (gg h b))[i]?
 |[],o,b,i,hb,_=>by simp at hb
 |x::l,o,0,i,_,hi=>by
  have e:gg (x::l) 0=x:=by simp[gg]
  rw[e] at hi ⊢;simp only[Gi,off,bW,gZ];rw[da (by rw[CJ];exact hi)]
 |x::l,o,b+1,i,hb,hi=>by
  have e:gg (x::l) (b+1)=gg l b:=by simp[gg]
  rw[e] at hi ⊢;simp only[cy] at hb;simp only[Gi,off];rw[dW (by rw[CJ];omega),CJ,show width L x+off L l b+i-width L x=off L l b+i by omega]
  rw[GB s l (o+width L x) b i (by omega) hi,jr]
theorem I3:∀ (h:Hp R) (b b':Nat),b<b'->b<h.length->off L h b+width L (gg h b)≤off L h b'
 |[],b,b',_,hb=>by simp at hb
 |x::l,0,0,h,_=>by omega
 |x::l,0,b'+1,_,_=>by
  have e:gg (x::l) 0=x:=by simp[gg]
  rw[e];simp only[off];omega
 |x::l,b+1,0,h,_=>by omega
 |x::l,b+1,b'+1,h,hb=>by
  have e:gg (x::l) (b+1)=gg l b:=by simp[gg]
  rw[e];simp only[cy] at hb;simp only[off];have:=I3 l b b' (by omega) (by omega)
  omega
theorem J9 (s:Nat->Nat):∀ (h:Hp R) (o:Nat),(Gi L s o h).length=off L h h.length
 |[],o=>rfl
 |x::l,o=>by
  simp only[Gi,bE,CJ,cy,off];rw[J9 s l]
theorem Px (h:Hp R):(yr L h).length=off L h h.length:=J9 _ _ _
theorem Ia (h:Hp R) {b i:Nat} (hb:b<h.length) (hi:i<width L (gg h b)):off L h b+i<(yr L h).length:=by
 rw[Px];have:=I3 (L:=L) h b h.length hb hb;omega
theorem Q4:∀ (h:Hp R) (b i:Nat),b<h.length->i<width L (gg h b)->loc L h (off L h b+i)=(b,i)
 |[],b,i,hb,_=>by simp at hb
 |x::l,0,i,_,hi=>by
  have e:gg (x::l) 0=x:=by simp[gg]
  rw[e] at hi;simp only[loc,off,bW,hi,if_true]
 |x::l,b+1,i,hb,hi=>by
  have e:gg (x::l) (b+1)=gg l b:=by simp[gg]
  rw[e] at hi;simp only[cy] at hb;have e2:off L (x::l) (b+1)+i=width L x+(off L l b+i):=by simp only[off];omega
  rw[e2];simp only[loc];rw[if_neg (by omega),show width L x+(off L l b+i)-width L x=off L l b+i by omega,Q4 l b i (by omega) hi]
theorem Hh:∀ (h:Hp R) (j:Nat),(loc L h j).1<h.length->off L h (loc L h j).1+(loc L h j).2=j/\(loc L h j).2<width L (gg h (loc L h j).1)
 |[],j,hj=>by simp at hj
 |x::l,j,hj=>by
  simp only[loc] at hj ⊢;split
  ·rename_i cd;have e:gg (x::l) 0=x:=by simp[gg]
   refine⟨by simp[off],by rw[e];exact cd⟩
  ·rename_i ki;rw[if_neg ki] at hj;simp only[cy] at hj;obtain⟨h1,h2⟩:=Hh l (j-width L x) (by simpa using hj)
   have e:gg (x::l) ((loc L l (j-width L x)).1+1)=gg l (loc L l (j-width L x)).1:=by simp[gg]
   simp only[off];rw[e];exact⟨by omega,h2⟩
theorem aa9:∀ (h:Hp R) (j:Nat),j<off L h h.length->(loc L h j).1<h.length
 |[],j,hj=>by simp[off] at hj
 |x::l,j,hj=>by
  simp only[loc];split
  ·simp
  ·rename_i ki;simp only[cy,off] at hj;have:=aa9 l (j-width L x) (by omega)
   simp only[cy];omega
theorem agV (h:Hp R) {j:Nat} {B:SB R0} (hj:(yr L h)[j]?=aa (aa B)):∃ b i,b<h.length/\i<width L (gg h b)/\j=off L h b+i/\loc L h j=(b,i)/\(Bb L (off L h) (off L h b) (gg h b))[i]?=aa (aa B):=by
 have cd:j<off L h h.length:=by
  have:=(aU.1 hj).1
  rwa [Px] at this
 have h1:=aa9 h j cd;obtain⟨h2,h3⟩:=Hh h j h1;refine⟨_,_,h1,h3,h2.symm,rfl,?_⟩;rw[← h2] at hj;unfold yr at hj;rw[GB _ h 0 _ _ h1 h3,bW] at hj;exact hj
variable {D0:fR R0} {C:Ctx} {ρ gF:Env} {ft kF:Nat->Nat->Prop} {w w':World} {h:Hp R} {P:Program}
theorem HM.open_ (hm:HM (GK D0 L) C ρ ft h w):∃ gF kF,(∀ b,b<h.length->gF (off L h b)=ρ b)/\HM D0 C gF kF (yr L h) w:=by
 have key:∀ b,∃ pr:(Env×(Nat->Nat->Prop)),pr.1 0=ρ b/\(∀ k,ft b k↔∃ i,pr.2 i k)/\(∀ i k,b<h.length->pr.2 i k->i<width L (gg h b)) /\
   (∀ x,gg h b=aa (.inr (.inr (.inr x)))->HM D0 ⟨w,ft b,pr.1,0⟩ pr.1 pr.2 (L.lay x) w)/\((∀ x,gg h b≠aa (.inr (.inr (.inr x))))->∀ i k,pr.2 i k->i=0):=by
  intro b
  by_cases hx:∃ x,gg h b=aa (.inr (.inr (.inr x)))
  ·obtain⟨x,hx⟩:=hx;obtain⟨MF,PJ,h1,h2,h3⟩:=(hm.at_ b _ (rH hx)).1;refine⟨⟨MF,PJ⟩,h1,h2,fun i k _ MG=>?_,fun y hy=>?_,fun hn=>absurd hx (hn x)⟩
   ·rw[hx];obtain⟨B,hB⟩:=h3.some_ i k MG;exact(aU.1 hB).1
   ·rw[hx] at hy;injection hy with hy;injection hy with hy;injection hy with hy;injection hy with hy
    subst hy;exact h3
  ·refine⟨⟨fun _=>ρ b,fun i k=>i=0/\ft b k⟩,rfl,fun k=>⟨fun hk=>⟨0,rfl,hk⟩,fun⟨_,_,hk⟩=>hk⟩,fun i k _ MG=>?_,fun x X1=>absurd ⟨x,X1⟩ hx,fun _ i k MG=>MG.1⟩
   rw[MG.1];exact vt _
 obtain⟨pr,S_⟩:=W7 key;have qW:∀ b,b<h.length->(pr (loc L h (off L h b)).1).1 (loc L h (off L h b)).2=ρ b:=fun b hb=>by
  have:=Q4 (L:=L) h b 0 hb (vt _);rw[gZ] at this;rw[this];exact(S_ b).1
 refine⟨fun j=>(pr (loc L h j).1).1 (loc L h j).2,fun j k=>(pr (loc L h j).1).2 (loc L h j).2 k,qW,?_⟩
 have nA:∀ j k,(pr (loc L h j).1).2 (loc L h j).2 k->ft (loc L h j).1 k:=fun j k hk=>((S_ _).2.1 k).2 ⟨_,hk⟩
 have hb:∀ b k,ft b k->b<h.length:=fun b k hk=>by
  obtain⟨B,hB⟩:=hm.some_ b k hk;exact(aU.1 hB).1
 refine⟨fun j B hj=>?_,fun j k hk=>hm.lt _ k (nA j k hk),fun j k hk=>hm.fresh _ k (nA j k hk),fun j j' k hk nQ=>?_,fun j k hk=>?_,hm.kept⟩
 ·obtain⟨b,i,AO,C6,rfl,hl,hB⟩:=agV h hj;rw[hl];obtain⟨p1,p2,p3,p4,p5⟩:=S_ b;have hfb:(∀ x,gg h b≠aa (.inr (.inr (.inr x))))->(pr b).2 0=ft b:=fun hn=>funext fun k=>propext ⟨fun hk=>(p2 k).2 ⟨0,hk⟩,fun hk=>by
   obtain⟨i,hi⟩:=(p2 k).1 hk;rw[p5 hn i k hi] at hi;exact hi⟩
  cases hx:gg h b with
  |none =>
   rw[hx] at C6 hB;simp only[width] at C6;obtain rfl:i=0:=by omega
   simp[Bb] at hB
  |some X =>
   have hX:=rH hx;obtain⟨g1,g2⟩:=hm.at_ b X hX;rcases X with⟨t,cs⟩|⟨t,r⟩|r|x
   ·rw[hx] at C6 hB;simp only[width] at C6;obtain rfl:i=0:=by omega
    simp only[Bb,cf,cv] at hB;subst hB;simp only[hfb (fun x e=>by rw[hx] at e;cases e)]
    obtain⟨q1,q2,q3⟩:=g1;simp only[inside] at g2;refine⟨?_,?_⟩
    ·simp only[hold,hl,p1];refine⟨q1,q2,?_⟩;have e:(ma (off L h) cs).map (bV (fun j=>(pr (loc L h j).1).1 (loc L h j).2))=cs.map (bV ρ):=by
      rw[se,← lB,← lB];exact qH (n:=h.length) (fun b hb=>qW b hb) cs g2
     rw[e];exact q3
    ·simp only[inside];refine wF (n:=h.length) (fun b hb=>?_) cs g2
     have:=Ia (L:=L) h (b:=b) (i:=0) hb (vt _)
     simpa using this
   ·rw[hx] at C6 hB;simp only[width] at C6;obtain rfl:i=0:=by omega
    simp only[Bb,cf,cv] at hB;subst hB;simp only[hfb (fun x e=>by rw[hx] at e;cases e)]
    simp only[hold,hl,p1] at g1 ⊢;exact⟨g1,trivial⟩
   ·rw[hx] at C6 hB;simp only[width] at C6;obtain rfl:i=0:=by omega
    simp only[Bb,cf,cv] at hB;subst hB;simp only[hfb (fun x e=>by rw[hx] at e;cases e)]
    simp only[hold,hl,p1] at g1 ⊢;exact⟨g1,trivial⟩
   ·rw[hx] at C6 hB;simp only[width] at C6;simp only[Bb] at hB;rw[vr.2] at hB;cases hY:(L.lay x)[i]? with
    |none=>rw[hY] at hB;cases hB
    |some Y =>
     rw[hY] at hB;simp only[kp,cv] at hB;obtain⟨Y,rfl,rfl⟩:=Jh hB;have h3:=p4 x hx;obtain⟨q1,q2⟩:=h3.at_ i Y hY;have SQ:=L.own x i Y hY;have q3:hold D0 C (pr b).1 i ((pr b).2 i) w Y:=zz SQ q1;have R9:∀ i',i'<(L.lay x).length->(pr (loc L h (i'+off L h b)).1).1 (loc L h (i'+off L h b)).2=(pr b).1 i':=fun i' kQ=>by
      rw[sY i' (off L h b),Q4 h b i' AO (by rw[hx];exact kQ)]
     rcases Y with⟨t,cs⟩|⟨t,r⟩|r|y
     ·obtain⟨z1,z2,z3⟩:=q3;simp only[inside] at q2;refine⟨?_,?_⟩
      ·simp only[zm,hold,hl];refine⟨z1,z2,?_⟩;have e:(ma (fun i=>i+off L h b) cs).map (bV (fun j=>(pr (loc L h j).1).1 (loc L h j).2))=cs.map (bV (pr b).1):=by
        rw[se,← lB,← lB];exact qH (n:=(L.lay x).length) (fun i' kQ=>R9 i' kQ) cs q2
       rw[e];exact z3
      ·simp only[zm,inside];refine wF (n:=(L.lay x).length) (fun i' kQ=>?_) cs q2
       have:=Ia (L:=L) h (b:=b) (i:=i') AO (by rw[hx];exact kQ)
       omega
     ·simp only[zm,hold,hl] at q3 ⊢;exact⟨q3,trivial⟩
     ·simp[ij] at SQ
     ·simp only[zm,hold,hl] at q3 ⊢;exact⟨q3,trivial⟩
 ·have e1:=hm.apart _ _ k (nA j k hk) (nA j' k nQ);have AO:=hb _ k (nA j k hk);have anJ:=hb _ k (nA j' k nQ);have o1:=Hh h j AO;have o2:=Hh h j' anJ;obtain⟨p1,p2,p3,p4,p5⟩:=S_ (loc L h j).1;have e2:(loc L h j).2=(loc L h j').2:=by
   rw[← e1] at nQ
   by_cases hx:∃ x,gg h (loc L h j).1=aa (.inr (.inr (.inr x)))
   ·obtain⟨x,hx⟩:=hx;exact(p4 x hx).apart _ _ k hk nQ
   ·have hn:∀ x,gg h (loc L h j).1≠aa (.inr (.inr (.inr x))):=fun x e=>hx ⟨x,e⟩
    rw[p5 hn _ k hk,p5 hn _ k nQ]
  rw[← o1.1,← o2.1,e1,e2]
 ·have MR:=nA j k hk;have AO:=hb _ k MR;obtain⟨o1,o2⟩:=Hh h j AO;have hg:=GB (L:=L) (off L h) h 0 _ _ AO o2;rw[bW,o1] at hg;show ∃ B,(Gi L (off L h) 0 h)[j]?=aa (aa B)
  rw[hg];obtain⟨X,hX⟩:=hm.some_ _ k MR;obtain⟨p1,p2,p3,p4,p5⟩:=S_ (loc L h j).1;rw[Kp hX] at o2 ⊢;rcases X with⟨t,cs⟩|tr|r|x
  ·have:(loc L h j).2=0:=by simp only[width] at o2;omega
   rw[this];exact⟨_,rfl⟩
  ·have:(loc L h j).2=0:=by simp only[width] at o2;omega
   rw[this];exact⟨_,rfl⟩
  ·have:(loc L h j).2=0:=by simp only[width] at o2;omega
   rw[this];exact⟨_,rfl⟩
  ·obtain⟨B,hB⟩:=(p4 x (Kp hX)).some_ _ k hk;simp only[Bb];rw[vr.2,hB];exact⟨_,rfl⟩
theorem HM.close_ (hm:HM D0 C ρ ft (yr L h) w) (kj:tF h.length h=ao) :
  HM (GK D0 L) C (fun b=>ρ (off L h b)) (fun b k=>b<h.length/\∃ i,i<width L (gg h b)/\ft (off L h b+i) k) h w:=by
 have Zd:∀ b i,b<h.length->i<width L (gg h b)->(yr L h)[off L h b+i]?=(Bb L (off L h) (off L h b) (gg h b))[i]?:=fun b i hb hi=>by
  have:=GB (L:=L) (off L h) h 0 b i hb hi;rw[bW] at this;exact this
 refine⟨fun b B hB=>⟨?_,BV kj hB⟩,fun b k hk=>?_,fun b k hk=>?_,fun b b' k hk nQ=>?_,fun b k hk=>?_,hm.kept⟩
 ·have AO:b<h.length:=(aU.1 hB).1;have hx:=Kp hB;have Ze:width L (gg h b)=1->(fun k=>b<h.length/\∃ i,i<width L (gg h b)/\ft (off L h b+i) k)=ft (off L h b):=fun hw=>funext fun k=>propext ⟨fun⟨_,i,hi,hk⟩=>by
   obtain rfl:i=0:=by omega
   exact hk,fun hk=>⟨AO,0,by omega,hk⟩⟩
  have h0:=Zd b 0 AO (vt _);rw[gZ] at h0;rcases B with⟨t,cs⟩|⟨t,r⟩|r|x
  ·rw[Ze (by rw[hx];rfl)]
   rw[hx] at h0;obtain⟨g1,g2⟩:=hm.at_ _ _ h0;obtain⟨q1,q2,q3⟩:=g1;refine⟨q1,q2,?_⟩;rw[se] at q3;exact q3
  ·rw[Ze (by rw[hx];rfl)]
   rw[hx] at h0;exact(hm.at_ _ _ h0).1
  ·rw[Ze (by rw[hx];rfl)]
   rw[hx] at h0;exact(hm.at_ _ _ h0).1
  ·refine⟨fun i=>ρ (off L h b+i),fun i k=>i<(L.lay x).length/\ft (off L h b+i) k,rfl,fun k=>⟨fun⟨_,i,hi,hk⟩=>⟨i,by rw[hx] at hi;exact hi,hk⟩,fun⟨i,hi,hk⟩=>⟨AO,i,by rw[hx];exact hi,hk⟩⟩,?_⟩
   have J2:∀ i Y,(L.lay x)[i]?=aa (aa Y)->(yr L h)[off L h b+i]?=aa (aa (zm (fun i=>i+off L h b) Y)):=fun i Y hY=>by
    have C6:=(aU.1 hY).1;rw[Zd b i AO (by rw[hx];exact C6),hx]
    simp only[Bb];rw[vr.2,hY]
    rfl
   refine⟨fun i Y hY=>?_,fun i k hk=>hm.lt _ k hk.2,fun i k hk=>dO ⟨AO,i,by rw[hx];exact hk.1,hk.2⟩,fun i j k hi hj=>?_,fun i k hk=>?_,Kept.refl _ _⟩
   ·have C6:=(aU.1 hY).1;obtain⟨g1,g2⟩:=hm.at_ _ _ (J2 i Y hY);have anm:=BV (L.ins x) hY;have:=SJ g1 (ahZ (ρn:=fun i=>ρ (off L h b+i)) (fun i=>by rw[sY i]) anm) (b:=i) rfl
    have e:(fun k=>i<(L.lay x).length/\ft (off L h b+i) k)=ft (off L h b+i):=funext fun k=>propext ⟨fun h=>h.2,fun h=>⟨C6,h⟩⟩
    rw[e];exact⟨zz (L.own x i Y hY) this.1,this.2⟩
   ·have:=hm.apart _ _ k hi.2 hj.2;omega
   ·obtain⟨Z,hZ⟩:=hm.some_ _ k hk.2;rw[Zd b i AO (by rw[hx];exact hk.1),hx] at hZ
    simp only[Bb] at hZ;rw[vr.2] at hZ;cases hY:(L.lay x)[i]? with
    |none=>rw[hY] at hZ;cases hZ
    |some Y =>
     rw[hY] at hZ;simp only[kp,cv] at hZ;obtain⟨Y,rfl,_⟩:=Jh hZ;exact⟨Y,rfl⟩
 ·obtain⟨_,i,_,hk⟩:=hk;exact hm.lt _ k hk
 ·obtain⟨_,i,_,hk⟩:=hk;exact hm.fresh _ k hk
 ·obtain⟨hb,i,hi,hk⟩:=hk;obtain⟨qC,i',kQ,nQ⟩:=nQ;have e:=hm.apart _ _ k hk nQ;rcases od b b' with cd|he|cd
  ·have:=I3 (L:=L) h b b' cd hb;omega
  ·exact he
  ·have:=I3 (L:=L) h b' b cd qC;omega
 ·obtain⟨hb,i,hi,hk⟩:=hk;obtain⟨Z,hZ⟩:=hm.some_ _ k hk;rw[Zd b i hb hi] at hZ;cases hx:gg h b with
  |none =>
   rw[hx] at hZ hi;simp only[width] at hi;obtain rfl:i=0:=by omega
   simp[Bb] at hZ
  |some X=>exact⟨X,rH hx⟩
structure ya (L:EE R R0) (hh:Hp R) (x:Out R) (v:Value) (hp:Hp R0):Prop where
 ex:∃ s:List Nat,v=pQ hp.length (gr (nth s) (gr (off L x.hp) x.v))/\fD hp.length v=ao/\ur hp.length (nth s) hp 0 (yr L x.hp)/\wg (zw hp.length (nth s) 0 (yr L x.hp))=ao/\vd (yr L hh).length hp.length=ao/\Gt (fun b=>fj (nth s (off L x.hp b)) (off L hh b)) hh.length=ao /\
  tF (yr L x.hp).length (yr L x.hp)=ao/\tF x.hp.length x.hp=ao
theorem rG {f : FuncId} {fn : Func} {root : Code} {on : List Value → Hp R → Prop} {spec : Prim R} (hf : P.funcs[f]? = aa fn) (hb : fn.body = aa root) (Y8 : (fn.name == "runtime.NumGoroutine") = an)
  (H:∀ args hh x,spec args hh=aa x->hh.length≤x.hp.length/\(∀ b,x.lit=aa b->x.v=.bool b)/\(x.wr=[]->x.hp=hh) /\
   (on args hh->x.vc->At D0 P root (yr L hh).length (iB P fn.results.toList (ya L hh x)) [.inl []] ⟨vG (ma (off L hh) args)++lC (fn.ntmps-args.length) aj,[],yr L hh⟩)):rR (GK D0 L) P f on spec where
 known:=⟨fn,hf,Y8,by rw[hb];rfl⟩
 run args hh x m7 hx C ρ ft w hm hv hi:=by
  obtain⟨_,_,_,h4⟩:=H args hh x hx;obtain⟨ρ1,ft1,o1,o2⟩:=hm.open_;have hargs:args.map (bV ρ)=(ma (off L hh) args).map (bV ρ1):=by
   rw[se,← lB,← lB];exact(qH (n:=hh.length) (fun b hb=>o1 b hb) args hi).symm
  have hlen:(ma (off L hh) args).length=args.length:=by
   have:∀ l:List Value,(ma (off L hh) l).length=l.length:=fun l=>by
    induction l with
    |nil=>simp[ma]
    |cons v l ih=>simp[ma,ih]
   exact this args
  rw[hargs];have kj:iJ (yr L hh).length (ma (off L hh) args)=ao:=wF (n:=hh.length) (fun b hb=>by
   have:=Ia (L:=L) hh (b:=b) (i:=0) hb (vt _)
   simpa using this) args hi
  have h5:=h4 m7 hv;rw[← hlen] at h5;refine(Nz hf hb h5 o2 kj).mono fun e w' ⟨gF,kF,v,xc,g1,g2,g3,g4⟩=>?_
  obtain⟨s,e1,JK,e2,e3,e3',e4,e5,e6⟩:=g3.ex;have UR:=g4.WL e2 e3 e5;refine⟨_,_,fun b hb=>?_,?_,UR.close_ e6⟩
  ·show xR gF xc.length (nth s (off L x.hp b))=ρ b
   have h6:off L hh b<(yr L hh).length:=by
    have:=Ia (L:=L) hh (b:=b) (i:=0) hb (vt _)
    simpa using this
   have:=Ac e4 hb;have h7:=jQ e3';rw[cQ this,yf (by omega),g1 _ h6,o1 b hb]
  ·rw[g2];rw[e1] at JK ⊢;rw[J1 _ JK,CV,CV]
 len args hh x hx:=(H args hh x hx).1
 lit args hh x hx:=(H args hh x hx).2.1
 still args hh x hx:=(H args hh x hx).2.2.1
end
end Rx
namespace Rx
open Go.ChangeShapes Go.WideShapes Go.ChangeAt Go.RowKit Go.Deep State
def Bs:Value->Value->Prop
 |.int k _,.int k' x=>k=k'/\(Lit.int k x).wf=ao
 |.bool _,.bool _=>True
 |.string _,.string s=>s.size≤maxLen
 |_,_=>False
def sA:List Value->List Value->Prop
 |[],[]=>True
 |t::tm,v::l=>Bs t v/\sA tm l
 |_,_=>False
theorem BW:∀ {a b c d:List Value},sA a c->sA b d->sA (a++b) (c++d)
 |[],b,[],d,_,h=>h
 |[],b,_::_,d,h,_=>h.elim
 |_::_,b,[],d,h,_=>h.elim
 |t::a,b,v::c,d,h,h'=>⟨h.1,BW h.2 h'⟩
theorem Mo:∀ {a c:List Value} {f:Nat} {t:Value},sA a c->a[f]?=aa t->∃ v,c[f]?=aa v/\Bs t v
 |[],_,f,t,_,h=>by simp at h
 |_::_,[],f,t,h,_=>h.elim
 |u::a,v::c,f,t,h,ht=>by
  cases f with
  |zero=>simp only[cf,cv] at ht ⊢;subst ht;exact⟨v,rfl,h.1⟩
  |succ f=>simp only[bK] at ht ⊢;exact Mo h.2 ht
def KZ (P:Program) (rec:TypeId->Option (List Value)):Nat->List Field->Option (List Value)
 |_,[]=>aa []
 |off,f::fs =>
  match rec f.type with
  |some tm=>if fj f.offset off&&fj (P.cellsOf f.type) tm.length then
    match KZ P rec (off+tm.length) fs with
    |some r=>aa (tm++r)
    |none=>aj
   else aj
  |none=>aj
def M7 (tm:List Value):Nat->List Value
 |0=>[]
 |n+1=>tm++M7 tm n
theorem U2 {tm:List Value} {v:Value}:∀ {n},v∈M7 tm n->v∈tm
 |0,h=>by simp[M7] at h
 |n+1,h=>by
  simp only[M7] at h;rcases bY.1 h with h|h
  ·exact h
  ·exact U2 h
def GR (P:Program):Nat->TypeId->Option (List Value)
 |0,_=>aj
 |n+1,t =>
  match P.underlying t with
  |some (.int k)=>aa [.int k 0]
  |some .bool=>aa [.bool an]
  |some .string=>aa [.string ⟨#[]⟩]
  |some (.struct fs) =>
   match KZ P (GR P n) 0 fs.toList with
   |some tm=>if fj (P.cellsOf t) tm.length then aa tm else aj
   |none=>aj
  |some (.array k el) =>
   match GR P n el with
   |some tm=>if fj (P.cellsOf el) tm.length&&fj (P.cellsOf t) (k*tm.length) then aa (M7 tm k) else aj
   |none=>aj
  |_=>aj
section
variable {H:Type} {enc:TypeId×Value->H} {P:Program} {w:World} {base:Nat} {spare:Nat->Bool} {held:Bool}
theorem Yp {tm cs:List Value} {m:Nat} {e:TypeId} (hc:P.cellsOf e=tm.length) (ih:∀ (cs:List Value) (x:DataW H×List MemPlace),Ed enc P w base spare held m e cs=aa x->sA tm cs) :
  ∀ (k i0:Nat),(∀ i,i<i0+k->∃ y,Ed enc P w base spare held m e ((cs.drop (i*P.cellsOf e)).take (P.cellsOf e))=aa y)->sA (M7 tm k) ((cs.drop (i0*tm.length)).take (k*tm.length))
 |0,i0,_=>by simp[M7,sA]
 |k+1,i0,hy=>by
  obtain⟨y,h1⟩:=hy i0 (by omega)
  have a1:=ih _ _ h1;rw[hc] at a1;have a2:=Yp hc ih k (i0+1) fun i hi=>hy i (by omega)
  have:=BW a1 a2;rw[show(k+1)*tm.length=tm.length+k*tm.length by rw[WW];omega,wD,sF]
  rw[show(i0+1)*tm.length=i0*tm.length+tm.length by rw[WW]] at this
  exact this
theorem X0 {rec:TypeId->Option (List Value)} {cs:List Value} {n:Nat}
  (ih:∀ (t:TypeId) (tm cs:List Value) (x:DataW H×List MemPlace),rec t=aa tm->Ed enc P w base spare held n t cs=aa x->sA tm cs) :
  ∀ (fs:List Field) (off:Nat) (tm:List Value),KZ P rec off fs=aa tm->(∀ f∈fs,∃ y,Ed enc P w base spare held n f.type ((cs.drop f.offset).take (P.cellsOf f.type))=aa y)->sA tm ((cs.drop off).take tm.length)
 |[],off,tm,h,_=>by simp only[KZ,cv] at h;subst h;simp[sA]
 |f::fs,off,tm,h,hy=>by
  simp only[KZ] at h;split at h
  ·rename_i S5 h1;split at h
   ·rename_i hc;simp only[aM] at hc;have e1:=cQ hc.1;have e2:=cQ hc.2;split at h
    ·rename_i r hr;injection h with h
     subst h;obtain⟨y,Bd⟩:=hy f bL;have a1:=ih _ _ _ _ h1 Bd;rw[e1,e2] at a1;have a2:=X0 ih fs (off+S5.length) r hr fun g hg=>hy g (dX _ hg)
     have:=BW a1 a2;rw[bE,wD,sF];exact this
    ·cases h
   ·cases h
  ·cases h
theorem Ro:∀ (m:Nat) (t:TypeId) (tm cs:List Value) (fuel:Nat) (x:DataW H×List MemPlace),GR P m t=aa tm->Ed enc P w base spare held fuel t cs=aa x->sA tm cs
 |0,_,_,_,_,_,h,_=>by simp[GR] at h
 |m+1,t,tm,cs,fuel,x,h,ht=>by
  simp only[GR] at h;split at h
  ·rename_i k hk;injection h with h
   subst h;obtain⟨n,rfl,_,hw⟩:=DataW.trod_int hk ht;exact⟨⟨rfl,hw⟩,trivial⟩
  ·rename_i hk;injection h with h
   subst h;obtain⟨b,rfl,_⟩:=DataW.trod_bool hk ht;exact⟨trivial,trivial⟩
  ·rename_i hk;injection h with h
   subst h;obtain⟨s,rfl,_,hs⟩:=DataW.trod_string hk ht;exact⟨hs,trivial⟩
  ·rename_i fs hk;split at h
   ·rename_i S5 h1;split at h
    ·rename_i hc;injection h with h
     subst h;have hc:=cQ hc;obtain⟨xs,n,rfl,_,hl,hxs,hf⟩:=DataW.trod_struct hk ht;have:=X0 (fun t tm cs x h1 h2=>Ro m t tm cs n x h1 h2) fs.toList 0 S5 h1 (cs:=cs) fun f hf'=>by
      obtain⟨i,hi⟩:=List.mem_iff_getElem?.1 hf';have kQ:fs[i]?=aa f:=by simpa using hi
      have cd:i<xs.length:=by rw[hxs];exact(wC.1 kQ).1
      exact⟨xs[i],by rw[hf i f kQ,bc cd]⟩
     rw[sG,jw (by omega)] at this
     exact this
    ·cases h
   ·cases h
  ·rename_i k el hk;split at h
   ·rename_i S5 h1;split at h
    ·rename_i hc;injection h with h
     subst h;simp only[aM] at hc;have Pb:=cQ hc.1;have p_:=cQ hc.2;obtain⟨xs,n,rfl,_,hl,hxs,hf⟩:=DataW.trod_array hk ht;have:=Yp (cs:=cs) Pb (fun cs x h2=>Ro m el S5 cs n x h1 h2) k 0 fun i hi=>by
      have cd:i<xs.length:=by omega
      exact⟨xs[i],by rw[hf i (by omega),bc cd]⟩
     rw[BA,sG,jw (by omega)] at this
     exact this
    ·cases h
   ·cases h
  ·cases h
end
structure J_ (W:World) (p:Place) (r:Row):Prop where
 ne:0<r.tm.length
 n:r.n≤p.cap
 cap:p.cap≤maxLen
 nil:p.nil=ao->p.cap=0
 ex:∃ arr,(p.nil=an->0<r.n->p.lO<W.heap.size/\∃ t fz,W.heap[p.lO]?=aa (.cells arr t fz))/\oC r arr p.off
def OT:Value->aW->Nat->Prop
 |.int k _,c,n=>c=zq c.i/\c.i.length=n/\∀ x∈c.i,(Lit.int k x).wf=ao
 |.bool _,c,n=>c=Bk c.b/\c.b.length=n
 |.string _,c,n=>c=EI c.s/\c.s.length=n/\∀ x∈c.s,x.size≤maxLen
 |_,_,_=>False
def Bq:List Value->List aW->Nat->Prop
 |[],[],_=>True
 |t::tm,c::cs,n=>OT t c n/\Bq tm cs n
 |_,_,_=>False
def cellAt (W:World) (a:Addr):Value:=(W.cell? a).getD undef
def uu (W:World) (b o s n f:Nat) (t:Value):aW :=
 match t with
 |.int _ _=>zq ((oD n).map fun e=>match cellAt W ⟨b,o+(e*s+f),aj⟩ with
  |.int _ x=>x
  |_=>0)
 |.bool _=>Bk ((oD n).map fun e=>match cellAt W ⟨b,o+(e*s+f),aj⟩ with
  |.bool x=>x
  |_=>an)
 |.string _=>EI ((oD n).map fun e=>match cellAt W ⟨b,o+(e*s+f),aj⟩ with
  |.string x=>x
  |_=>⟨#[]⟩)
 |_=>LB
def xr (W:World) (b o s n:Nat):Nat->List Value->List aW
 |_,[]=>[]
 |f,t::tm=>uu W b o s n f t::xr W b o s n (f+1) tm
theorem vM (W:World) (b o s n:Nat):∀ (tm:List Value) (f0 f:Nat),(xr W b o s n f0 tm).length=tm.length/\(xr W b o s n f0 tm)[f]?=(tm[f]?).map (uu W b o s n (f0+f))
 |[],f0,f=>⟨rfl,by simp[xr]⟩
 |t::tm,f0,f=>by
  obtain⟨h1,h2⟩:=vM W b o s n tm (f0+1) (f-1);refine⟨by simp[xr,h1],?_⟩
  cases f with
  |zero=>simp[xr]
  |succ f =>
   simp only[xr,bK];simp only[mA] at h2;rw[h2,show f0+1+f=f0+(f+1) by omega]
theorem J0:∀ {tm:List Value} {cs:List aW} {n:Nat},cs.length=tm.length->(∀ (f:Nat) (t:Value) (c:aW),tm[f]?=aa t->cs[f]?=aa c->OT t c n)->Bq tm cs n
 |[],[],_,_,_=>trivial
 |[],_::_,_,h,_=>by simp at h
 |_::_,[],_,h,_=>by simp at h
 |t::tm,c::cs,n,h,hf=>⟨hf 0 t c rfl rfl,J0 (by simpa using h) fun f t c h1 h2=>hf (f+1) t c h1 h2⟩
theorem Cd {P:Program}:∀ (m:Nat) (t:TypeId) (tm:List Value),GR P m t=aa tm->∀ v∈tm,(∃ k,v=.int k 0)∨v=.bool an∨v=.string ⟨#[]⟩
 |0,_,_,h=>by simp[GR] at h
 |m+1,t,tm,h=>by
  simp only[GR] at h;split at h
  ·injection h with h;subst h;intro v hv;simp at hv;exact dO ⟨_,hv⟩
  ·injection h with h;subst h;intro v hv;simp at hv;exact e_ (dO hv)
  ·injection h with h;subst h;intro v hv;simp at hv;exact e_ (e_ hv)
  ·rename_i fs hk;have key:∀ (fs:List Field) (off:Nat) (tm:List Value),KZ P (GR P m) off fs=aa tm->∀ v∈tm,(∃ k,v=.int k 0)∨v=.bool an∨v=.string ⟨#[]⟩:=by
    intro fs
    induction fs with
    |nil=>intro off tm h v hv;simp only[KZ,cv] at h;subst h;cases hv
    |cons f fs ih =>
     intro off tm h v hv;simp only[KZ] at h;split at h
     ·rename_i S5 h1;split at h
      ·split at h
       ·rename_i r hr;injection h with h
        subst h;rcases bY.1 hv with hv|hv
        ·exact Cd m _ _ h1 v hv
        ·exact ih _ _ hr v hv
       ·cases h
      ·cases h
     ·cases h
   split at h
   ·rename_i S5 h1;split at h
    ·injection h with h;subst h;exact key _ _ _ h1
    ·cases h
   ·cases h
  ·split at h
   ·rename_i S5 h1;split at h
    ·injection h with h;subst h;exact fun v hv=>Cd m _ _ h1 v (U2 hv)
    ·cases h
   ·cases h
  ·cases h
theorem slice_arg {H:Type} {enc:TypeId×Value->H} {P:Program} {W:World} {base:Nat} {t el:TypeId} {v:Value} {d:DataW H} {pl:List MemPlace} {tm:List Value} {m:Nat}
  (ht:P.underlying t=aa (.slice el)) (BN:GR P m el=aa tm) (kG:0<tm.length) (SN:P.cellsOf el=tm.length) (Mp:0<tm.length/\tm.length<1000)
  (hv:WX P W .any base t v) (h:DataW.Trod enc P W 0 (fun _=>ao) ao t v d pl) :
  ∃ (p:Place) (r:Row),r.tm=tm/\Bq tm r.ew r.n/\J_ W p r/\∀ (ρ:Env) (i:Nat),ρ i=p->v=bV ρ (.slice (aa ⟨i,0,aa (1000*tm.length)⟩) r.n 0):=by
 obtain⟨a0,len,cap,rfl⟩:=okWide_slice ht hv;obtain⟨fuel,hf⟩:=h;rcases open_slice ht hf with⟨Hz,_⟩|⟨a,l,c,mm,n,D,Pl,Hz,_,hl,hm,hmm,_,hi⟩
 ·simp[nM] at Hz;obtain⟨rfl,rfl,rfl⟩:=Hz;refine⟨⟨0,0,0,ao⟩,⟨tm,0,xr W 0 0 tm.length 0 0 tm⟩,rfl,?_,⟨kG,a_ _,dv _,fun _=>rfl,⟨#[],(fun h=>by cases h),?_⟩⟩,fun ρ i qW=>?_⟩
  ·refine J0 (vM W 0 0 tm.length 0 tm 0 0).1 fun f t c h1 h2=>?_
   have h3:=(vM W 0 0 tm.length 0 tm 0 f).2;rw[h1,h2] at h3;simp only[kp,cv] at h3;subst h3;rcases Cd _ _ _ BN t (lI h1) with⟨k,rfl⟩|rfl|rfl<;>simp[uu,OT,zq,Bk,EI]
  ·refine⟨(vM W 0 0 tm.length 0 tm 0 0).1,fun f t c h1 h2=>?_,fun f t c e h1 h2 he=>by simp at he⟩
   have h3:=(vM W 0 0 tm.length 0 tm 0 f).2;simp only at h1 h2;rw[h1,h2] at h3;simp only[kp,cv] at h3;subst h3;rcases Cd _ _ _ BN t (lI h1) with⟨k,rfl⟩|rfl|rfl<;>simp[uu,jU,zq,Bk,EI]
  ·simp[bV,lP,qW]
 ·simp[nM] at Hz;obtain⟨rfl,rfl,rfl⟩:=Hz;have hmc:mm=cap:=by simpa using hmm
  have hel:∀ e,e<cap->∃ cs,sA tm cs/\∀ f,f<tm.length->W.cell? ((a.add (e*tm.length)).add f)=cs[f]?:=by
   intro e he;obtain⟨Dd,hc,ht'⟩:=hi e (by omega)
   rw[SN] at hc;obtain⟨_,hlen,VY⟩:=World.cells?_some hc;exact⟨Dd,Ro _ _ _ _ _ _ BN ht',VY⟩
  have afZ:a.spot=aj:=by
   simp only[WX,ht,Cell.okWide,Cell.ok] at hv;exact hv.2.2.2.1
  obtain⟨b,o,spot⟩:=a;simp only at afZ;subst afZ;have VY:∀ e f,e<cap->f<tm.length->∃ t v,tm[f]?=aa t/\W.cell? ⟨b,o+(e*tm.length+f),aj⟩=aa v/\Bs t v:=by
   intro e f he hf;obtain⟨cs,uz,hc⟩:=hel e he;obtain⟨v,hv,hk⟩:=Mo uz (bc hf);refine⟨tm[f],v,bc hf,?_,hk⟩;have:=hc f hf;rw[hv] at this;rw[p9,p9] at this;rw[← jr];exact this
  have hwf:∀ (f:Nat) (t:Value),tm[f]?=aa t->OT t (uu W b o tm.length len f t) len/\∀ e,e<len->W.cell? ⟨b,o+(e*tm.length+f),aj⟩=aa (gJ t (uu W b o tm.length len f t) e):=by
   intro f t ht1;have hf:f<tm.length:=(aU.1 ht1).1;have qk:∀ e,e<len->∃ v,W.cell? ⟨b,o+(e*tm.length+f),aj⟩=aa v/\Bs t v:=fun e he=>by
    obtain⟨t',v,h1,h2,h3⟩:=VY e f (by omega) hf
    rw[ht1] at h1;injection h1 with h1
    subst h1;exact⟨v,h2,h3⟩
   rcases Cd _ _ _ BN t (lI ht1) with⟨k,rfl⟩|rfl|rfl
   ·refine⟨⟨rfl,by simp[uu,zq],fun x hx=>?_⟩,fun e he=>?_⟩
    ·simp only[uu,zq,px,Sc] at hx;obtain⟨e,he,rfl⟩:=hx;obtain⟨v,h1,h2⟩:=qk e he;cases v<;>simp only[Bs] at h2
     obtain⟨rfl,h2⟩:=h2;simp only[cellAt,h1,lS];exact h2
    ·obtain⟨v,h1,h2⟩:=qk e he;cases v<;>simp only[Bs] at h2
     obtain⟨rfl,h2⟩:=h2;rw[h1];simp[gJ,uu,zq,he,cellAt,h1]
   ·refine⟨⟨rfl,by simp[uu,Bk]⟩,fun e he=>?_⟩
    obtain⟨v,h1,h2⟩:=qk e he;cases v<;>simp only[Bs] at h2
    rw[h1];simp[gJ,uu,Bk,he,cellAt,h1]
   ·refine⟨⟨rfl,by simp[uu,EI],fun x hx=>?_⟩,fun e he=>?_⟩
    ·simp only[uu,EI,px,Sc] at hx;obtain⟨e,he,rfl⟩:=hx;obtain⟨v,h1,h2⟩:=qk e he;cases v<;>simp only[Bs] at h2
     simp only[cellAt,h1,lS];exact h2
    ·obtain⟨v,h1,h2⟩:=qk e he;cases v<;>simp only[Bs] at h2
     rw[h1];simp[gJ,uu,EI,he,cellAt,h1]
  have ad3:∀ (f:Nat) (t:Value) (c:aW),tm[f]?=aa t->(xr W b o tm.length len 0 tm)[f]?=aa c->c=uu W b o tm.length len f t:=fun f t c h1 h2=>by
   have h3:=(vM W b o tm.length len tm 0 f).2;rw[h1,h2] at h3
   simpa using h3
  have hlen:=(vM W b o tm.length len tm 0 0).1;have wM:∀ arr,(0<len->∃ t fz,W.heap[b]?=aa (.cells arr t fz))->oC ⟨tm,len,xr W b o tm.length len 0 tm⟩ arr o:=by
   intro arr GS;refine⟨hlen,fun f t c h1 h2=>?_,fun f t c e h1 h2 he=>?_⟩
   ·rw[ad3 f t c h1 h2];have:=(hwf f t h1).1;rcases Cd _ _ _ BN t (lI h1) with⟨k,rfl⟩|rfl|rfl<;>simp[uu,jU,zq,Bk,EI]
   ·rw[ad3 f t c h1 h2];obtain⟨t',fz,hb⟩:=GS (by simp only at he;omega)
    rw[← (hwf f t h1).2 e he,cell_of_row W b _ arr t' fz hb]
  refine⟨⟨b,o,cap,an⟩,⟨tm,len,xr W b o tm.length len 0 tm⟩,rfl,J0 hlen fun f t c h1 h2=>by rw[ad3 f t c h1 h2];exact(hwf f t h1).1,⟨kG,hl,hm,(fun h=>by cases h),?_⟩,fun ρ i qW=>?_⟩
  ·by_cases h0:0<len
   ·obtain⟨t,v,_,h2,_⟩:=VY 0 0 (by omega) kG
    unfold World.cell? at h2;simp only[Option.isSome_none,fX,if_false] at h2;split at h2
    ·rename_i arr t' fz hb;exact⟨arr,fun _ _=>⟨by have:=wC.1 hb;exact this.1,_,_,hb⟩,wM arr fun _=>⟨_,_,hb⟩⟩
    ·cases h2
   ·exact⟨#[],fun _ h=>absurd h h0,wM #[] fun h=>absurd h h0⟩
  ·simp[bV,lP,qW,iQ,cellOf];omega
def xY {R:Type}:List (Place×Row)->Hp R
 |[]=>[]
 |x::l=>aa (.inr (.inr (.inl x.2)))::xY l
theorem M0 {R:Type}:∀ {l:List (Place×Row)} {i:Nat} {B:SB R},(xY l:Hp R)[i]?=aa (aa B)->∃ x,l[i]?=aa x/\B=.inr (.inr (.inl x.2))
 |[],i,B,h=>by simp[xY] at h
 |x::l,i,B,h=>by
  cases i with
  |zero=>simp only[xY,cf,cv] at h ⊢;exact⟨x,rfl,h.symm⟩
  |succ i=>simp only[xY,bK] at h ⊢;exact M0 h
def viewsE (l:List (Place×Row)):Env:=fun i=>match l[i]? with
 |some x=>x.1
 |none=>⟨0,0,0,ao⟩
theorem aeF {R:Type} {D:fR R} {W:World} {l:List (Place×Row)} (h:∀ x∈l,J_ W x.1 x.2) (n:Nat):HM D ⟨W,fun _=>False,viewsE l,n⟩ (viewsE l) (fun _ _=>False) (xY l) W where
 at_ i B hB:=by
  obtain⟨x,hx,rfl⟩:=M0 hB;obtain⟨h1,h2,h3,h4,arr,h5,h6⟩:=h x (lI hx);have e:viewsE l i=x.1:=by simp[viewsE,hx]
  refine⟨?_,trivial⟩;simp only[hold,e];exact⟨fun k hk=>hk,h1,h2,h3,h4,arr,fun hn h0=>⟨(h5 hn h0).1,fun hf=>hf,(h5 hn h0).2⟩,h6⟩
 lt i k hk:=hk.elim
 fresh i k hk:=hk.elim
 apart i j k hk:=hk.elim
 some_ i k hk:=hk.elim
 kept:=Kept.refl _ _
theorem Kept.below {W W':World} (h:Kept (fun _=>False) W W'):Below W.heap.size W W':=⟨h.os,h.tape,h.output,h.size,fun k hk=>h.block k hk fun hf=>hf⟩
theorem abO {R:Type} {D:fR R} {P:Program} {f:FuncId} {fn:Func} {root:Code} {args:List Value} {W:World} (l:List (Place×Row)) (hf:P.funcs[f]?=aa fn) (hb:fn.body=aa root)
  (hW:∀ x∈l,J_ W x.1 x.2) (hi:iJ (xY l:Hp R).length args=ao)
  (h:At D P root (xY l:Hp R).length (iB P fn.results.toList fun v _=>v=.bool ao) [.inl []] ⟨vG args++lC (fn.ntmps-args.length) aj,[],xY l⟩) :
  Calls P f (args.map (bV (viewsE l))).toArray W fun e W'=>e=.returned (.bool ao)/\Below W.heap.size W W':=by
 refine(Nz hf hb h (aeF hW 0) hi).mono fun e w' ⟨gF,kF,v,xc,_,h2,h3,h4⟩=>?_
 subst h3;exact⟨by rw[h2];simp,Kept.below h4.kept⟩
end Rx
namespace Rx
open Go.RowKit State
def P8 (t:Value) (c:aW) (e n:Nat):aW :=
 match t with
 |.int _ _=>⟨cut c.i e n,[],[]⟩
 |.bool _=>⟨[],cut c.b e n,[]⟩
 |.string _=>⟨[],[],cut c.s e n⟩
 |_=>LB
def xQ:List Value->List aW->Nat->Nat->List aW
 |t::tm,c::cs,e,n=>P8 t c e n::xQ tm cs e n
 |_,_,_,_=>[]
theorem CD:∀ {tm:List Value} {cs:List aW} {e n f:Nat},cs.length=tm.length->(xQ tm cs e n).length=tm.length/\∀ t c',tm[f]?=aa t->(xQ tm cs e n)[f]?=aa c'->∃ c,cs[f]?=aa c/\c'=P8 t c e n
 |[],[],e,n,f,_=>⟨rfl,fun t c' h=>by simp at h⟩
 |[],_::_,e,n,f,h=>by simp at h
 |_::_,[],e,n,f,h=>by simp at h
 |t::tm,c::cs,e,n,f,h=>by
  obtain⟨h1,h2⟩:=CD (tm:=tm) (cs:=cs) (e:=e) (n:=n) (f:=f-1) (by simpa using h)
  refine⟨by simp[xQ,h1],fun t' c' ht hc=>?_⟩
  cases f with
  |zero =>
   simp only[xQ,cf,cv] at ht hc ⊢;subst ht hc;exact⟨c,rfl,rfl⟩
  |succ f =>
   simp only[xQ,bK] at ht hc ⊢;simp only[mA] at h2;exact h2 t' c' ht hc
theorem adM {α:Type} {l:List α} {e n i:Nat} {d:α} (hi:i<n):(cut l e n).getD i d=l.getD (e+i) d:=by
 simp only[cut,au,o9,hi,if_true,o_]
theorem ahW {α:Type} {l:List α} {e n:Nat} (h:e+n≤l.length):(cut l e n).length=n:=by simp[cut];omega
theorem oC.cut {r:Row} {arr:Array Value} {o e n:Nat} (h:oC r arr o) (hn:e+n≤r.n):oC ⟨r.tm,n,xQ r.tm r.ew e n⟩ arr (o+e*r.tm.length):=by
 obtain⟨h1,h2,h3⟩:=h;refine⟨(CD (f:=0) h1).1,fun f t c ht hc=>?_,fun f t c i ht hc hi=>?_⟩
 ·obtain⟨c0,DO,rfl⟩:=(CD h1).2 t c ht hc;have:=h2 f t c0 ht DO;cases t<;>simp only[jU,P8] at this ⊢<;>first|exact ahW (by omega)|exact this
 ·obtain⟨c0,DO,rfl⟩:=(CD h1).2 t c ht hc;have kQ:i<n:=hi;have:=h3 f t c0 (e+i) ht DO (by omega)
  show arr[o+e*r.tm.length+(i*r.tm.length+f)]?=_
  rw[show o+e*r.tm.length+(i*r.tm.length+f)=o+((e+i)*r.tm.length+f) by rw[Nat.add_mul];omega,this]
  cases t<;>simp only[gJ,P8]<;>simp only[adM kQ]
def Z' (C:Ctx) (p:Place) (r:Row):Prop:=0<r.tm.length/\r.n≤p.cap/\p.cap≤maxLen/\(p.nil=ao->p.cap=0) /\
 ∃ arr,(p.nil=an->0<r.n->p.lO<C.w0.heap.size/\¬ C.U p.lO/\∃ t fz,C.w0.heap[p.lO]?=aa (.cells arr t fz))/\oC r arr p.off
section
variable {R:Type} {D:fR R} {P:Program} {T:eM R} {C:Ctx} {ρ gF:Env} {ft:Nat->Nat->Prop} {w w':World}
def w_ (ro:Nat->Bool) (hl:Hp R):Nat->Nat->List Value->Option (List Value×Hp R×Prop)
 |_,_,[]=>aa ([],[],True)
 |j,k,v::l =>
  match ro j with
  |false =>
   match w_ ro hl (j+1) k l with
   |some (a,h,p)=>aa (v::a,h,p)
   |none=>aj
  |true =>
   match v with
   |.slice (aa ⟨b,e,aa q⟩) n _ =>
    match gg hl b with
    |some (.inr (.inr (.inl r))) =>
     if fj (q%1000000) (1000*r.tm.length) then
      match w_ ro hl (j+1) (k+1) l with
      |some (a,h,p)=>aa (.slice (aa ⟨k,0,aa (1000*r.tm.length)⟩) n 0::a,aa (.inr (.inr (.inl ⟨r.tm,n,xQ r.tm r.ew e n⟩)))::h,e+n≤r.n/\p)
      |none=>aj
     else aj
    |_=>aj
   |_=>aj
theorem G4 {ro:Nat->Bool} {hl:Hp R} (hm:HM D C ρ ft hl w):∀ (l:List Value) (j k:Nat) (a:List Value) (h:Hp R) (p:Prop),w_ ro hl j k l=aa (a,h,p)->p->hl.length≤k->iJ hl.length l=ao->(∀ (b:Nat) (r:Row),gg hl b=aa (.inr (.inr (.inl r)):SB R)->r.tm.length<1000) ->
  ∃ pl:List Place,pl.length=h.length/\iJ (k+h.length) a=ao /\
   (∀ nI:Env,(∀ i,i<hl.length->nI i=ρ i)->(∀ i q,pl[i]?=aa q->nI (k+i)=q)->a.map (bV nI)=l.map (bV ρ)) /\
   (∀ (i:Nat) (B:SB R),h[i]?=aa (aa B)->∃ (r:Row) (q:Place),B=.inr (.inr (.inl r))/\pl[i]?=aa q/\Z' C q r)
 |[],j,k,a,h,p,hv,_,_,_,_=>by
  simp only[w_,cv,tL] at hv;obtain⟨rfl,rfl,_⟩:=hv;exact⟨[],rfl,rfl,fun _ _ _=>rfl,fun i B hB=>by simp at hB⟩
 |v::l,j,k,a,h,p,hv,hp,hk,kj,hsm=>by
  simp only[iJ,aM] at kj;simp only[w_] at hv;split at hv
  ·split at hv
   ·rename_i a1 h1 p1 he;simp only[cv,tL] at hv;obtain⟨rfl,rfl,rfl⟩:=hv;obtain⟨pl,q1,q2,q3,q4⟩:=G4 hm l _ _ _ _ _ he hp hk kj.2 hsm;refine⟨pl,q1,?_,fun nI e1 e2=>?_,q4⟩
    ·simp only[iJ,aM];exact⟨B7 (by omega) v kj.1,q2⟩
    ·simp only[gC,q3 nI e1 e2];rw[nG (n:=hl.length) (fun i hi=>e1 i hi) v kj.1]
   ·cases hv
  ·split at hv
   ·rename_i b e q n c;split at hv
    ·rename_i r hr;split at hv
     ·rename_i hq;have hq:=cQ hq;split at hv
      ·rename_i a1 h1 p1 he;simp only[cv,tL] at hv;obtain⟨rfl,rfl,rfl⟩:=hv;obtain⟨hp1,hp2⟩:=hp;obtain⟨pl,q1,q2,q3,q4⟩:=G4 hm l _ _ _ _ _ he hp2 (by omega) kj.2 hsm
       have hb:=rH hr;have AO:b<hl.length:=(aU.1 hb).1;obtain⟨_,g1,g2,g3,g4,arr,g5,g6⟩:=(hm.at_ b _ hb).1;have aqw:=hsm b r hr;have aeg:=g6.cut hp1;have aqg:FN (aa q)≤hl.length:=by
        have:=kj.1;simp only[fD,aM,vR] at this;exact this.2
       have main:∃ pp:Place,Z' C pp ⟨r.tm,n,xQ r.tm r.ew e n⟩/\∀ nI:Env,nI k=pp->bV nI (.slice (aa ⟨k,0,aa (1000*r.tm.length)⟩) n 0)=bV ρ (.slice (aa ⟨b,e,aa q⟩) n c):=by
        have hz:1000*r.tm.length / 1000000=0:=by omega
        by_cases hn:(ρ b).nil=ao
        ·have hc:=g4 hn;refine⟨⟨0,(ρ b).off+e*r.tm.length,0,ao⟩,⟨g1,(by show n≤0;omega),dv _,(fun _=>rfl),arr,(fun h=>by cases h),aeg⟩,fun nI e2=>?_⟩
         simp only[bV,Ab,e2,if_true];rw[if_pos hn]
        ·have yt:(ρ b).nil=an:=by simpa using hn
         by_cases hc:q / 1000000≠0/\(ρ b).cap≤e
         ·have va:n=0:=by omega
          subst va;refine⟨⟨(ρ (q / 1000000-1)).lO,(ρ (q / 1000000-1)).off,0,an⟩,⟨g1,a_ _,dv _,(fun h=>by cases h),arr,(fun _ h=>absurd h (Nat.lt_irrefl 0)),?_⟩,fun nI e2=>?_⟩
          ·obtain⟨z1,z2,z3⟩:=aeg;exact⟨z1,z2,fun f t c i _ _ hi=>absurd hi (Nat.not_lt_zero i)⟩
          ·simp only[bV,Ab,e2,iQ,cellOf,hz];rw[if_neg (by simp),if_neg hn,if_pos hc]
           simp
         ·refine⟨⟨(ρ b).lO,(ρ b).off+e*r.tm.length,(ρ b).cap-e,an⟩,⟨g1,(by show n≤(ρ b).cap-e;omega),(by show(ρ b).cap-e≤maxLen;omega),(fun h=>by cases h),arr,(fun _ h0=>g5 yt (by have h0':0<n:=h0;omega)),aeg⟩,fun nI e2=>?_⟩
          simp only[bV,Ab,e2,iQ,cellOf,hz,hq];rw[if_neg (by simp),if_neg hn,if_neg hc,if_neg (by simp)]
          have e3:1000*r.tm.length / 1000=r.tm.length:=by omega
          have e4:q%1000=0:=by omega
          have e5:1000*r.tm.length%1000=0:=by omega
          simp[e3,e4,e5]
       obtain⟨pp,v1,v2⟩:=main;refine⟨pp::pl,by simp[q1],?_,fun nI e1 e2=>?_,fun i B hB=>?_⟩
       ·simp only[iJ,fD,FN,aM,fo,vR,cy];refine⟨⟨by omega,by omega⟩,?_⟩
        rw[show k+(h1.length+1)=k+1+h1.length by omega]
        exact q2
       ·simp only[gC];rw[v2 nI (e2 0 pp rfl),q3 nI e1 fun i q hi=>by rw[show k+1+i=k+(i+1) by omega];exact e2 (i+1) q (by simpa using hi)]
       ·cases i with
        |zero =>
         simp only[cf,cv] at hB ⊢;exact⟨_,pp,hB.symm,rfl,v1⟩
        |succ i =>
         simp only[bK] at hB ⊢;exact q4 i B hB
      ·cases hv
     ·cases hv
    ·cases hv
   ·cases hv
def sy:Nat->Nat->Hp R->Hp R
 |_,_,[]=>[]
 |0,0,l=>l
 |0,k+1,_::l=>aj::sy 0 k l
 |n+1,k,x::l=>x::sy n k l
theorem yM:∀ {n k:Nat} {l:Hp R},(sy n k l).length=l.length/\∀ (i:Nat) (B:SB R),(sy n k l)[i]?=aa (aa B)->l[i]?=aa (aa B)
 |n,k,[]=>by cases n<;>cases k<;>exact⟨rfl,fun i B h=>by simp[sy] at h⟩
 |0,0,x::l=>⟨rfl,fun i B h=>h⟩
 |0,k+1,x::l=>by
  obtain⟨h1,h2⟩:=yM (n:=0) (k:=k) (l:=l);refine⟨by simp[sy,h1],fun i B h=>?_⟩
  cases i with
  |zero=>simp[sy] at h
  |succ i=>simp only[sy,bK] at h ⊢;exact h2 i B h
 |n+1,k,x::l=>by
  obtain⟨h1,h2⟩:=yM (n:=n) (k:=k) (l:=l);refine⟨by simp[sy,h1],fun i B h=>?_⟩
  cases i with
  |zero=>simpa [sy] using h
  |succ i=>simp only[sy,bK] at h ⊢;exact h2 i B h
def zL (hl:Hp R):Bool :=
 match hl with
 |[]=>ao
 |some (.inr (.inr (.inl r)))::l=>gY r.tm.length 1000&&zL l
 |_::l=>zL l
theorem JM:∀ {l:Hp R} {b:Nat} {r:Row},zL l=ao->gg l b=aa (.inr (.inr (.inl r)))->r.tm.length<1000
 |[],b,r,_,h=>by simp[gg] at h
 |x::l,b,r,hs,h=>by
  have hl:zL l=ao/\(x=aa (.inr (.inr (.inl r)))->r.tm.length<1000):=by
   rcases x with _|⟨t,cs⟩|⟨t,r0⟩|r0|x
   ·exact⟨hs,fun e=>by cases e⟩
   ·exact⟨hs,fun e=>by cases e⟩
   ·exact⟨hs,fun e=>by cases e⟩
   ·simp only[zL,aM,fo] at hs;exact⟨hs.2,fun e=>by injection e with e;injection e with e;injection e with e;injection e with e;subst e;exact hs.1⟩
   ·exact⟨hs,fun e=>by cases e⟩
  cases b with
  |zero=>simp[gg] at h;exact hl.2 h
  |succ b=>exact JM hl.1 (by simpa [gg] using h)
def Gu (ro:Nat->Bool) (spec:Prim R):Prim R:=fun args hl =>
 match w_ ro hl 0 hl.length args with
 |some (a,hv,p) =>
  if zL hl then
   match spec a (hl++hv) with
   |some x=>match x.wr with
    |[]=>if fD hl.length x.v then aa ⟨p/\x.vc,x.v,x.lit,hl,[],[]⟩ else aj
    |_=>if tF x.hp.length (sy hl.length hv.length x.hp) then aa ⟨p/\x.vc,x.v,x.lit,sy hl.length hv.length x.hp,[],[(0,0)]⟩ else aj
   |none=>aj
  else aj
 |none=>aj
theorem HM.part {h r:Hp R} (hm:HM D C ρ ft h w) (hl:∀ (i:Nat) (B:SB R),r[i]?=aa (aa B)->h[i]?=aa (aa B)) (hi:tF r.length r=ao):HM D C ρ (fun i k=>(∃ B,r[i]?=aa (aa B))/\ft i k) r w where
 at_ i B hB:=by
  obtain⟨h1,h2⟩:=hm.at_ i B (hl i B hB);refine⟨?_,BV hi hB⟩;have:(fun k=>(∃ B,r[i]?=aa (aa B))/\ft i k)=ft i:=funext fun k=>propext ⟨fun h=>h.2,fun h=>⟨⟨B,hB⟩,h⟩⟩
  rw[this];exact h1
 lt i k hk:=hm.lt i k hk.2
 fresh i k hk:=hm.fresh i k hk.2
 apart i j k hi hj:=hm.apart i j k hi.2 hj.2
 some_ i k hk:=hk.1
 kept:=hm.kept
theorem HM.al' {hl hv:Hp R} (hm:HM D C ρ ft hl w) (nI:Env) (pl:List Place) (h1:∀ i,i<hl.length->nI i=ρ i) (h2:∀ i q,pl[i]?=aa q->nI (hl.length+i)=q)
  (hv_:∀ (i:Nat) (B:SB R),hv[i]?=aa (aa B)->∃ (r:Row) (q:Place),B=.inr (.inr (.inl r))/\pl[i]?=aa q/\Z' C q r):HM D C nI ft (hl++hv) w where
 at_ i B hB:=by
  rcases ct i hl.length with cd|ki
  ·rw[da cd] at hB;obtain⟨g1,g2⟩:=hm.at_ i B hB;exact⟨I2 g1 h1 cd g2,CF (by simp) g2⟩
  ·rw[dW ki] at hB;obtain⟨r,q,rfl,hq,hr⟩:=hv_ _ _ hB;have e:=h2 _ _ hq;rw[show hl.length+(i-hl.length)=i by omega] at e
   refine⟨?_,trivial⟩;simp only[hold,e];refine⟨fun k hk=>?_,hr⟩
   obtain⟨B',jN⟩:=hm.some_ i k hk;have:=(aU.1 jN).1;omega
 lt:=hm.lt
 fresh:=hm.fresh
 apart:=hm.apart
 some_ i k hk:=by
  obtain⟨B,hB⟩:=hm.some_ i k hk;have:=(aU.1 hB).1;exact⟨B,by rw[da this];exact hB⟩
 kept:=hm.kept
theorem Ye {n:Nat}:∀ {r:Hp R},(∀ (i:Nat) (B:SB R),r[i]?=aa (aa B)->inside n B)->tF n r=ao
 |[],_=>rfl
 |x::r,h=>by
  have hr:tF n r=ao:=Ye fun i B hB=>h (i+1) B (by simpa using hB)
  rcases x with _|⟨t,cs⟩|⟨t,ro⟩|ro|x
  ·exact hr
  ·simp only[tF,aM];exact⟨h 0 _ rfl,hr⟩
  ·exact hr
  ·exact hr
  ·exact hr
def aiz (ro:Nat->Bool) (on:List Value->Hp R->Prop) (args:List Value) (hl:Hp R):Prop:=∀ a hv p,w_ ro hl 0 hl.length args=aa (a,hv,p)->on a (hl++hv)
theorem adG {f:FuncId} {on:List Value->Hp R->Prop} {spec:Prim R} (ro:Nat->Bool) (ok:rR D P f on spec):rR D P f (aiz ro on) (Gu ro spec) where
 known:=ok.known
 run args hl x m7 hx C ρ ft w hm hv hi:=by
  unfold Gu at hx;split at hx
  ·rename_i a ET p he;split at hx
   ·rename_i hs;split at hx
    ·rename_i y hy;have main:p/\y.vc->Calls P f (args.map (bV ρ)).toArray w fun e w'=>∃ gF kF,(∀ i,i<(hl++ET).length->i<hl.length->gF i=ρ i)/\e=.returned (bV gF y.v)/\HM D C gF kF y.hp w':=by
      intro⟨hp,hyv⟩;obtain⟨pl,q1,q2,q3,q4⟩:=G4 hm args 0 hl.length a ET p he hp (a_ _) hi fun b r hb=>JM hs hb
      let nI:Env:=fun i=>if i<hl.length then ρ i else(pl[i-hl.length]?).getD ⟨0,0,0,ao⟩
      have e1:∀ i,i<hl.length->nI i=ρ i:=fun i hi=>by simp only[nI,hi,if_true]
      have e2:∀ i q,pl[i]?=aa q->nI (hl.length+i)=q:=fun i q hq=>by
       have:¬ hl.length+i<hl.length:=by omega
       simp only[nI,this,if_false,F9,hq,lS]
      have Ki:=hm.al' nI pl e1 e2 q4;have:=ok.run a (hl++ET) y (m7 a ET p he) hy C nI ft w Ki hyv (by rw[bE];exact q2)
      rw[q3 nI e1 e2] at this;refine this.mono fun e w' ⟨gF,kF,r1,r2,r3⟩=>⟨gF,kF,fun i hi kQ=>(r1 i hi).trans (e1 i kQ),r2,r3⟩
     split at hx
     ·rename_i hw;split at hx
      ·rename_i kj;cases hx;have za:=ok.still _ _ _ hy hw;refine(main hv).mono fun e w' ⟨gF,kF,r1,r2,r3⟩=>?_
       rw[za] at r3;have nA:∀ (i:Nat) (B:SB R),hl[i]?=aa (aa B)->(hl++ET)[i]?=aa (aa B):=fun i B hB=>by
        rw[da (aU.1 hB).1];exact hB
       refine⟨gF,_,fun i hi=>r1 i (by simp;omega) hi,r2,r3.part nA (Ye fun i B hB=>(hm.at_ i B hB).2)⟩
      ·cases hx
     ·split at hx
      ·rename_i kj;cases hx;refine(main hv).mono fun e w' ⟨gF,kF,r1,r2,r3⟩=>?_
       refine⟨gF,_,fun i hi=>r1 i (by simp;omega) hi,r2,r3.part (fun i B hB=>yM.2 i B hB) (by rw[yM.1];exact kj)⟩
      ·cases hx
    ·cases hx
   ·cases hx
  ·cases hx
 len args hl x hx:=by
  unfold Gu at hx;split at hx
  ·split at hx
   ·split at hx
    ·rename_i a ET p he hs y hy;have:=ok.len _ _ _ hy;split at hx
     ·split at hx
      ·injection hx with hx;subst hx;exact a_ _
      ·cases hx
     ·split at hx
      ·injection hx with hx
       subst hx;simp only[yM.1];simp at this;omega
      ·cases hx
    ·cases hx
   ·cases hx
  ·cases hx
 lit args hl x hx b hb:=by
  unfold Gu at hx;split at hx
  ·split at hx
   ·split at hx
    ·rename_i a ET p he hs y hy;split at hx
     ·split at hx
      ·injection hx with hx;subst hx;exact ok.lit _ _ _ hy b hb
      ·cases hx
     ·split at hx
      ·injection hx with hx;subst hx;exact ok.lit _ _ _ hy b hb
      ·cases hx
    ·cases hx
   ·cases hx
  ·cases hx
 still args hl x hx hw:=by
  unfold Gu at hx;split at hx
  ·split at hx
   ·split at hx
    ·split at hx
     ·split at hx
      ·injection hx with hx;subst hx;rfl
      ·cases hx
     ·split at hx
      ·injection hx with hx;subst hx;cases hw
      ·cases hx
    ·cases hx
   ·cases hx
  ·cases hx
def ago (ro:Nat->Bool) (when:List Value->Hp R->Option Bool) (args:List Value) (hl:Hp R):Option Bool :=
 match w_ ro hl 0 hl.length args with
 |some (a,hv,_)=>when a (hl++hv)
 |none=>aj
def Uc (ro:Nat->Bool) (c:jo R):jo R:=⟨ago ro c.when,Gu ro c.yes,Gu ro c.no⟩
theorem ae2 {f:FuncId} {c:jo R} (ro:Nat->Bool) (ok:b8 D P f c):b8 D P f (Uc ro c):=by
 intro b;have:=adG ro (ok b);have e:(Uc ro c).go b=Gu ro (c.go b):=by cases b<;>rfl
 rw[e];refine⟨this.known,fun args h x m7=>this.run args h x fun a hv p he=>?_,this.len,this.lit,this.still⟩
 unfold su Uc ago at m7;simp only[he] at m7;exact m7
def s_ (ro:Nat->Bool) (d:Nat) (c:jo R):jo R:=bJ (fun _=>ao) d (Uc ro (bJ (fun _=>an) d c))
theorem nE {f:FuncId} {c:jo R} (ro:Nat->Bool) (d:Nat) (ok:b8 D P f c):HT D P f (s_ ro d c):=aT _ _ (ae2 _ (K8 _ _ ok))
end
end Rx
namespace Rx
def tw:fR Empty:=⟨fun _ _ _ _=>False,fun _ _ _ _ _ h _=>h,fun _ _ _ _ _ h _=>h.elim⟩
def dI (f:Func):Code:=f.body.getD .skip
theorem bM {p q:Prop} (h:q) (e:p=q):p:=by rw[e];exact h
theorem mixed:Tryz.prog.follows .mixedOrders=ao:=by kernel_rfl
def Hs:Hp Empty->Bool
 |[]=>ao
 |none::l=>Hs l
 |some B::l=>!ij B&&Hs l
theorem CL:∀ {l:Hp Empty} {b:Nat} {X:SB Empty},Hs l=ao->l[b]?=aa (aa X)->ij X=an
 |[],b,X,_,h=>by simp at h
 |none::l,b,X,hn,h=>by
  cases b with
  |zero=>simp at h
  |succ b =>
   simp only[bK] at h;simp only[Hs] at hn;exact CL hn h
 |some B::l,b,X,hn,h=>by
  simp only[Hs,aM,m8] at hn;cases b with
  |zero=>simp only[cf,cv] at h;subst h;exact hn.1
  |succ b=>simp only[bK] at h;exact CL hn.2 h
def zN:Nat->Bool:=fun _=>an
theorem lV {R:Type} {x:Out R} (h:x.lit=aj):∀ b,x.lit=aa b->x.v=.bool b:=fun b hb=>by rw[h] at hb;cases hb
theorem fx {R:Type} {D:fR R} {P:Program} {f:FuncId} {spec:Prim R} (fn:Func) (H:∀ args hh x,spec args hh=aa x->hh.length≤x.hp.length/\(∀ b,x.lit=aa b->x.v=.bool b)/\(x.wr=[]->x.hp=hh) /\
 (True → x.vc → At D P (dI fn) hh.length (iB P fn.results.toList (Ends hh.length x)) [.inl []] ⟨vG args ++ lC (fn.ntmps - args.length) aj, [], hh⟩)) (hf : P.funcs[f]? = aa fn := by kernel_rfl) (hb : fn.body = aa (dI fn) := by kernel_rfl) (hn : (fn.name == "runtime.NumGoroutine") = an := by kernel_rfl) : b8 D P f (a9 spec) := qm (wG hf hb hn H)
theorem q4 {R:Type} {a b:Nat} {x:Out R} {C E:Prop} (h:E) (h1:a≤b:=by exact Nat.le_of_ble_eq_true rfl) (h2:x.lit=none:=by rfl) (h3:C:=by intro hw;first|rfl|cases hw):a≤b/\(∀ b,x.lit=some b->x.v=.bool b)/\C/\E:=⟨h1,lV h2,h3,h⟩
theorem sB:(∀ {p:Prop} [Decidable p],(decide p=ao)=p)/\(∀ {p:Prop} {_:Decidable p},decide p=an↔¬p)/\(∀ n:Nat,0+n=n)/\(∀ {a b:Int},a≥b↔b≤a)/\(∀ {a b:Nat},a≥b↔b≤a)/\(∀ {a b:Int},¬a≤b↔b<a)/\(∀ {a b:Int},¬a<b↔b≤a)/\(∀ n:Nat,(n:Int).toNat=n)/\(∀ {α:Type} [BEq α] [LawfulBEq α] {a b:α},(a==b)=ao↔a=b)/\(∀ {α:Type} [BEq α] [LawfulBEq α] {a b:α},(a==b)=an↔a≠b)/\(∀ {α:Type} [BEq α] [LawfulBEq α] {a b:α},(a != b)=ao↔a≠b)/\(∀ {α:Type} [BEq α] [LawfulBEq α] {a b:α},(a != b)=an↔a=b)/\(∀ b:Bool,((!b)=ao)=(b=an))/\(∀ b:Bool,((!b)=an)=(b=ao)) :=
 ⟨decide_eq_true_eq,decide_eq_false_iff_not,bW,ge_iff_le,ge_iff_le,Int.not_le,Jm,Int.toNat_natCast,beq_iff_eq,beq_eq_false_iff_ne,bne_iff_ne,bne_eq_false_iff_eq,fun b=>by cases b<;>simp,fun b=>by cases b<;>simp⟩
theorem jF {p q:Bool} (h:p=q):aE p=aE q:=congrArg aE h
theorem jH {p:Prop} [Decidable p] (h:p):aE (decide p)=aE ao:=congrArg aE (decide_eq_true h)
theorem jG {a b:Int} (h:b≤a):aE (decide (a<b))=aE an:=congrArg aE (decide_eq_false (Jm.mpr h))
abbrev n4 (l:List (Option Value)):List (Option Value):=aj::aj::aj::aj::l
abbrev nH (l:List (Option Value)):List (Option Value):=n4 (n4 (n4 (n4 l)))
theorem zA {α:Type} {l:List α} {i:Nat} {d:α} (h:i<l.length):l.getD i d∈l:=by
 rw[au,bc h];exact List.getElem_mem h
theorem oJ {α:Type} (l:List α) (i j:Nat) (a d:α):(l.set i a).getD j d=if i=j/\i<l.length then a else l.getD j d:=by
 simp only[au,List.getElem?_set]
 by_cases h:i=j
 ·subst h
  by_cases h2:i<l.length
  ·simp[h2]
  ·simp[h2,df (nL h2)]
 ·simp[h]
theorem uV {α:Type} (l:List α) (a d:α) (j:Nat):(l++[a]).getD j d=if j=l.length then a else l.getD j d:=by
 simp only[au]
 by_cases h:j<l.length
 ·rw[da h,if_neg (by omega)]
 ·rw[dW (by omega)]
  by_cases h2:j=l.length
  ·simp[h2]
  ·rw[if_neg h2,df (by simp;omega),df (by omega)]
theorem ye {α:Type} {l:List α} {i:Nat} (d:α) (h:i<l.length):l.take (i+1)=l.take i++[l.getD i d]:=by
 rw[List.take_succ_eq_append_getElem h,au,bc h];rfl
def vI:Value->Int
 |.int _ x=>x
 |_=>0
def vB:Value->Bool
 |.bool b=>b
 |_=>an
def gx (l:List Value) (i:Nat):Value:=l.getD i (.bool an)
end Rx
namespace Gv
open Rx
abbrev W (n:Int):Int:=ar.wrap n
theorem uK {n:Int} (h:-9223372036854775808≤n/\n≤9223372036854775807):W n=n:=oe ⟨h.1,h.2⟩
theorem W_W (a b:Int):W (W a+b)=W (a+b):=by
 unfold W;rw[FV,FV,FV];omega
structure Ref where
 i:Int
 g:Int
instance:DecidableEq Ref:=fun a b=>decidable_of_iff (a.i=b.i/\a.g=b.g) ⟨fun h=>by cases a;cases b;cases h.1;cases h.2;rfl,fun h=>by cases h;exact⟨rfl,rfl⟩⟩
def r0:Ref:=⟨0,0⟩
structure PM (N:Type) where
 vs:List N
 dG:List Int
 live:List Bool
 free:List Int
 held:Int
 cap:Int
 cY:Int
section
variable {N:Type}
def has (m:PM N) (r:Ref):Bool:=decide (0≤r.i)&&decide (r.i<m.vs.length)&&m.live.getD r.i.toNat an&&decide (m.dG.getD r.i.toNat 0=r.g)
def look (z:N) (m:PM N) (r:Ref):N:=if has m r then m.vs.getD r.i.toNat z else z
def seen (m:PM N):PM N:={ m with cY:=W (m.cY+1) }
def aG (m:PM N) (r:Ref):PM N:=if has m r then seen m else m
def pT (m:PM N) (r:Ref) (n:N):PM N:=if has m r then { seen m with vs:=m.vs.set r.i.toNat n } else m
def nextIdx (m:PM N):Int:=if m.free.length=0 then(m.vs.length:Int) else m.free.getD (m.free.length-1) 0
def jT (z:N) (m:PM N):PM N:=if m.free.length=0 then { m with vs:=m.vs++[z],dG:=m.dG++[0],live:=m.live++[an] } else { m with free:=m.free.take (m.free.length-1) }
def Be (z:N) (m:PM N):Int:=(jT z m).dG.getD (nextIdx m).toNat 0+1
def put (z:N) (m:PM N) (v:N):PM N :=
 if m.held=m.cap then m else
  { jT z m with vs:=(jT z m).vs.set (nextIdx m).toNat v,live:=(jT z m).live.set (nextIdx m).toNat ao,dG:=(jT z m).dG.set (nextIdx m).toNat (Be z m),held:=m.held+1 }
def mr (z:N) (m:PM N):Ref:=if m.held=m.cap then r0 else⟨nextIdx m,Be z m⟩
def drop (z:N) (m:PM N) (r:Ref):PM N :=
 if has m r then { seen m with vs:=m.vs.set r.i.toNat z,live:=m.live.set r.i.toNat an,held:=m.held-1,free:=if m.dG.getD r.i.toNat 0<4294967295 then m.free++[r.i] else m.free } else m
structure gp (n:Nat) (m:PM N):Prop where
 dG:m.dG.length=m.vs.length
 live:m.live.length=m.vs.length
 inn:∀ f∈m.free,0≤f/\f<m.vs.length/\m.live.getD f.toNat an=an
 l_:m.free.Nodup
 cells:m.vs.length≤n
 pX:m.free.length≤n
 gen:∀ g∈m.dG,0≤g/\g≤n
 pos:∀ i,m.live.getD i an=ao->1≤m.dG.getD i 0
 Ss:-n≤m.held/\m.held≤n
theorem gp.mono {m:PM N} {n k:Nat} (h:gp n m) (hk:n≤k):gp k m:=by
 obtain⟨h1,h2,h3,w8,h4,h5,h6,JD,h8⟩:=h;exact⟨h1,h2,h3,w8,by omega,by omega,fun g hg=>by have:=h6 g hg;omega,JD,by omega⟩
theorem sU {m:PM N} {r:Ref} (h:has m r=ao):0≤r.i/\r.i<m.vs.length/\m.live.getD r.i.toNat an=ao/\m.dG.getD r.i.toNat 0=r.g:=by
 simp only[has,aM,decide_eq_true_eq] at h;obtain⟨⟨⟨w1,w2⟩,w3⟩,w4⟩:=h;exact⟨w1,w2,w3,w4⟩
theorem Yb {m:PM N} {r:Ref}:has m r=ao↔0≤r.i/\r.i<m.vs.length/\m.live.getD r.i.toNat an=ao/\m.dG.getD r.i.toNat 0=r.g:=by
 simp only[has,aM,decide_eq_true_eq,and_assoc]
theorem gp.z0 {m:PM N} {n:Nat} (h:gp n m):has m r0=an:=by
 cases hh:has m r0 with
 |false=>rfl
 |true =>
  obtain⟨_,_,w3,w4⟩:=sU hh;have:=h.pos _ w3;rw[w4] at this;simp[r0] at this
theorem AH {l:List Int} {i n:Nat} (h:∀ g∈l,0≤g/\g≤(n:Int)):0≤l.getD i 0/\l.getD i 0≤n:=by
 rcases ct i l.length with hl|hl
 ·exact h _ (zA hl)
 ·rw[au,df hl];simp
@[simp] theorem anH (m:PM N) (r:Ref):has (seen m) r=has m r:=rfl
@[simp] theorem ani (z:N) (m:PM N) (r:Ref):look z (seen m) r=look z m r:=rfl
@[simp] theorem aod (m:PM N) (s r:Ref):has (aG m s) r=has m r:=by unfold aG;split<;>rfl
@[simp] theorem VV (z:N) (m:PM N) (s r:Ref):look z (aG m s) r=look z m r:=by unfold aG;split<;>rfl
structure iV (S:List Ref) (k:Nat) (z:N) (m m':PM N):Prop where
 dG:m'.dG=m.dG
 live:m'.live=m.live
 free:m'.free=m.free
 held:m'.held=m.held
 cap:m'.cap=m.cap
 len:m'.vs.length=m.vs.length
 look:∀ r,r∉S->look z m' r=look z m r
 qZ:∃ j:Nat,j≤k/\(m'.cY=m.cY/\j=0∨m'.cY=W (m.cY+j))
theorem iV.has {S:List Ref} {k:Nat} {z:N} {m m':PM N} (h:iV S k z m m') (r:Ref):has m' r=has m r:=by
 unfold Gv.has;rw[h.len,h.live,h.dG]
theorem iV.refl (S:List Ref) (k:Nat) (z:N) (m:PM N):iV S k z m m:=⟨rfl,rfl,rfl,rfl,rfl,rfl,fun _ _=>rfl,0,dv _,.inl ⟨rfl,rfl⟩⟩
theorem iV.trans {S S':List Ref} {k k':Nat} {z:N} {a b c:PM N} (h:iV S k z a b) (h':iV S' k' z b c):iV (S++S') (k+k') z a c:=by
 refine⟨h'.dG.trans h.dG,h'.live.trans h.live,h'.free.trans h.free,h'.held.trans h.held,h'.cap.trans h.cap,h'.len.trans h.len,fun r hr=>?_,?_⟩
 ·rw[bY,not_or] at hr;rw[h'.look r hr.2,h.look r hr.1]
 ·obtain⟨j,hj,e⟩:=h.qZ;obtain⟨j',Mw,e'⟩:=h'.qZ;refine⟨j+j',by omega,?_⟩
  rcases e with⟨e,rfl⟩|e<;>rcases e' with⟨e',rfl⟩|e'
  ·exact .inl ⟨e'.trans e,rfl⟩
  ·right;rw[e',e];congr 1;omega
  ·right;rw[e',e];congr 1
  ·right;rw[e',e,W_W];congr 1;omega
theorem iV.mono {S S':List Ref} {k k':Nat} {z:N} {a b:PM N} (h:iV S k z a b) (hS:∀ r,r∈S->r∈S') (hk:k≤k'):iV S' k' z a b:=by
 obtain⟨j,hj,e⟩:=h.qZ;exact⟨h.dG,h.live,h.free,h.held,h.cap,h.len,fun r hr=>h.look r (fun um=>hr (hS r um)),j,jz hj hk,e⟩
theorem iV.to {S S1 S2:List Ref} {k k1 k2:Nat} {z:N} {a b c:PM N} (h:iV S1 k1 z a b) (h':iV S2 k2 z b c) (hS:∀ r,r∈S1∨r∈S2->r∈S) (hk:k1+k2≤k):iV S k z a c :=
 (h.trans h').mono (fun r hr=>hS r (bY.1 hr)) hk
theorem iV.ok {S:List Ref} {k n:Nat} {z:N} {m m':PM N} (h:iV S k z m m') (ho:gp n m):gp n m':=by
 obtain⟨h1,h2,h3,w8,h4,h5,h6,JD,h8⟩:=ho;exact⟨by rw[h.dG,h.len,h1],by rw[h.live,h.len,h2],by rw[h.free,h.len,h.live];exact h3,by rw[h.free];exact w8,by rw[h.len];exact h4,by rw[h.free];exact h5,by rw[h.dG];exact h6,by rw[h.dG,h.live];exact JD,by rw[h.held];exact h8⟩
theorem gK (z:N) (m:PM N) (r:Ref):iV [] 1 z m (aG m r):=by
 refine⟨?_,?_,?_,?_,?_,?_,fun s _=>VV z m r s,?_⟩
 all_goals unfold aG;split
 all_goals first|rfl|exact⟨1,a_ _,.inr rfl⟩|exact⟨0,dv _,.inl ⟨rfl,rfl⟩⟩
theorem Jb {m:PM N} {r s:Ref} (hr:has m r=ao) (hs:has m s=ao) (h:r.i.toNat=s.i.toNat):r=s:=by
 obtain⟨a1,a2,a3,a4⟩:=sU hr;obtain⟨b1,b2,b3,b4⟩:=sU hs;cases r;cases s;simp only[Ref.mk.injEq] at *
 refine⟨by omega,?_⟩
 rw[← a4,← b4,h]
theorem Vq (z:N) (m:PM N) (r:Ref) (n:N):iV [r] 1 z m (pT m r n):=by
 by_cases h:has m r=ao
 ·have e:pT m r n={ seen m with vs:=m.vs.set r.i.toNat n }:=by unfold pT;rw[if_pos h]
  refine⟨by rw[e];rfl,by rw[e];rfl,by rw[e];rfl,by rw[e];rfl,by rw[e];rfl,by rw[e];simp,fun s hs=>?_,1,a_ _,.inr (by rw[e];rfl)⟩
  have kG:s≠r:=by simpa using hs
  have hh:has (pT m r n) s=has m s:=by rw[e];simp only[has,seen,fh];rfl
  unfold look;rw[hh];split
  ·rename_i h2;rw[e];simp only;rw[oJ,if_neg];intro⟨h3,_⟩;exact kG (Jb h2 h h3.symm)
  ·rfl
 ·have e:pT m r n=m:=by unfold pT;rw[if_neg h]
  rw[e];exact iV.refl _ _ _ _
theorem abk (z:N) {m:PM N} {r:Ref} (n:N) (h:has m r=ao):look z (pT m r n) r=n:=by
 have hh:=(Vq z m r n).has r;unfold look;rw[hh,if_pos h];unfold pT;rw[if_pos h];simp only;obtain⟨a1,a2,_,_⟩:=sU h;rw[oJ,if_pos ⟨rfl,by omega⟩]
theorem aad {m:PM N} {n:Nat} (z:N) (h:gp n m):0≤nextIdx m/\nextIdx m<(jT z m).vs.length/\m.live.getD (nextIdx m).toNat an=an/\(jT z m).live.getD (nextIdx m).toNat an=an/\(jT z m).live.length=(jT z m).vs.length/\(jT z m).dG.length=(jT z m).vs.length:=by
 unfold nextIdx jT
 by_cases h0:m.free.length=0
 ·rw[if_pos h0,if_pos h0];simp only[bE,rC];have h1:=h.live;have h2:=h.dG;refine⟨by omega,by omega,?_,?_,by omega,by omega⟩
  ·rw[au,df (by omega)];rfl
  ·rw[uV,if_pos (by omega)]
 ·rw[if_neg h0,if_neg h0];obtain⟨a,b,c⟩:=h.inn _ (zA (d:=0) (i:=m.free.length-1) (by omega))
  exact⟨a,b,c,c,h.live,h.dG⟩
theorem abm (z:N) {m:PM N} {n:Nat} (h:gp n m) (r:Ref) (hr:has m r=ao):(jT z m).vs.getD r.i.toNat z=m.vs.getD r.i.toNat z/\(jT z m).live.getD r.i.toNat an=ao/\(jT z m).dG.getD r.i.toNat 0=r.g/\r.i<(jT z m).vs.length:=by
 obtain⟨a1,a2,a3,a4⟩:=sU hr;have h1:=h.live;have h2:=h.dG;unfold jT;split
 ·simp only[uV,bE,rC];rw[if_neg (by omega),if_neg (by omega),if_neg (by omega)]
  exact⟨rfl,a3,a4,by omega⟩
 ·exact⟨rfl,a3,a4,a2⟩
structure an8 (z:N) (m m':PM N) (r:Ref) (v:N):Prop where
 new:has m r=an
 has:has m' r=ao
 look:look z m' r=v
 old:∀ s,Gv.has m s=ao->Gv.has m' s=ao/\Gv.look z m' s=Gv.look z m s
 held:m'.held=m.held+1
 cap:m'.cap=m.cap
 qZ:m'.cY=m.cY
theorem tU {m:PM N} {n:Nat} (z:N) (h:gp n m) (hc:m.held≠m.cap) (v:N):an8 z m (put z m v) (mr z m) v/\gp (n+1) (put z m v):=by
 obtain⟨a,b,c,c',d,e⟩:=aad z h;have ep:put z m v={ jT z m with vs:=(jT z m).vs.set (nextIdx m).toNat v,live:=(jT z m).live.set (nextIdx m).toNat ao,dG:=(jT z m).dG.set (nextIdx m).toNat (Be z m),held:=m.held+1 }:=by unfold put;rw[if_neg hc]
 have er:mr z m=⟨nextIdx m,Be z m⟩:=by unfold mr;rw[if_neg hc]
 have uM:has (put z m v) (mr z m)=ao:=by
  rw[Yb,er,ep];simp only[fh,oJ];refine⟨a,b,?_,?_⟩
  ·rw[if_pos (by first|exact⟨rfl,by omega⟩|exact⟨trivial,by omega⟩)]
  ·rw[if_pos (by first|exact⟨rfl,by omega⟩|exact⟨trivial,by omega⟩)]
 have hold:∀ s,has m s=ao->has (put z m v) s=ao/\look z (put z m v) s=look z m s:=by
  intro s hs;obtain⟨q1,q2,q3,q4⟩:=abm z h s hs;obtain⟨s1,s2,s3,s4⟩:=sU hs;have kG:¬ (nextIdx m).toNat=s.i.toNat:=by intro e2;rw[e2,s3] at c;cases c
  have hh:has (put z m v) s=ao:=by
   rw[Yb,ep];simp only[fh,oJ];rw[if_neg (fun x=>kG x.1),if_neg (fun x=>kG x.1)]
   exact⟨s1,q4,q2,q3⟩
  refine⟨hh,?_⟩;unfold look;rw[if_pos hh,if_pos hs,ep];simp only[oJ];rw[if_neg (fun x=>kG x.1),q1]
 refine⟨⟨?_,uM,?_,hold,?_,?_,?_⟩,?_⟩
 ·cases hh:has m (mr z m) with
  |false=>rfl
  |true =>
   obtain⟨_,_,s3,_⟩:=sU hh;rw[er] at s3;rw[s3] at c;cases c
 ·unfold look;rw[if_pos uM,er,ep];simp only[oJ];rw[if_pos (by first|exact⟨rfl,by omega⟩|exact⟨trivial,by omega⟩)]
 ·rw[ep]
 ·rw[ep];simp only[jT];split<;>rfl
 ·rw[ep];simp only[jT];split<;>rfl
 ·obtain⟨h1,h2,h3,w8,h4,h5,h6,JD,h8⟩:=h;have hgb:=AH (i:=(nextIdx m).toNat) h6;have hpg:1≤Be z m/\Be z m≤n+1:=by
   unfold Be jT;split
   ·simp only[uV];split
    ·omega
    ·omega
   ·simp only;omega
  rw[ep];refine⟨by simp only[fh];exact e,by simp only[fh];exact d,?_,?_,?_,?_,?_,?_,by simp only;omega⟩
  ·intro f hf;have MX:f∈m.free/\f≠nextIdx m/\¬ m.free.length=0:=by
    simp only at hf;unfold jT at hf;split at hf
    ·rename_i h0;simp only at hf;rw[jd h0] at hf;cases hf
    ·rename_i h0;simp only at hf;refine⟨List.mem_of_mem_take hf,?_,h0⟩;intro e2;unfold nextIdx at e2;rw[if_neg h0] at e2;subst e2;have aiU:m.free=m.free.take (m.free.length-1)++[m.free.getD (m.free.length-1) 0]:=by
      have:=ye (l:=m.free) (i:=m.free.length-1) 0 (by omega)
      rw[← this,jw (by omega)]
     rw[aiU,ch] at w8;exact w8.2.2 _ hf _ (List.mem_singleton_self _) rfl
   obtain⟨k1,k2,k3⟩:=h3 f MX.1;simp only[fh,oJ];have kG:¬ (nextIdx m).toNat=f.toNat:=fun e2=>MX.2.1 (by omega)
   rw[if_neg (fun x=>kG x.1)]
   have e3:(jT z m).live=m.live/\(jT z m).vs=m.vs:=by unfold jT;rw[if_neg MX.2.2];exact⟨rfl,rfl⟩
   rw[e3.1,e3.2];exact⟨k1,k2,k3⟩
  ·simp only;unfold jT;split
   ·exact w8
   ·exact(List.take_sublist _ _).nodup w8
  ·simp only[fh];unfold jT;split
   ·simp only[bE,rC];omega
   ·simp only;omega
  ·simp only;unfold jT;split
   ·simp only;omega
   ·simp only[ej];omega
  ·intro g hg;simp only at hg;rcases List.mem_or_eq_of_mem_set hg with hg|hg
   ·unfold jT at hg;split at hg
    ·simp only at hg;rcases bY.1 hg with hg|hg
     ·have:=h6 g hg;omega
     ·simp at hg;omega
    ·have:=h6 g hg;omega
   ·omega
  ·intro i hi;simp only[oJ] at hi ⊢
   by_cases hx:(nextIdx m).toNat=i
   ·rw[if_pos ⟨hx,by omega⟩];omega
   ·rw[if_neg (fun x=>hx x.1)] at hi ⊢
    unfold jT at hi ⊢;split at hi
    ·rename_i h0;rw[if_pos h0];simp only[uV] at hi ⊢;split at hi
     ·cases hi
     ·rename_i h00;have:=JD i hi;rw[if_neg (by omega)]
      exact this
    ·rename_i h0;rw[if_neg h0];exact JD i hi
theorem tK {m:PM N} {n:Nat} (z:N) (h:gp n m) {r:Ref} (hr:has m r=ao):gp (n+1) (drop z m r)/\(∀ s,s≠r->has (drop z m r) s=has m s/\look z (drop z m r) s=look z m s)/\has (drop z m r) r=an/\(drop z m r).held=m.held-1/\(drop z m r).cap=m.cap/\(drop z m r).cY=W (m.cY+1):=by
 obtain⟨r1,r2,r3,r4⟩:=sU hr;obtain⟨h1,h2,h3,w8,h4,h5,h6,JD,h8⟩:=h;have e:drop z m r={ seen m with vs:=m.vs.set r.i.toNat z,live:=m.live.set r.i.toNat an,held:=m.held-1,free:=if m.dG.getD r.i.toNat 0<4294967295 then m.free++[r.i] else m.free }:=by unfold drop;rw[if_pos hr]
 have hrn:r.i∉m.free:=fun hf=>by
  obtain⟨_,_,k⟩:=h3 _ hf;rw[r3] at k;cases k
 refine⟨⟨?_,?_,?_,?_,?_,?_,?_,?_,?_⟩,?_,?_,by rw[e],by rw[e];rfl,by rw[e];rfl⟩
 ·rw[e];simp only[fh];exact h1
 ·rw[e];simp only[fh];exact h2
 ·rw[e];simp only[fh,oJ];intro f hf;have hh:f=r.i∨f∈m.free:=by
   split at hf
   ·rcases bY.1 hf with hf|hf
    ·exact .inr hf
    ·exact .inl (by simpa using hf)
   ·exact .inr hf
  rcases hh with rfl|hf
  ·exact⟨r1,r2,by rw[if_pos (by first|exact⟨rfl,by omega⟩|exact⟨trivial,by omega⟩)]⟩
  ·obtain⟨k1,k2,k3⟩:=h3 f hf;refine⟨k1,k2,?_⟩;split
   ·rfl
   ·exact k3
 ·rw[e];simp only;split
  ·rw[ch];refine⟨w8,List.nodup_cons.2 ⟨by simp,List.nodup_nil⟩,fun a ha b hb=>?_⟩
   have:b=r.i:=by simpa using hb
   subst this;exact fun e2=>hrn (e2▸ha)
  ·exact w8
 ·rw[e];simp only[fh];omega
 ·rw[e];simp only;split
  ·simp only[bE,rC];omega
  ·omega
 ·rw[e];simp only[seen];intro g hg;have:=h6 g hg;omega
 ·rw[e];simp only[seen,oJ];intro i hi;split at hi
  ·cases hi
  ·exact JD i hi
 ·rw[e];simp only;omega
 ·intro s hs;have hh:has (drop z m r) s=has m s:=by
   rw[e];unfold has;simp only[fh,seen,oJ]
   by_cases hx:r.i.toNat=s.i.toNat/\r.i.toNat<m.live.length
   ·rw[if_pos hx]
    by_cases sq:has m s=ao
    ·exact absurd (Jb sq hr hx.1.symm) hs
    ·have hs3:has m s=an:=by simpa using sq
     unfold has at hs3;rw[hs3];simp
   ·rw[if_neg hx];rfl
  refine⟨hh,?_⟩;unfold look;rw[hh];split
  ·rename_i h2;rw[e];simp only[oJ];rw[if_neg];intro⟨h3,_⟩;exact hs (Jb h2 hr h3.symm)
  ·rfl
 ·cases hh:has (drop z m r) r with
  |false=>rfl
  |true =>
   obtain⟨_,_,k,_⟩:=sU hh;rw[e] at k;simp only[oJ] at k;rw[if_pos (by first|exact⟨rfl,by omega⟩|exact⟨trivial,by omega⟩)] at k
   cases k
end
end Gv
namespace Gv
open Rx
set_option linter.unusedSectionVars false
structure iX (E A:Type) where
 e0:E
 a0:A
 cmp:E->E->Int
 sum:E->A
 plus:A->A->A
structure Part (A:Type) where
 n:Int
 sum:A
structure Node (E A:Type) where
 e:E
 l:Ref
 r:Ref
 all:Part A
 h:Int
abbrev Po (E A:Type):=PM (Node E A)
def mx (a b:Int):Int:=if b>a then b else a
def mn (a b:Int):Int:=if b<a then b else a
section
variable {E A:Type} (O:iX E A)
def zn:Node E A:=⟨O.e0,r0,r0,⟨0,O.a0⟩,0⟩
def lk (m:Po E A) (r:Ref):Node E A:=look (zn O) m r
def one (e:E):Part A:=⟨1,O.sum e⟩
def ef (p q:Part A):Part A:=if p.n=0 then q else if q.n=0 then p else⟨W (p.n+q.n),O.plus p.sum q.sum⟩
def sL (m:Po E A) (r:Ref) (n l q:Node E A):Po E A:=pT m r ⟨n.e,n.l,n.r,ef O (ef O l.all (one O n.e)) q.all,W (1+mx l.h q.h)⟩
def tie (m:Po E A) (r:Ref) (n:Node E A):Po E A:=sL O (aG (aG m n.l) n.r) r n (lk O m n.l) (lk O (aG m n.l) n.r)
def pd (m:Po E A) (r:Ref) (n:Node E A):Po E A :=
 tie O (tie O (aG m n.r) r ⟨n.e,n.l,(lk O m n.r).l,n.all,n.h⟩) n.r ⟨(lk O m n.r).e,r,(lk O m n.r).r,(lk O m n.r).all,(lk O m n.r).h⟩
def pc (m:Po E A) (r:Ref) (n:Node E A):Po E A :=
 tie O (tie O (aG m n.l) r ⟨n.e,(lk O m n.l).r,n.r,n.all,n.h⟩) n.l ⟨(lk O m n.l).e,(lk O m n.l).l,r,(lk O m n.l).all,(lk O m n.l).h⟩
def level (m:Po E A) (r:Ref) (n:Node E A):Ref×Po E A :=
 if(lk O m n.l).h>W ((lk O (aG m n.l) n.r).h+1) then
  if(lk O (aG (aG m n.l) n.r) (lk O m n.l).r).h>(lk O (aG (aG (aG m n.l) n.r) (lk O m n.l).r) (lk O m n.l).l).h then
   ((lk O m n.l).r,pc O (pd O (aG (aG (aG (aG m n.l) n.r) (lk O m n.l).r) (lk O m n.l).l) n.l (lk O m n.l)) r ⟨n.e,(lk O m n.l).r,n.r,n.all,n.h⟩)
  else(n.l,pc O (aG (aG (aG (aG m n.l) n.r) (lk O m n.l).r) (lk O m n.l).l) r n)
 else if(lk O (aG m n.l) n.r).h>W ((lk O m n.l).h+1) then
  if(lk O (aG (aG m n.l) n.r) (lk O (aG m n.l) n.r).l).h>(lk O (aG (aG (aG m n.l) n.r) (lk O (aG m n.l) n.r).l) (lk O (aG m n.l) n.r).r).h then
   ((lk O (aG m n.l) n.r).l,pd O (pc O (aG (aG (aG (aG m n.l) n.r) (lk O (aG m n.l) n.r).l) (lk O (aG m n.l) n.r).r) n.r (lk O (aG m n.l) n.r)) r ⟨n.e,n.l,(lk O (aG m n.l) n.r).l,n.all,n.h⟩)
  else(n.r,pd O (aG (aG (aG (aG m n.l) n.r) (lk O (aG m n.l) n.r).l) (lk O (aG m n.l) n.r).r) r n)
 else(r,sL O (aG (aG m n.l) n.r) r n (lk O m n.l) (lk O (aG m n.l) n.r))
def Deep:Nat->Po E A->Ref->Prop
 |0,_,_=>False
 |k+1,m,r=>(lk O m r).h=0∨(Deep k m (lk O m r).l/\Deep k m (lk O m r).r)
def replace:Nat->Po E A->Ref->E->Bool×Po E A
 |0,m,_,_=>(an,m)
 |k+1,m,r,e =>
  if(lk O m r).h=0 then(an,aG m r)
  else if O.cmp e (lk O m r).e<0 then
   if(replace k (aG m r) (lk O m r).l e).1=ao then(ao,tie O (replace k (aG m r) (lk O m r).l e).2 r (lk O m r)) else replace k (aG m r) (lk O m r).l e
  else if O.cmp e (lk O m r).e>0 then
   if(replace k (aG m r) (lk O m r).r e).1=ao then(ao,tie O (replace k (aG m r) (lk O m r).r e).2 r (lk O m r)) else replace k (aG m r) (lk O m r).r e
  else(ao,tie O (aG m r) r ⟨e,(lk O m r).l,(lk O m r).r,(lk O m r).all,(lk O m r).h⟩)
def lz:Nat->Po E A->Ref->Ref->E->Ref×Po E A
 |0,m,_,f,_=>(f,m)
 |k+1,m,r,f,e =>
  if(lk O m r).h=0 then(f,aG m r)
  else if O.cmp e (lk O m r).e<0 then
   level O (lz k (aG m r) (lk O m r).l f e).2 r ⟨(lk O m r).e,(lz k (aG m r) (lk O m r).l f e).1,(lk O m r).r,(lk O m r).all,(lk O m r).h⟩
  else
   level O (lz k (aG m r) (lk O m r).r f e).2 r ⟨(lk O m r).e,(lk O m r).l,(lz k (aG m r) (lk O m r).r f e).1,(lk O m r).all,(lk O m r).h⟩
def link:Nat->Po E A->Ref->Ref->Ref->Ref×Po E A
 |0,m,_,b,_=>(b,m)
 |k+1,m,a,b,c =>
  if(lk O m a).h>W ((lk O (aG m a) c).h+1) then
   level O (link k (aG (aG m a) c) (lk O m a).r b c).2 a ⟨(lk O m a).e,(lk O m a).l,(link k (aG (aG m a) c) (lk O m a).r b c).1,(lk O m a).all,(lk O m a).h⟩
  else if(lk O (aG m a) c).h>W ((lk O m a).h+1) then
   level O (link k (aG (aG m a) c) a b (lk O (aG m a) c).l).2 c ⟨(lk O (aG m a) c).e,(link k (aG (aG m a) c) a b (lk O (aG m a) c).l).1,(lk O (aG m a) c).r,(lk O (aG m a) c).all,(lk O (aG m a) c).h⟩
  else(b,sL O (aG (aG (aG m a) c) b) b ⟨(lk O (aG (aG m a) c) b).e,a,c,(lk O (aG (aG m a) c) b).all,(lk O (aG (aG m a) c) b).h⟩ (lk O m a) (lk O (aG m a) c))
def tO:Nat->Po E A->Ref->Ref->Ref->Prop
 |0,_,_,_,_=>False
 |k+1,m,a,b,c =>
  if(lk O m a).h>W ((lk O (aG m a) c).h+1) then tO k (aG (aG m a) c) (lk O m a).r b c
  else if(lk O (aG m a) c).h>W ((lk O m a).h+1) then tO k (aG (aG m a) c) a b (lk O (aG m a) c).l
  else True
def iU:Nat->Po E A->Ref->Ref×Ref×Po E A
 |0,m,r=>(r,r,m)
 |k+1,m,r =>
  if(lk O m r).l=r0 then((lk O m r).r,r,aG m r)
  else
   ((level O (iU k (aG m r) (lk O m r).l).2.2 r ⟨(lk O m r).e,(iU k (aG m r) (lk O m r).l).1,(lk O m r).r,(lk O m r).all,(lk O m r).h⟩).1,(iU k (aG m r) (lk O m r).l).2.1,
    (level O (iU k (aG m r) (lk O m r).l).2.2 r ⟨(lk O m r).e,(iU k (aG m r) (lk O m r).l).1,(lk O m r).r,(lk O m r).all,(lk O m r).h⟩).2)
def sQ:Nat->Po E A->Ref->Prop
 |0,_,_=>False
 |k+1,m,r=>if(lk O m r).l=r0 then True else sQ k (aG m r) (lk O m r).l
def glue (k:Nat) (m:Po E A) (a c:Ref):Ref×Po E A :=
 if c=r0 then(a,m) else link O k (iU O k m c).2.2 a (iU O k m c).2.1 (iU O k m c).1
def D5 (k:Nat) (m:Po E A) (a c:Ref):Prop :=
 if c=r0 then True else sQ O k m c/\tO O k (iU O k m c).2.2 a (iU O k m c).2.1 (iU O k m c).1
def pick (K:Nat):Nat->Po E A->Ref->E->Ref×Ref×Po E A
 |0,m,r,_=>(r,r0,m)
 |k+1,m,r,e =>
  if(lk O m r).h=0 then(r,r0,aG m r)
  else if O.cmp e (lk O m r).e<0 then
   if(pick K k (aG m r) (lk O m r).l e).2.1=r0 then(r,(pick K k (aG m r) (lk O m r).l e).2.1,(pick K k (aG m r) (lk O m r).l e).2.2)
   else((level O (pick K k (aG m r) (lk O m r).l e).2.2 r ⟨(lk O m r).e,(pick K k (aG m r) (lk O m r).l e).1,(lk O m r).r,(lk O m r).all,(lk O m r).h⟩).1,(pick K k (aG m r) (lk O m r).l e).2.1,
    (level O (pick K k (aG m r) (lk O m r).l e).2.2 r ⟨(lk O m r).e,(pick K k (aG m r) (lk O m r).l e).1,(lk O m r).r,(lk O m r).all,(lk O m r).h⟩).2)
  else if O.cmp e (lk O m r).e>0 then
   if(pick K k (aG m r) (lk O m r).r e).2.1=r0 then(r,(pick K k (aG m r) (lk O m r).r e).2.1,(pick K k (aG m r) (lk O m r).r e).2.2)
   else((level O (pick K k (aG m r) (lk O m r).r e).2.2 r ⟨(lk O m r).e,(lk O m r).l,(pick K k (aG m r) (lk O m r).r e).1,(lk O m r).all,(lk O m r).h⟩).1,(pick K k (aG m r) (lk O m r).r e).2.1,
    (level O (pick K k (aG m r) (lk O m r).r e).2.2 r ⟨(lk O m r).e,(lk O m r).l,(pick K k (aG m r) (lk O m r).r e).1,(lk O m r).all,(lk O m r).h⟩).2)
  else((glue O K (aG m r) (lk O m r).l (lk O m r).r).1,r,(glue O K (aG m r) (lk O m r).l (lk O m r).r).2)
def qG (K:Nat):Nat->Po E A->Ref->E->Prop
 |0,_,_,_=>False
 |k+1,m,r,e =>
  if(lk O m r).h=0 then True
  else if O.cmp e (lk O m r).e<0 then qG K k (aG m r) (lk O m r).l e
  else if O.cmp e (lk O m r).e>0 then qG K k (aG m r) (lk O m r).r e
  else D5 O K (aG m r) (lk O m r).l (lk O m r).r
def mi (K:Nat):Nat->Po E A->Ref->E->Ref×Ref×Po E A
 |0,m,_,_=>(r0,r0,m)
 |k+1,m,r,e =>
  if(lk O m r).h=0 then(r0,r0,aG m r)
  else if O.cmp (lk O m r).e e<0 then
   ((link O K (mi K k (aG m r) (lk O m r).r e).2.2 (lk O m r).l r (mi K k (aG m r) (lk O m r).r e).1).1,(mi K k (aG m r) (lk O m r).r e).2.1,
    (link O K (mi K k (aG m r) (lk O m r).r e).2.2 (lk O m r).l r (mi K k (aG m r) (lk O m r).r e).1).2)
  else
   ((mi K k (aG m r) (lk O m r).l e).1,(link O K (mi K k (aG m r) (lk O m r).l e).2.2 (mi K k (aG m r) (lk O m r).l e).2.1 r (lk O m r).r).1,
    (link O K (mi K k (aG m r) (lk O m r).l e).2.2 (mi K k (aG m r) (lk O m r).l e).2.1 r (lk O m r).r).2)
def J8 (K:Nat):Nat->Po E A->Ref->E->Prop
 |0,_,_,_=>False
 |k+1,m,r,e =>
  if(lk O m r).h=0 then True
  else if O.cmp (lk O m r).e e<0 then J8 K k (aG m r) (lk O m r).r e/\tO O K (mi O K k (aG m r) (lk O m r).r e).2.2 (lk O m r).l r (mi O K k (aG m r) (lk O m r).r e).1
  else J8 K k (aG m r) (lk O m r).l e/\tO O K (mi O K k (aG m r) (lk O m r).l e).2.2 (mi O K k (aG m r) (lk O m r).l e).2.1 r (lk O m r).r
def cx:Nat->Po E A->Ref->List E×Po E A
 |0,m,_=>([],m)
 |k+1,m,r =>
  if(lk O m r).h=0 then([],aG m r)
  else((cx k (aG m r) (lk O m r).l).1++(lk O m r).e::(cx k (cx k (aG m r) (lk O m r).l).2 (lk O m r).r).1,(cx k (cx k (aG m r) (lk O m r).l).2 (lk O m r).r).2)
def gj:Nat->Po E A->Node E A->Int->Int->Part A×Po E A
 |0,m,_,_,_=>(⟨0,O.a0⟩,m)
 |k+1,m,n,from_,to =>
  if mx from_ 0≥mn to n.all.n then(⟨0,O.a0⟩,m)
  else if mx from_ 0=0/\mn to n.all.n=n.all.n then(n.all,m)
  else
   let x:=gj k (aG m n.l) (lk O m n.l) (mx from_ 0) (mn to n.all.n)
   let s:=if mx from_ 0≤(lk O m n.l).all.n/\(lk O m n.l).all.n<mn to n.all.n then ef O x.1 (one O n.e) else x.1
   if mn to n.all.n≤W ((lk O m n.l).all.n+1) then(s,x.2)
   else
    let y:=gj k (aG x.2 n.r) (lk O x.2 n.r) (W (W (mx from_ 0-(lk O m n.l).all.n)-1)) (W (W (mn to n.all.n-(lk O m n.l).all.n)-1))
    (ef O s y.1,y.2)
def jt:Nat->Po E A->Node E A->Prop
 |0,_,_=>False
 |k+1,m,n=>n.h=0∨(Deep O k m n.l/\Deep O k m n.r)
def first (may:A->A->Bool):Nat->Po E A->Node E A->Part A->Int->Int×Po E A
 |0,m,_,_,_=>(-1,m)
 |k+1,m,n,a,from_ =>
  if n.h=0∨W (a.n+n.all.n)≤from_ then(-1,m)
  else if a.n≥from_/\may a.sum n.all.sum=an then(-1,m)
  else if(first may k (aG m n.l) (lk O m n.l) a from_).1≥0 then first may k (aG m n.l) (lk O m n.l) a from_
  else if(ef O a (lk O m n.l).all).n≥from_/\may (ef O a (lk O m n.l).all).sum (O.sum n.e)=ao then((ef O a (lk O m n.l).all).n,(first may k (aG m n.l) (lk O m n.l) a from_).2)
  else first may k (aG (first may k (aG m n.l) (lk O m n.l) a from_).2 n.r) (lk O (first may k (aG m n.l) (lk O m n.l) a from_).2 n.r) (ef O (ef O a (lk O m n.l).all) (one O n.e)) from_
def last (may:A->A->Bool):Nat->Po E A->Node E A->Part A->Int->Int×Po E A
 |0,m,_,_,_=>(-1,m)
 |k+1,m,n,a,to =>
  if n.h=0∨a.n≥to then(-1,m)
  else if W (a.n+n.all.n)≤to/\may a.sum n.all.sum=an then(-1,m)
  else
   let b:=ef O a (lk O m n.l).all
   let x:=last may k (aG (aG m n.l) n.r) (lk O (aG m n.l) n.r) (ef O b (one O n.e)) to
   if x.1≥0 then x
   else if b.n<to/\may b.sum (O.sum n.e)=ao then(b.n,x.2)
   else last may k x.2 (lk O m n.l) a to
def find:Nat->Po E A->Node E A->E->(E×Bool)×Po E A
 |0,m,_,_=>((O.e0,an),m)
 |k+1,m,n,e =>
  if n.h>0 then
   if O.cmp e n.e=0 then((n.e,ao),m)
   else if O.cmp e n.e<0 then find k (aG m n.l) (lk O m n.l) e
   else find k (aG m n.r) (lk O m n.r) e
  else((O.e0,an),m)
def kI:Nat->Po E A->Node E A->E->Int->Int×Po E A
 |0,m,_,_,c=>(c,m)
 |k+1,m,n,e,c =>
  if n.h>0 then
   if O.cmp e n.e≤0 then kI k (aG m n.l) (lk O m n.l) e c
   else kI k (aG m n.r) (lk O m n.r) e (W (c+W (n.all.n-(lk O m n.r).all.n)))
  else(c,m)
def rL:Nat->Po E A->Node E A->Int->E×Po E A
 |0,m,_,_=>(O.e0,m)
 |k+1,m,n,i =>
  if i=(lk O m n.l).all.n then(n.e,aG m n.l)
  else if i<(lk O m n.l).all.n then rL k (aG m n.l) (lk O m n.l) i
  else rL k (aG (aG m n.l) n.r) (lk O (aG m n.l) n.r) (W (i-W ((lk O m n.l).all.n+1)))
end
end Gv
namespace Wv
open Rx
structure It where
 k:Int
 i:Int
instance:DecidableEq It:=fun a b=>decidable_of_iff (a.k=b.k/\a.i=b.i) ⟨fun h=>by cases a;cases b;cases h.1;cases h.2;rfl,fun h=>by cases h;exact⟨rfl,rfl⟩⟩
def ah (a b:It):Prop:=a.k<b.k∨a.k=b.k/\a.i<b.i
instance (a b:It):Decidable (ah a b):=inferInstanceAs (Decidable (_∨_))
def kX (a b:It):Int:=if a.k<b.k then -1 else if a.k>b.k then 1 else if a.i<b.i then -1 else if a.i>b.i then 1 else 0
def C0 (a b:Int):Int:=if a<b then -1 else if a>b then 1 else 0
theorem xw (a b:It):kX a b>0↔ah b a:=by unfold kX ah;repeat' split;all_goals omega
theorem adY (a b:It):kX a b=1↔ah b a:=by unfold kX ah;repeat' split;all_goals omega
theorem aen (a b:It):kX a b = -1↔ah a b:=by unfold kX ah;repeat' split;all_goals omega
abbrev iz:It:=⟨0,0⟩
theorem It.KD {a b:It} (h:a.k=b.k) (h':a.i=b.i):a=b:=by cases a;cases b;cases h;cases h';rfl
theorem sO {a b:It} (h:ah a b):¬ ah b a:=by unfold ah at *;omega
theorem ab4 {a b:It} (h:¬ ah a b) (h':¬ ah b a):a=b:=It.KD (by unfold ah at *;omega) (by unfold ah at *;omega)
def up:Option It->Option It->Option It
 |a,aj=>a
 |none,aa b=>aa b
 |some a,aa b=>if ah a b then aa b else aa a
def dn:Option It->Option It->Option It
 |a,aj=>a
 |none,aa b=>aa b
 |some a,aa b=>if ah b a then aa b else aa a
theorem R6 (a:Option It):up aj a=a:=by cases a<;>rfl
theorem RN (a:Option It):dn aj a=a:=by cases a<;>rfl
theorem Ut:∀ a b c:Option It,up (up a b) c=up a (up b c)
 |a,b,aj=>by cases a<;>cases b<;>rfl
 |a,aj,aa c=>by cases a<;>rfl
 |none,aa b,aa c=>by rw[R6,R6]
 |some a,aa b,aa c=>by
  simp only[up]
  by_cases h1:ah a b<;>by_cases h2:ah b c<;>simp only[h1,h2,if_true,if_false,up]
  ·rw[if_pos (by unfold ah at *;omega)]
  ·rw[if_neg (by unfold ah at *;omega)]
theorem adF:∀ a b c:Option It,dn (dn a b) c=dn a (dn b c)
 |a,b,aj=>by cases a<;>cases b<;>rfl
 |a,aj,aa c=>by cases a<;>rfl
 |none,aa b,aa c=>by rw[RN,RN]
 |some a,aa b,aa c=>by
  simp only[dn]
  by_cases h1:ah b a<;>by_cases h2:ah c b<;>simp only[h1,h2,if_true,if_false,dn]
  ·rw[if_pos (by unfold ah at *;omega)]
  ·rw[if_neg (by unfold ah at *;omega)]
def hi:List It->Option It
 |[]=>aj
 |x::l=>up (aa x) (hi l)
def lo:List It->Option It
 |[]=>aj
 |x::l=>dn (aa x) (lo l)
theorem Lg:∀ x y:List It,hi (x++y)=up (hi x) (hi y)
 |[],y=>(R6 _).symm
 |a::x,y=>by
  show up (aa a) (hi (x++y))=up (up (aa a) (hi x)) (hi y)
  rw[Lg x y,Ut]
theorem SU:∀ x y:List It,lo (x++y)=dn (lo x) (lo y)
 |[],y=>(RN _).symm
 |a::x,y=>by
  show dn (aa a) (lo (x++y))=dn (dn (aa a) (lo x)) (lo y)
  rw[SU x y,adF]
theorem Yo (a:It) (b:Option It):(up (aa a) b).isSome=ao:=by cases b<;>simp only[up]<;>(try split)<;>rfl
theorem agx (a:It) (b:Option It):(dn (aa a) b).isSome=ao:=by cases b<;>simp only[dn]<;>(try split)<;>rfl
theorem XU:∀ l:List It,(hi l).isSome=ao↔l≠[]
 |[]=>by simp[hi]
 |a::l=>by simp only[hi,Yo,true_iff];exact OF _ _
theorem Ys:∀ l:List It,(lo l).isSome=ao↔l≠[]
 |[]=>by simp[lo]
 |a::l=>by simp only[lo,agx,true_iff];exact OF _ _
theorem ac0:∀ (l:List It) (h:It),lo l=aa h->∀ e∈l,¬ ah e h
 |[],h,hh=>by cases hh
 |a::l,h,hh=>by
  intro e he;simp only[lo] at hh;cases hl:lo l with
  |none =>
   have:l=[]:=by
    rcases Ic l with h0|⟨y,z,h0⟩
    ·exact h0
    ·have:=(Ys l).2 (by rw[h0];simp)
     rw[hl] at this;cases this
   subst this;rw[hl] at hh;injection hh with hh
   subst hh;simp only[iu] at he;subst he;unfold ah;omega
  |some b =>
   have ih:=ac0 l b hl;rw[hl] at hh;simp only[dn] at hh;rcases bN.1 he with he|he
   ·subst he;split at hh<;>(injection hh with hh;subst hh)<;>unfold ah at *<;>omega
   ·have:=ih e he;split at hh<;>(injection hh with hh;subst hh)<;>unfold ah at *<;>omega
def tS (x:It) (l:List It):Nat->Nat
 |0=>0
 |k+1=>if ah x (l.getD k iz) then tS x l k else k+1
theorem Vp (x:It) (l:List It):∀ k,tS x l k≤k
 |0=>a_ _
 |k+1=>by rw[tS];split;exact Nat.le_succ_of_le (Vp x l k);exact a_ _
def ins (x:It) (l:List It):List It:=l.take (tS x l l.length)++x::l.drop (tS x l l.length)
def mY (l:List It):List It:=l.foldl (fun s x=>ins x s) []
theorem Fa (l:List It) (x:It):mY (l++[x])=ins x (mY l):=by unfold mY;rw[List.foldl_append];rfl
theorem XW (x:It) (l:List It):(ins x l).length=l.length+1:=by
 have:=Vp x l l.length;unfold ins;simp;omega
theorem NM {α:Type} {P:List α->Prop} (h0:P []) (h1:∀ l x,P l->P (l++[x])):∀ l,P l:=by
 intro l;have:∀ n (l:List α),l.length=n->P l:=by
  intro n
  induction n with
  |zero=>intro l h;rw[jd h];exact h0
  |succ n ih =>
   intro l h;rcases Ic l with e|⟨y,z,e⟩
   ·rw[e] at h;cases h
   ·rw[e,List.concat_eq_append] at h ⊢;refine h1 y z (ih y ?_);rw[bE] at h
    simpa using h
 exact this _ l rfl
theorem Ya (l:List It):(mY l).length=l.length:=NM (P:=fun l=>(mY l).length=l.length) rfl (fun l x h=>by rw[Fa,XW,h];simp) l
end Wv
namespace Ti
open Rx
set_option maxRecDepth 100000
def pj (x:List Int) (k:Nat):Int:=(x.take k).sum
def qJ (x:List Int):Nat->Int
 |0=>0
 |1=>pj x 1
 |k+2=>min (qJ x (k+1)) (pj x (k+2))
def low (x:List Int):Int:=qJ x x.length
structure Small (x:List Int):Prop where
 len:x.length≤60
 lo:∀ i,i<x.length->-1099511627776≤x.getD i 0
 hi:∀ i,i<x.length->x.getD i 0≤1099511627776
theorem ac2 {x:List Int} {k:Nat} (h:k<x.length):pj x (k+1)=pj x k+x.getD k 0:=by
 unfold pj;rw[ye 0 h,QI];simp
theorem MV {x:List Int} (hx:Small x):∀ k,k≤x.length->-(k:Int)*1099511627776≤pj x k/\pj x k≤(k:Int)*1099511627776
 |0,_=>by simp[pj]
 |k+1,h=>by
  have h1:=MV hx k (by omega)
  have h2:=hx.lo k (by omega)
  have h3:=hx.hi k (by omega)
  rw[ac2 (by omega)]
  omega
theorem A4 {x:List Int} (hx:Small x) (k:Nat) (hk:k≤x.length):-65970697666560≤pj x k/\pj x k≤65970697666560:=by
 have:=MV hx k hk;have:=hx.len;omega
theorem G3 {x:List Int} (hx:Small x):∀ k,k≤x.length->-65970697666560≤qJ x k/\qJ x k≤65970697666560
 |0,_=>by simp[qJ]
 |1,h=>A4 hx 1 h
 |k+2,h=>by
  have h1:=G3 hx (k+1) (by omega)
  have h2:=A4 hx (k+2) h;simp only[qJ];omega
def vI {R:Type} (l:List Int):Option (SB R):=aa (.inr (.inr (.inl ⟨[.int .i64 0],l.length,[⟨l,[],[]⟩]⟩)))
def z0:Nat->Bool:=fun j=>fj j 0
theorem Pk {x:List Int} {k:Nat} (h:0<k):qJ x (k+1)=min (qJ x k) (pj x (k+1)):=by
 cases k with
 |zero=>omega
 |succ k=>rfl
structure Td where
 n:Int
 s:Int
 l:Int
def Td.v (t:Td):Value:=.agg ⟨[.int .i64 t.n,.int .i64 t.s,.int .i64 t.l]⟩
def Hl (x:Int):Int:=ar.wrap x
def Td.plus (t u:Td):Td:=if t.n=0 then u else if u.n=0 then t else⟨Hl (t.n+u.n),Hl (t.s+u.s),min t.l (Hl (t.s+u.l))⟩
def Td.least (t:Td) (x:Int):Int:=if t.n=0 then x else min x (Hl (x+t.l))
def TW {R:Type}:eM R:=[(1000000000,lW)]
theorem alM {R:Type} {D:fR R}:cN D Tryz.prog (TW:eM R):=⟨iF,trivial⟩
def ef {R:Type}:Prim R:=fun args hh=>match args,hh with
 |[.agg ⟨[.int .i64 n,.int .i64 s,.int .i64 l]⟩,.agg ⟨[.int .i64 n',.int .i64 s',.int .i64 l']⟩],[]=>aa ⟨True,.agg ⟨[.int .i64 (Td.plus ⟨n,s,l⟩ ⟨n',s',l'⟩).n,.int .i64 (Td.plus ⟨n,s,l⟩ ⟨n',s',l'⟩).s,.int .i64 (Td.plus ⟨n,s,l⟩ ⟨n',s',l'⟩).l]⟩,aj,hh,[],[]⟩
 |_,_=>aj
theorem uX {R:Type} {D:fR R}:b8 D Tryz.prog 227 (a9 ef):=by
 refine fx Tryz.f227 fun args hh x hx=>?_
 unfold ef at hx;split at hx
 ·rename_i n s l n' s' l';cases hx;refine q4 fun _ hv=>?_
  generalize hG:Rx.Ends (R:=R) _ _=G;refine cK (T:=TW) alM mixed 200 ?_;refine bM (q:=((n==(0:Int))=ao->aY (G (bG (aP [.int ar n',.int ar s',.int ar l'])) [aa (.inl (51,[.int ar n,.int ar s,.int ar l])),aa (.inl (51,[.int ar n',.int ar s',.int ar l'])),aa (.inl (51,[.int ar n',.int ar s',.int ar l']))]))/\((n==(0:Int))=an->((n'==(0:Int))=ao->aY (G (bG (aP [.int ar n,.int ar s,.int ar l])) [aa (.inl (51,[.int ar n,.int ar s,.int ar l])),aa (.inl (51,[.int ar n',.int ar s',.int ar l'])),aa (.inl (51,[.int ar n,.int ar s,.int ar l]))]))/\((n'==(0:Int))=an->Vc True/\Vc True/\Vc True/\aY (G (bG (aP [.int ar (ck ar (n+n')),.int ar (ck ar (s+s')),.int ar (if ck ar (s+l')<l then ck ar (s+l') else l)])) [aa (.inl (51,[.int ar n,.int ar s,.int ar l])),aa (.inl (51,[.int ar n',.int ar s',.int ar l'])),aa (.inl (51,[.int ar (ck ar (n+n')),.int ar (ck ar (s+s')),.int ar (if ck ar (s+l')<l then ck ar (s+l') else l)]))])))) ?_ (by kernel_rfl)
  have fin:∀ (t:Td) (hp:Hp R),t=Td.plus ⟨n,s,l⟩ ⟨n',s',l'⟩->G t.v hp:=by
   intro t hp ht;subst ht;subst hG;exact⟨⟨[],rfl,rfl,trivial,rfl,rfl,rfl,rfl⟩⟩
  clear hG;refine⟨fun h=>⟨?_⟩,fun h=>⟨fun h'=>⟨?_⟩,fun h'=>⟨⟨trivial⟩,⟨trivial⟩,⟨trivial⟩,⟨?_⟩⟩⟩⟩
  ·exact fin ⟨n',s',l'⟩ _ (by rw[Td.plus,if_pos (eq_of_beq h)])
  ·exact fin ⟨n,s,l⟩ _ (by rw[Td.plus,if_neg (ne_of_beq_false h),if_pos (eq_of_beq h')])
  ·have e:∀ p q:Int,(if p<q then p else q)=min q p:=fun p q=>by split<;>omega
   refine fin ⟨Hl (n+n'),Hl (s+s'),if Hl (s+l')<l then Hl (s+l') else l⟩ _ ?_
   rw[Td.plus,if_neg (ne_of_beq_false h),if_neg (ne_of_beq_false h')];simp only[e]
 ·cases hx
def q8 (x:List Int):Td:=⟨x.length,pj x x.length,low x⟩
theorem Ks {x:Int} (h:-9223372036854775808≤x/\x≤9223372036854775807):Hl x=x:=oe ⟨h.1,h.2⟩
theorem yL {y z:List Int} (j:Nat):pj (y++z) (y.length+j)=pj y y.length+pj z j:=by
 unfold pj;rw[List.take_length_add_append,QI,jB]
theorem Gm {y z:List Int} {k:Nat} (h:k≤y.length):pj (y++z) k=pj y k:=by
 unfold pj;rw[BI h]
theorem PV {y z:List Int}:∀ k,k≤y.length->qJ (y++z) k=qJ y k
 |0,_=>rfl
 |1,h=>Gm h
 |k+2,h=>by
  simp only[qJ];rw[PV (k+1) (by omega),Gm h]
theorem K' {y z:List Int} (hy:y.length≠0):∀ j,1≤j->j≤z.length->qJ (y++z) (y.length+j)=min (qJ y y.length) (pj y y.length+qJ z j)
 |0,h,_=>by omega
 |1,_,h=>by
  rw[Pk (show 0<y.length by omega),PV y.length (a_ _),yL]
  rfl
 |j+2,_,h=>by
  have ih:=K' (z:=z) hy (j+1) (by omega) (by omega)
  rw[show y.length+(j+2)=y.length+(j+1)+1 by omega,Pk (show 0<y.length+(j+1) by omega),ih,show y.length+(j+1)+1=y.length+(j+2) by omega,yL]
  simp only[qJ];omega
theorem SH {y z:List Int} {i:Nat} (h:i<y.length):(y++z).getD i 0=y.getD i 0:=by
 simp only[au,da h]
theorem PQ {y z:List Int} {i:Nat}:(y++z).getD (y.length+i) 0=z.getD i 0:=by
 simp only[au];rw[dW (by omega),F9]
theorem Small.left {y z:List Int} (h:Small (y++z)):Small y:=by
 obtain⟨h1,h2,h3⟩:=h;simp only[bE] at h1 h2 h3;refine⟨by omega,fun i hi=>?_,fun i hi=>?_⟩
 ·have:=h2 i (by omega);rwa [SH hi] at this
 ·have:=h3 i (by omega);rwa [SH hi] at this
theorem Small.right {y z:List Int} (h:Small (y++z)):Small z:=by
 obtain⟨h1,h2,h3⟩:=h;simp only[bE] at h1 h2 h3;refine⟨by omega,fun i hi=>?_,fun i hi=>?_⟩
 ·have:=h2 (y.length+i) (by omega);rwa [PQ] at this
 ·have:=h3 (y.length+i) (by omega);rwa [PQ] at this
theorem So {y z:List Int} (h:Small (y++z)):(q8 y).plus (q8 z)=q8 (y++z):=by
 by_cases hy:y.length=0
 ·have:y=[]:=jd hy;subst this;rw[Td.plus,if_pos (show(q8 []).n=0 from rfl)];rfl
 by_cases hz:z.length=0
 ·have:z=[]:=jd hz;subst this;rw[Td.plus,if_neg (by simp only[q8];omega),if_pos (show(q8 []).n=0 from rfl),BB]
 have a1:=A4 h.left y.length (a_ _);have a2:=A4 h.right z.length (a_ _);have a3:=G3 h.right z.length (a_ _);have a4:=h.len;have e1:=yL (y:=y) (z:=z) z.length;have e2:=K' (y:=y) (z:=z) hy z.length (by omega) (a_ _)
 rw[bE] at a4;rw[Td.plus,if_neg (by simp only[q8];omega),if_neg (by simp only[q8];omega)]
 simp only[q8,low,bE] at *
 rw[Ks (by omega),Ks (by omega),Ks (by omega),e1,e2]
 simp
end Ti
end Go.Proofs.YtjlomlgdgpoepaaGreat
