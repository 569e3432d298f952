import Derived.Test.YtjlomlgdgpoepaaGreatZta
import Derived.Below
import Derived.Deep.Slices
import Derived.ChangeArms
import Derived.WideShapes
import Derived.DataReads
import Derived.OpenShut
import Derived.ProofKit
import Derived.Test.YtjlomlgdgpoepaaGreatProg
import Derived.KernelRfl
set_option linter.unusedVariables false
set_option linter.unusedSimpArgs false
namespace Go.Proofs.YtjlomlgdgpoepaaGreat
open _root_.Array renaming getD→DH,getElem?_eq_some_iff→v_,getElem?_setIfInBounds_ne→Ae,mem_toList_iff→IT,mk→aO
open _root_.Bool renaming and_eq_true→aL,and_self→SV,false_and→B8,false_eq_true→fO,false→an,not_eq_true'→mQ,or_eq_true→jO,true_and→je,true→ao
open _root_.Classical renaming axiomOfChoice→Wy,byContradiction→iy,epsilon_spec→Xb
open _root_.False renaming elim→kK
open _root_.Go renaming undef→vy
open _root_.Go.Act renaming eval→B6,put→B7
open _root_.Go.DataW renaming trod→DI
open _root_.Go.IntKind renaming i64→ar,wrap_i64→Fp,wrap→ck
open _root_.Go.Region renaming binds→KQ,ready→KR,wanted→kB
open _root_.Go.Value renaming agg→bE,bool→aD,cells→nx,okWide→Wm
open _root_.Int renaming not_lt→IU
open _root_.List renaming append_nil→Bb,cons_ne_nil→N_,drop_drop→sn,drop_eq_nil_iff→IS,drop_zero→so,eq_nil_of_length_eq_zero→iN,eq_nil_or_concat→HH,ext_getElem?→nV,getD_eq_getElem?_getD→av,getElem?_append_left→c_,getElem?_append_right→dQ,getElem?_cons_succ→bH,getElem?_cons_zero→cd,getElem?_drop→oQ,getElem?_eq_getElem→bd,getElem?_eq_none→dc,getElem?_eq_some_iff→aU,getElem?_map→fh,getElem?_range→sP,getElem?_take_of_lt→Fo,getElem?_take→oN,getElem?_toArray→jE,length_append→bA,length_cons→cy,length_set→fa,length_singleton→rh,length_take→dZ,map_cons→gr,mem_append→b5,mem_cons_of_mem→ed,mem_cons_self→bL,mem_cons→bP,mem_map→pb,mem_of_getElem?→lz,mem_range→RC,mem_singleton→ia,nodup_append→cf,range→oi,replicate→lj,sum_append→Qc,take_add→wa,take_append_of_le_length→Bi,take_length→js,take_of_length_le→jj,take_zero→sm
open _root_.Nat renaming add_assoc→jd,add_comm→sK,add_sub_cancel_left→FD,add_sub_cancel→mg,add_zero→gT,beq→fb,ble_eq→vw,ble→uM,blt_eq→fe,blt→gR,eq_of_beq_eq_true→cP,le_of_ble_eq_true→jF,le_of_not_lt→nw,le_refl→a_,le_trans→jq,lt_of_lt_of_le→ly,lt_or_ge→cr,lt_trichotomy→nW,mod_mod_of_dvd→KS,one_pos→GD,strongRecOn→tJ,succ_mul→Wl,zero_add→bV,zero_le→du,zero_mul→Ba
open _root_.Option renaming getD_some→lI,map_some→kc,none→aj,some→aa
open _root_.Option.some renaming injEq→ct
open _root_.Or renaming inl→dK,inr→eV
open _root_.Prod.mk renaming injEq→tw
namespace Rx
open Go.RowKit State
def knQ (f:Nat->Bool) (q:Nat):Bool :=
 match gR q 1000000 with
 |true=>ao
 |false=>f (q / 1000000-1)
def knS (f:Nat->Bool):Option Nat->Bool
 |none=>ao
 |some q=>knQ f q
mutual
def l_ (f:Nat->Bool):Value->Bool
 |.pointer (aa a)=>f a.block
 |.slice (aa a) _ _=>f a.block&&knS f a.spot
 |.map (aa r)|.chan (aa r)=>f r
 |.agg ⟨l⟩=>AO f l
 |.tuple ⟨l⟩=>AO f l
 |.func _ ⟨g⟩ ⟨c⟩=>AO f g&&AO f c
 |.iface _ v=>l_ f v
 |_=>ao
def AO (f:Nat->Bool):List Value->Bool
 |[]=>ao
 |v::l=>l_ f v&&AO f l
end
section
variable {ρ gv:Env} {f g:Nat->Bool} {n:Nat}
theorem Yi {q:Nat} (h:knQ f q=ao) (h0:q / 1000000≠0):f (q / 1000000-1)=ao:=by
 unfold knQ at h;split at h
 ·rename_i hb;rw[fe] at hb;omega
 ·exact h
theorem aca {q:Nat} (h:q / 1000000≠0->f (q / 1000000-1)=ao):knQ f q=ao:=by
 unfold knQ;split
 ·rfl
 ·rename_i hb;refine h fun h0=>?_
  have:gR q 1000000=ao:=by rw[fe];omega
  rw[hb] at this;cases this
theorem adH {s:Option Nat} (h:∀ b,f b=ao->g b=ao) (hv:knS f s=ao):knS g s=ao:=by
 cases s with
 |none=>rfl
 |some q=>exact aca fun h0=>h _ (Yi hv h0)
theorem ahp {a:Addr} {k c:Nat} (h:∀ b,f b=ao->ρ b=gv b) (ha:f a.block=ao) (hs:knS f a.spot=ao):lF ρ a k c=lF gv a k c:=by
 have hA:iD ρ a=iD gv a:=by unfold iD;rw[h _ ha]
 unfold lF;rw[hA,h _ ha];cases hq:a.spot with
 |none=>rfl
 |some q =>
  rw[hq] at hs;simp only;split
  ·rfl
  ·split
   ·rename_i h0;rw[h (q / 1000000-1) (Yi hs h0.1)]
   ·rfl
mutual
theorem VW (h:∀ b,f b=ao->ρ b=gv b):∀ v,l_ f v=ao->bT ρ v=bT gv v
 |.pointer (aa a),hv=>by
  simp only[l_] at hv;simp only[bT,iD];rw[h _ hv]
 |.pointer aj,_=>by simp[bT]
 |.slice (aa a) k c,hv=>by
  simp only[l_,aL] at hv;simp only[bT];exact ahp h hv.1 hv.2
 |.slice aj _ _,_=>by simp[bT]
 |.map (aa r),hv=>by simp only[l_] at hv;simp[bT,h _ hv]
 |.map aj,_=>by simp[bT]
 |.chan (aa r),hv=>by simp only[l_] at hv;simp[bT,h _ hv]
 |.chan aj,_=>by simp[bT]
 |.agg ⟨l⟩,hv=>by simp only[l_] at hv;simp only[bT,DQ h l hv]
 |.tuple ⟨l⟩,hv=>by simp only[l_] at hv;simp only[bT,DQ h l hv]
 |.func fn ⟨l⟩ ⟨c⟩,hv=>by
  simp only[l_,aL] at hv;simp only[bT,DQ h l hv.1,DQ h c hv.2]
 |.iface t v,hv=>by simp only[l_] at hv;simp only[bT,VW h v hv]
 |.int _ _,_=>by simp
 |.bool _,_=>by simp
 |.string _,_=>by simp
 |.float _ _,_=>by simp[bT]
 |.complex _ _ _,_=>by simp[bT]
 |.nilFunc,_=>by simp[bT]
 |.nilIface,_=>by simp[bT]
theorem DQ (h:∀ b,f b=ao->ρ b=gv b):∀ l,AO f l=ao->nC ρ l=nC gv l
 |[],_=>rfl
 |v::l,hv=>by
  simp only[AO,aL] at hv;simp only[nC,VW h v hv.1,DQ h l hv.2]
end
mutual
theorem abd (h:∀ b,b<n->f b=ao):∀ v,fp n v=ao->l_ f v=ao
 |.pointer (aa a),hv=>by simp only[fp,fe] at hv;simp only[l_];exact h _ hv
 |.pointer aj,_=>by simp[l_]
 |.slice (aa a) k c,hv=>by
  simp only[fp,aL,fe,vw] at hv;simp only[l_,aL];refine⟨h _ hv.1,?_⟩;cases hs:a.spot with
  |none=>rfl
  |some q =>
   rw[hs] at hv;simp only[Ej] at hv;exact aca fun h0=>h _ (by omega)
 |.slice aj _ _,_=>by simp[l_]
 |.map (aa r),hv=>by simp only[fp,fe] at hv;simp only[l_];exact h _ hv
 |.map aj,_=>by simp[l_]
 |.chan (aa r),hv=>by simp only[fp,fe] at hv;simp only[l_];exact h _ hv
 |.chan aj,_=>by simp[l_]
 |.agg ⟨l⟩,hv=>by simp only[fp] at hv;simp only[l_];exact DT h l hv
 |.tuple ⟨l⟩,hv=>by simp only[fp] at hv;simp only[l_];exact DT h l hv
 |.func fn ⟨l⟩ ⟨c⟩,hv=>by
  simp only[fp,aL] at hv;simp only[l_,aL];exact⟨DT h l hv.1,DT h c hv.2⟩
 |.iface t v,hv=>by simp only[fp] at hv;simp only[l_];exact abd h v hv
 |.int _ _,_=>by simp[l_]
 |.bool _,_=>by simp[l_]
 |.string _,_=>by simp[l_]
 |.float _ _,_=>by simp[l_]
 |.complex _ _ _,_=>by simp[l_]
 |.nilFunc,_=>by simp[l_]
 |.nilIface,_=>by simp[l_]
theorem DT (h:∀ b,b<n->f b=ao):∀ l,ix n l=ao->AO f l=ao
 |[],_=>by simp[AO]
 |v::l,hv=>by
  simp only[ix,aL] at hv;simp only[AO,aL];exact⟨abd h v hv.1,DT h l hv.2⟩
end
mutual
theorem VU (h:∀ b,f b=ao->g b=ao):∀ v,l_ f v=ao->l_ g v=ao
 |.pointer (aa a),hv=>by simp only[l_] at *;exact h _ hv
 |.pointer aj,_=>by simp[l_]
 |.slice (aa a) k c,hv=>by
  simp only[l_,aL] at *
  exact⟨h _ hv.1,adH h hv.2⟩
 |.slice aj _ _,_=>by simp[l_]
 |.map (aa r),hv=>by simp only[l_] at *;exact h _ hv
 |.map aj,_=>by simp[l_]
 |.chan (aa r),hv=>by simp only[l_] at *;exact h _ hv
 |.chan aj,_=>by simp[l_]
 |.agg ⟨l⟩,hv=>by simp only[l_] at *;exact BV h l hv
 |.tuple ⟨l⟩,hv=>by simp only[l_] at *;exact BV h l hv
 |.func fn ⟨l⟩ ⟨c⟩,hv=>by
  simp only[l_,aL] at *
  exact⟨BV h l hv.1,BV h c hv.2⟩
 |.iface t v,hv=>by simp only[l_] at *;exact VU h v hv
 |.int _ _,_=>by simp[l_]
 |.bool _,_=>by simp[l_]
 |.string _,_=>by simp[l_]
 |.float _ _,_=>by simp[l_]
 |.complex _ _ _,_=>by simp[l_]
 |.nilFunc,_=>by simp[l_]
 |.nilIface,_=>by simp[l_]
theorem BV (h:∀ b,f b=ao->g b=ao):∀ l,AO f l=ao->AO g l=ao
 |[],_=>by simp[AO]
 |v::l,hv=>by
  simp only[AO,aL] at *
  exact⟨VU h v hv.1,BV h l hv.2⟩
end
end
section
variable {R:Type} {D:fH R} {C:Ctx} {ρ gv:Env} {ft ku:Nat->Nat->Prop} {w w':World} {h hr hx h':Hp R}
theorem HM.alg (hm:HM D C ρ ft h w) {f:Nat->Bool} (qD:∀ b,f b=ao->gv b=ρ b) (hh:∀ (b:Nat) (X:SB R),h[b]?=aa (aa X)->f b=ao) (hc:∀ (b:Nat) (t:TypeId) (cs:List Value),h[b]?=aa (aa (.inl (t,cs)))->AO f cs=ao):HM D C gv ft h w where
 at_ i B hi:=by
  obtain⟨h1,h2⟩:=hm.at_ i B hi;refine⟨?_,h2⟩;have e:=qD i (hh i B hi);rcases B with⟨t,cs⟩|⟨t,r⟩|r|x
  ·simp only[hold,e] at h1 ⊢;have:cs.map (bT gv)=cs.map (bT ρ):=by
    rw[← lh,← lh];exact DQ qD cs (hc i t cs hi)
   rw[this];exact h1
  ·simp only[hold,e] at h1 ⊢;exact h1
  ·simp only[hold,e] at h1 ⊢;exact h1
  ·simp only[hold,e] at h1 ⊢;exact h1
 lt:=hm.lt
 fresh:=hm.fresh
 apart:=hm.apart
 some_:=hm.some_
 kept:=hm.kept
theorem HM.grow (hm:HM D C ρ ft h w) (k:Nat):HM D C ρ ft (h++lj k aj) w:=by
 refine hm.step (fun _=>False) (Kept.refl _ _) (fun _ _=>rfl) (by simp) ?_ ?_ ?_ ?_
 ·intro i B' hi jD;have j7:h.length≤i:=nw hi;rw[dQ j7] at jD;have:=lz jD;have:=(List.mem_replicate.1 this).2;cases this
 ·intro i hi _;exact⟨c_ hi,fun k=>Iff.rfl⟩
 ·intro i k hi hk;obtain⟨B',jD⟩:=hm.some_ i k hk;have cj:=(aU.1 jD).1;exact absurd cj hi
 ·intro i j k hi hj GY He;exact hm.apart i j k GY He
theorem HM.alR {ρ0:Env} (hm:HM D C ρ ft h w) (nj:∀ (b:Nat) (X:SB R),hr[b]?=aa (aa X)->h[b]?=aa (aa X)) {n:Nat}
  (mG:HM D (PJ w hr ft ρ0 n) gv ku hx w') (qD:∀ b,b<hx.length->ρ b=gv b) (hle:hx.length≤h.length)
  (hv:∀ (b:Nat) (X:SB R),hx[b]?=aa (aa X)->(b<hr.length->∃ Y,hr[b]?=aa (aa Y))/\(g_ X=an∨∃ Y,hr[b]?=aa (aa Y)/\g_ Y=ao))
  (hlen:h'.length=h.length)
  (uo:∀ (b:Nat),(∃ Y,hr[b]?=aa (aa Y)/\g_ Y=an)∨(hr.length≤b/\b<hx.length)->h'[b]?=if b<hx.length then hx[b]? else aa aj)
  (Pc:∀ (b:Nat),b<h.length->¬ ((∃ Y,hr[b]?=aa (aa Y)/\g_ Y=an)∨(hr.length≤b/\b<hx.length))->h'[b]?=h[b]?) :
  ∃ Kk,HM D C ρ Kk h' w':=by
 let T:Nat->Prop:=fun b=>(∃ Y,hr[b]?=aa (aa Y)/\g_ Y=an)∨(hr.length≤b/\b<hx.length)
 refine⟨fun b k=>(T b/\ku b k)∨(¬ T b/\ft b k),?_⟩
 have eT:∀ {b},T b->(fun k=>(T b/\ku b k)∨(¬ T b/\ft b k))=ku b:=fun {b} hb=>funext fun k=>propext ⟨fun h=>h.elim (fun h=>h.2) (fun h=>absurd hb h.1),fun h=>dK ⟨hb,h⟩⟩
 have aeR:∀ b k,(∃ X,hr[b]?=aa (aa X))->ft b k->∃ j,T j/\ft j k:=fun b k ⟨X,hX⟩ hb=>by
  refine⟨b,dK ⟨X,hX,?_⟩,hb⟩;cases hX2:g_ X with
  |false=>rfl
  |true =>
   have:=(hm.at_ b X (nj b X hX)).1;rcases X with⟨t,cs⟩|⟨t,r⟩|r|x<;>simp[g_] at hX2
   exact absurd hb (this.1 k)
 have j8:∀ i B,h'[i]?=aa (aa B)->i<h.length:=fun i B hB=>by
  have:=(aU.1 hB).1;omega
 refine hm.step T ?_ (fun _ _=>rfl) (Nat.le_of_eq hlen.symm) ?_ ?_ ?_ ?_
 ·exact⟨mG.kept.os,mG.kept.tape,mG.kept.output,mG.kept.size,fun k hk hn=>mG.kept.block k hk fun⟨b,hX,hb⟩=>hn (aeR b k hX hb)⟩
 ·intro i B hi hB;have Mm:=hi (j8 i B hB);rw[uo i Mm] at hB;split at hB
  ·rename_i cj;obtain⟨g1,g2⟩:=mG.at_ i B hB;have Sb:g_ B=an:=by
    rcases(hv i B hB).2 with h1|⟨Y,hY,XF⟩
    ·exact h1
    ·rcases Mm with⟨Y',RL,Kb⟩|rU
     ·rw[hY] at RL;injection RL with e;injection e with e;subst e;rw[XF] at Kb;cases Kb
     ·have:=(aU.1 hY).1;omega
   refine⟨?_,Cf (by omega) g2⟩
   show hold D C ρ i (fun k=>(T i/\ku i k)∨(¬ T i/\ft i k)) w' B
   rw[eT Mm];exact yO Sb (IF g1 qD cj g2)
  ·cases hB
 ·intro i hi hn;exact⟨Pc i hi hn,fun k=>⟨fun h=>h.elim (fun h=>absurd h.1 hn) (fun h=>h.2),fun h=>eV ⟨hn,h⟩⟩⟩
 ·intro i k hi hk;have Mm:T i:=by
   rcases hk with h|h
   ·exact h.1
   ·obtain⟨B,hB⟩:=hm.some_ i k h.2;exact hi (aU.1 hB).1
  have nB:ku i k:=hk.elim (fun h=>h.2) (fun h=>absurd Mm h.1)
  refine⟨?_,mG.lt i k nB,?_⟩
  ·rcases mG.fresh i k nB with⟨b,hX,hb⟩|rU
   ·exact dK (aeR b k hX hb)
   ·exact eV rU
  ·obtain⟨B,hB⟩:=mG.some_ i k nB;refine⟨B,?_⟩;rw[uo i Mm,if_pos (aU.1 hB).1];exact hB
 ·intro i j k hi hj GY He;have key:∀ l,(l<h.length->T l)->((T l/\ku l k)∨(¬ T l/\ft l k))->ku l k:=fun l hl uh=>by
   rcases uh with h|h
   ·exact h.2
   ·obtain⟨B,hB⟩:=hm.some_ l k h.2;exact absurd (hl (aU.1 hB).1) h.1
  exact mG.apart i j k (key i hi GY) (key j hj He)
end
mutual
def ah7:Value->List Nat
 |.pointer (aa a)=>[a.block]
 |.slice (aa ⟨b,_,aa q⟩) _ _=>match fb (q / 1000000) 0 with
  |true=>[b]
  |false=>[b,q / 1000000-1]
 |.slice (aa a) _ _=>[a.block]
 |.map (aa r)|.chan (aa r)=>[r]
 |.agg ⟨l⟩=>sO l
 |.tuple ⟨l⟩=>sO l
 |.func _ ⟨f⟩ ⟨c⟩=>sO f++sO c
 |.iface _ v=>ah7 v
 |_=>[]
def sO:List Value->List Nat
 |[]=>[]
 |v::l=>ah7 v++sO l
end
def mem (l:List Nat) (i:Nat):Bool :=
 match l with
 |[]=>an
 |j::l=>fb j i||mem l i
theorem mem_iff {l:List Nat} {i:Nat}:mem l i=ao↔i∈l:=by
 induction l with
 |nil=>simp[mem]
 |cons j l ih=>simp only[mem,jO,ih,Nat.beq_eq,bP];exact⟨fun h=>h.imp Eq.symm id,fun h=>h.imp Eq.symm id⟩
def tmpsOf:List Operand->List Nat
 |[]=>[]
 |.tmp t::l=>t::tmpsOf l
 |_::l=>tmpsOf l
structure Rec (R:Type) where
 o:Oper
 pre:List Nat
 run:Bool
 v:Value
 lit:Option Bool
 hr:Hp R
 hx:Hp R
 w:Bool
 wl:List (Nat×Nat)
section
variable {R:Type} {D:fH R} {P:Program} {T:ez R}
def HP (h:Hp R) (b:Nat):Bool :=
 match h[b]? with
 |some (aa X)=>!g_ X
 |_=>an
def newAt (r:Rec R) (b:Nat):Bool:=uM r.hr.length b&&gR b r.hx.length
def gI (r:Rec R) (b:Nat):Bool:=r.w&&((HP r.hr b && !Lm r.o r.wl b)||newAt r b)
def C_ (r:Rec R) (b:Nat):Bool:=HP r.hr b||newAt r b
def E3 (r:Rec R):Bool:=gR r.hr.length r.hx.length
def fS {α:Type} (h:List (Option α)) (b:Nat):Option α :=
 match h[b]? with
 |some x=>x
 |none=>aj
def content (p:Nat->Bool) (b:Nat):List (Rec R)->Nat->Option (SB R)->Option (SB R)
 |[],_,acc=>acc
 |r::l,j,acc=>content p b l (j+1) (if p j&&gI r b then fS r.hx b else acc)
def ff:List (Rec R)->Nat->Nat
 |[],n=>n
 |r::l,n=>ff l (if E3 r then r.hx.length else n)
def P8 (recs:List (Rec R)):List Nat->Nat->Bool
 |[],_=>an
 |j::l,b=>(match recs[j]? with
  |some q=>newAt q b
  |none=>an)||P8 recs l b
def BI (n:Nat) (recs:List (Rec R)) (r:Rec R) (b:Nat):Bool:=gR b n||newAt r b||P8 recs r.pre b
def VF (f:Nat->Bool):Hp R->Bool
 |[]=>ao
 |some (.inl (_,cs))::h=>AO f cs&&VF f h
 |_::h=>VF f h
def allKnown (n:Nat) (all:List (Rec R)):List (Rec R)->Bool
 |[]=>ao
 |r::l=>l_ (BI n all r) r.v&&VF (BI n all r) r.hx&&allKnown n all l
def nv:List Oper->Nat->Nat->Option Nat
 |[],_,_=>aj
 |o::l,t,i=>match o.dst with
  |some u=>if fb u t then aa i else nv l t (i+1)
  |none=>nv l t (i+1)
def E_ (ops:List Oper) (recs:List (Rec R)) (pre tms:List Nat):Nat->List (Option Value)->List (Option Value)
 |_,[]=>[]
 |t,x::l=>(if mem tms t then
   match nv ops t 0 with
   |some j=>if mem pre j then(match recs[j]? with
    |some r=>aa r.v
    |none=>aj) else if uM recs.length j then x else aj
   |none=>x
  else aj)::E_ ops recs pre tms (t+1) l
def KM (ops:List Oper) (li:List (Nat×Bool)) (recs:List (Rec R)) (pre:List Nat):List Nat->List (Nat×Bool)
 |[]=>[]
 |t::l=>(match nv ops t 0 with
  |some j=>if mem pre j then(match recs[j]? with
   |some r=>(match r.lit with
    |some b=>[(t,b)]
    |none=>[])
   |none=>[]) else[]
  |none=>match look li t with
   |some b=>[(t,b)]
   |none=>[])++KM ops li recs pre l
def F2:List (Option Value)->List Value
 |[]=>[]
 |some v::l=>v::F2 l
 |none::l=>F2 l
def kT (h0:Hp R) (recs:List (Rec R)) (p:Nat->Bool) (sel:Nat->Bool):Nat->Nat->Hp R
 |_,0=>[]
 |b,n+1=>(if sel b then content p b recs 0 (fS h0 b) else aj)::kT h0 recs p sel (b+1) n
def ins (j:Nat) (l:List Nat):List Nat:=if mem l j then l else j::l
def jy:List Nat->List Nat->List Nat
 |[],l=>l
 |j::m,l=>jy m (ins j l)
theorem K6 {i j:Nat} {l:List Nat}:i∈ins j l↔i=j∨i∈l:=by
 unfold ins;split
 ·rename_i h;have:=mem_iff.1 h;exact⟨eV,fun h=>h.elim (fun e=>by rw[e];exact this) id⟩
 ·simp
theorem NN {i:Nat}:∀ {m l:List Nat},i∈jy m l↔i∈m∨i∈l
 |[],l=>by simp[jy]
 |j::m,l=>by
  simp only[jy,NN,K6,bP]
  constructor
  ·rintro (h|h|h)
   ·exact dK (eV h)
   ·exact dK (dK h)
   ·exact eV h
  ·rintro ((h|h)|h)
   ·exact eV (dK h)
   ·exact dK h
   ·exact eV (eV h)
def Lg (recs:List (Rec R)):List Edge->Option (List Nat)
 |[]=>aa []
 |e::l =>
  match Lg recs l with
  |none=>aj
  |some r=>if KQ .any e then(match recs[e.on]? with
   |some q=>aa (ins e.on (jy q.pre r))
   |none=>aj) else aa r
def Hk (recs:List (Rec R)) (pre:List Nat) (g:Option (Nat×Bool)):Nat :=
 match g with
 |none=>0
 |some (j,want) =>
  if mem pre j then
   match recs[j]? with
   |some r=>match r.o.dst with
    |some _=>match r.lit with
     |some b=>if b==want then 0 else 1
     |none=>match K0 r.v with
      |true=>1
      |false=>2
    |none=>3
   |none=>3
  else 3
def rD:Hp R->Hp R->Bool
 |[],[]=>ao
 |[],aj::hx=>rD [] hx
 |[],aa X::hx=>!g_ X&&rD [] hx
 |_::_,[]=>an
 |none::hr,aj::hx=>rD hr hx
 |none::_,aa _::_=>an
 |some Y::hr,aj::hx=>rD hr hx
 |some Y::hr,aa X::hx=>(!g_ X||g_ Y)&&rD hr hx
def reach (h:Hp R):Nat->List Nat->List Nat
 |0,l=>l
 |n+1,l=>reach h n (l++sO (l.flatMap fun b=>match fS h b with
  |some (.inl (_,cs))=>cs
  |_=>[]))
def Th (o:Oper) (B:List Nat) (h:Hp R):List Nat :=
 match o.op with
 |.call ⟨.value _,_,_⟩=>reach h 2 B
 |.call ⟨.invoke _ _,_,_⟩=>reach h 2 B
 |.move _|.assign _|.fieldAddr _ _ _|.nilCheck _|.extract _ _|.makeFunc _ _ _=>[]
 |_=>B
def w8 (ops:List Oper) (cl:SS R) (recs:List (Rec R)) (pre:List Nat) (o:Oper):List (Option Value):=E_ ops recs pre (tmpsOf o.op.operands.toList) 0 cl.tm
def XD (ops:List Oper) (cl:SS R) (recs:List (Rec R)) (pre:List Nat) (o:Oper):Nat->Bool :=
 mem (Th o (sO (F2 (w8 ops cl recs pre o))) (kT cl.hp recs (mem pre) (fun _=>ao) 0 (ff recs cl.hp.length)))
def oH (ops:List Oper) (cl:SS R) (recs:List (Rec R)) (pre:List Nat) (o:Oper):SS R :=
 ⟨w8 ops cl recs pre o,KM ops cl.li recs pre (tmpsOf o.op.operands.toList),
  kT cl.hp recs (mem pre) (XD ops cl recs pre o) 0 (ff recs cl.hp.length)⟩
def afm (n:Nat) (d:Option Tmp):Bool :=
 match d with
 |some t=>gR t n
 |none=>ao
def EE (cl:SS R) (st:SS R) (o:Oper) (x:Out R):Bool :=
 tidy st o.dst x&&afm cl.tm.length o.dst&&te st.hp.length st.hp&&ix st.hp.length (F2 st.tm)&&rD st.hp x.hp
def alr (vS:List (Nat×Bool)) (d:Option Tmp):Option Bool :=
 match d with
 |some t=>look vS t
 |none=>aj
def Aq (recs:List (Rec R)) (r:Rec R):List (Rec R):=recs++[r]
def Hm (P:Program) (T:ez R) (cl:SS R) (vS:List (Nat×Bool)) (o:Oper) (pre:List Nat) (tm:List (Option Value)) (li:List (Nat×Bool)) (hr:Hp R) (k:Rec R->Prop) (rZ:Bool):Prop :=
 match Mb P T ⟨tm,li,hr⟩ o rZ with
 |none=>oh 21
 |some x =>
  if EE cl ⟨tm,li,hr⟩ o x then
   Zo (Y2 (⟨tm,li,hr⟩:SS R) o) x.vc (Mx x.hp fun hx=>fV x.v fun v =>
    match x.lit with
    |some b=>fB b fun b=>fB (!x.wr.isEmpty) fun wr=>k ⟨o,pre,ao,v,aa b,hr,hx,wr,x.wr⟩
    |none=>fB (!x.wr.isEmpty) fun wr=>match alr vS o.dst with
     |some b=>Vc (v=.bool b)/\k ⟨o,pre,ao,.bool b,aa b,hr,hx,wr,x.wr⟩
     |none=>k ⟨o,pre,ao,v,aj,hr,hx,wr,x.wr⟩)
  else oh 22
def CE (P:Program) (T:ez R) (ops:List Oper) (cl:SS R) (vS:List (Nat×Bool)) (k:List (Rec R)->Prop) (fk:Nat->Bool->Prop):List Oper->List (Rec R)->Prop
 |[],recs=>k recs
 |o::l,recs =>
  match Lg recs o.after.toList with
  |none=>oh 20
  |some pre=>VE pre fun pre =>
   match Hk recs pre o.guard with
   |0=>XZ (w8 ops cl recs pre o) fun tm=>fLi (KM ops cl.li recs pre (tmpsOf o.op.operands.toList)) fun li=>Mx (kT cl.hp recs (mem pre) (fun _=>ao) 0 (ff recs cl.hp.length)) fun hp =>
    VE (Th o (sO (F2 tm)) hp) fun sel=>Mx (kT cl.hp recs (mem pre) (mem sel) 0 (ff recs cl.hp.length)) fun hr =>
    match Hq P T (⟨tm,li,hr⟩:SS R) o with
    |none=>Hm P T cl vS o pre tm li hr (fun r=>CE P T ops cl vS k fk l (Aq recs r)) ao
    |some c=>(c=ao->Hm P T cl vS o pre tm li hr (fun r=>CE P T ops cl vS k fk l (Aq recs r)) ao) /\
     (c=an->Hm P T cl vS o pre tm li hr (fun r=>CE P T ops cl vS k fk l (Aq recs r)) an)
   |1=>CE P T ops cl vS k fk l (Aq recs ⟨o,pre,an,undef,aj,[],[],an,[]⟩)
   |2 =>
    match o.guard with
    |some (j,_)=>match recs[j]? with
     |some r=>match r.o.dst,r.v with
      |some t,.bool c=>fk t c
      |_,_=>oh 23
     |none=>oh 24
    |none=>oh 25
   |_=>oh 26
def Gi (f:Nat->Bool):Nat->Bool
 |0=>ao
 |n+1=>f n&&Gi f n
def afT (a b:Rec R) (n:Nat):Bool:=!Gi (fun i=>!((gI a i&&C_ b i)||(gI b i&&C_ a i))) n
def aar (i:Nat) (a b:Rec R):Bool :=
 match b.o.dst with
 |some t=>!mem (tmpsOf a.o.op.operands.toList) t||mem b.pre i
 |none=>ao
def Ea (n:Nat) (i j:Nat) (a b:Rec R):Bool :=
 aar i a b&&(match a.o.dst,b.o.dst with
  |some t,aa u=>!fb t u
  |_,_=>ao) &&
 (mem b.pre i || !((a.w||b.w)&&afT a b n))
def La (n:Nat) (i:Nat) (a:Rec R):Nat->List (Rec R)->Bool
 |_,[]=>ao
 |j,b::l=>Ea n i j a b&&La n i a (j+1) l
def BX (n:Nat):Nat->List (Rec R)->Bool
 |_,[]=>ao
 |i,a::l=>La n i a (i+1) l&&BX n (i+1) l
def Il (ops:List Oper) (recs:List (Rec R)):Nat->List (Option Value)->List (Option Value)
 |_,[]=>[]
 |t,x::l=>(match nv ops t 0 with
  |some j=>(match recs[j]? with
   |some r=>aa r.v
   |none=>aj)
  |none=>x)::Il ops recs (t+1) l
def afB (ops:List Oper) (N:Nat) (recs:List (Rec R)) (li:List (Nat×Bool)):List (Nat×Bool) :=
 (recs.flatMap fun r=>match r.o.dst,r.lit with
  |some t,aa b=>if gR t N then[(t,b)] else[]
  |_,_=>[])++li.filter fun q=>match nv ops q.1 0 with
   |some _=>an
   |none=>ao
def A7 (ops:List Oper) (cl:SS R) (recs:List (Rec R)):SS R :=
 ⟨Il ops recs 0 cl.tm,afB ops cl.tm.length recs cl.li,kT cl.hp recs (fun _=>ao) (fun _=>ao) 0 (ff recs cl.hp.length)⟩
def EV (P:Program) (T:ez R) (ops:List Oper) (cl:SS R) (k:SS R->Prop):Nat->List (Nat×Bool)->Prop
 |0,_=>oh 27
 |n+1,vS=>CE P T ops cl vS
   (fun recs=>if BX (ff recs cl.hp.length) 0 recs&&allKnown cl.hp.length recs recs then Jf (A7 ops cl recs) k else oh 28)
   (fun t c=>(c=ao->EV P T ops cl k n ((t,ao)::vS))/\(c=an->EV P T ops cl k n ((t,an)::vS))) ops []
end
end Rx
namespace Rx
open Go.RowKit State
section
variable {R:Type} {D:fH R} {P:Program} {T:ez R}
theorem jl {h0:Hp R} {recs:List (Rec R)} {p sel:Nat->Bool}:∀ (n b i:Nat),(kT h0 recs p sel b n).length=n/\(i<n->(kT h0 recs p sel b n)[i]?=aa (if sel (b+i) then content p (b+i) recs 0 (fS h0 (b+i)) else aj))
 |0,b,i=>⟨rfl,fun h=>by omega⟩
 |n+1,b,i=>by
  obtain⟨h1,h2⟩:=jl (h0:=h0) (recs:=recs) (p:=p) (sel:=sel) n (b+1) (i-1);refine⟨by simp[kT,h1],fun h=>?_⟩
  cases i with
  |zero=>simp[kT]
  |succ i =>
   simp only[kT,bH];have:=h2 (by omega)
   simp only[mg] at this;rw[this,show b+1+i=b+(i+1) by omega]
theorem v8 {p q:Nat->Bool} {b:Nat}:∀ (recs:List (Rec R)) (j0:Nat) (acc:Option (SB R)),(∀ j r,recs[j]?=aa r->gI r b=ao->p (j0+j)=q (j0+j))->content p b recs j0 acc=content q b recs j0 acc
 |[],_,_,_=>rfl
 |r::l,j0,acc,h=>by
  simp only[content];have h0:=h 0 r (by simp)
  have e:(p j0&&gI r b)=(q j0&&gI r b):=by
   cases ht:gI r b with
   |false=>simp
   |true=>rw[← gT j0,h0 ht]
  rw[e];exact v8 l (j0+1) _ fun j r' hj ht=>by
   have:=h (j+1) r' (by simpa using hj) ht
   rwa [show j0+(j+1)=j0+1+j by omega] at this
theorem Ke {p:Nat->Bool} {b:Nat}:∀ (recs:List (Rec R)) (j0:Nat) (acc:Option (SB R)) (i:Nat) (r:Rec R),recs[i]?=aa r->p (j0+i)=ao->gI r b=ao ->
  (∀ j r',recs[j]?=aa r'->i<j->p (j0+j)=ao->gI r' b=an)->content p b recs j0 acc=fS r.hx b
 |[],_,_,i,r,hi,_,_,_=>by simp at hi
 |r0::l,j0,acc,i,r,hi,hp,ht,hn=>by
  simp only[content];cases i with
  |zero =>
   simp only[cd,ct] at hi;subst hi;rw[gT] at hp;simp only[hp,ht,SV,if_true];have:∀ (l:List (Rec R)) (j1:Nat) (acc:Option (SB R)),(∀ j r',l[j]?=aa r'->p (j1+j)=ao->gI r' b=an)->content p b l j1 acc=acc:=by
    intro l
    induction l with
    |nil=>intro j1 acc _;rfl
    |cons r' l ih =>
     intro j1 acc h;simp only[content];have h0:=h 0 r' (by simp)
     have e:(p j1&&gI r' b)=an:=by
      cases wY:p j1 with
      |false=>simp
      |true=>simp[h0 (by rw[gT];exact wY)]
     rw[e];exact ih (j1+1) acc fun j r'' hj RV=>h (j+1) r'' (by simpa using hj) (by rwa [show j1+(j+1)=j1+1+j by omega])
   exact this l (j0+1) _ fun j r' hj RV=>hn (j+1) r' (by simpa using hj) (by omega) (by rwa [show j0+(j+1)=j0+1+j by omega])
  |succ i =>
   simp only[bH] at hi;exact Ke l (j0+1) _ i r hi (by rwa [show j0+1+i=j0+(i+1) by omega]) ht fun j r' hj cj RV=>hn (j+1) r' (by simpa using hj) (by omega) (by rwa [show j0+(j+1)=j0+1+j by omega])
theorem uH {p:Nat->Bool} {b:Nat}:∀ (recs:List (Rec R)) (j0:Nat) (acc:Option (SB R)),content p b recs j0 acc=acc∨∃ i r,recs[i]?=aa r/\p (j0+i)=ao/\gI r b=ao/\content p b recs j0 acc=fS r.hx b
 |[],_,_=>dK rfl
 |r::l,j0,acc=>by
  simp only[content];rcases uH (p:=p) (b:=b) l (j0+1) (if p j0&&gI r b then fS r.hx b else acc) with h|⟨i,r',h1,h2,h3,h4⟩
  ·cases hc:(p j0&&gI r b) with
   |false=>rw[hc] at h;left;simpa using h
   |true =>
    rw[hc] at h;simp only[aL] at hc;exact eV ⟨0,r,by simp,by simpa using hc.1,hc.2,by simpa using h⟩
  ·exact eV ⟨i+1,r',by simpa using h1,by rwa [show j0+(i+1)=j0+1+i by omega],h3,h4⟩
theorem Kg {p:Nat->Bool} {b:Nat}:∀ (recs:List (Rec R)) (i j0:Nat) (acc:Option (SB R)),(∀ j,i≤j->p (j0+j)=an)->content p b (recs.take i) j0 acc=content p b recs j0 acc
 |[],i,j0,acc,_=>by simp
 |r::l,0,j0,acc,h=>by
  simp only[sm];have:content p b (r::l) j0 acc=content (fun _=>an) b (r::l) j0 acc:=v8 _ _ _ fun j _ _ _=>h j (by omega)
  rw[this];have key:∀ (l:List (Rec R)) (j1:Nat),content (fun _=>an) b l j1 acc=acc:=fun l=>by
   induction l with
   |nil=>intro _;rfl
   |cons r l ih=>intro j1;simp only[content,B8,fO,if_false];exact ih _
  rw[key]
  rfl
 |r::l,i+1,j0,acc,h=>by
  simp only[List.take_succ_cons,content];exact Kg l i (j0+1) _ fun j hj=>by have:=h (j+1) (by omega);rwa [show j0+(j+1)=j0+1+j by omega] at this
theorem WR (l:List (Rec R)) (r:Rec R) (n:Nat):ff (l++[r]) n=if E3 r then r.hx.length else ff l n:=by
 induction l generalizing n with
 |nil=>rfl
 |cons a l ih=>simp only[List.cons_append,ff,ih]
theorem Pn {recs:List (Rec R)} {b:Nat}:∀ {l:List Nat},P8 recs l b=ao->∃ j q,j∈l/\recs[j]?=aa q/\newAt q b=ao
 |[],h=>by cases h
 |j::l,h=>by
  simp only[P8,jO] at h;rcases h with h|h
  ·split at h
   ·rename_i q hq;exact⟨j,q,bL,hq,h⟩
   ·cases h
  ·obtain⟨j',q,h1,h2,h3⟩:=Pn h;exact⟨j',q,ed _ h1,h2,h3⟩
theorem X7 {f:Nat->Bool}:∀ {h:Hp R} {b:Nat} {t:TypeId} {cs:List Value},VF f h=ao->h[b]?=aa (aa (.inl (t,cs)))->AO f cs=ao
 |[],b,t,cs,_,hb=>by simp at hb
 |x::h,b,t,cs,hk,hb=>by
  have hr:VF f h=ao/\(b=0->AO f cs=ao):=by
   rcases x with _|⟨t',Cu⟩|⟨t',ro⟩|ro|x
   ·exact⟨hk,fun e=>by subst e;simp at hb⟩
   ·simp only[VF,aL] at hk;refine⟨hk.2,fun e=>?_⟩
    subst e;simp only[cd,ct,Sum.inl.injEq,tw] at hb;rw[← hb.2];exact hk.1
   ·exact⟨hk,fun e=>by subst e;simp at hb⟩
   ·exact⟨hk,fun e=>by subst e;simp at hb⟩
   ·exact⟨hk,fun e=>by subst e;simp at hb⟩
  cases b with
  |zero=>exact hr.2 rfl
  |succ b=>simp only[bH] at hb;exact X7 hr.1 hb
theorem Ez {n:Nat} {all:List (Rec R)}:∀ {l:List (Rec R)} {i:Nat} {r:Rec R},allKnown n all l=ao->l[i]?=aa r->l_ (BI n all r) r.v=ao/\VF (BI n all r) r.hx=ao
 |[],i,r,_,h=>by simp at h
 |r0::l,i,r,h,hi=>by
  simp only[allKnown,aL] at h;cases i with
  |zero=>simp only[cd,ct] at hi;subst hi;exact h.1
  |succ i=>simp only[bH] at hi;exact Ez h.2 hi
theorem Gh {recs:List (Rec R)}:∀ {es:List Edge} {pre:List Nat},Lg recs es=aa pre->(∀ e∈es,KQ .any e=ao->e.on∈pre) /\
  ∀ j∈pre,∃ e∈es,KQ .any e=ao/\∃ q,recs[e.on]?=aa q/\(j=e.on∨j∈q.pre)
 |[],pre,h=>by
  simp only[Lg] at h;injection h with h
  subst h;exact⟨(fun e he=>by cases he),fun j hj=>by cases hj⟩
 |e::l,pre,h=>by
  simp only[Lg] at h;split at h
  ·cases h
  ·rename_i r hr;obtain⟨h1,h2⟩:=Gh hr;split at h
   ·rename_i hb;split at h
    ·rename_i q hq;injection h with h
     subst h;refine⟨fun e' vN qm=>?_,fun j hj=>?_⟩
     ·rcases bP.1 vN with rfl|vN
      ·exact K6.2 (dK rfl)
      ·exact K6.2 (eV (NN.2 (eV (h1 e' vN qm))))
     ·rcases K6.1 hj with rfl|hj
      ·exact⟨e,bL,hb,q,hq,dK rfl⟩
      ·rcases NN.1 hj with hj|hj
       ·exact⟨e,bL,hb,q,hq,eV hj⟩
       ·obtain⟨e',g1,g2,g3⟩:=h2 j hj;exact⟨e',ed _ g1,g2,g3⟩
    ·cases h
   ·rename_i hb;injection h with h
    subst h;refine⟨fun e' vN qm=>?_,fun j hj=>?_⟩
    ·rcases bP.1 vN with rfl|vN
     ·exact absurd qm hb
     ·exact h1 e' vN qm
    ·obtain⟨e',g1,g2,g3⟩:=h2 j hj;exact⟨e',ed _ g1,g2,g3⟩
theorem W5 {ops:List Oper}:∀ {t i0 j:Nat},nv ops t i0=aa j->∃ k o,j=i0+k/\ops[k]?=aa o/\o.dst=aa t:=by
 induction ops with
 |nil=>intro t i0 j h;cases h
 |cons o l ih =>
  intro t i0 j h;simp only[nv] at h;split at h
  ·rename_i u hu;split at h
   ·rename_i hb;injection h with h
    have:=cP hb;subst this;exact⟨0,o,by omega,by simp,hu⟩
   ·obtain⟨k,o',h1,h2,h3⟩:=ih h;exact⟨k+1,o',by omega,by simpa using h2,h3⟩
  ·obtain⟨k,o',h1,h2,h3⟩:=ih h;exact⟨k+1,o',by omega,by simpa using h2,h3⟩
theorem VS {ops:List Oper}:∀ {t i0 k:Nat} {o:Oper},ops[k]?=aa o->o.dst=aa t->(∀ j o',ops[j]?=aa o'->j<k->o'.dst≠aa t)->nv ops t i0=aa (i0+k):=by
 induction ops with
 |nil=>intro t i0 k o h;simp at h
 |cons o0 l ih =>
  intro t i0 k o h hd hn;simp only[nv];cases k with
  |zero =>
   simp only[cd,ct] at h;subst h;simp[hd]
  |succ k =>
   simp only[bH] at h;have h0:=hn 0 o0 (by simp) (by omega)
   have rest:=ih (i0:=i0+1) h hd fun j o' hj cj=>hn (j+1) o' (by simpa using hj) (by omega)
   rw[show i0+1+k=i0+(k+1) by omega] at rest
   cases hu:o0.dst with
   |none=>simp only;exact rest
   |some u =>
    simp only;have:fb u t=an:=by
     cases hb:fb u t with
     |false=>rfl
     |true=>exact absurd (by rw[hu,cP hb]) h0
    rw[this];exact rest
theorem Iu {ops:List Oper} {recs:List (Rec R)} {pre tms:List Nat}:∀ {l:List (Option Value)} {t0 i:Nat} {v:Value},(E_ ops recs pre tms t0 l).length=l.length /\
  ((E_ ops recs pre tms t0 l)[i]?=aa (aa v)->t0+i∈tms/\((∃ j r,nv ops (t0+i) 0=aa j/\j∈pre/\recs[j]?=aa r/\v=r.v)∨(nv ops (t0+i) 0=aj/\l[i]?=aa (aa v))∨(∃ j,nv ops (t0+i) 0=aa j/\recs.length≤j/\l[i]?=aa (aa v)))):=by
 intro l
 induction l with
 |nil=>intro t0 i v;exact⟨rfl,fun h=>by simp[E_] at h⟩
 |cons x l ih =>
  intro t0 i v;obtain⟨h1,_⟩:=ih (t0:=t0+1) (i:=i) (v:=v);refine⟨by simp[E_,h1],fun h=>?_⟩
  cases i with
  |zero =>
   simp only[E_,cd,ct,gT] at h ⊢;split at h
   ·rename_i hm;refine⟨mem_iff.1 hm,?_⟩;split at h
    ·rename_i j hj;split at h
     ·rename_i RV;split at h
      ·rename_i r hr;injection h with h
       exact dK ⟨j,r,hj,mem_iff.1 RV,hr,h.symm⟩
      ·cases h
     ·split at h
      ·rename_i hle;exact eV (eV ⟨j,hj,jF hle,h⟩)
      ·cases h
    ·rename_i hj;exact eV (dK ⟨hj,h⟩)
   ·cases h
  |succ i =>
   simp only[E_,bH] at h ⊢;obtain⟨_,h2⟩:=ih (t0:=t0+1) (i:=i) (v:=v);have:=h2 h
   rwa [show t0+1+i=t0+(i+1) by omega] at this
theorem adi {ops:List Oper} {li:List (Nat×Bool)} {recs:List (Rec R)} {pre:List Nat}:∀ {l:List Nat} {t:Nat} {b:Bool},(t,b)∈KM ops li recs pre l ->
  t∈l/\((∃ j r,nv ops t 0=aa j/\j∈pre/\recs[j]?=aa r/\r.lit=aa b)∨(nv ops t 0=aj/\(t,b)∈li)):=by
 intro l
 induction l with
 |nil=>intro t b h;cases h
 |cons u l ih =>
  intro t b h;simp only[KM] at h;rcases b5.1 h with h|h
  ·split at h
   ·rename_i j hj;split at h
    ·rename_i hp;split at h
     ·rename_i r hr;split at h
      ·rename_i b' qm;simp only[ia,tw] at h;obtain⟨rfl,rfl⟩:=h;exact⟨bL,dK ⟨j,r,hj,mem_iff.1 hp,hr,qm⟩⟩
      ·cases h
     ·cases h
    ·cases h
   ·rename_i hj;split at h
    ·rename_i b' qm;simp only[ia,tw] at h;obtain⟨rfl,rfl⟩:=h;exact⟨bL,eV ⟨hj,M3 qm⟩⟩
    ·cases h
  ·obtain⟨h1,h2⟩:=ih h;exact⟨ed _ h1,h2⟩
theorem acJ {l:List (Option Value)} {v:Value}:∀ {i:Nat},l[i]?=aa (aa v)->v∈F2 l:=by
 induction l with
 |nil=>intro i h;simp at h
 |cons x l ih =>
  intro i h;cases i with
  |zero =>
   simp only[cd,ct] at h;subst h;exact bL
  |succ i =>
   simp only[bH] at h;cases x with
   |none=>exact ih h
   |some u=>exact ed _ (ih h)
theorem rQ:∀ {hr hx:Hp R} {b:Nat} {X:SB R},rD hr hx=ao->hr.length≤hx.length/\(hx[b]?=aa (aa X)->(b<hr.length->∃ Y,hr[b]?=aa (aa Y))/\(g_ X=an∨∃ Y,hr[b]?=aa (aa Y)/\g_ Y=ao))
 |[],[],b,X,_=>⟨a_ _,fun h=>by simp at h⟩
 |[],aj::hx,b,X,h=>by
  simp only[rD] at h;have ih:=fun b=>rQ (b:=b) (X:=X) h
  refine⟨by simp,fun hb=>⟨fun cj=>by simp at cj,?_⟩⟩
  cases b with
  |zero=>simp at hb
  |succ b =>
   simp only[bH] at hb;rcases((ih b).2 hb).2 with h1|⟨Y,hY,_⟩
   ·exact dK h1
   ·simp at hY
 |[],aa X'::hx,b,X,h=>by
  simp only[rD,aL,mQ] at h;have ih:=fun b=>rQ (b:=b) (X:=X) h.2
  refine⟨by simp,fun hb=>⟨fun cj=>by simp at cj,?_⟩⟩
  cases b with
  |zero =>
   simp only[cd,ct] at hb;subst hb;exact dK h.1
  |succ b =>
   simp only[bH] at hb;rcases((ih b).2 hb).2 with h1|⟨Y,hY,_⟩
   ·exact dK h1
   ·simp at hY
 |_::_,[],b,X,h=>by simp[rD] at h
 |none::hr,aj::hx,b,X,h=>by
  simp only[rD] at h;have ih:=fun b=>rQ (b:=b) (X:=X) h
  refine⟨by have:=(ih 0).1;simpa using this,fun hb=>?_⟩
  cases b with
  |zero=>simp at hb
  |succ b=>simp only[bH,cy] at hb ⊢;exact⟨fun cj=>((ih b).2 hb).1 (by omega),((ih b).2 hb).2⟩
 |none::_,aa _::_,b,X,h=>by simp[rD] at h
 |some Y::hr,aj::hx,b,X,h=>by
  simp only[rD] at h;have ih:=fun b=>rQ (b:=b) (X:=X) h
  refine⟨by have:=(ih 0).1;simpa using this,fun hb=>?_⟩
  cases b with
  |zero=>simp at hb
  |succ b=>simp only[bH,cy] at hb ⊢;exact⟨fun cj=>((ih b).2 hb).1 (by omega),((ih b).2 hb).2⟩
 |some Y::hr,aa X'::hx,b,X,h=>by
  simp only[rD,aL,jO,mQ] at h;have ih:=fun b=>rQ (b:=b) (X:=X) h.2
  refine⟨by have:=(ih 0).1;simpa using this,fun hb=>?_⟩
  cases b with
  |zero =>
   simp only[cd,ct] at hb;subst hb;exact⟨fun _=>⟨Y,by simp⟩,h.1.imp id fun hv=>⟨Y,by simp,hv⟩⟩
  |succ b=>simp only[bH,cy] at hb ⊢;exact⟨fun cj=>((ih b).2 hb).1 (by omega),((ih b).2 hb).2⟩
theorem zQ {f:Nat->Bool}:∀ {n i:Nat},Gi f n=ao->i<n->f i=ao
 |0,i,_,h=>by omega
 |n+1,i,h,hi=>by
  simp only[Gi,aL] at h
  by_cases he:i=n
  ·rw[he];exact h.1
  ·exact zQ h.2 (by omega)
theorem L6 {n i:Nat} {a:Rec R}:∀ {l:List (Rec R)} {j k:Nat} {b:Rec R},La n i a j l=ao->l[k]?=aa b->Ea n i (j+k) a b=ao
 |[],j,k,b,_,h=>by simp at h
 |b0::l,j,k,b,h,hk=>by
  simp only[La,aL] at h;cases k with
  |zero=>simp only[cd,ct] at hk;subst hk;exact h.1
  |succ k =>
   simp only[bH] at hk;have:=L6 h.2 hk
   rwa [show j+1+k=j+(k+1) by omega] at this
theorem KL {n:Nat}:∀ {l:List (Rec R)} {i0 i j:Nat} {a b:Rec R},BX n i0 l=ao->l[i]?=aa a->l[j]?=aa b->i<j->Ea n (i0+i) (i0+j) a b=ao
 |[],_,i,j,a,b,_,h,_,_=>by simp at h
 |a0::l,i0,i,j,a,b,h,hi,hj,cj=>by
  simp only[BX,aL] at h;cases j with
  |zero=>omega
  |succ j =>
   simp only[bH] at hj;cases i with
   |zero =>
    simp only[cd,ct] at hi;subst hi;have:=L6 h.1 hj
    rwa [show i0+1+j=i0+(j+1) by omega] at this
   |succ i =>
    simp only[bH] at hi;have:=KL h.2 hi hj (by omega)
    rwa [show i0+1+i=i0+(i+1) by omega,show i0+1+j=i0+(j+1) by omega] at this
end
end Rx
namespace Rx
open Go.RowKit State
section
variable {R:Type} {D:fH R} {P:Program} {T:ez R}
structure afR (P:Program) (T:ez R) (ops:List Oper) (cl:SS R) (ahead:List (Rec R)) (i:Nat) (r:Rec R):Prop where
 o:ops[i]?=aa r.o
 pre:Lg ahead r.o.after.toList=aa r.pre
 Yo:(Hk ahead r.pre r.o.guard=1/\r.v=undef/\r.lit=aj/\r.hr=[]/\r.hx=[]/\r.w=an) ∨
  (Hk ahead r.pre r.o.guard=0/\∃ x,(∃ b,goes (Hq P T (oH ops cl ahead r.pre r.o) r.o) b/\Mb P T (oH ops cl ahead r.pre r.o) r.o b=aa x)/\EE cl (oH ops cl ahead r.pre r.o) r.o x=ao/\x.vc /\
   r.v=x.v/\(∀ b,r.lit=aa b->x.lit=aa b∨x.v=.bool b)/\r.hr=(oH ops cl ahead r.pre r.o).hp/\r.hx=x.hp/\r.w = !x.wr.isEmpty/\r.wl=x.wr)
def C3 (P:Program) (T:ez R) (ops:List Oper) (cl:SS R) (recs:List (Rec R)):Prop:=∀ i r,recs[i]?=aa r->afR P T ops cl (recs.take i) i r
theorem C3.add {ops:List Oper} {cl:SS R} {recs:List (Rec R)} {r:Rec R} (h:C3 P T ops cl recs) (hr:afR P T ops cl recs recs.length r):C3 P T ops cl (Aq recs r):=by
 intro i q hq;unfold Aq at hq ⊢;rcases cr i recs.length with cj|j7
 ·rw[c_ cj] at hq;rw[Bi (by omega)]
  exact h i q hq
 ·rw[dQ j7] at hq;have:i=recs.length:=by
   rcases cr recs.length i with cj|hle
   ·rw[dc (by simp;omega)] at hq;cases hq
   ·omega
  subst this;simp at hq;subst hq;rw[List.take_left']
  ·exact hr
  ·rfl
theorem ads {e:Bool} {p q:Prop} (h:Zo e p q) (he:e=ao->p):p/\q:=by
 cases e with
 |true=>exact⟨he rfl,h⟩
 |false=>exact⟨h.1.out,h.2⟩
theorem CZ {ops:List Oper} {cl:SS R} {vS:List (Nat×Bool)} {k:List (Rec R)->Prop} {fk:Nat->Bool->Prop}:∀ (l:List Oper) {recs:List (Rec R)},ops.drop recs.length=l->C3 P T ops cl recs ->
  CE P T ops cl vS k fk l recs->(∃ Iw,Iw.length=ops.length/\C3 P T ops cl Iw/\k Iw)∨∃ t c,fk t c
 |[],recs,hl,um,h=>by
  rcases cr recs.length ops.length with cj|j7
  ·exact absurd hl (by rw[IS];omega)
  ·-- not aoc apt the operations
   refine dK ⟨recs,?_,um,h⟩;rcases cr ops.length recs.length with cj|hle
   ·have hq:recs[ops.length]?=aa (recs[ops.length]):=bd cj;have:=(um _ _ hq).o;rw[dc (a_ _)] at this;cases this
   ·omega
 |o::l,recs,hl,um,h=>by
  have ho:ops[recs.length]?=aa o:=by
   have:=congrArg (fun m=>m[0]?) hl
   simpa [oQ] using this
  have Tb:∀ r:Rec R,ops.drop (Aq recs r).length=l:=fun r=>by
   unfold Aq;rw[bA,rh,← sn,hl]
   rfl
  simp only[CE,Wg,aaH,abY,JP] at h;split at h
  ·exact h.elim
  ·rename_i pre hp;have yD:(⟨w8 ops cl recs pre o,KM ops cl.li recs pre (tmpsOf o.op.operands.toList),kT cl.hp recs (mem pre) (mem (Th o (sO (F2 (w8 ops cl recs pre o))) (kT cl.hp recs (mem pre) (fun _=>ao) 0 (ff recs cl.hp.length)))) 0 (ff recs cl.hp.length)⟩:SS R)=oH ops cl recs pre o:=rfl
   have hsh:kT cl.hp recs (mem pre) (mem (Th o (sO (F2 (w8 ops cl recs pre o))) (kT cl.hp recs (mem pre) (fun _=>ao) 0 (ff recs cl.hp.length)))) 0 (ff recs cl.hp.length)=(oH ops cl recs pre o).hp:=rfl
   simp only[yD] at h;simp only[hsh] at h;split at h
   ·rename_i hg
    have one:∀ b,goes (Hq P T (oH ops cl recs pre o) o) b->Hm P T cl vS o pre (w8 ops cl recs pre o) (KM ops cl.li recs pre (tmpsOf o.op.operands.toList)) (oH ops cl recs pre o).hp (fun r=>CE P T ops cl vS k fk l (Aq recs r)) b ->
      (∃ Iw,Iw.length=ops.length/\C3 P T ops cl Iw/\k Iw)∨∃ t c,fk t c:=by
     intro rZ NM h;simp only[Hm,JP,YQ,ae8] at h;have Zq:(⟨w8 ops cl recs pre o,KM ops cl.li recs pre (tmpsOf o.op.operands.toList),(oH ops cl recs pre o).hp⟩:SS R)=oH ops cl recs pre o:=rfl;simp only[Zq] at h;split at h
     ·exact h.elim
     ·rename_i x hx;split at h
      ·rename_i hs;obtain⟨O5,h⟩:=ads h (Yv hx);split at h
       ·rename_i b hb;exact CZ l (Tb _) (um.add ⟨ho,hp,eV ⟨hg,x,⟨rZ,NM,hx⟩,hs,O5,rfl,(fun c hc=>dK (by rw[hb];exact hc)),rfl,rfl,rfl,rfl⟩⟩) h
       ·rename_i hb;split at h
        ·rename_i b Jj;exact CZ l (Tb _) (um.add ⟨ho,hp,eV ⟨hg,x,⟨rZ,NM,hx⟩,hs,O5,h.1.out.symm,(fun c hc=>eV (by injection hc with hc;subst hc;exact h.1.out)),rfl,rfl,rfl,rfl⟩⟩) h.2
        ·exact CZ l (Tb _) (um.add ⟨ho,hp,eV ⟨hg,x,⟨rZ,NM,hx⟩,hs,O5,rfl,(fun c hc=>by cases hc),rfl,rfl,rfl,rfl⟩⟩) h
      ·exact h.elim
    split at h
    ·rename_i hf;exact one ao (dK ⟨hf,rfl⟩) h
    ·rename_i c hf;cases c with
     |true=>exact one ao (eV hf) (h.1 rfl)
     |false=>exact one an (eV hf) (h.2 rfl)
   ·rename_i hg;exact CZ l (Tb _) (um.add ⟨ho,hp,dK ⟨hg,rfl,rfl,rfl,rfl,rfl⟩⟩) h
   ·split at h
    ·split at h
     ·split at h
      ·exact eV ⟨_,_,h⟩
      ·exact h.elim
     ·exact h.elim
    ·exact h.elim
   ·exact h.elim
theorem JZ {ops:List Oper} {cl:SS R} {k:SS R->Prop}:∀ (n:Nat) {vS:List (Nat×Bool)},EV P T ops cl k n vS ->
  ∃ recs,recs.length=ops.length/\C3 P T ops cl recs/\BX (ff recs cl.hp.length) 0 recs=ao/\allKnown cl.hp.length recs recs=ao/\k (A7 ops cl recs)
 |0,vS,h=>h.elim
 |n+1,vS,h=>by
  simp only[EV,Km] at h;rcases CZ ops (recs:=[]) rfl (fun i r hr=>by simp at hr) h with⟨recs,h1,h2,h3⟩|⟨t,c,h3⟩
  ·split at h3
   ·rename_i hb;rw[aL] at hb;exact⟨recs,h1,h2,hb.1,hb.2,h3⟩
   ·exact h3.elim
  ·cases c with
   |true=>exact JZ n (h3.1 rfl)
   |false=>exact JZ n (h3.2 rfl)
structure Good (P:Program) (T:ez R) (ops:List Oper) (cl:SS R) (recs:List (Rec R)):Prop where
 len:recs.length=ops.length
 all:C3 P T ops cl recs
 alB:BX (ff recs cl.hp.length) 0 recs=ao
 known:allKnown cl.hp.length recs recs=ao
variable {ops:List Oper} {cl:SS R} {recs:List (Rec R)}
theorem Good.On (g:Good P T ops cl recs):∀ (i:Nat) {r:Rec R} {j:Nat},recs[i]?=aa r->j∈r.pre->j<i:=by
 intro i
 induction i using tJ with
 |_ i ih =>
  intro r j hr hj;obtain⟨_,h2⟩:=Gh (g.all i r hr).pre;obtain⟨e,_,_,q,hq,Wh⟩:=h2 j hj;have cj:e.on<i:=by
   have:=(aU.1 hq).1;rw[dZ] at this;omega
  rcases Wh with rfl|Wh
  ·exact cj
  ·have:=ih e.on cj (r:=q) (j:=j) (by rw[Fo cj] at hq;exact hq) Wh
   omega
theorem Good.ajD (g:Good P T ops cl recs) {i:Nat} {r:Rec R} (hr:recs[i]?=aa r):∀ j,i≤j->mem r.pre j=an:=fun j hj=>by
 cases hm:mem r.pre j with
 |false=>rfl
 |true=>have:=g.On i hr (mem_iff.1 hm);omega
theorem Good.pair (g:Good P T ops cl recs) {i j:Nat} {a b:Rec R} (hi:recs[i]?=aa a) (hj:recs[j]?=aa b) (cj:i<j):Ea (ff recs cl.hp.length) i j a b=ao:=by
 have:=KL g.alB hi hj cj
 simpa using this
theorem Dy {r:Rec R}:E3 r=ao↔r.hr.length<r.hx.length:=by simp[E3,fe]
theorem zu {r:Rec R} {b:Nat}:newAt r b=ao↔r.hr.length≤b/\b<r.hx.length:=by simp[newAt,fe]
theorem qL {h:Hp R} {b:Nat}:HP h b=ao↔∃ X,h[b]?=aa (aa X)/\g_ X=an:=by
 unfold HP
 constructor
 ·intro hh;split at hh
  ·rename_i X hX;exact⟨X,hX,by simpa using hh⟩
  ·cases hh
 ·intro⟨X,hX,hv⟩;rw[hX];simp[hv]
theorem Good.hr (g:Good P T ops cl recs) {i:Nat} {r:Rec R} (hr:recs[i]?=aa r):r.hr=[]/\r.hx=[]/\r.w=an ∨
  ∃ sel,r.hr=kT cl.hp recs (mem r.pre) sel 0 (ff (recs.take i) cl.hp.length):=by
 rcases(g.all i r hr).Yo with⟨_,_,_,h1,h2,h3⟩|⟨_,x,_,_,_,_,_,h1,_,_⟩
 ·exact dK ⟨h1,h2,h3⟩
 ·refine eV ⟨XD ops cl (recs.take i) r.pre r.o,?_⟩;rw[h1];simp only[oH];have hz:∀ j,i≤j->mem r.pre (0+j)=an:=fun j hj=>by rw[bV];exact g.ajD hr j hj
  apply nV;intro b;rcases cr b (ff (recs.take i) cl.hp.length) with cj|j7
  ·rw[(jl _ 0 b).2 cj,(jl _ 0 b).2 cj,Kg recs i 0 _ hz]
  ·rw[dc (by rw[(jl _ 0 0).1];exact j7),dc (by rw[(jl _ 0 0).1];exact j7)]
theorem Good.Fh (g:Good P T ops cl recs) {i b:Nat} {r:Rec R} {X:SB R} (hr:recs[i]?=aa r) (hb:r.hr[b]?=aa (aa X)) :
  b<ff (recs.take i) cl.hp.length/\content (mem r.pre) b recs 0 (fS cl.hp b)=aa X:=by
 rcases g.hr hr with⟨h1,_⟩|⟨sel,h1⟩
 ·rw[h1] at hb;simp at hb
 ·rw[h1] at hb;have cj:b<ff (recs.take i) cl.hp.length:=by
   have:=(aU.1 hb).1
   rwa [(jl _ 0 0).1] at this
  rw[(jl _ 0 b).2 cj,bV] at hb;refine⟨cj,?_⟩;split at hb
  ·injection hb
  ·cases hb
theorem Good.hx (g:Good P T ops cl recs) {i:Nat} {r:Rec R} (hr:recs[i]?=aa r) (hT:cL D P T):r.hr.length≤r.hx.length/\(r.w=an->r.hx=r.hr) /\
  ∀ (b:Nat) (X:SB R),r.hx[b]?=aa (aa X)->(b<r.hr.length->∃ Y,r.hr[b]?=aa (aa Y))/\(g_ X=an∨∃ Y,r.hr[b]?=aa (aa Y)/\g_ Y=ao):=by
 rcases(g.all i r hr).Yo with⟨_,_,_,h1,h2,h3⟩|⟨_,x,hx,hs,_,_,_,h1,h2,h3,_⟩
 ·refine⟨by rw[h1,h2];exact a_ _,fun _=>by rw[h1,h2],fun b X hb=>?_⟩
  rw[h2] at hb;simp at hb
 ·simp only[EE,aL] at hs;have hb:=fun b X=>rQ (b:=b) (X:=X) hs.2
  rw[h1,h2];refine⟨(hs.2 |> rQ (b:=0) (X:=.inl (0,[]))).1,fun hw=>?_,fun b X=>(hb b X).2⟩
  obtain⟨rZ,_,hx⟩:=hx;refine aa1 hT hx ?_;rw[h3] at hw
  simpa using hw
theorem Good.kept (g:Good P T ops cl recs) {i:Nat} {r:Rec R} (hr:recs[i]?=aa r) (hT:cL D P T) {b:Nat} (hb:b<r.hr.length) (hk:Lm r.o r.wl b=ao):r.hx[b]?=r.hr[b]?:=by
 rcases(g.all i r hr).Yo with⟨_,_,_,h1,h2,h3⟩|⟨_,x,hx,hs,_,_,_,h1,h2,_,h4⟩
 ·rw[h1,h2]
 ·obtain⟨rZ,_,hx⟩:=hx;rw[h1] at hb;rw[h1,h2];rw[h4] at hk;exact aew hT hx b hb hk
theorem Good.aaT (g:Good P T ops cl recs) {i:Nat} {r:Rec R} (hr:recs[i]?=aa r) (h:E3 r=ao∨r.w=ao):r.hr.length=ff (recs.take i) cl.hp.length:=by
 rcases g.hr hr with⟨h1,h2,h3⟩|⟨sel,h1⟩
 ·rcases h with h|h
  ·rw[Dy,h1,h2] at h;simp at h
  ·rw[h3] at h;cases h
 ·rw[h1,(jl _ 0 0).1]
theorem Good.afq (g:Good P T ops cl recs) {i:Nat} {r:Rec R} (hr:recs[i]?=aa r):r.hr.length≤ff (recs.take i) cl.hp.length:=by
 rcases g.hr hr with⟨h1,_⟩|⟨sel,h1⟩
 ·rw[h1];simp
 ·rw[h1,(jl _ 0 0).1];exact a_ _
theorem Good.abu (g:Good P T ops cl recs) {i:Nat} {r:Rec R} (hr:recs[i]?=aa r):ff (recs.take (i+1)) cl.hp.length=if E3 r then r.hx.length else ff (recs.take i) cl.hp.length:=by
 rw[List.take_add_one,hr];exact WR _ _ _
theorem Good.aj9 (g:Good P T ops cl recs) (i:Nat):ff (recs.take i) cl.hp.length≤ff (recs.take (i+1)) cl.hp.length:=by
 rcases cr i recs.length with cj|j7
 ·have hr:recs[i]?=aa recs[i]:=bd cj;rw[g.abu hr];split
  ·rename_i ha;have h1:=g.aaT hr (dK ha);have:=Dy.1 ha;omega
  ·exact a_ _
 ·rw[jj j7,jj (by omega)]
  exact a_ _
theorem Good.OW (g:Good P T ops cl recs) {i j:Nat} (h:i≤j):ff (recs.take i) cl.hp.length≤ff (recs.take j) cl.hp.length:=by
 induction j with
 |zero =>
  have:i=0:=by omega
  rw[this];exact a_ _
 |succ j ih =>
  by_cases he:i=j+1
  ·rw[he];exact a_ _
  ·exact jq (ih (by omega)) (g.aj9 j)
theorem Good.afA (g:Good P T ops cl recs) (i:Nat):cl.hp.length≤ff (recs.take i) cl.hp.length:=by
 have:=g.OW (du i)
 rwa [sm] at this
theorem Good.Nu (g:Good P T ops cl recs) (i:Nat):ff (recs.take i) cl.hp.length≤ff recs cl.hp.length:=by
 rcases Nat.le_total i recs.length with h|h
 ·have:=g.OW h
  rwa [js] at this
 ·rw[jj h];exact a_ _
theorem Good.afl (g:Good P T ops cl recs) (hT:cL D P T) {i:Nat} {r:Rec R} (hr:recs[i]?=aa r):r.hx.length≤ff (recs.take (i+1)) cl.hp.length:=by
 rw[g.abu hr];split
 ·exact a_ _
 ·rename_i ha;have h1:=g.afq hr;have:¬ r.hr.length<r.hx.length:=fun h=>ha (Dy.2 h)
  omega
theorem Good.aa8 (g:Good P T ops cl recs) (hT:cL D P T) {i:Nat} {r:Rec R} (hr:recs[i]?=aa r):r.hx.length≤ff recs cl.hp.length:=jq (g.afl hT hr) (g.Nu _)
theorem Good.Pz (g:Good P T ops cl recs) (hT:cL D P T) {i b:Nat} {r:Rec R} (hr:recs[i]?=aa r) (h:newAt r b=ao):ff (recs.take i) cl.hp.length≤b/\b<ff (recs.take (i+1)) cl.hp.length:=by
 obtain⟨h1,h2⟩:=zu.1 h;have ha:E3 r=ao:=Dy.2 (by omega)
 have h3:=g.aaT hr (dK ha);have h4:=g.afl hT hr;omega
theorem Good.Hj (g:Good P T ops cl recs) (hT:cL D P T) {i b:Nat} {r:Rec R} (hr:recs[i]?=aa r) (h:newAt r b=ao):cl.hp.length≤b:=jq (g.afA i) (g.Pz hT hr h).1
theorem Good.aiL (g:Good P T ops cl recs) (hT:cL D P T) {i b:Nat} {r:Rec R} (hr:recs[i]?=aa r) (h:newAt r b=ao):b<ff recs cl.hp.length:=ly (g.Pz hT hr h).2 (g.Nu _)
theorem Good.Qx (g:Good P T ops cl recs) (hT:cL D P T) {i j c:Nat} {a b:Rec R} (hi:recs[i]?=aa a) (hj:recs[j]?=aa b) (ha:newAt a c=ao) (hb:newAt b c=ao):i=j:=by
 have h1:=g.Pz hT hi ha;have h2:=g.Pz hT hj hb;rcases nW i j with h|h|h
 ·have:=g.OW (show i+1≤j from h)
  omega
 ·exact h
 ·have:=g.OW (show j+1≤i from h)
  omega
theorem Good.adt (g:Good P T ops cl recs) (hT:cL D P T) {i b:Nat} {r:Rec R} {X:SB R} (hr:recs[i]?=aa r) (ht:gI r b=ao) (hb:fS r.hx b=aa X):g_ X=an:=by
 have hx:r.hx[b]?=aa (aa X):=by
  unfold fS at hb;split at hb
  ·rename_i hh;rw[hh,hb]
  ·cases hb
 rcases((g.hx hr hT).2.2 b X hx).2 with h|⟨Y,hY,hv⟩
 ·exact h
 ·simp only[gI,aL,jO] at ht;rcases ht.2 with h|h
  ·obtain⟨Z,hZ,Ub⟩:=qL.1 h.1;rw[hY] at hZ;injection hZ with hZ;injection hZ with hZ
   subst hZ;rw[hv] at Ub;cases Ub
  ·have h1:=(zu.1 h).1;have:=(aU.1 hY).1;omega
theorem Good.ad_ (g:Good P T ops cl recs) (hT:cL D P T) {p:Nat->Bool} {b:Nat} {X:SB R} (h:content p b recs 0 (fS cl.hp b)=aa X) (hv:g_ X=ao):fS cl.hp b=aa X:=by
 rcases uH (p:=p) (b:=b) recs 0 (fS cl.hp b) with e|⟨i,r,hr,_,ht,e⟩
 ·rw[← e];exact h
 ·rw[e] at h;have:=g.adt hT hr ht h;rw[hv] at this;cases this
theorem OB {α:Type} {h:List (Option α)} {b:Nat} {X:α} (hh:fS h b=aa X):b<h.length:=by
 unfold fS at hh;split at hh
 ·rename_i hx;exact(aU.1 hx).1
 ·cases hh
theorem Good.aaL (g:Good P T ops cl recs) (hT:cL D P T) {b:Nat} {X:SB R} (h:fS cl.hp b=aa X) (hv:g_ X=ao):∀ (i:Nat) {r:Rec R},recs[i]?=aa r->gI r b=an:=by
 intro i
 induction i using tJ with
 |_ i ih =>
  intro r hr;cases ht:gI r b with
  |false=>rfl
  |true =>
   exfalso
   simp only[gI,aL,jO] at ht;rcases ht.2 with h1|h1
   ·obtain⟨Y,hY,Ub⟩:=qL.1 h1.1;obtain⟨_,hc⟩:=g.Fh hr hY;rcases uH (p:=mem r.pre) (b:=b) recs 0 (fS cl.hp b) with e|⟨j,q,hq,hp,Mo,e⟩
    ·rw[e,h] at hc;injection hc with hc
     subst hc;rw[hv] at Ub;cases Ub
    ·rw[bV] at hp;rw[ih j (g.On i hr (mem_iff.1 hp)) hq] at Mo;cases Mo
   ·have h2:=g.Hj hT hr h1;have:=OB h;omega
theorem Good.NJ (g:Good P T ops cl recs) {i j:Nat} {a b:Rec R} (hi:recs[i]?=aa a) (hj:recs[j]?=aa b) (cj:i<j) (hn:mem b.pre i=an) {c:Nat} (hc:c<ff recs cl.hp.length) :
  ¬ (gI a c=ao/\C_ b c=ao)/\¬ (gI b c=ao/\C_ a c=ao):=by
 have:=g.pair hi hj cj;simp only[Ea,aL,jO,mQ] at this;obtain⟨_,h2⟩:=this;rcases h2 with h2|h3
 ·rw[hn] at h2;cases h2
 ·have key:(a.w=ao∨b.w=ao)->((gI a c&&C_ b c)||(gI b c&&C_ a c))=an:=fun hw=>by
   have hw':(a.w||b.w)=ao:=by simpa using hw
   rw[hw',je] at h3;unfold afT at h3;simp only[Bool.not_eq_false'] at h3;have:=zQ h3 hc
   simpa only [mQ] using this
  refine⟨fun⟨h5,h6⟩=>?_,fun⟨h5,h6⟩=>?_⟩
  ·have hw:a.w=ao:=by simp only[gI,aL] at h5;exact h5.1
   have:=key (dK hw);rw[h5,h6] at this;simp at this
  ·have hw:b.w=ao:=by simp only[gI,aL] at h5;exact h5.1
   have:=key (eV hw);rw[h5,h6] at this;simp at this
structure Next (recs:List (Rec R)) (p:Nat->Bool) (i:Nat) (r:Rec R):Prop where
 at_:recs[i]?=aa r
 new:p i=an
 pre:∀ j,j∈r.pre->p j=ao
 closed:∀ j q,p j=ao->recs[j]?=aa q->∀ l∈q.pre,p l=ao
variable {p:Nat->Bool} {i:Nat} {r:Rec R}
theorem Next.alone (n:Next recs p i r) (g:Good P T ops cl recs) {j:Nat} {q:Rec R} (hq:recs[j]?=aa q) (hp:p j=ao) (hm:mem r.pre j=an) {c:Nat} (hc:c<ff recs cl.hp.length) :
  ¬ (gI q c=ao/\C_ r c=ao)/\¬ (gI r c=ao/\C_ q c=ao):=by
 rcases cr j i with cj|j7
 ·exact g.NJ hq n.at_ cj hm hc
 ·have kv:j≠i:=fun e=>by rw[e,n.new] at hp;cases hp
  have cj:i<j:=by omega
  have hn:mem q.pre i=an:=by
   cases JH:mem q.pre i with
   |false=>rfl
   |true =>
    have:=n.closed j q hp hq i (mem_iff.1 JH);rw[n.new] at this;cases this
  obtain⟨h1,h2⟩:=g.NJ n.at_ hq cj hn hc;exact⟨h2,h1⟩
theorem Next.later (n:Next recs p i r) (g:Good P T ops cl recs) {j:Nat} {q:Rec R} (hq:recs[j]?=aa q) (hp:p j=ao) (cj:i<j):mem q.pre i=an:=by
 cases JH:mem q.pre i with
 |false=>rfl
 |true =>
  have:=n.closed j q hp hq i (mem_iff.1 JH);rw[n.new] at this;cases this
theorem Next.sub (n:Next recs p i r) (g:Good P T ops cl recs) (hT:cL D P T) {b:Nat} {X:SB R} (hb:r.hr[b]?=aa (aa X)):content p b recs 0 (fS cl.hp b)=aa X:=by
 obtain⟨cj,hc⟩:=g.Fh n.at_ hb;rw[← hc];refine v8 recs 0 _ fun j q hq ht=>?_
 rw[bV];cases hv:g_ X with
 |true =>
  have:=g.aaL hT (g.ad_ hT hc hv) hv j hq;rw[ht] at this;cases this
 |false =>
  cases hm:mem r.pre j with
  |true=>exact n.pre j (mem_iff.1 hm)
  |false =>
   cases hp:p j with
   |false=>rfl
   |true =>
    have Un:b<ff recs cl.hp.length:=ly cj (g.Nu i);exact absurd ⟨ht,by simp only[C_,jO];exact dK (qL.2 ⟨X,hb,hv⟩)⟩ (n.alone g hq hp hm Un).1
def rr (p:Nat->Bool) (i:Nat):Nat->Bool:=fun j=>fb j i||p j
theorem zj (p:Nat->Bool) (i:Nat):rr p i i=ao:=by simp[rr]
theorem xB (p:Nat->Bool) {i j:Nat} (h:j≠i):rr p i j=p j:=by
 have:fb j i=an:=by
  cases hb:fb j i with
  |false=>rfl
  |true=>exact absurd (cP hb) h
 simp[rr,this]
theorem Next.DD (n:Next recs p i r) {b:Nat} (ht:gI r b=an):content (rr p i) b recs 0 (fS cl.hp b)=content p b recs 0 (fS cl.hp b):=by
 refine v8 recs 0 _ fun j q hq Mo=>?_
 rw[bV];refine xB p fun e=>?_
 subst e;rw[n.at_] at hq;injection hq with hq
 subst hq;rw[ht] at Mo;cases Mo
theorem Next.WT (n:Next recs p i r) (g:Good P T ops cl recs) (hT:cL D P T) {b:Nat} (ht:gI r b=ao):content (rr p i) b recs 0 (fS cl.hp b)=fS r.hx b:=by
 have HX:C_ r b=ao:=by
  simp only[gI,aL,jO] at ht;simp only[C_,jO];exact ht.2.imp (fun h=>h.1) id
 have hb:b<ff recs cl.hp.length:=by
  simp only[C_,jO] at HX;rcases HX with h|h
  ·obtain⟨X,hX,_⟩:=qL.1 h;exact ly (g.Fh n.at_ hX).1 (g.Nu i)
  ·exact g.aiL hT n.at_ h
 refine Ke recs 0 _ i r n.at_ (by rw[bV];exact zj p i) ht fun j q hq cj hp=>?_
 rw[bV,xB p (by omega)] at hp
 cases Mo:gI q b with
 |false=>rfl
 |true=>exact absurd ⟨Mo,HX⟩ (g.NJ n.at_ hq cj (n.later g hq hp cj) hb).2
theorem Next.ajf (n:Next recs p i r) (g:Good P T ops cl recs) (hT:cL D P T) {b:Nat} (hb:newAt r b=ao):∀ (j:Nat) {q:Rec R},p j=ao->recs[j]?=aa q->gI q b=an:=by
 intro j
 induction j using tJ with
 |_ j ih =>
  intro q hp hq;cases ht:gI q b with
  |false=>rfl
  |true =>
   exfalso
   simp only[gI,aL,jO] at ht;rcases ht.2 with h1|h1
   ·obtain⟨Y,hY,_⟩:=qL.1 h1.1;obtain⟨_,hc⟩:=g.Fh hq hY;rcases uH (p:=mem q.pre) (b:=b) recs 0 (fS cl.hp b) with e|⟨l,q',hq',wY,Mo,e⟩
    ·rw[e] at hc;have:=OB hc;have:=g.Hj hT n.at_ hb;omega
    ·rw[bV] at wY;rw[ih l (g.On j hq (mem_iff.1 wY)) (n.closed j q hp hq l (mem_iff.1 wY)) hq'] at Mo;cases Mo
   ·have:=g.Qx hT n.at_ hq hb h1;rw[← this,n.new] at hp;cases hp
theorem Next.adY (n:Next recs p i r) (g:Good P T ops cl recs) (hT:cL D P T) {b:Nat} (hb:newAt r b=ao):content p b recs 0 (fS cl.hp b)=aj:=by
 rcases uH (p:=p) (b:=b) recs 0 (fS cl.hp b) with e|⟨j,q,hq,hp,ht,e⟩
 ·rw[e];cases h:fS cl.hp b with
  |none=>rfl
  |some X =>
   have:=OB h;have:=g.Hj hT n.at_ hb;omega
 ·rw[bV] at hp;rw[n.ajf g hT hb j hp hq] at ht;cases ht
theorem Next.TN (n:Next recs p i r) (g:Good P T ops cl recs) (hT:cL D P T) {j:Nat} {q:Rec R} (hq:recs[j]?=aa q) (hp:p j=ao) {b:Nat} (h:BI cl.hp.length recs q b=ao):(!newAt r b)=ao:=by
 cases hb:newAt r b with
 |false=>rfl
 |true =>
  exfalso
  simp only[BI,jO,fe] at h;rcases h with(h|h)|h
  ·have:=g.Hj hT n.at_ hb;omega
  ·have:=g.Qx hT n.at_ hq hb h;rw[← this,n.new] at hp;cases hp
  ·obtain⟨l,q',h1,h2,h3⟩:=Pn h;have:=g.Qx hT n.at_ h2 hb h3;have Jk:=n.closed j q hp hq l h1;rw[← this,n.new] at Jk;cases Jk
theorem Next.agi (n:Next recs p i r) (g:Good P T ops cl recs) (hT:cL D P T) (Wb:∀ b t cs,fS cl.hp b=aa (.inl (t,cs))->ix cl.hp.length cs=ao) {b:Nat} {t:TypeId} {cs:List Value}
  (h:content p b recs 0 (fS cl.hp b)=aa (.inl (t,cs))):AO (fun b=>!newAt r b) cs=ao:=by
 rcases uH (p:=p) (b:=b) recs 0 (fS cl.hp b) with e|⟨j,q,hq,hp,ht,e⟩
 ·rw[e] at h;refine DT (fun c hc=>?_) cs (Wb b t cs h)
  cases hb:newAt r c with
  |false=>rfl
  |true=>have:=g.Hj hT n.at_ hb;omega
 ·rw[bV] at hp;rw[e] at h;have hx:q.hx[b]?=aa (aa (.inl (t,cs))):=by
   unfold fS at h;split at h
   ·rename_i hh;rw[hh,h]
   ·cases h
  exact BV (fun c hc=>n.TN g hT hq hp hc) cs (X7 (Ez g.known hq).2 hx)
end
end Rx
namespace Rx
open Go.RowKit State
section
variable {R:Type} {D:fH R} {P:Program} {T:ez R} {C:Ctx} {ops:List Oper} {cl:SS R} {recs:List (Rec R)} {w w':World}
theorem Good.recAt (g:Good P T ops cl recs) {j:Nat} {o:Oper} (h:ops[j]?=aa o):∃ r,recs[j]?=aa r/\r.o=o:=by
 have hl:j<recs.length:=by rw[g.len];exact(aU.1 h).1
 have hr:recs[j]?=aa recs[j]:=bd hl;refine⟨_,hr,?_⟩;have:=(g.all j _ hr).o;rw[h] at this;injection this with this
 exact this.symm
theorem Good.aj' (g:Good P T ops cl recs) {i j:Nat} {a b:Oper} {t:Tmp} (hi:ops[i]?=aa a) (hj:ops[j]?=aa b) (ha:a.dst=aa t) (hb:b.dst=aa t):i=j:=by
 have key:∀ (i j:Nat) (a b:Oper),ops[i]?=aa a->ops[j]?=aa b->a.dst=aa t->b.dst=aa t->i<j->False:=by
  intro i j a b hi hj ha hb cj;obtain⟨ra,h1,h2⟩:=g.recAt hi;obtain⟨rb,h3,h4⟩:=g.recAt hj;have:=g.pair h1 h3 cj;simp only[Ea,aL,h2,h4,ha,hb] at this;have:=this.1;simp at this
 rcases nW i j with h|h|h
 ·exact(key i j a b hi hj ha hb h).elim
 ·exact h
 ·exact(key j i b a hj hi hb ha h).elim
theorem Good.Kn (g:Good P T ops cl recs) {i:Nat} {a:Oper} {t:Tmp} (hi:ops[i]?=aa a) (ha:a.dst=aa t):nv ops t 0=aa i:=by
 have:=VS (i0:=0) hi ha fun j o' hj cj e=>by
  have:=g.aj' hj hi e ha;omega
 rwa [bV] at this
theorem Qn {t j:Nat} (h:nv ops t 0=aa j):∃ o,ops[j]?=aa o/\o.dst=aa t:=by
 obtain⟨k,o,h1,h2,h3⟩:=W5 h;rw[bV] at h1;subst h1;exact⟨o,h2,h3⟩
theorem XR {pre tms:List Nat}:∀ {l:List (Option Value)} {t0 i:Nat} {x:Option Value},l[i]?=aa x->(E_ ops recs pre tms t0 l)[i]?=aa (if mem tms (t0+i) then
   match nv ops (t0+i) 0 with
   |some j=>if mem pre j then(match recs[j]? with
    |some r=>aa r.v
    |none=>aj) else if uM recs.length j then x else aj
   |none=>x
  else aj):=by
 intro l
 induction l with
 |nil=>intro t0 i x h;simp at h
 |cons y l ih =>
  intro t0 i x h;cases i with
  |zero =>
   simp only[cd,ct] at h;subst h;simp only[E_,cd,gT]
   all_goals rfl
  |succ i =>
   simp only[bH] at h;simp only[E_,bH];rw[ih (t0:=t0+1) h,show t0+1+i=t0+(i+1) by omega]
theorem H0 {i j:Nat} {r:Rec R} (h:(recs.take i)[j]?=aa r):j<i/\recs[j]?=aa r:=by
 have cj:j<i:=by
  have:=(aU.1 h).1;rw[dZ] at this;omega
 rw[Fo cj] at h;exact⟨cj,h⟩
theorem Good.lit (g:Good P T ops cl recs) (hT:cL D P T) (n9:LI cl.li cl.tm):∀ (i:Nat) {r:Rec R},recs[i]?=aa r ->
  (∀ b,r.lit=aa b->r.v=.bool b/\∀ t,r.o.dst=aa t->t<cl.tm.length) /\
  ∀ x,EE cl (oH ops cl (recs.take i) r.pre r.o) r.o x=ao->LI (oH ops cl (recs.take i) r.pre r.o).li (oH ops cl (recs.take i) r.pre r.o).tm:=by
 intro i
 induction i using tJ with
 |_ i ih =>
  intro r hr;have hLI:LI (oH ops cl (recs.take i) r.pre r.o).li (oH ops cl (recs.take i) r.pre r.o).tm:=by
   intro t b Dn;simp only[oH] at Dn ⊢;obtain⟨h1,h2⟩:=adi Dn;rcases h2 with⟨j,q,h3,h4,h5,h6⟩|⟨h3,h4⟩
   ·obtain⟨hji,hq⟩:=H0 h5;obtain⟨o,ho,hd⟩:=Qn h3;have hqo:q.o=o:=by
     have:=(g.all j q hq).o;rw[ho] at this;injection this with this
     exact this.symm
    obtain⟨hv,ht⟩:=(ih j hji hq).1 b h6;have cj:=ht t (by rw[hqo];exact hd)
    have:=XR (ops:=ops) (recs:=recs.take i) (pre:=r.pre) (tms:=tmpsOf r.o.op.operands.toList) (t0:=0) (bd cj);rw[bV,mem_iff.2 h1,h3] at this;simp only[if_true,mem_iff.2 h4,h5,hv] at this;exact this
   ·have h5:=n9 t b h4;have:=XR (ops:=ops) (recs:=recs.take i) (pre:=r.pre) (tms:=tmpsOf r.o.op.operands.toList) (t0:=0) h5;rw[bV,mem_iff.2 h1,h3] at this;simp only[w8]
    simpa using this
  refine⟨fun b hb=>?_,fun _ _=>hLI⟩
  rcases(g.all i r hr).Yo with⟨_,_,h1,_⟩|⟨_,x,hx,hs,_,hv,ZL,_⟩
  ·rw[h1] at hb;cases hb
  ·refine⟨?_,fun t ht=>?_⟩
   ·rw[hv];rcases ZL b hb with h|h
    ·obtain⟨rZ,NM,hx⟩:=hx;exact(UD hT NM hx (D:=D)).lit hLI b h
    ·exact h
   ·simp only[EE,aL,afm] at hs;have:=hs.1.1.1.2;rw[ht] at this
    simpa [fe] using this
structure za (D:fH R) (C:Ctx) (ops:List Oper) (cl:SS R) (recs:List (Rec R)) (p:Nat->Bool) (a:Act) (w:World):Prop where
 defers:a.defers=[]
 closed:∀ j q,p j=ao->recs[j]?=aa q->∀ l∈q.pre,p l=ao
 src:∀ b t cs,fS cl.hp b=aa (.inl (t,cs))->ix cl.hp.length cs=ao
 ex:∃ ρ ft,(∀ i,i<C.n0->ρ i=C.e0 i)/\a.tmps.size=cl.tm.length /\
  (∀ t v,(∀ j,nv ops t 0=aa j->p j=an)->cl.tm[t]?=aa (aa v)->a.tmps[t]?=aa (bT ρ v)/\fp cl.hp.length v=ao) /\
  (∀ t j q,t<cl.tm.length->nv ops t 0=aa j->p j=ao->recs[j]?=aa q->a.tmps[t]?=aa (bT ρ q.v)) /\
  HM D C ρ ft (kT cl.hp recs p (fun _=>ao) 0 (ff recs cl.hp.length)) w
theorem U_ (b:Nat) (acc:Option (SB R)):∀ (l:List (Rec R)) (j1:Nat),content (fun _=>an) b l j1 acc=acc:=by
 intro l
 induction l with
 |nil=>intro _;rfl
 |cons r l ih=>intro j1;simp only[content,B8,fO,if_false];exact ih _
theorem xM {h:Hp R} {b:Nat} (cj:b<h.length):h[b]?=aa (fS h b):=by
 unfold fS;rw[bd cj]
theorem aaB {α:Type} {h:List (Option α)} {b:Nat} (j7:h.length≤b):fS h b=aj:=by
 unfold fS;rw[dc j7]
theorem za.start (g:Good P T ops cl recs) (hT:cL D P T) {a:Act} (hm:M D C cl a w):za D C ops cl recs (fun _=>an) a w:=by
 obtain⟨ρ,ft,h0,h1,h2⟩:=hm.ex;refine⟨hm.defers,(fun j q hp=>by cases hp),(fun b t cs hb=>?_),ρ,ft,h0,h1.size,fun t v _ hv=>h1.val t v hv,(fun t j q _ _ hp=>by cases hp),?_⟩
 ·have cj:=OB hb;exact(h2.at_ b (.inl (t,cs)) (by rw[xM cj,hb])).2
 ·have hle:=g.Nu 0;rw[sm] at hle;simp only[ff] at hle;have:kT cl.hp recs (fun _=>an) (fun _=>ao) 0 (ff recs cl.hp.length)=cl.hp++lj (ff recs cl.hp.length-cl.hp.length) aj:=by
   apply nV;intro b;rcases cr b (ff recs cl.hp.length) with cj|j7
   ·rw[(jl _ 0 b).2 cj,U_,bV];rcases cr b cl.hp.length with Z'|akk
    ·rw[c_ Z',xM Z']
     rfl
    ·have anc:b-cl.hp.length<ff recs cl.hp.length-cl.hp.length:=by omega
     rw[dQ akk,aaB akk,List.getElem?_replicate,if_pos anc]
     rfl
   ·rw[dc (by rw[(jl _ 0 0).1];exact j7),dc (by rw[bA,List.length_replicate];omega)]
  rw[this];exact h2.grow _
theorem za.yield {a:Act} {p:Nat->Bool} (g:Good P T ops cl recs) (hT:cL D P T) (n9:LI cl.li cl.tm) (h:za D C ops cl recs p a w) {j:Nat} {q:Rec R} {b:Bool} {t:Tmp} (hq:recs[j]?=aa q) (hp:p j=ao)
  (hd:q.o.dst=aa t) (hb:q.lit=aa b):yielded ops.toArray a.tmps j=aa b:=by
 obtain⟨ρ,ft,_,_,_,h4,_⟩:=h.ex;have ho:=(g.all j q hq).o;obtain⟨hv,ht⟩:=(g.lit hT n9 j hq).1 b hb;have:=h4 t j q (ht t hd) (g.Kn ho hd) hp hq;rw[hv,V2] at this;exact IE (by unfold K7;rw[ho];exact hd) this
theorem za.aks {a:Act} {p:Nat->Bool} (g:Good P T ops cl recs) (h:za D C ops cl recs p a w) {j:Nat} {q:Rec R} {t:Tmp} (hq:recs[j]?=aa q) (hp:p j=ao)
  (hd:q.o.dst=aa t) (hv:q.v=vy):yielded ops.toArray a.tmps j=aj:=by
 obtain⟨ρ,ft,_,n7,_,h4,_⟩:=h.ex;have ho:=(g.all j q hq).o;have key:a.tmps[t]?=aj∨a.tmps[t]?=aa vy:=by
  rcases cr t cl.tm.length with cj|j7
  ·right
   have:=h4 t j q cj (g.Kn ho hd) hp hq;rw[hv] at this
   simpa [vy,bT,nC] using this
  ·left
   exact Array.getElem?_eq_none (by omega)
 unfold yielded;rcases key with key|key<;>simp[ho,hd,key,vy]
theorem za.step {a:Act} {p:Nat->Bool} (g:Good P T ops cl recs) (hT:cL D P T) (n9:LI cl.li cl.tm) (uu:C.n0≤cl.hp.length) (h:za D C ops cl recs p a w) {i:Nat} {r:Rec R} (n:Next recs p i r)
  {K:Act->World->Prop} {Q:Exit->Act->World->Prop} (hK:∀ a' w',za D C ops cl recs (rr p i) a' w'->K a' w'):wpOp P ops.toArray Q i K a w:=by
 have ho:=(g.all i r n.at_).o;have R6:∀ j q,rr p i j=ao->recs[j]?=aa q->∀ l∈q.pre,rr p i l=ao:=by
  intro j q hp hq l hl
  by_cases Bo:l=i
  ·subst Bo;exact zj p l
  ·rw[xB p Bo]
   by_cases hj:j=i
   ·subst hj;rw[n.at_] at hq;injection hq with hq
    subst hq;exact n.pre l hl
   ·rw[xB p hj] at hp;exact h.closed j q hp hq l hl
 obtain⟨ρ,ft,h0,h1,h2,h3,h4⟩:=h.ex;have afE:∀ b,b<cl.hp.length->newAt r b=an:=fun b hb=>by
  cases hh:newAt r b with
  |false=>rfl
  |true=>have:=g.Hj hT n.at_ hh;omega
 have frame:∀ (ni:Env) (Kk:Nat->Nat->Prop) (w':World) (v:Value),(∀ b,newAt r b=an->ni b=ρ b) ->
   v=bT ni r.v->HM D C ni Kk (kT cl.hp recs (rr p i) (fun _=>ao) 0 (ff recs cl.hp.length)) w' ->
   za D C ops cl recs (rr p i) (a.put r.o.dst v) w':=by
  intro ni Kk w' v qD hv hm;have afn:∀ u,fp cl.hp.length u=ao->bT ρ u=bT ni u:=fun u hu=>nh (n:=cl.hp.length) (fun b hb=>(qD b (afE b hb)).symm) u hu
  have afO:∀ j q,p j=ao->recs[j]?=aa q->bT ρ q.v=bT ni q.v:=fun j q hp hq =>
   VW (f:=BI cl.hp.length recs q) (fun b hb=>(qD b (by simpa using n.TN g hT hq hp hb)).symm) q.v (Ez g.known hq).1
  refine⟨by cases r.o.dst<;>exact h.defers,R6,h.src,ni,Kk,fun b hb=>?_,?_,fun t u hd hu=>?_,fun t j q ht hd hp hq=>?_,hm⟩
  ·rw[qD b (afE b (by omega))];exact h0 b hb
  ·cases hd:r.o.dst with
   |none=>exact h1
   |some t=>simp[B7,h1]
  ·obtain⟨k1,k2⟩:=h2 t u (fun j hj=>by
    have:=hd j hj
    by_cases hji:j=i
    ·subst hji;rw[zj] at this;cases this
    ·rwa [xB p hji] at this) hu
   refine⟨?_,k2⟩;cases wX:r.o.dst with
   |none=>simp only[B7];rw[k1,afn u k2]
   |some t' =>
    have kv:t'≠t:=fun e=>by
     subst e;have:=hd i (g.Kn ho wX);rw[zj] at this;cases this
    simp only[B7];rw[Ae kv,k1,afn u k2]
  ·by_cases hj:j=i
   ·subst hj;rw[n.at_] at hq;injection hq with hq
    subst hq;obtain⟨o,ho',hdo⟩:=Qn hd;rw[ho] at ho';injection ho' with ho'
    subst ho';simp only[hdo,B7];rw[Array.getElem?_setIfInBounds];simp[h1,ht,hv]
   ·rw[xB p hj] at hp;have k1:=h3 t j q ht hd hp hq;cases wX:r.o.dst with
    |none=>simp only[B7];rw[k1,afO j q hp hq]
    |some t' =>
     have kv:t'≠t:=fun e=>by
      subst e;rw[g.Kn ho wX] at hd;injection hd with hd
      exact hj hd.symm
     simp only[B7];rw[Ae kv,k1,afO j q hp hq]
 have guard:∀ (m:Nat),Hk (recs.take i) r.pre r.o.guard=m->m<2->kB r.o (yielded ops.toArray a.tmps)=(fb m 0):=by
  intro m hg hm;unfold Hk at hg;split at hg
  ·rename_i hgd;subst hg;simp[kB,hgd]
  ·rename_i j want hgd;split at hg
   ·rename_i hmj;split at hg
    ·rename_i q hq;obtain⟨_,hq⟩:=H0 hq;split at hg
     ·rename_i t hd;split at hg
      ·rename_i b hb;have hy:=h.yield g hT n9 hq (n.pre j (mem_iff.1 hmj)) hd hb;split at hg
       ·rename_i hbw;subst hg;simp[kB,hgd,hy]
        simpa using hbw
       ·rename_i hbw;subst hg;simp[kB,hgd,hy];have:(b==want)=an:=by simpa using hbw
        rw[this]
        rfl
      ·split at hg
       ·rename_i hu;subst hg;have hy:=h.aks g hq (n.pre j (mem_iff.1 hmj)) hd (Oi hu);have e:kB r.o (yielded ops.toArray a.tmps)=((aj:Option Bool)==aa want):=by simp only[kB,hgd,hy]
        rw[e];cases want<;>rfl
       ·omega
     ·omega
    ·omega
   ·omega
 have hL:(kT cl.hp recs p (fun _=>ao) 0 (ff recs cl.hp.length)).length=ff recs cl.hp.length:=(jl _ 0 0).1
 have Pk:∀ b,b<ff recs cl.hp.length->(kT cl.hp recs (rr p i) (fun _=>ao) 0 (ff recs cl.hp.length))[b]?=aa (content (rr p i) b recs 0 (fS cl.hp b)):=fun b hb=>by
  rw[(jl _ 0 b).2 hb,bV];simp
 have J':∀ b,b<ff recs cl.hp.length->(kT cl.hp recs p (fun _=>ao) 0 (ff recs cl.hp.length))[b]?=aa (content p b recs 0 (fS cl.hp b)):=fun b hb=>by
  rw[(jl _ 0 b).2 hb,bV];simp
 unfold wpOp;rw[jE,ho];simp only;rcases(g.all i r n.at_).Yo with⟨hg,hv,hl,hhr,A3,hw⟩|⟨hg,x,hx,hs,O5,hv,ZL,hhr,A3,hw⟩
 ·rw[guard 1 hg (by omega)]
  simp only[fb,fO,if_false];have hnt:∀ b,gI r b=an:=fun b=>by simp[gI,hw]
  have Tc:kT cl.hp recs (rr p i) (fun _=>ao) 0 (ff recs cl.hp.length)=kT cl.hp recs p (fun _=>ao) 0 (ff recs cl.hp.length):=by
   apply nV;intro b;rcases cr b (ff recs cl.hp.length) with cj|j7
   ·rw[Pk b cj,J' b cj,n.DD (hnt _)]
   ·rw[dc (by rw[(jl _ 0 0).1];exact j7),dc (by rw[(jl _ 0 0).1];exact j7)]
  refine hK _ _ (frame ρ ft w undef (fun _ _=>rfl) ?_ ?_)
  ·rw[hv];simp[undef,bT,nC]
  ·rw[Tc];exact h4
 ·rw[guard 0 hg (by omega)]
  simp only[fb,if_true]
  left
  have hsx:=hs;simp only[EE,aL] at hsx;obtain⟨⟨⟨⟨k1,k2⟩,k3⟩,k4⟩,k5⟩:=hsx;simp only[tidy,aL] at k1;obtain⟨rZ,NM,hx⟩:=hx;have um:=UD hT NM hx (D:=D);have hLI:=(g.lit hT n9 i n.at_).2 x hs;have AI:=g.hx n.at_ hT;have hrN:r.hr.length≤ff recs cl.hp.length:=jq (g.afq n.at_) (g.Nu i);have hxN:r.hx.length≤ff recs cl.hp.length:=g.aa8 hT n.at_;have nj:∀ (b:Nat) (X:SB R),r.hr[b]?=aa (aa X)->(kT cl.hp recs p (fun _=>ao) 0 (ff recs cl.hp.length))[b]?=aa (aa X):=fun b X hb=>by
   have cj:b<ff recs cl.hp.length:=by
    have:=(aU.1 hb).1;omega
   rw[J' b cj,n.sub g hT hb]
  rw[← hhr] at k3 k4 k5;have alM:=h4.sub nj k3 0;have hTM:TM ρ r.hr.length (oH ops cl (recs.take i) r.pre r.o).tm a:=by
   refine⟨?_,fun t v yb=>?_⟩
   ·simp only[oH,w8];rw[(Iu (t0:=0) (i:=0) (v:=undef)).1,h1]
   ·have j8:fp r.hr.length v=ao:=wR.1 k4 v (acJ yb);simp only[oH,w8] at yb;have FP:t<cl.tm.length:=by
     have:=(aU.1 yb).1
     rwa [(Iu (t0:=0) (i:=0) (v:=undef)).1] at this
    obtain⟨_,hh⟩:=(Iu (t0:=0) (i:=t) (v:=v)).2 yb;rw[bV] at hh;rcases hh with⟨j,q,g1,g2,g3,g4⟩|⟨g1,g2⟩|⟨j,g1,g2,g3⟩
    ·obtain⟨_,hq⟩:=H0 g3;have:=h3 t j q FP g1 (n.pre j g2) hq;rw[← g4] at this;exact⟨this,j8⟩
    ·exact⟨(h2 t v (fun j hj=>by rw[g1] at hj;cases hj) g2).1,j8⟩
    ·have hlen:i<recs.length:=(aU.1 n.at_).1;have hij:i≤j:=by
      rw[dZ] at g2;omega
     refine⟨(h2 t v (fun j' Mh=>?_) g3).1,j8⟩
     rw[g1] at Mh;injection Mh with Mh
     subst Mh;cases RV:p j with
     |false=>rfl
     |true =>
      exfalso
      rcases cr i j with cj|j7
      ·obtain⟨o,hoj,hdo⟩:=Qn g1;obtain⟨q,hq,hqo⟩:=g.recAt hoj;have RO:=g.pair n.at_ hq cj;simp only[Ea,aL] at RO;have Uw:=RO.1.1;simp only[aar,hqo,hdo,jO,mQ] at Uw;have hmt:mem (tmpsOf r.o.op.operands.toList) t=ao:=mem_iff.2 (by
        have:=((Iu (t0:=0) (i:=t) (v:=v)).2 yb).1
        rwa [bV] at this)
       rcases Uw with Uw|Uw
       ·rw[hmt] at Uw;cases Uw
       ·have:=h.closed j q RV hq i (mem_iff.1 Uw);rw[n.new] at this;cases this
      ·have:j=i:=by omega
       subst this;rw[n.new] at RV;cases RV
  have nP:=um.run (PJ w r.hr ft ρ 0) ρ _ a w K Q (by rw[← hhr];exact hTM) hLI (by rw[← hhr];exact alM) O5
  refine nP fun gv ku w' aiM mG=>?_
  rw[← hhr] at aiM;rw[← A3] at mG;have JH:HM D C (fun b=>if newAt r b then gv b else ρ b) ft (kT cl.hp recs p (fun _=>ao) 0 (ff recs cl.hp.length)) w:=by
   have cj:∀ (b:Nat) (X:SB R),(kT cl.hp recs p (fun _=>ao) 0 (ff recs cl.hp.length))[b]?=aa (aa X)->content p b recs 0 (fS cl.hp b)=aa X:=fun b X hb=>by
    have cj:=(aU.1 hb).1;rw[hL] at cj;rw[J' b cj] at hb;injection hb
   refine h4.alg (f:=fun b=>!newAt r b) (fun b hb=>?_) (fun b X hb=>?_) (fun b t cs hb=>n.agi g hT h.src (cj b _ hb))
   ·have:newAt r b=an:=by simpa using hb
    simp[this]
   ·cases hnb:newAt r b with
    |false=>rfl
    |true =>
     have:=cj b X hb;rw[n.adY g hT hnb] at this;cases this
  have Rr:∀ b,b<r.hx.length->(if newAt r b then gv b else ρ b)=gv b:=fun b hb=>by
   split
   ·rfl
   ·rename_i hnb;refine(aiM b ?_).symm;refine iy fun j7=>hnb (zu.2 ⟨by omega,hb⟩)
  have hex:∃ Kk,HM D C (fun b=>if newAt r b then gv b else ρ b) Kk (kT cl.hp recs (rr p i) (fun _=>ao) 0 (ff recs cl.hp.length)) w':=by
   refine JH.alR nj (n:=0) (h':=kT cl.hp recs (rr p i) (fun _=>ao) 0 (ff recs cl.hp.length)) mG Rr (by rw[hL];exact hxN) AI.2.2
    (by rw[(jl _ 0 0).1,hL]) (fun b hb=>?_) (fun b hb hn=>?_)
   ·-- what may have anH
    have hbN:b<ff recs cl.hp.length:=by
     rcases hb with⟨Y,hY,_⟩|hb
     ·have:=(aU.1 hY).1;omega
     ·omega
    by_cases hkp:∃ Y,r.hr[b]?=aa (aa Y)/\Lm r.o r.wl b=ao
    ·obtain⟨Y,hY,hk⟩:=hkp;have cj:=(aU.1 hY).1;have hxe:=g.kept n.at_ hT cj hk;have hlx:b<r.hx.length:=ly cj AI.1;have hnt:gI r b=an:=by
      have hnw:newAt r b=an:=by
       cases hh:newAt r b with
       |false=>rfl
       |true=>have:=(zu.1 hh).1;omega
      simp[gI,hk,hnw]
     rw[if_pos hlx,Pk b hbN,n.DD hnt,n.sub g hT hY,hxe,hY]
    ·by_cases TK:r.w=ao
     ·have ht:gI r b=ao:=by
       simp only[gI,TK,je,jO,aL,mQ];rcases hb with hb|hb
       ·refine dK ⟨qL.2 hb,?_⟩;obtain⟨Y,hY,_⟩:=hb;cases hk:Lm r.o r.wl b with
        |false=>rfl
        |true=>exact absurd ⟨Y,hY,hk⟩ hkp
       ·exact eV (zu.2 hb)
      rw[Pk b hbN,n.WT g hT ht];split
      ·rename_i cj;rw[xM cj]
      ·rename_i j7;rw[aaB (by omega)]
     ·have r_:r.w=an:=by cases hh:r.w<;>simp_all
      have hxe:=AI.2.1 r_;rcases hb with⟨Y,hY,XF⟩|hb
      ·have cj:=(aU.1 hY).1;rw[if_pos (by rw[hxe];exact cj),Pk b hbN,n.DD (by simp[gI,r_]),n.sub g hT hY,hxe,hY]
      ·rw[hxe] at hb;omega
   ·rw[hL] at hb;have hnt:gI r b=an:=by
     cases ht:gI r b with
     |false=>rfl
     |true =>
      simp only[gI,aL,jO] at ht;rcases ht.2 with h5|h5
      ·exact absurd (dK (qL.1 h5.1)) hn
      ·exact absurd (eV (zu.1 h5)) hn
    rw[Pk b hb,J' b hb,n.DD hnt]
  obtain⟨Kk,Zk⟩:=hex;refine hK _ _ (frame _ Kk _ _ (fun b hb=>by simp[hb]) ?_ Zk)
  rw[hv];exact(nh (n:=r.hx.length) Rr _ (by rw[A3];exact k1.1)).symm
theorem Good.alL (g:Good P T ops cl recs) (hT:cL D P T) {i:Nat} {r:Rec R} (hr:recs[i]?=aa r):fp (ff recs cl.hp.length) r.v=ao:=by
 have hN:=g.aa8 hT hr;rcases(g.all i r hr).Yo with⟨_,hv,_⟩|⟨_,x,_,hs,_,hv,_,_,A3,_⟩
 ·rw[hv];simp[undef,fp,ix]
 ·simp only[EE,aL,tidy] at hs;rw[hv];rw[A3] at hN;exact BF hN _ hs.1.1.1.1.1
def vt (f:Nat->Bool):Nat->Nat
 |0=>0
 |n+1=>(if f n then 0 else 1)+vt f n
theorem Gp {f h:Nat->Bool}:∀ {n:Nat},(∀ j,j<n->f j=h j)->vt f n=vt h n
 |0,_=>rfl
 |n+1,hh=>by simp only[vt];rw[hh n (by omega),Gp (fun j hj=>hh j (by omega))]
theorem So {f:Nat->Bool} {i:Nat}:∀ {n:Nat},i<n->f i=an->vt (rr f i) n+1=vt f n
 |0,h,_=>by omega
 |n+1,h,hf=>by
  simp only[vt]
  by_cases he:i=n
  ·subst he;rw[zj,hf,Gp (f:=rr f i) (h:=f) (fun j hj=>xB f (by omega))]
   simp;omega
  ·rw[xB f (Ne.symm he)];have:=So (n:=n) (by omega) hf
   omega
theorem R3 {f:Nat->Bool} {i:Nat}:∀ {n:Nat},i<n->f i=an->0<vt f n
 |0,h,_=>by omega
 |n+1,h,hf=>by
  simp only[vt]
  by_cases he:i=n
  ·subst he;rw[hf];simp;omega
  ·have:=R3 (n:=n) (by omega) hf;omega
def m8 (listed:Array Bool):Nat->Bool:=fun j=>listed.getD j an
theorem ER:∀ {l:List (Option Value)} {t0 i:Nat},(Il ops recs t0 l).length=l.length/\∀ x,l[i]?=aa x->(Il ops recs t0 l)[i]?=aa (match nv ops (t0+i) 0 with
  |some j=>(match recs[j]? with
   |some r=>aa r.v
   |none=>aj)
  |none=>x):=by
 intro l
 induction l with
 |nil=>intro t0 i;exact⟨rfl,fun x h=>by simp at h⟩
 |cons y l ih =>
  intro t0 i;refine⟨by simp[Il,(ih (t0:=t0+1) (i:=0)).1],fun x h=>?_⟩
  cases i with
  |zero =>
   simp only[cd,ct] at h;subst h;simp only[Il,cd,gT]
   all_goals rfl
  |succ i =>
   simp only[bH] at h;simp only[Il,bH];rw[(ih (t0:=t0+1) (i:=i)).2 x h,show t0+1+i=t0+(i+1) by omega]
theorem za.done {a:Act} {p:Nat->Bool} (g:Good P T ops cl recs) (hT:cL D P T) (n9:LI cl.li cl.tm) (h:za D C ops cl recs p a w) (pX:∀ j,j<ops.length->p j=ao):M D C (A7 ops cl recs) a w:=by
 obtain⟨ρ,ft,h0,h1,h2,h3,h4⟩:=h.ex;have hp:∀ j r,recs[j]?=aa r->p j=ao:=fun j r hr=>pX j (by rw[← g.len];exact(aU.1 hr).1)
 have Tc:kT cl.hp recs p (fun _=>ao) 0 (ff recs cl.hp.length)=(A7 ops cl recs).hp:=by
  simp only[A7];apply nV;intro b;rcases cr b (ff recs cl.hp.length) with cj|j7
  ·rw[(jl _ 0 b).2 cj,(jl _ 0 b).2 cj];simp only[if_true]
   congr 1
   exact v8 recs 0 _ fun j r hr _=>by rw[bV];exact hp j r hr
  ·rw[dc (by rw[(jl _ 0 0).1];exact j7),dc (by rw[(jl _ 0 0).1];exact j7)]
 have hhl:(A7 ops cl recs).hp.length=ff recs cl.hp.length:=by rw[← Tc,(jl _ 0 0).1]
 rw[Tc] at h4;refine⟨h.defers,fun t b Dn=>?_,ρ,ft,h0,⟨?_,fun t v yb=>?_⟩,h4⟩
 ·simp only[A7,afB] at Dn ⊢;rcases b5.1 Dn with Dn|Dn
  ·obtain⟨r,hr,Dn⟩:=List.mem_flatMap.1 Dn;obtain⟨j,hj,hj2⟩:=List.mem_iff_getElem.1 hr;have tY:recs[j]?=aa r:=by rw[bd hj,hj2]
   split at Dn
   ·rename_i u c hd ZL;split at Dn
    ·simp only[ia,tw] at Dn;obtain⟨rfl,rfl⟩:=Dn;obtain⟨hv,ht⟩:=(g.lit hT n9 j tY).1 b ZL;have cj:=ht t hd;have:=(ER (ops:=ops) (recs:=recs) (l:=cl.tm) (t0:=0) (i:=t)).2 _ (bd cj);rw[bV,g.Kn (g.all j r tY).o hd] at this;simp only[tY,hv] at this;exact this
    ·simp at Dn
   ·simp at Dn
  ·obtain⟨h5,h6⟩:=List.mem_filter.1 Dn;have:=(ER (ops:=ops) (recs:=recs) (l:=cl.tm) (t0:=0) (i:=t)).2 _ (n9 t b h5);rw[bV] at this;cases hd:nv ops t 0 with
   |none=>rw[hd] at this;exact this
   |some j=>rw[hd] at h6;cases h6
 ·simp only[A7];rw[(ER (t0:=0) (i:=0)).1];exact h1
 ·simp only[A7] at yb;have FP:t<cl.tm.length:=by
   have:=(aU.1 yb).1
   rwa [(ER (t0:=0) (i:=0)).1] at this
  rw[(ER (ops:=ops) (recs:=recs) (l:=cl.tm) (t0:=0) (i:=t)).2 _ (bd FP),bV] at yb;rw[hhl];cases hd:nv ops t 0 with
  |none =>
   rw[hd] at yb;injection yb with yb
   obtain⟨k1,k2⟩:=h2 t v (fun j hj=>by rw[hd] at hj;cases hj) (by rw[bd FP];exact congrArg aa yb)
   have hle:=g.Nu 0;rw[sm] at hle;exact⟨k1,BF hle v k2⟩
  |some j =>
   rw[hd] at yb;simp only at yb;split at yb
   ·rename_i r hr;injection yb with yb
    injection yb with yb
    subst yb;exact⟨h3 t j r FP hd (hp j r hr) hr,g.alL hT hr⟩
   ·cases yb
theorem OY {listed:Array Bool} {i j:Nat} (hi:i<listed.size):m8 (listed.setIfInBounds i ao) j=rr (m8 listed) i j:=by
 unfold m8
 by_cases he:j=i
 ·subst he;rw[zj];simp[DH,hi]
 ·rw[xB _ he];exact getD_set_ne an (Ne.symm he)
theorem agy (g:Good P T ops cl recs) (hT:cL D P T) (n9:LI cl.li cl.tm) (uu:C.n0≤cl.hp.length) {Q:Exit->Act->World->Prop} (hQ:∀ a w,M D C (A7 ops cl recs) a w->Q .normal a w) :
  ∀ (fuel:Nat) (listed:Array Bool) (a:Act) (w:World),listed.size=ops.length->vt (m8 listed) ops.length≤fuel->za D C ops cl recs (m8 listed) a w->wpAny P .any ops.toArray Q fuel listed a w:=by
 have afw:∀ (listed:Array Bool) (a:Act) (w:World),listed.size=ops.length->za D C ops cl recs (m8 listed) a w->KR .any ops.toArray listed=[]->Q .normal a w:=by
  intro listed a w n7 hi hr;refine hQ a w (hi.done g hT n9 fun j=>?_)
  induction j using tJ with
  |_ j ih =>
   intro hj;cases hp:m8 listed j with
   |true=>rfl
   |false =>
    exfalso
    have ho:ops[j]?=aa ops[j]:=bd hj;obtain⟨r,hrr,hro⟩:=g.recAt ho;have:j∈KR .any ops.toArray listed:=by
     refine mem_ready.2 ⟨?_,ops[j],by rw[jE,ho],fun e he hb=>?_⟩
     ·unfold m8 at hp;simp only[DH,n7,hj,dif_pos] at hp ⊢;exact hp
     ·have h1:=(Gh (g.all j r hrr).pre).1 e (by rw[hro];exact IT.2 he) hb
      have cj:=g.On j hrr h1;exact ih e.on cj (by omega)
    rw[hr] at this;cases this
 intro fuel
 induction fuel with
 |zero =>
  intro listed a w n7 hle hi;have pX:∀ j,j<ops.length->m8 listed j=ao:=fun j hj=>by
   cases hp:m8 listed j with
   |true=>rfl
   |false=>have:=R3 hj hp;omega
  have hr:KR .any ops.toArray listed=[]:=by
   refine List.eq_nil_iff_forall_not_mem.2 fun j hj=>?_
   obtain⟨h1,o,h2,_⟩:=mem_ready.1 hj;have cj:j<ops.length:=by
    rw[jE] at h2;exact(aU.1 h2).1
   have:=pX j cj;unfold m8 at this;simp only[DH,n7,cj,dif_pos] at this h1;rw[this] at h1;cases h1
  exact⟨hr,afw listed a w n7 hi hr⟩
 |succ fuel ih =>
  intro listed a w n7 hle hi;refine⟨afw listed a w n7 hi,fun i hir=>?_⟩
  obtain⟨h1,o,h2,h3⟩:=mem_ready.1 hir;rw[jE] at h2;have cj:i<ops.length:=(aU.1 h2).1;obtain⟨r,hrr,hro⟩:=g.recAt h2;have uo:m8 listed i=an:=by
   unfold m8;simp only[DH,n7,cj,dif_pos] at h1 ⊢;exact h1
  have hn:Next recs (m8 listed) i r:=by
   refine⟨hrr,uo,fun j hj=>?_,hi.closed⟩
   obtain⟨e,he,hb,q,hq,Wh⟩:=(Gh (g.all i r hrr).pre).2 j hj;have mN:=h3 e (by rw[hro] at he;exact IT.1 he) hb
   rcases Wh with rfl|Wh
   ·exact mN
   ·exact hi.closed e.on q mN (H0 hq).2 j Wh
  refine hi.step g hT n9 uu hn fun a' w' lP=>ih _ a' w' (by simpa using n7) ?_ ?_
  ·have e:vt (m8 (listed.setIfInBounds i ao)) ops.length=vt (rr (m8 listed) i) ops.length:=Gp fun j _=>OY (by omega)
   have:=So cj uo;omega
  ·have e:m8 (listed.setIfInBounds i ao)=rr (m8 listed) i:=funext fun j=>OY (by omega)
   rw[e];exact lP
theorem XG (hT:cL D P T) (Mw:P.follows .mixedOrders=ao) {id:Nat} {k:SS R->Prop} {m:Nat} {vS:List (Nat×Bool)} {a:Act} {Q:Exit->Act->World->Prop} (h:EV P T ops cl k m vS) (hm:M D C cl a w) (hn:C.n0≤cl.hp.length)
  (hK:∀ oy a' w',k oy->C.n0≤oy.hp.length->M D C oy a' w'->Q .normal a' w'):(Code.region id ops.toArray ao).wp P Q a w:=by
 obtain⟨recs,h1,h2,h3,wS,h4⟩:=JZ m h;have g:Good P T ops cl recs:=⟨h1,h2,h3,wS⟩;refine wp_region_any Mw ?_;have mG:M D C cl a { w with drawn:=w.drawn+1 }:=by
  obtain⟨ρ,ft,q0,q1,q2⟩:=hm.ex;exact⟨hm.defers,hm.li,ρ,ft,q0,q1,q2.same rfl rfl rfl rfl⟩
 have hz:m8 (Array.replicate ops.toArray.size an)=fun _=>an:=by
  funext j
  unfold m8;simp only[DH];split
  ·simp
  ·rfl
 refine agy g hT hm.li hn (fun a' w' hM=>hK _ a' w' h4 ?_ hM) _ _ a _ (by simp) ?_ ?_
 ·have:=g.afA recs.length;rw[js] at this;simp only[A7];rw[(jl _ 0 0).1];omega
 ·rw[hz];have:∀ n,vt (fun _=>an) n≤n:=fun n=>by
   induction n with
   |zero=>simp[vt]
   |succ n ih=>simp only[vt];simp;omega
  simpa using this ops.length
 ·rw[hz];exact za.start g hT mG
end
end Rx
namespace Rx
open Go.RowKit State
section
variable {R:Type} {D:fH R} {P:Program} {T:ez R} {C:Ctx} {w w':World}
def rx (D:fH R) (P:Program) (T:ez R) (root:Code) (n0:Nat) (k:Exit->SS R->Prop):Nat->List (It R)->SS R->Prop
 |0,todo,σ=>At D P root n0 k todo σ
 |n+1,todo,σ =>
  match todo with
  |[]=>k .normal σ
  |.inr (.inl _)::r=>rx D P T root n0 k n r σ
  |.inr (.inr J)::r=>aW (J σ)
  |.inl p::r =>
   match iV root p with
   |none=>oh 5
   |some c =>
    match c with
    |.skip=>rx D P T root n0 k n r σ
    |.label _=>rx D P T root n0 k n r σ
    |.seq _ _=>rx D P T root n0 k n (.inl (p++[0]) :: .inl (p++[1])::r) σ
    |.block id _=>rx D P T root n0 k n (.inl (p++[0]) :: .inr (.inl id)::r) σ
    |.cond x _ _ =>
     match Gb σ.li x with
     |some ao=>rx D P T root n0 k n (.inl (p++[0])::r) σ
     |some an=>rx D P T root n0 k n (.inl (p++[1])::r) σ
     |none =>
      match x with
      |.tmp t=>match σ.tm[t]? with
       |some (aa (.bool b)) =>
        (b=ao->Jf (assume σ t ao) fun σ=>rx D P T root n0 k n (.inl (p++[0])::r) σ) /\
        (b=an->Jf (assume σ t an) fun σ=>rx D P T root n0 k n (.inl (p++[1])::r) σ)
       |_=>oh 6
      |_=>oh 7
    |.exit id =>
     match DB id r with
     |some r'=>rx D P T root n0 k n r' σ
     |none=>k (.exit id) σ
    |.ret=>k .ret σ
    |.region _ ⟨ops⟩ an=>vR P T ops ops σ fun oy=>rx D P T root n0 k n r oy
    |.region _ ⟨ops⟩ ao=>EV P T ops σ (fun oy=>rx D P T root n0 k n r oy) (ops.length+1) []
    |_=>At D P root n0 k (.inl p::r) σ
theorem cJ (hT:cL D P T) (Mw:P.follows .mixedOrders=ao) {root:Code} {n0:Nat} {k:Exit->SS R->Prop}:∀ (n:Nat) {todo:List (It R)} {σ:SS R},rx D P T root n0 k n todo σ->At D P root n0 k todo σ
 |0,todo,σ,h=>h
 |n+1,todo,σ,h=>by
  refine⟨fun C a w hC hn hm=>?_⟩
  have ih:∀ {todo:List (It R)} {σ:SS R} {a:Act} {w:World},rx D P T root n0 k n todo σ->n0≤σ.hp.length->M D C σ a w->pB D P C root k todo .normal a w:=fun h hn hm=>(cJ hT Mw n h).run C _ _ hC hn hm
  unfold rx at h;simp only[Km] at h;split at h
  ·exact⟨σ,h,hm⟩
  ·rename_i id r;show pB D P C root k r .normal a w
   exact ih h hn hm
  ·rename_i J r;exact⟨σ,h.out,by rw[hC];exact hn,hm⟩
  ·rename_i p r;split at h
   ·exact h.elim
   ·rename_i c hc;simp only[pB,hc];have sub:∀ (i:Nat) (d:Code),iV c [i]=aa d->iV root (p++[i])=aa d:=fun i d hd=>by rw[ob p root c [i] hc];exact hd
    split at h
    ·exact wp_skip (ih h hn hm)
    ·exact wp_label (ih h hn hm)
    ·rename_i x y;have h1:=ih h hn hm;simp only[pB,sub 0 x (by simp[iV])] at h1
     refine wp_seq (wp_mono h1 fun e a' w' h2=>?_)
     cases e with
     |normal =>
      simp only[sub 1 y (by simp[iV])] at h2
      exact h2
     |_=>exact h2
    ·rename_i id x;have h1:=ih h hn hm;simp only[pB,sub 0 x (by simp[iV])] at h1
     exact wp_block h1
    ·rename_i x y z;split at h
     ·rename_i hl;have h1:=ih h hn hm;simp only[pB,sub 0 y (by simp[iV])] at h1
      obtain⟨ρ,ft,_,g1,_⟩:=hm.ex;have:=(ek g1 (yB hm.li hl)).1;exact wp_cond_true (by simpa using this) h1
     ·rename_i hl;have h1:=ih h hn hm;simp only[pB,sub 1 z (by simp[iV])] at h1
      obtain⟨ρ,ft,_,g1,_⟩:=hm.ex;have:=(ek g1 (yB hm.li hl)).1;exact wp_cond_false (by simpa using this) h1
     ·split at h
      ·rename_i t _;split at h
       ·rename_i b hb;have ht:=YY hm hb;have he:a.eval (.tmp t)=.bool b:=by simp[B6,ht]
        cases b with
        |true =>
         have h1:=ih (h.1 rfl) (by simpa [assume] using hn) (hm.assume hb)
         simp only[pB,sub 0 y (by simp[iV])] at h1
         exact wp_cond_true he h1
        |false =>
         have h1:=ih (h.2 rfl) (by simpa [assume] using hn) (hm.assume hb)
         simp only[pB,sub 1 z (by simp[iV])] at h1
         exact wp_cond_false he h1
       ·exact h.elim
      ·exact h.elim
    ·rename_i id;refine wp_exit (EJ ?_);split at h
     ·rename_i r' wY;rw[wY];exact ih h hn hm
     ·rename_i wY;rw[wY];exact⟨σ,h,hm⟩
    ·exact wp_ret (Hd ⟨σ,h,hm⟩)
    ·rename_i id ops;refine wp_region_list ?_;exact FI hT ops h hm (by omega) fun oy a' w' h' ya mG=>ih h' (by omega) mG
    ·rename_i id ops;exact XG hT Mw h hm (by omega) fun oy a' w' h' ya mG=>ih h' (by omega) mG
    ·have:=h.run C a w hC hn hm
     simpa only [pB,hc] using this
end
end Rx
namespace Rx
open Go.RowKit State
def CQ (s:Nat->Nat) (q:Nat):Nat :=
 match gR q 1000000 with
 |true=>q
 |false=>q%1000000+1000000*(s (q / 1000000-1)+1)
def vT (s:Nat->Nat) (a:Addr):Addr :=
 match a with
 |⟨b,o,aj⟩=>⟨s b,o,aj⟩
 |⟨b,o,aa q⟩=>⟨s b,o,aa (CQ s q)⟩
mutual
def gg (s:Nat->Nat):Value->Value
 |.pointer (aa a)=>.pointer (aa (vT s a))
 |.slice (aa a) n c=>.slice (aa (vT s a)) n c
 |.map (aa r)=>.map (aa (s r))
 |.chan (aa r)=>.chan (aa (s r))
 |.agg ⟨l⟩=>.agg ⟨lU s l⟩
 |.tuple ⟨l⟩=>.tuple ⟨lU s l⟩
 |.func fn ⟨f⟩ ⟨c⟩=>.func fn ⟨lU s f⟩ ⟨lU s c⟩
 |.iface t v=>.iface t (gg s v)
 |v=>v
def lU (s:Nat->Nat):List Value->List Value
 |[]=>[]
 |v::l=>gg s v::lU s l
end
def J_ (p:Nat->Bool) (q:Nat):Bool :=
 match gR q 1000000 with
 |true=>ao
 |false=>p (q / 1000000-1)
def Me (p:Nat->Bool) (a:Addr):Bool :=
 match a with
 |⟨b,_,aj⟩=>p b
 |⟨b,_,aa q⟩=>p b&&J_ p q
mutual
def mO (p:Nat->Bool):Value->Bool
 |.pointer (aa a)=>Me p a
 |.slice (aa a) _ _=>Me p a
 |.map (aa r)|.chan (aa r)=>p r
 |.agg ⟨l⟩=>zV p l
 |.tuple ⟨l⟩=>zV p l
 |.func _ ⟨f⟩ ⟨c⟩=>zV p f&&zV p c
 |.iface _ v=>mO p v
 |_=>ao
def zV (p:Nat->Bool):List Value->Bool
 |[]=>ao
 |v::l=>mO p v&&zV p l
end
section
variable {ρ gv:Env} {s u:Nat->Nat} {p:Nat->Bool} {n m:Nat}
theorem p9 {a b:Nat}:gR a b=ao↔a<b:=by rw[fe]
theorem ui {q:Nat} (s:Nat->Nat) (h:q<1000000):CQ s q=q:=by
 unfold CQ;rw[p9.2 h]
theorem Ev {q:Nat} (s:Nat->Nat) (h:¬ q<1000000):CQ s q=q%1000000+1000000*(s (q / 1000000-1)+1):=by
 unfold CQ;split
 ·rename_i hb;exact absurd (p9.1 hb) h
 ·rfl
theorem agn (s:Nat->Nat) (q:Nat):CQ s q%1000000=q%1000000:=by
 by_cases h:q<1000000
 ·rw[ui s h]
 ·rw[Ev s h];omega
theorem QL (s:Nat->Nat) (q:Nat):CQ s q / 1000000=if q / 1000000=0 then 0 else s (q / 1000000-1)+1:=by
 by_cases h:q<1000000
 ·rw[ui s h,if_pos (by omega)];omega
 ·rw[Ev s h,if_neg (by omega)];omega
theorem ahg (s u:Nat->Nat) (q:Nat):CQ s (CQ u q)=CQ (fun i=>s (u i)) q:=by
 by_cases h:q<1000000
 ·rw[ui u h,ui s h,ui _ h]
 ·rw[Ev u h,Ev _ h,Ev s (by omega)]
  have e1:(q%1000000+1000000*(u (q / 1000000-1)+1))%1000000=q%1000000:=by omega
  have e2:(q%1000000+1000000*(u (q / 1000000-1)+1)) / 1000000-1=u (q / 1000000-1):=by omega
  rw[e1,e2]
theorem aa7 (s:Nat->Nat) (e q:Nat):cellOf e (aa (CQ s q))=cellOf e (aa q):=by
 have h:=agn s q;simp only[cellOf,h];rw[← KS (CQ s q) (by decide:1000∣1000000),h,KS q (by decide:1000∣1000000)]
theorem X3 (a:Addr):iD ρ (vT s a)=iD (fun i=>ρ (s i)) a:=by
 obtain⟨b,o,q⟩:=a;cases q with
 |none=>rfl
 |some q=>simp only[vT,iD,aa7]
theorem z4 (ρ:Env) (b o q k c:Nat):lF ρ ⟨b,o,aa q⟩ k c=if(ρ b).nil=ao then .slice aj k 0
  else if q / 1000000≠0/\(ρ b).cap≤o then .slice (aa ⟨(ρ (q / 1000000-1)).lD,(ρ (q / 1000000-1)).off,aj⟩) k 0
  else .slice (aa (iD ρ ⟨b,o,aa q⟩)) k ((ρ b).cap-o):=rfl
theorem ahk (a:Addr) (k c:Nat):lF ρ (vT s a) k c=lF (fun i=>ρ (s i)) a k c:=by
 have h:=X3 (ρ:=ρ) (s:=s) a;obtain⟨b,o,q⟩:=a;cases q with
 |none=>simp only[vT,lF] at *;rw[h]
 |some q =>
  show lF ρ ⟨s b,o,aa (CQ s q)⟩ k c=_
  have h:iD ρ ⟨s b,o,aa (CQ s q)⟩=_:=h;rw[z4,z4,h,QL]
  by_cases hn:(ρ (s b)).nil=ao
  ·rw[if_pos hn,if_pos hn]
  ·rw[if_neg hn,if_neg hn]
   by_cases h0:q / 1000000=0
   ·rw[if_pos h0,if_neg (by simp),if_neg (by simp[h0])]
   ·rw[if_neg h0]
    by_cases hc:(ρ (s b)).cap≤o
    ·rw[if_pos ⟨by omega,hc⟩,if_pos ⟨h0,hc⟩];rfl
    ·rw[if_neg (fun hh=>hc hh.2),if_neg (fun hh=>hc hh.2)]
mutual
theorem CP:∀ v,bT ρ (gg s v)=bT (fun i=>ρ (s i)) v
 |.pointer (aa a)=>by simp only[gg,bT,X3]
 |.pointer aj=>by simp[gg,bT]
 |.slice (aa a) k c=>by simp only[gg,bT,ahk]
 |.slice aj _ _=>by simp[gg,bT]
 |.map (aa r)=>by simp[gg,bT]
 |.map aj=>by simp[gg,bT]
 |.chan (aa r)=>by simp[gg,bT]
 |.chan aj=>by simp[gg,bT]
 |.agg ⟨l⟩=>by simp only[gg,bT,BJ l]
 |.tuple ⟨l⟩=>by simp only[gg,bT,BJ l]
 |.func fn ⟨f⟩ ⟨c⟩=>by simp only[gg,bT,BJ f,BJ c]
 |.iface t v=>by simp only[gg,bT,CP v]
 |.int _ _=>by simp[gg]
 |.bool _=>by simp[gg]
 |.string _=>by simp[gg]
 |.float _ _=>by simp[gg,bT]
 |.complex _ _ _=>by simp[gg,bT]
 |.nilFunc=>by simp[gg,bT]
 |.nilIface=>by simp[gg,bT]
theorem BJ:∀ l,nC ρ (lU s l)=nC (fun i=>ρ (s i)) l
 |[]=>by simp[lU,nC]
 |v::l=>by simp only[lU,nC,CP v,BJ l]
end
theorem sc {a:Addr} (h:Me p a=ao):p a.block=ao/\∀ q,a.spot=aa q->J_ p q=ao:=by
 obtain⟨b,o,q⟩:=a;cases q with
 |none=>exact⟨h,fun q e=>by cases e⟩
 |some q =>
  simp only[Me,aL] at h;exact⟨h.1,fun q' e=>by injection e with e;subst e;exact h.2⟩
theorem QR {q:Nat} (h:J_ p q=ao) (h0:q / 1000000≠0):p (q / 1000000-1)=ao:=by
 unfold J_ at h;split at h
 ·rename_i hb;have:=p9.1 hb;omega
 ·exact h
theorem akJ {q:Nat} (p:Nat->Bool) (h:q<1000000):J_ p q=ao:=by
 unfold J_;rw[p9.2 h]
theorem aaZ {q:Nat} (p:Nat->Bool) (h:¬ q<1000000):J_ p q=p (q / 1000000-1):=by
 unfold J_;split
 ·rename_i hb;exact absurd (p9.1 hb) h
 ·rfl
theorem ai4 {p':Nat->Bool} {t:Nat} (h:∀ i,p i=ao->p' (s i)=ao) (ht:J_ p t=ao):J_ p' (CQ s t)=ao:=by
 by_cases hq:t<1000000
 ·rw[ui s hq];exact akJ p' hq
 ·rw[aaZ p hq] at ht;have j7:¬ CQ s t<1000000:=by rw[Ev s hq];omega
  rw[aaZ p' j7,QL,if_neg (by omega)]
  exact h _ ht
theorem XN {a:Addr} (h:∀ i,p i=ao->ρ i=gv i) (ha:Me p a=ao):iD ρ a=iD gv a:=by
 unfold iD;rw[h _ (sc ha).1]
theorem ag4 {a:Addr} {k c:Nat} (h:∀ i,p i=ao->ρ i=gv i) (ha:Me p a=ao):lF ρ a k c=lF gv a k c:=by
 unfold lF;rw[XN h ha,h _ (sc ha).1];cases hs:a.spot with
 |none=>rfl
 |some q =>
  simp only;split
  ·rfl
  ·split
   ·rename_i hq;rw[h (q / 1000000-1) (QR ((sc ha).2 q hs) hq.1)]
   ·rfl
mutual
theorem acD (h:∀ i,p i=ao->ρ i=gv i):∀ v,mO p v=ao->bT ρ v=bT gv v
 |.pointer (aa a),hv=>by simp only[mO] at hv;simp only[bT,XN h hv]
 |.pointer aj,_=>by simp[bT]
 |.slice (aa a) k c,hv=>by simp only[mO] at hv;simp only[bT,ag4 h hv]
 |.slice aj _ _,_=>by simp[bT]
 |.map (aa r),hv=>by simp only[mO] at hv;simp[bT,h _ hv]
 |.map aj,_=>by simp[bT]
 |.chan (aa r),hv=>by simp only[mO] at hv;simp[bT,h _ hv]
 |.chan aj,_=>by simp[bT]
 |.agg ⟨l⟩,hv=>by simp only[mO] at hv;simp only[bT,Bx h l hv]
 |.tuple ⟨l⟩,hv=>by simp only[mO] at hv;simp only[bT,Bx h l hv]
 |.func fn ⟨f⟩ ⟨c⟩,hv=>by
  simp only[mO,aL] at hv;simp only[bT,Bx h f hv.1,Bx h c hv.2]
 |.iface t v,hv=>by simp only[mO] at hv;simp only[bT,acD h v hv]
 |.int _ _,_=>by simp
 |.bool _,_=>by simp
 |.string _,_=>by simp
 |.float _ _,_=>by simp[bT]
 |.complex _ _ _,_=>by simp[bT]
 |.nilFunc,_=>by simp[bT]
 |.nilIface,_=>by simp[bT]
theorem Bx (h:∀ i,p i=ao->ρ i=gv i):∀ l,zV p l=ao->nC ρ l=nC gv l
 |[],_=>rfl
 |v::l,hv=>by
  simp only[zV,aL] at hv;simp only[nC,acD h v hv.1,Bx h l hv.2]
end
theorem Xr (a:Addr):vT s (vT u a)=vT (fun i=>s (u i)) a:=by
 obtain⟨b,o,q⟩:=a;cases q with
 |none=>rfl
 |some q=>simp only[vT];rw[ahg]
mutual
theorem aeO:∀ v,gg s (gg u v)=gg (fun i=>s (u i)) v
 |.pointer (aa a)=>by simp only[gg,Xr]
 |.pointer aj=>by simp[gg]
 |.slice (aa a) k c=>by simp only[gg,Xr]
 |.slice aj _ _=>by simp[gg]
 |.map (aa r)=>by simp[gg]
 |.map aj=>by simp[gg]
 |.chan (aa r)=>by simp[gg]
 |.chan aj=>by simp[gg]
 |.agg ⟨l⟩=>by simp only[gg,BE l]
 |.tuple ⟨l⟩=>by simp only[gg,BE l]
 |.func fn ⟨f⟩ ⟨c⟩=>by simp only[gg,BE f,BE c]
 |.iface t v=>by simp only[gg,aeO v]
 |.int _ _=>by simp[gg]
 |.bool _=>by simp[gg]
 |.string _=>by simp[gg]
 |.float _ _=>by simp[gg]
 |.complex _ _ _=>by simp[gg]
 |.nilFunc=>by simp[gg]
 |.nilIface=>by simp[gg]
theorem BE:∀ l,lU s (lU u l)=lU (fun i=>s (u i)) l
 |[]=>by simp[lU]
 |v::l=>by simp only[lU,aeO v,BE l]
end
theorem aaq {a:Addr} (h:∀ i,p i=ao->s i=i) (ha:Me p a=ao):vT s a=a:=by
 have h1:=(sc ha).1;have h2:=(sc ha).2;obtain⟨b,o,q⟩:=a;cases q with
 |none=>simp only[vT];rw[h b h1]
 |some q =>
  simp only[vT];rw[h b h1]
  congr 2
  by_cases hq:q<1000000
  ·exact ui s hq
  ·rw[Ev s hq,h _ (QR (h2 q rfl) (by omega))]
   omega
mutual
theorem aeZ (h:∀ i,p i=ao->s i=i):∀ v,mO p v=ao->gg s v=v
 |.pointer (aa a),hv=>by simp only[mO] at hv;simp only[gg,aaq h hv]
 |.pointer aj,_=>by simp[gg]
 |.slice (aa a) k c,hv=>by simp only[mO] at hv;simp only[gg,aaq h hv]
 |.slice aj _ _,_=>by simp[gg]
 |.map (aa r),hv=>by simp only[mO] at hv;simp[gg,h _ hv]
 |.map aj,_=>by simp[gg]
 |.chan (aa r),hv=>by simp only[mO] at hv;simp[gg,h _ hv]
 |.chan aj,_=>by simp[gg]
 |.agg ⟨l⟩,hv=>by simp only[mO] at hv;simp only[gg,EL h l hv]
 |.tuple ⟨l⟩,hv=>by simp only[mO] at hv;simp only[gg,EL h l hv]
 |.func fn ⟨f⟩ ⟨c⟩,hv=>by
  simp only[mO,aL] at hv;simp only[gg,EL h f hv.1,EL h c hv.2]
 |.iface t v,hv=>by simp only[mO] at hv;simp only[gg,aeZ h v hv]
 |.int _ _,_=>by simp[gg]
 |.bool _,_=>by simp[gg]
 |.string _,_=>by simp[gg]
 |.float _ _,_=>by simp[gg]
 |.complex _ _ _,_=>by simp[gg]
 |.nilFunc,_=>by simp[gg]
 |.nilIface,_=>by simp[gg]
theorem EL (h:∀ i,p i=ao->s i=i):∀ l,zV p l=ao->lU s l=l
 |[],_=>by simp[lU]
 |v::l,hv=>by
  simp only[zV,aL] at hv;simp only[lU,aeZ h v hv.1,EL h l hv.2]
end
theorem ago {a:Addr} {k c:Nat} (h:∀ i,i<n->s i<m) (hv:fp n (.slice (aa a) k c)=ao):fp m (.slice (aa (vT s a)) k c)=ao:=by
 obtain⟨b,o,q⟩:=a;simp only[fp,aL,fe,vw] at hv ⊢;cases q with
 |none =>
  simp only[vT,Ej];exact⟨h b hv.1,du _⟩
 |some q =>
  simp only[vT,Ej] at hv ⊢;refine⟨h b hv.1,?_⟩;rw[QL];split
  ·omega
  ·rename_i h0;have:=h (q / 1000000-1) (by omega)
   omega
theorem agI {a:Addr} (h:∀ i,i<n->s i<m) (hv:fp n (.pointer (aa a))=ao):fp m (.pointer (aa (vT s a)))=ao:=by
 obtain⟨b,o,q⟩:=a;simp only[fp,fe] at hv ⊢;cases q<;>exact h b hv
mutual
theorem abn (h:∀ i,i<n->s i<m):∀ v,fp n v=ao->fp m (gg s v)=ao
 |.pointer (aa a),hv=>by simp only[gg];exact agI h hv
 |.pointer aj,_=>by simp[gg,fp]
 |.slice (aa a) k c,hv=>by simp only[gg];exact ago h hv
 |.slice aj _ _,_=>by simp[gg,fp]
 |.map (aa r),hv=>by simp only[gg,fp,fe] at *;exact h r hv
 |.map aj,_=>by simp[gg,fp]
 |.chan (aa r),hv=>by simp only[gg,fp,fe] at *;exact h r hv
 |.chan aj,_=>by simp[gg,fp]
 |.agg ⟨l⟩,hv=>by simp only[gg,fp] at *;exact wc h l hv
 |.tuple ⟨l⟩,hv=>by simp only[gg,fp] at *;exact wc h l hv
 |.func fn ⟨f⟩ ⟨c⟩,hv=>by
  simp only[gg,fp,aL] at *
  exact⟨wc h f hv.1,wc h c hv.2⟩
 |.iface t v,hv=>by simp only[gg,fp] at *;exact abn h v hv
 |.int _ _,_=>by simp[gg,fp]
 |.bool _,_=>by simp[gg,fp]
 |.string _,_=>by simp[gg,fp]
 |.float _ _,_=>by simp[gg,fp]
 |.complex _ _ _,_=>by simp[gg,fp]
 |.nilFunc,_=>by simp[gg,fp]
 |.nilIface,_=>by simp[gg,fp]
theorem wc (h:∀ i,i<n->s i<m):∀ l,ix n l=ao->ix m (lU s l)=ao
 |[],_=>by simp[lU,ix]
 |v::l,hv=>by
  simp only[ix,aL] at hv;simp only[lU,ix,aL];exact⟨abn h v hv.1,wc h l hv.2⟩
end
mutual
theorem acf:∀ v,mO (fun i=>gR i n) v=ao->fp n v=ao
 |.pointer (aa a),hv=>by
  simp only[mO] at hv
  simpa [fp] using(sc hv).1
 |.pointer aj,_=>by simp[fp]
 |.slice (aa a) k c,hv=>by
  simp only[mO] at hv;have h1:=(sc hv).1;have h2:=(sc hv).2;simp only[fe] at h1;simp only[fp,aL,fe,vw];refine⟨h1,?_⟩;cases hs:a.spot with
  |none=>simp[Ej]
  |some q =>
   simp only[Ej]
   by_cases h0:q / 1000000=0
   ·omega
   ·have:=QR (h2 q hs) h0;simp only[fe] at this;omega
 |.slice aj _ _,_=>by simp[fp]
 |.map (aa r),hv=>by simpa [mO,fp] using hv
 |.map aj,_=>by simp[fp]
 |.chan (aa r),hv=>by simpa [mO,fp] using hv
 |.chan aj,_=>by simp[fp]
 |.agg ⟨l⟩,hv=>by simp only[mO] at hv;simp only[fp];exact BK l hv
 |.tuple ⟨l⟩,hv=>by simp only[mO] at hv;simp only[fp];exact BK l hv
 |.func fn ⟨f⟩ ⟨c⟩,hv=>by
  simp only[mO,aL] at hv;simp only[fp,aL];exact⟨BK f hv.1,BK c hv.2⟩
 |.iface t v,hv=>by simp only[mO] at hv;simp only[fp];exact acf v hv
 |.int _ _,_=>by simp[fp]
 |.bool _,_=>by simp[fp]
 |.string _,_=>by simp[fp]
 |.float _ _,_=>by simp[fp]
 |.complex _ _ _,_=>by simp[fp]
 |.nilFunc,_=>by simp[fp]
 |.nilIface,_=>by simp[fp]
theorem BK:∀ l,zV (fun i=>gR i n) l=ao->ix n l=ao
 |[],_=>by simp[ix]
 |v::l,hv=>by
  simp only[zV,aL] at hv;simp only[ix,aL];exact⟨acf v hv.1,BK l hv.2⟩
end
end
mutual
def pA (k:Nat):Value->Value
 |.slice (aa ⟨b,o,aa q⟩) n c=>match gR b k with
  |true=>.slice (aa ⟨b,o,aa q⟩) n c
  |false=>.slice aj n 0
 |.agg ⟨l⟩=>.agg ⟨wT k l⟩
 |.tuple ⟨l⟩=>.tuple ⟨wT k l⟩
 |.func fn ⟨f⟩ ⟨c⟩=>.func fn ⟨wT k f⟩ ⟨wT k c⟩
 |.iface t v=>.iface t (pA k v)
 |v=>v
def wT (k:Nat):List Value->List Value
 |[]=>[]
 |v::l=>pA k v::wT k l
end
def Ur:Place:=⟨0,0,0,ao⟩
def xD (ρ:Env) (k:Nat):Env:=fun i=>if i<k then ρ i else Ur
section
variable {ρ:Env} {k:Nat}
theorem xr {i:Nat} (h:i<k):xD ρ k i=ρ i:=by simp[xD,h]
theorem Ya {i:Nat} (h:¬ i<k):xD ρ k i=Ur:=by simp[xD,h]
mutual
theorem KA:∀ v,fp k (pA k v)=ao->bT ρ (pA k v)=bT (xD ρ k) v
 |.pointer (aa a),hv=>by
  simp only[pA] at hv ⊢;exact nh (n:=k) (fun i hi=>(xr hi).symm) _ hv
 |.pointer aj,_=>by simp[pA,bT]
 |.slice (aa ⟨b,o,aj⟩) n c,hv=>by
  simp only[pA] at hv ⊢;exact nh (n:=k) (fun i hi=>(xr hi).symm) _ hv
 |.slice (aa ⟨b,o,aa q⟩) n c,hv=>by
  simp only[pA] at hv ⊢;split
  ·rename_i hb;rw[hb] at hv;exact nh (n:=k) (fun i hi=>(xr hi).symm) _ hv
  ·rename_i hb;have j7:¬ b<k:=fun h=>by rw[p9.2 h] at hb;cases hb
   simp only[bT,lF];rw[Ya j7]
   rfl
 |.slice aj _ _,_=>by simp[pA,bT]
 |.map (aa r),hv=>by
  simp only[pA] at hv ⊢;exact nh (n:=k) (fun i hi=>(xr hi).symm) _ hv
 |.map aj,_=>by simp[pA,bT]
 |.chan (aa r),hv=>by
  simp only[pA] at hv ⊢;exact nh (n:=k) (fun i hi=>(xr hi).symm) _ hv
 |.chan aj,_=>by simp[pA,bT]
 |.agg ⟨l⟩,hv=>by simp only[pA,fp] at hv;simp only[pA,bT,DP l hv]
 |.tuple ⟨l⟩,hv=>by simp only[pA,fp] at hv;simp only[pA,bT,DP l hv]
 |.func fn ⟨f⟩ ⟨c⟩,hv=>by
  simp only[pA,fp,aL] at hv;simp only[pA,bT,DP f hv.1,DP c hv.2]
 |.iface t v,hv=>by simp only[pA,fp] at hv;simp only[pA,bT,KA v hv]
 |.int _ _,_=>by simp[pA]
 |.bool _,_=>by simp[pA]
 |.string _,_=>by simp[pA]
 |.float _ _,_=>by simp[pA,bT]
 |.complex _ _ _,_=>by simp[pA,bT]
 |.nilFunc,_=>by simp[pA,bT]
 |.nilIface,_=>by simp[pA,bT]
theorem DP:∀ l,ix k (wT k l)=ao->nC ρ (wT k l)=nC (xD ρ k) l
 |[],_=>by simp[wT,nC]
 |v::l,hv=>by
  simp only[wT,ix,aL] at hv;simp only[wT,nC,KA v hv.1,DP l hv.2]
end
end
def AT:List Value->List aX->Bool
 |[],[]=>ao
 |.int _ _::tm,c::cs=>c.i.isEmpty&&AT tm cs
 |.bool _::tm,c::cs=>c.b.isEmpty&&AT tm cs
 |.string _::tm,c::cs=>c.s.isEmpty&&AT tm cs
 |_,_=>an
structure Tw (r:Row):Prop where
 n:r.n=0
 ne:0<r.tm.length
 eu:AT r.tm r.eu=ao
theorem RT:∀ {tm:List Value} {cs:List aX},AT tm cs=ao->cs.length=tm.length/\∀ (f:Nat) (t:Value) (c:aX),tm[f]?=aa t->cs[f]?=aa c->jK t c 0
 |[],[],_=>⟨rfl,fun f t c h=>by simp at h⟩
 |[],_::_,h=>by simp[AT] at h
 |v::tm,[],h=>by cases v<;>simp[AT] at h
 |v::tm,c::cs,h=>by
  have:jK v c 0/\AT tm cs=ao:=by
   cases v<;>simp only[AT,aL,List.isEmpty_iff] at h<;>first|exact⟨by simp[jK,h.1],h.2⟩|cases h
  obtain⟨h1,h2⟩:=RT this.2;refine⟨by simp[h1],fun f t c' ht hc=>?_⟩
  cases f with
  |zero =>
   simp only[cd,ct] at ht hc;subst ht;subst hc;exact this.1
  |succ f =>
   simp only[bH] at ht hc;exact h2 f t c' ht hc
section
variable {R:Type} {D:fH R} {C:Ctx} {ρ ρn:Env} {ft:Nat->Nat->Prop} {w:World} {h hn:Hp R}
theorem aa' {b:Nat} {F:Nat->Prop} {t:TypeId} {r:Row} (hr:Tw r) (hp:ρ b=Ur) (hF:∀ k,¬ F k):hold D C ρ b F w (.inr (.inl (t,r))):=by
 obtain⟨c1,c2⟩:=RT hr.eu;simp only[hold,hp,Ur];refine⟨fun k=>⟨fun hk=>absurd hk (hF k),fun hk=>by cases hk.1⟩,hr.ne,by rw[hr.n];exact a_ _,du _,by simp,#[],(fun hk=>by cases hk),⟨c1,fun f t c ht hc=>by rw[hr.n];exact c2 f t c ht hc,fun f t c e _ _ he=>by rw[hr.n] at he;omega⟩⟩
def B1 (n:Nat) (c:aX):aX:=⟨c.i.take n,c.b.take n,c.s.take n⟩
structure ZK (r' r:Row):Prop where
 tm:r'.tm=r.tm
 n:r'.n≤r.n
 eu:r'.eu=r.eu.map (B1 r'.n)
theorem ZD {t:Value} {c:aX} {n m:Nat} (h:jK t c n) (hm:m≤n):jK t (B1 m c) m:=by
 cases t<;>simp only[jK,B1] at h ⊢<;>first|exact h|(rw[dZ];omega)
theorem T' {t:Value} {c:aX} {m e:Nat} (h:e<m):gD t (B1 m c) e=gD t c e:=by
 cases t<;>simp only[gD,B1,av,oN,h,if_true]
theorem oc.lt {r' r:Row} {arr:Array Value} {o:Nat} (h:oc r arr o) (hl:ZK r' r):oc r' arr o where
 len:=by rw[hl.eu,hl.tm,List.length_map];exact h.len
 I9 f t c ht hc:=by
  rw[hl.tm] at ht;rw[hl.eu,fh] at hc;cases Dj:r.eu[f]? with
  |none=>rw[Dj] at hc;cases hc
  |some c0 =>
   rw[Dj] at hc;injection hc with hc
   subst hc;exact ZD (h.I9 f t c0 ht Dj) hl.n
 cell f t c e ht hc he:=by
  rw[hl.tm] at ht ⊢;rw[hl.eu,fh] at hc;cases Dj:r.eu[f]? with
  |none=>rw[Dj] at hc;cases hc
  |some c0 =>
   rw[Dj] at hc;injection hc with hc
   subst hc;rw[T' he];exact h.cell f t c0 e ht Dj (ly he hl.n)
def Gd (r' r:Row):Prop:=r'=r∨ZK r' r
def Ln (y x:(TypeId×Row) ⊕ Row ⊕ R):Prop :=
 match y,x with
 |.inl (t,r),.inl (t',r')=>t'=t/\Gd r' r
 |.inl _,.inr _=>False
 |.inr _,.inl _=>False
 |.inr y,.inr x=>y=x
def Pg (ρ ρn:Env) (n:Nat) (Y X:SB R):Prop :=
 match Y,X with
 |.inl (t,cs),.inl (t',Cu)=>t=t'/\Cu.map (bT ρn)=cs.map (bT ρ)/\ix n Cu=ao
 |.inl _,_=>False
 |.inr _,.inl _=>False
 |.inr y,.inr x=>Ln y x
theorem Ln.refl (y:(TypeId×Row) ⊕ Row ⊕ R):Ln y y:=by
 rcases y with⟨t,r⟩|r|x
 ·exact⟨rfl,dK rfl⟩
 ·rfl
 ·rfl
theorem Sg {i b:Nat} {F:Nat->Prop} {Y X:SB R} {n:Nat} (hh:hold D C ρ i F w Y) (hl:Pg ρ ρn n Y X) (hp:ρn b=ρ i):hold D C ρn b F w X/\inside n X:=by
 rcases Y with⟨t,cs⟩|Y
 ·rcases X with⟨t',Cu⟩|X
  ·obtain⟨rfl,h2,h3⟩:=hl;simp only[hold] at hh ⊢;rw[hp,h2];exact⟨hh,h3⟩
  ·cases hl
 ·rcases X with⟨t',Cu⟩|X
  ·cases hl
  ·replace hl:Ln Y X:=hl
   rcases Y with⟨t,r⟩|Y<;>rcases X with⟨t',r'⟩|X
   ·have hq:t'=t/\(r'=r∨ZK r' r):=hl;clear hl;obtain⟨e1,e2⟩:=hq;subst e1;rcases e2 with e3|hl
    ·subst e3;simp only[hold] at hh ⊢;rw[hp];exact⟨hh,trivial⟩
    ·simp only[hold] at hh ⊢;rw[hp];obtain⟨h1,h2,h3,h4,h5,arr,h6,h7⟩:=hh;exact⟨⟨h1,by rw[hl.tm];exact h2,jq hl.n h3,h4,h5,arr,by rw[hl.tm];exact h6,h7.lt hl⟩,trivial⟩
   ·exact kK hl
   ·exact kK hl
   ·have hl:Y=X:=hl;subst hl;rcases Y with r|x
    ·simp only[hold] at hh ⊢;rw[hp];exact⟨hh,trivial⟩
    ·simp only[hold] at hh ⊢;rw[hp];exact⟨hh,trivial⟩
theorem HM.rename (hm:HM D C ρ ft h w) (s:Nat->Nat)
  (hb:∀ (b:Nat) (X:SB R),hn[b]?=aa (aa X)->(ρn b=ρ (s b)/\∃ Y,h[s b]?=aa (aa Y)/\Pg ρ ρn hn.length Y X)∨(h.length≤s b/\ρn b=Ur/\∃ t r,X=.inr (.inl (t,r))/\Tw r))
  (hi:∀ (b b':Nat) (X X':SB R),s b<h.length->hn[b]?=aa (aa X)->hn[b']?=aa (aa X')->s b=s b'->b=b') :
  HM D C ρn (fun b k=>(∃ X,hn[b]?=aa (aa X))/\ft (s b) k) hn w where
 at_ b X hX:=by
  rcases hb b X hX with⟨h1,Y,hY,hl⟩|⟨j7,hp,t,r,rfl,hr⟩
  rotate_left
  ·exact⟨aa' hr hp fun k hk=>by
    obtain⟨B,hB⟩:=hm.some_ _ k hk.2;have:=(aU.1 hB).1;omega,trivial⟩
  have:=Sg (hm.at_ (s b) Y hY).1 hl h1;have e:(fun k=>(∃ X,hn[b]?=aa (aa X))/\ft (s b) k)=ft (s b):=funext fun k=>propext ⟨fun h=>h.2,fun h=>⟨⟨X,hX⟩,h⟩⟩
  rw[e];exact this
 lt b k hk:=hm.lt _ k hk.2
 fresh b k hk:=hm.fresh _ k hk.2
 apart b b' k hk nB:=by
  obtain⟨⟨X,hX⟩,h1⟩:=hk;obtain⟨⟨X',hX'⟩,h2⟩:=nB;have cj:s b<h.length:=by
   obtain⟨B,hB⟩:=hm.some_ _ k h1;exact(aU.1 hB).1
  exact hi b b' X X' cj hX hX' (hm.apart _ _ k h1 h2)
 some_ b k hk:=hk.1
 kept:=hm.kept
def yK (s:Nat->Nat):SB R->SB R
 |.inl (t,cs)=>.inl (t,lU s cs)
 |.inr x=>.inr x
theorem rX {ρ:Env} {s:Nat->Nat} (l:List Value):(lU s l).map (bT ρ)=l.map (bT (fun i=>ρ (s i))):=by rw[← lh,← lh,BJ]
end
end Rx
namespace Rx
open Go.RowKit State
def nth:List Nat->Nat->Nat
 |[],_=>0
 |a::_,0=>a
 |_::l,i+1=>nth l i
def pos:List Nat->Nat->Nat
 |[],_=>0
 |a::l,b=>match fb a b with
  |true=>0
  |false=>pos l b+1
def vQ:List Nat->Bool
 |[]=>ao
 |a::l=>!mem l a&&vQ l
theorem HE:∀ {s:List Nat} {i:Nat},i<s.length->nth s i∈s
 |[],i,h=>by simp at h
 |a::l,0,_=>by simp[nth]
 |a::l,i+1,h=>by
  simp only[nth];exact ed _ (HE (by simpa using h))
theorem oC:∀ {s:List Nat} {b:Nat},b∈s->nth s (pos s b)=b/\pos s b<s.length
 |[],b,h=>by cases h
 |a::l,b,h=>by
  simp only[pos];split
  ·rename_i hb;exact⟨cP hb,by simp⟩
  ·rename_i hb;have hl:b∈l:=by
    rcases bP.1 h with rfl|h
    ·simp at hb
    ·exact h
   obtain⟨h1,h2⟩:=oC hl;exact⟨by simpa [nth] using h1,by simp;omega⟩
theorem XX:∀ {s:List Nat} {i:Nat},vQ s=ao->i<s.length->pos s (nth s i)=i
 |[],i,_,h=>by simp at h
 |a::l,0,_,_=>by simp[nth,pos]
 |a::l,i+1,hn,h=>by
  simp only[vQ,aL,mQ] at hn;have hi:i<l.length:=by simpa using h
  have hm:=HE hi;simp only[nth,pos];have kv:fb a (nth l i)=an:=by
   cases hb:fb a (nth l i) with
   |false=>rfl
   |true =>
    rw[← cP hb] at hm;rw[mem_iff.2 hm] at hn;simp at hn
  rw[kv];simp only;rw[XX hn.2 hi]
section
variable {R:Type} {D:fH R} {P:Program} {T:ez R} {C:Ctx} {ρ gv:Env} {ft ku:Nat->Nat->Prop} {w w':World} {h hr hx h':Hp R}
theorem B4 {a b:Nat} (h:a<b):gR a b=ao:=p9.2 h
theorem zP {a b:Nat} (h:¬ a<b):gR a b=an:=by
 cases hb:gR a b with
 |false=>rfl
 |true=>exact absurd (p9.1 hb) h
theorem fF {α:Type} {l:List α} {k:Nat} (h:l.length=k):cut l 0 k=l:=by subst h;exact agO l
def Jy:Value->Value
 |.slice (aa ⟨b,0,aa q⟩) n c=>match fb (q / 1000000) (b+1)&&fb (q%1000) 0 with
  |true=>.slice (aa ⟨b,0,aa (q%1000000)⟩) n c
  |false=>.slice (aa ⟨b,0,aa q⟩) n c
 |v=>v
theorem Nc (ρ:Env) (v:Value):bT ρ (Jy v)=bT ρ v:=by
 unfold Jy;split
 ·rename_i b q n c;split
  ·rename_i h;simp only[aL] at h;have h1:=cP h.1;have h2:=cP h.2;simp only[bT,z4]
   by_cases hn:(ρ b).nil=ao
   ·rw[if_pos hn,if_pos hn]
   ·rw[if_neg hn,if_neg hn,if_neg (fun h=>h.1 (by omega))]
    by_cases hc:(ρ b).cap≤0
    ·rw[if_pos ⟨by omega,hc⟩,show q / 1000000-1=b by omega]
     have h3:q%1000000%1000=0:=by omega
     have h4:(ρ b).cap=0:=by omega
     simp only[iD,cellOf,Ba,bV,h3,h4,gT]
    ·rw[if_neg (fun h=>hc h.2)]
     have h3:q%1000000%1000=q%1000:=by omega
     simp only[iD,cellOf,Ba,bV,h3]
  ·rfl
 ·rfl
theorem MS (m:Nat) (v:Value):fp m (Jy v)=fp m v:=by
 unfold Jy;split
 ·rename_i b q n c;split
  ·rename_i h;simp only[aL] at h;have h1:=cP h.1;rw[Bool.eq_iff_iff];simp only[fp,Ej,aL,fe,vw];omega
  ·rfl
 ·rfl
def Iz:List Value->List Value
 |[]=>[]
 |v::l=>Jy v::Iz l
theorem JQ (ρ:Env):∀ l:List Value,(Iz l).map (bT ρ)=l.map (bT ρ)
 |[]=>rfl
 |v::l=>by simp only[Iz,gr,Nc,JQ ρ l]
theorem J4 (m:Nat):∀ l:List Value,ix m (Iz l)=ix m l
 |[]=>rfl
 |v::l=>by simp only[Iz,ix,MS,J4 m l]
structure alJ (k:Nat) (s:Nat->Nat) (hp:Hp R) (j:Nat) (t:TypeId) (cs:List Value):Prop where
 ex:∃ Cu,fS hp j=aa (.inl (t,Cu))/\Iz Cu=Iz (wT k (lU s cs))
def AY (k:Nat) (s:Nat->Nat) (hp:Hp R) (j:Nat):SB R->Prop
 |.inl (t,cs)=>fS hp j=aa (.inl (t,wT k (lU s cs)))∨alJ k s hp j t cs
 |.inr (.inl (t,r'))=>match gR j k with
  |true=>∃ r,fS hp j=aa (.inr (.inl (t,r)))/\Gd r' r
  |false=>Tw r'
 |.inr (.inr x)=>fS hp j=aa (.inr (.inr x))
def ub (k:Nat) (s:Nat->Nat) (hp:Hp R):Nat->Hp R->Prop
 |_,[]=>True
 |b,aj::l=>ub k s hp (b+1) l
 |b,aa X::l=>AY k s hp (s b) X/\ub k s hp (b+1) l
def yV (k:Nat) (s:Nat->Nat):Nat->Hp R->List Nat
 |_,[]=>[]
 |b,aj::l=>yV k s (b+1) l
 |b,aa _::l=>match gR (s b) k with
  |true=>s b::yV k s (b+1) l
  |false=>yV k s (b+1) l
theorem ub.get {k:Nat} {s:Nat->Nat} {hp:Hp R}:∀ {b:Nat} {l:Hp R} {i:Nat} {X:SB R},ub k s hp b l->l[i]?=aa (aa X)->AY k s hp (s (b+i)) X
 |b,[],i,X,_,hi=>by simp at hi
 |b,aj::l,i,X,h,hi=>by
  cases i with
  |zero=>simp at hi
  |succ i =>
   simp only[bH] at hi;have:=ub.get (b:=b+1) h hi
   rwa [show b+1+i=b+(i+1) by omega] at this
 |b,aa Y::l,i,X,h,hi=>by
  cases i with
  |zero =>
   simp only[cd,ct] at hi;subst hi;exact h.1
  |succ i =>
   simp only[bH] at hi;have:=ub.get (b:=b+1) h.2 hi
   rwa [show b+1+i=b+(i+1) by omega] at this
theorem Ie {k:Nat} {s:Nat->Nat}:∀ {b:Nat} {l:Hp R} {i:Nat} {X:SB R},s (b+i)<k->l[i]?=aa (aa X)->s (b+i)∈yV k s b l
 |b,[],i,X,_,hi=>by simp at hi
 |b,aj::l,i,X,hk,hi=>by
  cases i with
  |zero=>simp at hi
  |succ i =>
   simp only[bH] at hi;rw[show b+(i+1)=b+1+i by omega] at hk ⊢
   exact Ie (s:=s) (b:=b+1) hk hi
 |b,aa Y::l,i,X,hk,hi=>by
  simp only[yV];cases i with
  |zero =>
   simp only[gT] at hk ⊢;rw[p9.2 hk];exact bL
  |succ i =>
   simp only[bH] at hi;rw[show b+(i+1)=b+1+i by omega] at hk ⊢
   have:=Ie (s:=s) (b:=b+1) hk hi;split
   ·exact ed _ this
   ·exact this
theorem MM {k:Nat} {s:Nat->Nat}:∀ {b:Nat} {l:Hp R} {i j:Nat} {X Y:SB R},vQ (yV k s b l)=ao->s (b+i)<k->l[i]?=aa (aa X)->l[j]?=aa (aa Y)->s (b+i)=s (b+j)->i=j
 |b,[],i,j,X,Y,_,_,hi,_,_=>by simp at hi
 |b,aj::l,i,j,X,Y,hn,hk,hi,hj,he=>by
  cases i with
  |zero=>simp at hi
  |succ i =>
   cases j with
   |zero=>simp at hj
   |succ j =>
    simp only[bH] at hi hj;rw[show b+(i+1)=b+1+i by omega] at hk he
    rw[show b+(j+1)=b+1+j by omega] at he
    rw[MM (b:=b+1) (s:=s) hn hk hi hj he]
 |b,aa Z::l,i,j,X,Y,hn,hk,hi,hj,he=>by
  have ya:vQ (yV k s (b+1) l)=ao/\(s b<k->¬ s b∈yV k s (b+1) l):=by
   simp only[yV] at hn;split at hn
   ·simp only[vQ,aL,mQ] at hn;exact⟨hn.2,fun _ hm=>by rw[mem_iff.2 hm] at hn;simp at hn⟩
   ·rename_i hb;exact⟨hn,fun cj=>by rw[p9.2 cj] at hb;cases hb⟩
  cases i with
  |zero =>
   cases j with
   |zero=>rfl
   |succ j =>
    simp only[bH] at hj;simp only[gT] at hk he;rw[show b+(j+1)=b+1+j by omega] at he
    have:=Ie (s:=s) (b:=b+1) (k:=k) (by rw[← he];exact hk) hj
    rw[← he] at this;exact absurd this (ya.2 hk)
  |succ i =>
   simp only[bH] at hi;rw[show b+(i+1)=b+1+i by omega] at hk he
   cases j with
   |zero =>
    simp only[gT] at he;have:=Ie (s:=s) (b:=b+1) hk hi;rw[he] at this hk;exact absurd this (ya.2 hk)
   |succ j =>
    simp only[bH] at hj;rw[show b+(j+1)=b+1+j by omega] at he
    rw[MM (b:=b+1) (s:=s) ya.1 hk hi hj he]
theorem rz {b:Nat} {X:SB R} (hb:fS h b=aa X):h[b]?=aa (aa X):=by
 unfold fS at hb;split at hb
 ·rename_i hh;rw[hh,hb]
 ·cases hb
theorem Ks {b:Nat} {X:SB R} (hb:h[b]?=aa (aa X)):fS h b=aa X:=by
 unfold fS;rw[hb]
theorem agW {n:Nat} {s:Nat->Nat} {ρn:Env} {X:SB R} (qD:∀ b,ρn b=ρ (s b)) (hi:inside n X):Pg ρ ρn n (yK s X) X:=by
 have e:ρn=fun b=>ρ (s b):=funext qD
 rcases X with⟨t,cs⟩|X
 ·refine⟨rfl,?_,hi⟩;rw[rX,e]
 ·exact Ln.refl X
theorem AY.am1 {n:Nat} {s:Nat->Nat} {ρn:Env} {X:SB R} {hp:Hp R} {j:Nat} (h:AY hp.length s hp j X) (j8:∀ Y,hp[j]?=aa (aa Y)->inside hp.length Y) (qD:∀ b,ρn b=xD ρ hp.length (s b)) (hi:inside n X) :
  (j<hp.length/\∃ Y,hp[j]?=aa (aa Y)/\Pg ρ ρn n Y X)∨(hp.length≤j/\∃ t r,X=.inr (.inl (t,r))/\Tw r):=by
 have lt:∀ {Y},hp[j]?=aa (aa Y)->j<hp.length:=fun hY=>(aU.1 hY).1
 rcases X with⟨t,cs⟩|⟨t,r'⟩|x
 ·have hT:∃ Cu,fS hp j=aa (.inl (t,Cu))/\Iz Cu=Iz (wT hp.length (lU s cs)):=by
   rcases h with h|⟨⟨Cu,h1,h2⟩⟩
   ·exact⟨_,h,rfl⟩
   ·exact⟨Cu,h1,h2⟩
  obtain⟨Cu,h1,h2⟩:=hT;have hY:=rz h1;refine dK ⟨lt hY,_,hY,rfl,?_,hi⟩;have akB:=j8 _ hY;simp only[inside] at akB;have anq:ix hp.length (wT hp.length (lU s cs))=ao:=by rw[← J4,← h2,J4];exact akB
  rw[← JQ ρ Cu,h2,JQ,← lh,← lh,DP _ anq,BJ]
  congr 1
  exact funext qD
 ·simp only[AY] at h;split at h
  ·obtain⟨r,h1,h2⟩:=h;exact dK ⟨lt (rz h1),_,rz h1,⟨rfl,h2⟩⟩
  ·rename_i hb;refine eV ⟨?_,t,r',rfl,h⟩;rcases cr j hp.length with h'|h'
   ·rw[p9.2 h'] at hb;cases hb
   ·exact h'
 ·exact dK ⟨lt (rz h),_,rz h,by cases x<;>rfl⟩
theorem HM.Uu {s:Nat->Nat} {hp hn:Hp R} (hm:HM D C ρ ft hp w) (h2:ub hp.length s hp 0 hn) (h3:vQ (yV hp.length s 0 hn)=ao) (h5:te hn.length hn=ao) :
  HM D C (fun b=>xD ρ hp.length (s b)) (fun b k=>(∃ X,hn[b]?=aa (aa X))/\ft (s b) k) hn w:=by
 refine hm.rename s (fun b X hX=>?_) fun b b' X X' cj hX hX' he=>MM (b:=0) h3 (by simpa using cj) hX hX' (by simpa using he)
 have:=h2.get hX;rw[bV] at this;rcases this.am1 (fun Y hY=>(hm.at_ _ Y hY).2) (fun _=>rfl) (BP h5 hX) with⟨cj,Y,hY,hl⟩|⟨j7,t,r,rfl,hr⟩
 ·exact dK ⟨xr cj,Y,hY,hl⟩
 ·exact eV ⟨j7,Ya (by omega),t,r,rfl,hr⟩
structure Ends (n:Nat) (x:Out R) (v:Value) (hp:Hp R):Prop where
 ex:∃ s:List Nat,v=pA hp.length (gg (nth s) x.v)/\fp hp.length v=ao/\ub hp.length (nth s) hp 0 x.hp/\vQ (yV hp.length (nth s) 0 x.hp)=ao/\Gi (fun i=>fb (nth s i) i) n=ao/\uM n hp.length=ao/\te x.hp.length x.hp=ao
theorem HM.ends {n:Nat} {x:Out R} {v:Value} {hp:Hp R} (he:Ends n x v hp) (hm:HM D C ρ ft hp w) :
  ∃ gv ku,(∀ i,i<n->gv i=ρ i)/\bT ρ v=bT gv x.v/\HM D C gv ku x.hp w:=by
 obtain⟨s,h1,R_,h2,h3,h4,Jw,h5⟩:=he.ex;refine⟨fun b=>xD ρ hp.length (nth s b),_,fun i hi=>?_,?_,hm.Uu h2 h3 h5⟩
 ·have:=zQ h4 hi;show xD ρ hp.length (nth s i)=ρ i
  rw[cP this];have:=jF Jw;exact xr (by omega)
 ·rw[h1] at R_ ⊢;rw[KA _ R_,CP]
theorem wg {f : FuncId} {fn : Func} {root : Code} {on : List Value → Hp R → Prop} {spec : Prim R} (hf : P.funcs[f]? = aa fn) (hb : fn.body = aa root) (Y_ : (fn.name == "runtime.NumGoroutine") = an)
  (H:∀ args hh x,spec args hh=aa x->hh.length≤x.hp.length/\(∀ b,x.lit=aa b->x.v=.bool b)/\(x.wr=[]->x.hp=hh) /\
   (on args hh->x.vc->At D P root hh.length (iE P fn.results.toList (Ends hh.length x)) [.inl []] ⟨vk args++lj (fn.ntmps-args.length) aj,[],hh⟩)):rK D P f on spec where
 known:=⟨fn,hf,Y_,by rw[hb];rfl⟩
 run args hh x mN hx C ρ ft w hm hv hi:=by
  obtain⟨_,_,_,h4⟩:=H args hh x hx;refine(M6 hf hb (h4 mN hv) hm hi).mono fun e w' ⟨gv,ku,v,wY,g1,g2,g3,g4⟩=>?_
  obtain⟨ni,Kk,q1,q2,q3⟩:=g4.ends g3;exact⟨ni,Kk,fun i hi=>(q1 i hi).trans (g1 i hi),by rw[g2,q2],q3⟩
 len args hh x hx:=(H args hh x hx).1
 lit args hh x hx:=(H args hh x hx).2.1
 still args hh x hx:=(H args hh x hx).2.2.1
def Sub (hr h:Hp R):Prop:=∀ (b:Nat) (X:SB R),hr[b]?=aa (aa X)->h[b]?=aa (aa X)∨∃ t r,X=.inr (.inr (.inl r))/\h[b]?=aa (aa (.inr (.inl (t,r))))
def Ak (hr:Hp R) (b:Nat):Prop:=∃ X,hr[b]?=aa (aa X)/\g_ X=an
def S4 (w:World) (hr:Hp R) (ft:Nat->Nat->Prop) (ρ:Env) (n:Nat):Ctx:=⟨w,fun k=>∃ b,Ak hr b/\ft b k,ρ,n⟩
theorem HM.anf (hm:HM D C ρ ft h w) (nj:Sub hr h) (hlen:hr.length=h.length) (n:Nat):HM D (S4 w hr ft ρ n) ρ (fun b k=>Ak hr b/\ft b k) hr w where
 at_ i B hB:=by
  rcases nj i B hB with hi|⟨t,r,rfl,hi⟩
  ·obtain⟨h1,h2⟩:=hm.at_ i B hi;refine⟨?_,by rw[hlen];exact h2⟩
   cases hv:g_ B with
   |false =>
    have e:(fun k=>Ak hr i/\ft i k)=ft i:=funext fun k=>propext ⟨fun h=>h.2,fun h=>⟨⟨B,hB,hv⟩,h⟩⟩
    rw[e];exact yO hv h1
   |true =>
    rcases B with⟨t,cs⟩|⟨t,r⟩|r|x<;>simp[g_] at hv
    obtain⟨g1,g2,g3,g4,g5,arr,g6,g7⟩:=h1;refine⟨fun k hk=>?_,g2,g3,g4,g5,arr,fun hn h0=>?_,g7⟩
    ·exact g1 k hk.2
    ·obtain⟨q1,q2,t,fz,q3⟩:=g6 hn h0;refine⟨ly q1 hm.kept.size,fun⟨b,_,hb⟩=>?_,t,fz,by rw[← q3];exact hm.kept.block _ q1 q2⟩
     rcases hm.fresh b _ hb with hu|j7
     ·exact q2 hu
     ·omega
  ·obtain⟨h1,h2⟩:=hm.at_ i _ hi;obtain⟨g1,g2,g3,g4,g5,arr,g6,g7⟩:=h1;have CM:¬ Ak hr i:=fun⟨X,hX,hv⟩=>by
    rw[hB] at hX;injection hX with hX;injection hX with hX
    subst hX;simp[g_] at hv
   refine⟨⟨fun k hk=>CM hk.1,g2,g3,g4,g5,arr,fun hn _=>?_,g7⟩,trivial⟩
   obtain⟨q1,q2⟩:=g6 hn;have LZ:ft i (ρ i).lD:=(g1 _).2 ⟨hn,rfl⟩;refine⟨hm.lt i _ LZ,fun⟨b,hb,hbk⟩=>?_,t,(0,0),q1⟩
   rw[hm.apart b i _ hbk LZ] at hb;exact CM hb
 lt i k hk:=hm.lt i k hk.2
 fresh i k hk:=dK ⟨i,hk.1,hk.2⟩
 apart i j k hi hj:=hm.apart i j k hi.2 hj.2
 some_ i k hk:=by obtain⟨X,hX,_⟩:=hk.1;exact⟨X,hX⟩
 kept:=Kept.refl _ _
theorem HM.aiJ (hm:HM D C ρ ft h w) (nj:Sub hr h) (hlen:hr.length=h.length) {n:Nat}
  (mG:HM D (S4 w hr ft ρ n) gv ku hx w') (qD:∀ b,b<h.length->gv b=ρ b) (hlx:h.length≤hx.length)
  (hv:∀ (b:Nat) (X:SB R),hx[b]?=aa (aa X)->g_ X=an∨∃ Y,hr[b]?=aa (aa Y)/\g_ Y=ao)
  (alo:h'.length=hx.length) (uo:∀ (b:Nat),Ak hr b∨h.length≤b->h'[b]?=hx[b]?) (Pc:∀ (b:Nat),b<h.length->¬ Ak hr b->h'[b]?=h[b]?) :
  HM D C gv (fun b k=>((Ak hr b∨h.length≤b)/\ku b k)∨(¬ (Ak hr b∨h.length≤b)/\ft b k)) h' w':=by
 refine hm.step (Ak hr) ⟨mG.kept.os,mG.kept.tape,mG.kept.output,mG.kept.size,fun k hk hn=>mG.kept.block k hk hn⟩ qD (by omega) ?_ ?_ ?_ ?_
 ·intro i B hi hB;have Eh:Ak hr i∨h.length≤i:=by
   rcases cr i h.length with cj|rU
   ·exact dK (hi cj)
   ·exact eV rU
  rw[uo i Eh] at hB;obtain⟨g1,g2⟩:=mG.at_ i B hB;have Sb:g_ B=an:=by
   rcases hv i B hB with h1|⟨Y,hY,XF⟩
   ·exact h1
   ·rcases Eh with⟨Y',RL,Kb⟩|rU
    ·rw[hY] at RL;injection RL with e;injection e with e;subst e;rw[XF] at Kb;cases Kb
    ·have:=(aU.1 hY).1;omega
  refine⟨?_,by rw[alo];exact g2⟩
  have e:(fun k=>((Ak hr i∨h.length≤i)/\ku i k)∨(¬ (Ak hr i∨h.length≤i)/\ft i k))=ku i:=funext fun k=>propext ⟨fun h=>h.elim (fun h=>h.2) (fun h=>absurd Eh h.1),fun h=>dK ⟨Eh,h⟩⟩
  rw[e];exact yO Sb g1
 ·intro i hi hn;refine⟨Pc i hi hn,fun k=>?_⟩
  have:¬ (Ak hr i∨h.length≤i):=fun hh=>hh.elim hn (fun h=>by omega)
  exact⟨fun h=>h.elim (fun h=>absurd h.1 this) (fun h=>h.2),fun h=>eV ⟨this,h⟩⟩
 ·intro i k hi hk;have Eh:Ak hr i∨h.length≤i:=by
   rcases cr i h.length with cj|rU
   ·exact dK (hi cj)
   ·exact eV rU
  have nB:ku i k:=hk.elim (fun h=>h.2) (fun h=>absurd Eh h.1)
  refine⟨?_,mG.lt i k nB,?_⟩
  ·rcases mG.fresh i k nB with⟨b,hb,hbk⟩|rU
   ·exact dK ⟨b,hb,hbk⟩
   ·exact eV rU
  ·obtain⟨B,hB⟩:=mG.some_ i k nB;exact⟨B,by rw[uo i Eh];exact hB⟩
 ·intro i j k hi hj GY He;have Mm:Ak hr i∨h.length≤i:=by
   rcases cr i h.length with cj|rU
   ·exact dK (hi cj)
   ·exact eV rU
  have hTj:Ak hr j∨h.length≤j:=by
   rcases cr j h.length with cj|rU
   ·exact dK (hj cj)
   ·exact eV rU
  exact mG.apart i j k (GY.elim (fun h=>h.2) (fun h=>absurd Mm h.1)) (He.elim (fun h=>h.2) (fun h=>absurd hTj h.1))
def F' (z:Bool):SB R->SB R
 |.inr (.inl (t,r))=>match z with
  |true=>.inr (.inr (.inl r))
  |false=>.inr (.inl (t,r))
 |B=>B
def o9 (z:Nat->Bool) (u:Nat->Nat) (h:Hp R):Nat->List Nat->Hp R
 |_,[]=>[]
 |i,b::l=>(match fS h b with
  |some B=>aa (yK u (F' (z i) B))
  |none=>aj)::o9 z u h (i+1) l
def P6 (s:List Nat) (h:Hp R):List Nat->Bool
 |[]=>ao
 |b::l=>gR b h.length&&(match fS h b with
  |some (.inl (_,cs))=>zV (mem s) cs
  |_=>ao)&&P6 s h l
def L0:List Nat->List Nat->List Nat
 |[],_=>[]
 |a::l,seen=>if mem seen a then L0 l seen else a::L0 l (a::seen)
def qo (s:List Nat) (n i:Nat):Nat:=if gR i s.length then nth s i else n+(i-s.length)
def Ky (f:Nat->Nat):Option (SB R)->Option (SB R)
 |some B=>aa (yK f B)
 |none=>aj
def ym (s:List Nat) (f:Nat->Nat) (hl hx:Hp R):Nat->Hp R->Hp R
 |_,[]=>[]
 |b,x::h=>(if mem s b&&HP hl (pos s b) then Ky f (fS hx (pos s b)) else x)::ym s f hl hx (b+1) h
def yI (f:Nat->Nat):Hp R->Hp R
 |[]=>[]
 |x::l=>Ky f x::yI f l
def DA (z:Nat->Bool) (d:Nat) (spec:Prim R):Prim R:=fun args h =>
 VE (L0 (reach h d (sO args)) []) fun s =>
  if zV (mem s) args&&P6 s h s&&vQ s then
   Mx (o9 z (pos s) h 0 s) fun hl =>
    match spec (lU (pos s) args) hl with
    |some x=>if rD hl x.hp&&fp x.hp.length x.v then
      aa ⟨x.vc,gg (qo s h.length) x.v,x.lit,ym s (qo s h.length) hl x.hp 0 h++yI (qo s h.length) (x.hp.drop s.length),[],match x.wr with
       |[]=>[]
       |_=>[(0,0)]⟩
     else aj
    |none=>aj
  else aj
def Zu (z:Nat->Bool) (d:Nat) (when:List Value->Hp R->Option Bool) (args:List Value) (h:Hp R):Option Bool :=
 VE (L0 (reach h d (sO args)) []) fun s=>Mx (o9 z (pos s) h 0 s) fun hl=>when (lU (pos s) args) hl
def bJ (z:Nat->Bool) (d:Nat) (c:jb R):jb R:=⟨Zu z d c.when,DA z d c.yes,DA z d c.no⟩
mutual
theorem afe {p q:Nat->Bool} {s:Nat->Nat} (h:∀ i,p i=ao->q (s i)=ao):∀ v,mO p v=ao->mO q (gg s v)=ao
 |.pointer (aa a),hv=>by simp only[gg,mO] at *;exact acE h hv
 |.pointer aj,_=>by simp[gg,mO]
 |.slice (aa a) k c,hv=>by simp only[gg,mO] at *;exact acE h hv
 |.slice aj _ _,_=>by simp[gg,mO]
 |.map (aa r),hv=>by simp only[gg,mO] at *;exact h r hv
 |.map aj,_=>by simp[gg,mO]
 |.chan (aa r),hv=>by simp only[gg,mO] at *;exact h r hv
 |.chan aj,_=>by simp[gg,mO]
 |.agg ⟨l⟩,hv=>by simp only[gg,mO] at *;exact Fe h l hv
 |.tuple ⟨l⟩,hv=>by simp only[gg,mO] at *;exact Fe h l hv
 |.func fn ⟨f⟩ ⟨c⟩,hv=>by
  simp only[gg,mO,aL] at *
  exact⟨Fe h f hv.1,Fe h c hv.2⟩
 |.iface t v,hv=>by simp only[gg,mO] at *;exact afe h v hv
 |.int _ _,_=>by simp[gg,mO]
 |.bool _,_=>by simp[gg,mO]
 |.string _,_=>by simp[gg,mO]
 |.float _ _,_=>by simp[gg,mO]
 |.complex _ _ _,_=>by simp[gg,mO]
 |.nilFunc,_=>by simp[gg,mO]
 |.nilIface,_=>by simp[gg,mO]
theorem Fe {p q:Nat->Bool} {s:Nat->Nat} (h:∀ i,p i=ao->q (s i)=ao):∀ l,zV p l=ao->zV q (lU s l)=ao
 |[],_=>by simp[lU,zV]
 |v::l,hv=>by
  simp only[zV,aL] at hv;simp only[lU,zV,aL];exact⟨afe h v hv.1,Fe h l hv.2⟩
theorem acE {p q:Nat->Bool} {s:Nat->Nat} (h:∀ i,p i=ao->q (s i)=ao) {a:Addr} (ha:Me p a=ao):Me q (vT s a)=ao:=by
 have h1:=(sc ha).1;have h2:=(sc ha).2;obtain⟨b,o,t⟩:=a;cases t with
 |none=>exact h b h1
 |some t =>
  have h3:J_ q (CQ s t)=ao:=ai4 h (h2 t rfl);simp only[vT,Me];rw[h b h1,h3]
  rfl
end
theorem r9 {z:Nat->Bool} {u:Nat->Nat} {h:Hp R}:∀ {l:List Nat} {i0 i:Nat},(o9 z u h i0 l).length=l.length/\(i<l.length->(o9 z u h i0 l)[i]?=aa (match fS h (nth l i) with
  |some B=>aa (yK u (F' (z (i0+i)) B))
  |none=>aj))
 |[],i0,i=>⟨rfl,fun h=>by simp at h⟩
 |b::l,i0,i=>by
  obtain⟨h1,h2⟩:=r9 (z:=z) (u:=u) (h:=h) (l:=l) (i0:=i0+1) (i:=i-1);refine⟨by simp[o9,h1],fun hl=>?_⟩
  cases i with
  |zero=>simp only[o9,cd,nth,gT]
  |succ i =>
   simp only[cy] at hl;have:=h2 (by omega)
   simp only[o9,bH,nth];simp only[mg] at this;rw[this,show i0+1+i=i0+(i+1) by omega]
theorem Cy {s:List Nat} {h:Hp R}:∀ {l:List Nat} {b:Nat},P6 s h l=ao->b∈l->b<h.length/\∀ t cs,fS h b=aa (.inl (t,cs))->zV (mem s) cs=ao
 |[],b,_,hb=>by cases hb
 |a::l,b,hs,hb=>by
  simp only[P6,aL,fe] at hs;rcases bP.1 hb with rfl|hb
  ·refine⟨hs.1.1,fun t cs e=>?_⟩
   have:=hs.1.2;rw[e] at this;exact this
  ·exact Cy hs.2 hb
theorem nF {s:List Nat} {f:Nat->Nat} {hl hx:Hp R}:∀ {h:Hp R} {b0 b:Nat},(ym s f hl hx b0 h).length=h.length/\(b<h.length->(ym s f hl hx b0 h)[b]?=aa (if mem s (b0+b)&&HP hl (pos s (b0+b)) then Ky f (fS hx (pos s (b0+b))) else fS h b))
 |[],b0,b=>⟨rfl,fun h=>by simp at h⟩
 |x::h,b0,b=>by
  obtain⟨h1,h2⟩:=nF (s:=s) (f:=f) (hl:=hl) (hx:=hx) (h:=h) (b0:=b0+1) (b:=b-1);refine⟨by simp[ym,h1],fun cj=>?_⟩
  cases b with
  |zero=>simp[ym,fS]
  |succ b =>
   simp only[cy] at cj;have:=h2 (by omega)
   simp only[ym,bH];simp only[mg] at this;rw[this,show b0+1+b=b0+(b+1) by omega]
   simp[fS]
theorem u0 {f:Nat->Nat}:∀ {l:Hp R} {i:Nat},(yI f l).length=l.length/\(yI f l)[i]?=(l[i]?).map (Ky f)
 |[],i=>⟨rfl,by simp[yI]⟩
 |x::l,i=>by
  obtain⟨h1,h2⟩:=u0 (f:=f) (l:=l) (i:=i-1);refine⟨by simp[yI,h1],?_⟩
  cases i with
  |zero=>simp[yI]
  |succ i=>simp only[yI,bH];simpa using h2
end
end Rx
namespace Rx
open Go.RowKit State
def aaX:Option Code->Bool
 |some (.loop _)=>ao
 |_=>an
section
variable {R:Type} {D:fH R} {P:Program} {C:Ctx} {w:World}
def Ij:List (Option Value)->List (Option Value)
 |[]=>[]
 |some v::l=>aa (Jy v)::Ij l
 |none::l=>aj::Ij l
theorem V7 {k:Nat} {u:Nat->Nat} {tm:List (Option Value)}:∀ {ts:List Nat} {vs:List Value} {i:Nat} {v:Value},Ij (JL tm ts)=Ij (vk (wT k (lU u vs)))->slot ts vs i=aa v->∃ v',tm[i]?=aa (aa v')/\Jy v'=Jy (pA k (gg u v))
 |[],_,i,v,_,h=>by simp[slot] at h
 |_::_,[],i,v,_,h=>by simp[slot] at h
 |t::ts,x::vs,i,v,hv,h=>by
  simp only[JL,vk,lU,wT] at hv;simp only[slot] at h;cases hm:tm[t]? with
  |none=>rw[hm] at hv;simp only[Ij] at hv;injection hv with h1 h2;cases h1
  |some o =>
   cases o with
   |none=>rw[hm] at hv;simp only[Ij] at hv;injection hv with h1 h2;cases h1
   |some v' =>
    rw[hm] at hv;simp only[Ij] at hv;injection hv with h1 h2
    injection h1 with h1
    split at h
    ·rename_i hb;have:=cP hb;subst this;injection h with h
     subst h;exact⟨v',hm,h1⟩
    ·exact V7 h2 h
structure j6 (R:Type) (n0 N:Nat) (ts:List Nat) (vs:List Value) (h:Hp R) (tv:List (Option Value)) (hp:Hp R) (tl:Nat):Prop where
 ex:∃ s:List Nat,Ij tv=Ij (vk (wT hp.length (lU (nth s) vs)))/\ub hp.length (nth s) hp 0 h/\vQ (yV hp.length (nth s) 0 h)=ao/\Gi (fun i=>fb (nth s i) i) n0=ao/\uM n0 hp.length=ao/\tl=N
theorem Vh:∀ {ts:List Nat} {vs:List Value} {i:Nat} {v:Value},slot ts vs i=aa v->v∈vs
 |[],_,i,v,h=>by simp[slot] at h
 |_::_,[],i,v,h=>by simp[slot] at h
 |t::ts,x::vs,i,v,h=>by
  simp only[slot] at h;split at h
  ·injection h with h;subst h;exact bL
  ·exact ed _ (Vh h)
theorem M.ZR {σ:SS R} {a:Act} {n0 N:Nat} {ts:List Nat} {vs:List Value} {h:Hp R} (hC:C.n0=n0) (hm:M D C σ a w) (hf:j6 R n0 N ts vs h (JL σ.tm ts) σ.hp σ.tm.length) (hv:ix h.length vs=ao) (hi:te h.length h=ao):M D C ⟨frame ts vs 0 N,[],h⟩ a w:=by
 obtain⟨ρ,ft,h0,h1,h2⟩:=hm.ex;obtain⟨s,f1,f2,f3,f4,f5,f6⟩:=hf.ex;refine⟨hm.defers,fun t b hb=>(by cases hb),fun b=>xD ρ σ.hp.length (nth s b),_,fun i lP=>?_,⟨?_,fun t v ht=>?_⟩,h2.Uu f2 f3 hi⟩
 ·have:=zQ f4 (by omega:i<n0)
  show xD ρ σ.hp.length (nth s i)=C.e0 i
  rw[cP this];have:=jF f5;rw[xr (by omega),h0 i lP]
 ·rw[h1.size,f6,(F_ ts vs N 0 0).1]
 ·have hl:t<N:=by have:=(aU.1 ht).1;rw[(F_ ts vs N 0 0).1] at this;exact this
  rw[(F_ ts vs N 0 t).2 hl,bV] at ht;injection ht with ht
  obtain⟨v',g1,e1⟩:=V7 f1 ht;obtain⟨g2,g3⟩:=h1.val t _ g1;refine⟨?_,wR.1 hv v (Vh ht)⟩;have g4:fp σ.hp.length (pA σ.hp.length (gg (nth s) v))=ao:=by rw[← MS,← e1,MS];exact g3
  rw[g2,← Nc ρ v',e1,Nc,KA _ g4,CP]
theorem kH {root:Code} {n0:Nat} {k:Exit->SS R->Prop} {p:List Nat} {r:List (It R)} {σ:SS R} (hc:aaX (iV root p)=ao) {ι:Type} (I:ι->Prop) (ts:List Nat) (V:ι->List Value) (H:ι->Hp R) (μ:ι->Nat) (N:Nat)
  (j8:∀ i,I i->ix (H i).length (V i)=ao/\te (H i).length (H i)=ao/\n0≤(H i).length)
  (h0:∃ i,I i/\j6 R n0 N ts (V i) (H i) (JL σ.tm ts) σ.hp σ.tm.length)
  (step:∀ i,I i->At D P root n0 k (.inl (p++[0]) :: .inr (.inr fun oy=>∃ j,I j/\μ j<μ i/\j6 R n0 N ts (V j) (H j) (JL oy.tm ts) oy.hp oy.tm.length)::r) ⟨frame ts (V i) 0 N,[],H i⟩) :
  At D P root n0 k (.inl p::r) σ:=by
 have Dj:∃ body,iV root p=aa (.loop body):=by
  unfold aaX at hc;split at hc
  ·exact⟨_,by assumption⟩
  ·cases hc
 obtain⟨body,hc⟩:=Dj;refine⟨fun C a w hC hn hm=>?_⟩
 simp only[pB,hc];obtain⟨i0,hI0,hf0⟩:=h0;obtain⟨q1,q2,_⟩:=j8 i0 hI0;have key:∀ (i:ι) (a:Act) (w:World),I i->M D C ⟨frame ts (V i) 0 N,[],H i⟩ a w->(Code.loop body).wp P (pB D P C root k r) a w:=by
  intro i a w hI hM
  have least:∀ (a:Act) (w:World),(∃ i,I i/\M D C ⟨frame ts (V i) 0 N,[],H i⟩ a w) ->
    ∃ n i,μ i=n/\I i/\M D C ⟨frame ts (V i) 0 N,[],H i⟩ a w/\∀ j,I j->M D C ⟨frame ts (V j) 0 N,[],H j⟩ a w->n≤μ j:=by
   intro a w ⟨i,hI,hM⟩;have:∀ (n:Nat) (i:ι),μ i=n->I i->M D C ⟨frame ts (V i) 0 N,[],H i⟩ a w->∃ n i,μ i=n/\I i/\M D C ⟨frame ts (V i) 0 N,[],H i⟩ a w/\∀ j,I j->M D C ⟨frame ts (V j) 0 N,[],H j⟩ a w->n≤μ j:=by
    intro n
    induction n using tJ with
    |_ n ih =>
     intro i hn hI hM
     by_cases hex:∃ j,I j/\M D C ⟨frame ts (V j) 0 N,[],H j⟩ a w/\μ j<n
     ·obtain⟨j,hJ,hMj,cj⟩:=hex;exact ih (μ j) cj j rfl hJ hMj
     ·exact⟨n,i,hn,hI,hM,fun j hJ hMj=>nw fun cj=>hex ⟨j,hJ,hMj,cj⟩⟩
   exact this _ i rfl hI hM
  have spec:=fun a w h=>Xb (p:=fun n=>∃ i,μ i=n/\I i/\M D C ⟨frame ts (V i) 0 N,[],H i⟩ a w/\∀ j,I j->M D C ⟨frame ts (V j) 0 N,[],H j⟩ a w->n≤μ j) (least a w h)
  refine wp_loop (fun a w=>∃ i,I i/\M D C ⟨frame ts (V i) 0 N,[],H i⟩ a w) (fun a w=>Classical.epsilon fun n=>∃ i,μ i=n/\I i/\M D C ⟨frame ts (V i) 0 N,[],H i⟩ a w/\∀ j,I j->M D C ⟨frame ts (V j) 0 N,[],H j⟩ a w->n≤μ j) ⟨i,hI,hM⟩ ?_
  intro a w ⟨i,hI,hM⟩;obtain⟨i',e1,hI',XW,apO⟩:=spec a w ⟨i,hI,hM⟩;obtain⟨_,_,ya⟩:=j8 i' hI';have aaa:=(step i' hI').run C a w hC ya XW;simp only[pB] at aaa;rw[show iV root (p++[0])=aa body by rw[ob p root _ [0] hc];simp[iV]] at aaa
  refine wp_mono aaa fun e a' w' h=>?_
  cases e with
  |normal =>
   obtain⟨oy,⟨j,hJ,cj,EP⟩,_,hM2⟩:=h;obtain⟨g1,g2,_⟩:=j8 j hJ;have hM3:=hM2.ZR hC EP g1 g2;refine⟨⟨j,hJ,hM3⟩,?_⟩;obtain⟨i2,e2,_,_,alx⟩:=spec a' w' ⟨j,hJ,hM3⟩;have:=alx j hJ hM3;omega
  |_=>exact h
 exact key i0 a w hI0 (hm.ZR hC hf0 q1 q2)
end
end Rx
namespace Rx
open Go.RowKit State
section
variable {R:Type} {D:fH R} {P:Program} {T:ez R} {C:Ctx} {w w':World}
def eqP:List Nat->List Nat->Bool
 |[],[]=>ao
 |a::l,b::r=>fb a b&&eqP l r
 |_,_=>an
def akl:List (List Nat)->List Nat->Bool
 |[],_=>an
 |q::l,p=>eqP q p||akl l p
def E6 (S:List (List Nat)) (D:fH R) (P:Program) (T:ez R) (root:Code) (n0:Nat) (k:Exit->SS R->Prop):Nat->List (It R)->SS R->Prop
 |0,todo,σ=>At D P root n0 k todo σ
 |n+1,todo,σ =>
  match todo with
  |[]=>k .normal σ
  |.inr (.inl _)::r=>E6 S D P T root n0 k n r σ
  |.inr (.inr J)::r=>aW (J σ)
  |.inl p::r =>
   if akl S p then At D P root n0 k (.inl p::r) σ else
   match iV root p with
   |none=>oh 5
   |some c =>
    match c with
    |.skip=>E6 S D P T root n0 k n r σ
    |.label _=>E6 S D P T root n0 k n r σ
    |.seq _ _=>E6 S D P T root n0 k n (.inl (p++[0]) :: .inl (p++[1])::r) σ
    |.block id _=>E6 S D P T root n0 k n (.inl (p++[0]) :: .inr (.inl id)::r) σ
    |.cond x _ _ =>
     match Gb σ.li x with
     |some ao=>E6 S D P T root n0 k n (.inl (p++[0])::r) σ
     |some an=>E6 S D P T root n0 k n (.inl (p++[1])::r) σ
     |none =>
      match x with
      |.tmp t=>match σ.tm[t]? with
       |some (aa (.bool b)) =>
        (b=ao->Jf (assume σ t ao) fun σ=>E6 S D P T root n0 k n (.inl (p++[0])::r) σ) /\
        (b=an->Jf (assume σ t an) fun σ=>E6 S D P T root n0 k n (.inl (p++[1])::r) σ)
       |_=>oh 6
      |_=>oh 7
    |.exit id =>
     match DB id r with
     |some r'=>E6 S D P T root n0 k n r' σ
     |none=>k (.exit id) σ
    |.ret=>k .ret σ
    |.region _ ⟨ops⟩ an=>vR P T ops ops σ fun oy=>E6 S D P T root n0 k n r oy
    |.region _ ⟨ops⟩ ao=>EV P T ops σ (fun oy=>E6 S D P T root n0 k n r oy) (ops.length+1) []
    |_=>At D P root n0 k (.inl p::r) σ
theorem mV (S:List (List Nat)) (hT:cL D P T) (Mw:P.follows .mixedOrders=ao) {root:Code} {n0:Nat} {k:Exit->SS R->Prop}:∀ (n:Nat) {todo:List (It R)} {σ:SS R},E6 S D P T root n0 k n todo σ->At D P root n0 k todo σ
 |0,todo,σ,h=>h
 |n+1,todo,σ,h=>by
  refine⟨fun C a w hC hn hm=>?_⟩
  have ih:∀ {todo:List (It R)} {σ:SS R} {a:Act} {w:World},E6 S D P T root n0 k n todo σ->n0≤σ.hp.length->M D C σ a w->pB D P C root k todo .normal a w:=fun h hn hm=>(mV S hT Mw n h).run C _ _ hC hn hm
  unfold E6 at h;simp only[Km] at h;split at h
  ·exact⟨σ,h,hm⟩
  ·rename_i id r;show pB D P C root k r .normal a w
   exact ih h hn hm
  ·rename_i J r;exact⟨σ,h.out,by rw[hC];exact hn,hm⟩
  ·rename_i p r;split at h
   ·exact h.run C a w hC hn hm
   split at h
   ·exact h.elim
   ·rename_i c hc;simp only[pB,hc];have sub:∀ (i:Nat) (d:Code),iV c [i]=aa d->iV root (p++[i])=aa d:=fun i d hd=>by rw[ob p root c [i] hc];exact hd
    split at h
    ·exact wp_skip (ih h hn hm)
    ·exact wp_label (ih h hn hm)
    ·rename_i x y;have h1:=ih h hn hm;simp only[pB,sub 0 x (by simp[iV])] at h1
     refine wp_seq (wp_mono h1 fun e a' w' h2=>?_)
     cases e with
     |normal =>
      simp only[sub 1 y (by simp[iV])] at h2
      exact h2
     |_=>exact h2
    ·rename_i id x;have h1:=ih h hn hm;simp only[pB,sub 0 x (by simp[iV])] at h1
     exact wp_block h1
    ·rename_i x y z;split at h
     ·rename_i hl;have h1:=ih h hn hm;simp only[pB,sub 0 y (by simp[iV])] at h1
      obtain⟨ρ,ft,_,g1,_⟩:=hm.ex;have:=(ek g1 (yB hm.li hl)).1;exact wp_cond_true (by simpa using this) h1
     ·rename_i hl;have h1:=ih h hn hm;simp only[pB,sub 1 z (by simp[iV])] at h1
      obtain⟨ρ,ft,_,g1,_⟩:=hm.ex;have:=(ek g1 (yB hm.li hl)).1;exact wp_cond_false (by simpa using this) h1
     ·split at h
      ·rename_i t _;split at h
       ·rename_i b hb;have ht:=YY hm hb;have he:a.eval (.tmp t)=.bool b:=by simp[B6,ht]
        cases b with
        |true =>
         have h1:=ih (h.1 rfl) (by simpa [assume] using hn) (hm.assume hb)
         simp only[pB,sub 0 y (by simp[iV])] at h1
         exact wp_cond_true he h1
        |false =>
         have h1:=ih (h.2 rfl) (by simpa [assume] using hn) (hm.assume hb)
         simp only[pB,sub 1 z (by simp[iV])] at h1
         exact wp_cond_false he h1
       ·exact h.elim
      ·exact h.elim
    ·rename_i id;refine wp_exit (EJ ?_);split at h
     ·rename_i r' wY;rw[wY];exact ih h hn hm
     ·rename_i wY;rw[wY];exact⟨σ,h,hm⟩
    ·exact wp_ret (Hd ⟨σ,h,hm⟩)
    ·rename_i id ops;refine wp_region_list ?_;exact FI hT ops h hm (by omega) fun oy a' w' h' ya mG=>ih h' (by omega) mG
    ·rename_i id ops;exact XG hT Mw h hm (by omega) fun oy a' w' h' ya mG=>ih h' (by omega) mG
    ·have:=h.run C a w hC hn hm
     simpa only [pB,hc] using this
theorem At.Da {root:Code} {n0:Nat} {k:Exit->SS R->Prop} {todo:List (It R)} {tm:List (Option Value)} {li:List (Nat×Bool)} {hp:Hp R} (li':List (Nat×Bool)) (hl:∀ x∈li',tm[x.1]?=aa (aa (.bool x.2)))
  (h:At D P root n0 k todo ⟨tm,li',hp⟩):At D P root n0 k todo ⟨tm,li,hp⟩ :=
 ⟨fun C a w hC hn hm=>h.run C a w hC hn ⟨hm.defers,fun t b hb=>hl (t,b) hb,hm.ex⟩⟩
end
end Rx
namespace Rx
open Go.RowKit State
def FX (ts:List Nat):Nat->List (Option Value)->List (Option Value)
 |_,[]=>[]
 |i,x::l=>(match mem ts i with
  |true=>x
  |false=>aj)::FX ts (i+1) l
section
variable {R:Type} {D:fH R} {P:Program} {T:ez R} {C:Ctx} {w w':World}
theorem Kh (ts:List Nat):∀ (l:List (Option Value)) (i j:Nat),(FX ts i l).length=l.length/\∀ v,(FX ts i l)[j]?=aa (aa v)->l[j]?=aa (aa v)
 |[],i,j=>⟨rfl,fun v h=>by simp[FX] at h⟩
 |x::l,i,j=>by
  obtain⟨h1,h2⟩:=Kh ts l (i+1) (j-1);refine⟨by simp[FX,h1],fun v h=>?_⟩
  cases j with
  |zero =>
   simp only[FX,cd,ct] at h ⊢;split at h
   ·exact h
   ·cases h
  |succ j =>
   simp only[FX,bH] at h ⊢;simp only[mg] at h2;exact h2 v h
theorem M.HT {σ:SS R} {a:Act} {ts:List Nat} (hm:M D C σ a w):M D C ⟨FX ts 0 σ.tm,[],σ.hp⟩ a w:=by
 obtain⟨ρ,ft,h0,h1,h2⟩:=hm.ex;exact⟨hm.defers,fun t b hb=>(by cases hb),ρ,ft,h0,⟨by rw[h1.size,(Kh ts σ.tm 0 0).1],fun t v ht=>h1.val t v ((Kh ts σ.tm 0 t).2 v ht)⟩,h2⟩
theorem At.fit {root:Code} {n0:Nat} {k:Exit->SS R->Prop} {todo:List (It R)} {σ:SS R} (ts:List Nat) (V:List Value) (H:Hp R) (N:Nat) (j8:ix H.length V=ao/\te H.length H=ao/\n0≤H.length)
  (hf:j6 R n0 N ts V H (JL σ.tm ts) σ.hp σ.tm.length) (h:At D P root n0 k todo ⟨frame ts V 0 N,[],H⟩):At D P root n0 k todo σ :=
 ⟨fun C a w hC _ hm=>h.run C a w hC j8.2.2 (hm.ZR hC hf j8.1 j8.2.1)⟩
end
end Rx
namespace Rx
open Go.RowKit State
section
variable {R:Type} {D:fH R} {P:Program} {T:ez R}
theorem zm {z:Nat->Bool} {d:Nat} {spec:Prim R} {args:List Value} {h:Hp R} {y:Out R} (hy:DA z d spec args h=aa y) :
  ∃ s x,s=L0 (reach h d (sO args)) []/\zV (mem s) args=ao/\P6 s h s=ao/\vQ s=ao/\spec (lU (pos s) args) (o9 z (pos s) h 0 s)=aa x/\rD (o9 z (pos s) h 0 s) x.hp=ao/\fp x.hp.length x.v=ao /\
   y=⟨x.vc,gg (qo s h.length) x.v,x.lit,ym s (qo s h.length) (o9 z (pos s) h 0 s) x.hp 0 h++yI (qo s h.length) (x.hp.drop s.length),[],match x.wr with
    |[]=>[]
    |_=>[(0,0)]⟩:=by
 simp only[DA,Wg,JP] at hy;split at hy
 ·rename_i hc;simp only[aL] at hc;split at hy
  ·rename_i x hx;split at hy
   ·rename_i hb;simp only[aL] at hb;injection hy with hy
    exact⟨_,x,rfl,hc.1.1,hc.1.2,hc.2,hx,hb.1,hb.2,hy.symm⟩
   ·cases hy
  ·cases hy
 ·cases hy
theorem MD {s:List Nat} {n i:Nat} (h:i<s.length):qo s n i=nth s i:=by
 unfold qo;rw[p9.2 h];rfl
theorem ad1 {s:List Nat} {n i:Nat} (h:¬ i<s.length):qo s n i=n+(i-s.length):=by
 unfold qo;split
 ·rename_i hb;exact absurd (p9.1 hb) h
 ·rfl
theorem HO {f:Nat->Nat} {x:Option (SB R)} {X:SB R} (h:Ky f x=aa X):∃ Y,x=aa Y/\X=yK f Y:=by
 cases x with
 |none=>cases h
 |some Y=>injection h with h;exact⟨Y,rfl,h.symm⟩
theorem F4 {f:Nat->Nat} {B:SB R}:g_ (yK f B)=g_ B:=by
 rcases B with⟨t,cs⟩|B<;>rfl
def liftOn (z:Nat->Bool) (d:Nat) (on:List Value->Hp R->Prop) (args:List Value) (h:Hp R):Prop :=
 on (lU (pos (L0 (reach h d (sO args)) [])) args) (o9 z (pos (L0 (reach h d (sO args)) [])) h 0 (L0 (reach h d (sO args)) []))
theorem adk {f:FuncId} {on:List Value->Hp R->Prop} {spec:Prim R} (z:Nat->Bool) (d:Nat) (ok:rK D P f on spec):rK D P f (liftOn z d on) (DA z d spec) where
 known:=ok.known
 len args h y hy:=by
  obtain⟨s,x,_,_,_,_,_,_,_,rfl⟩:=zm hy;simp only[bA];have:=(nF (s:=s) (f:=qo s h.length) (hl:=o9 z (pos s) h 0 s) (hx:=x.hp) (h:=h) (b0:=0) (b:=0)).1;omega
 lit args h y hy b hb:=by
  obtain⟨s,x,_,_,_,_,hx,_,_,rfl⟩:=zm hy;have:=ok.lit _ _ _ hx b hb;simp only[this,gg]
 still args h y hy hw:=by
  obtain⟨s,x,hs0,h1,h2,h3,hx,h5,h6,rfl⟩:=zm hy;have hw':x.wr=[]:=by
   simp only at hw;split at hw
   ·assumption
   ·cases hw
  have he:=ok.still _ _ _ hx hw';simp only[he];have n9:(o9 z (pos s) h 0 s).length=s.length:=(r9 (i0:=0) (i:=0)).1;have hd:(o9 z (pos s) h 0 s).drop s.length=[]:=by rw[IS];omega
  rw[hd];simp only[yI,Bb];apply nV;intro b;rcases cr b h.length with cj|j7
  ·rw[(nF (b0:=0) (b:=b)).2 cj,bV];split
   ·rename_i hc;simp only[aL] at hc;have hm:=mem_iff.1 hc.1;obtain⟨p1,p2⟩:=oC hm;obtain⟨X,hX,hv⟩:=qL.1 hc.2;have hg:=(r9 (z:=z) (u:=pos s) (h:=h) (l:=s) (i0:=0) (i:=pos s b)).2 p2;rw[hX,p1] at hg;injection hg with hg
    cases hb:fS h b with
    |none=>rw[hb] at hg;cases hg
    |some B =>
     rw[hb] at hg;simp only at hg;injection hg with hg
     rw[Ks hX,xM cj,hb,hg];simp only[Ky];have hfr:F' (z (0+pos s b)) B=B:=by
      rcases B with⟨t,cs⟩|⟨t,r⟩|r|q
      ·rfl
      ·cases hz:z (0+pos s b) with
       |false=>rfl
       |true =>
        rw[hz] at hg;rw[hg] at hv;simp[F',yK,g_] at hv
      ·rfl
      ·rfl
     rw[hfr]
     congr 2
     rcases B with⟨t,cs⟩|B
     ·simp only[yK];rw[BE,EL (p:=mem s)]
      ·intro i hi;obtain⟨q1,q2⟩:=oC (mem_iff.1 hi);rw[MD q2,q1]
      ·exact(Cy h2 hm).2 t cs hb
     ·rfl
   ·rw[xM cj]
  ·rw[dc j7,dc (by rw[(nF (b0:=0) (b:=0)).1];exact j7)]
 run args h y mN hy C ρ ft w hm O5 j8:=by
  obtain⟨s,x,hs0,h1,h2,h3,hx,h5,h6,rfl⟩:=zm hy;simp only at O5 ⊢;unfold liftOn at mN;rw[← hs0] at mN;have n9:(o9 z (pos s) h 0 s).length=s.length:=(r9 (i0:=0) (i:=0)).1;have AI:s.length≤x.hp.length:=by rw[← n9];exact(rQ (b:=0) (X:=.inl (0,[])) h5).1
  have ad6:∀ b,b∈s->b<h.length:=fun b hb=>(Cy h2 hb).1
  let hr:Hp R:=(oi h.length).map fun b=>if mem s b then(match fS h b with
   |some B=>aa (F' (z (pos s b)) B)
   |none=>aj) else aj
  have hrl:hr.length=h.length:=by simp[hr]
  have Fh:∀ (b:Nat) (X:SB R),hr[b]?=aa (aa X)->b∈s/\∃ B,fS h b=aa B/\X=F' (z (pos s b)) B:=by
   intro b X hX;have cj:b<h.length:=by
    have:=(aU.1 hX).1;omega
   simp only[hr,fh,sP cj,kc] at hX;split at hX
   ·rename_i CC;refine⟨mem_iff.1 CC,?_⟩;cases hb:fS h b with
    |none=>rw[hb] at hX;simp at hX
    |some B=>rw[hb] at hX;simp at hX;exact⟨B,rfl,hX.symm⟩
   ·simp at hX
  have Za:∀ (b:Nat) (B:SB R),b∈s->fS h b=aa B->hr[b]?=aa (aa (F' (z (pos s b)) B)):=by
   intro b B hb hB;simp only[hr,fh,sP (ad6 b hb),kc,mem_iff.2 hb,if_true,hB]
  have nj:Sub hr h:=by
   intro b X hX;obtain⟨_,B,hB,rfl⟩:=Fh b X hX;have jD:=rz hB;rcases B with⟨t,cs⟩|⟨t,r⟩|r|q
   ·exact dK jD
   ·cases hz:z (pos s b) with
    |false=>exact dK jD
    |true=>exact eV ⟨t,r,rfl,jD⟩
   ·exact dK jD
   ·exact dK jD
  have alD:=hm.anf nj hrl 0;have hpn:∀ i,i<s.length->pos s (nth s i)=i:=fun i hi=>XX h3 hi
  have anz:HM D (S4 w hr ft ρ 0) (fun i=>ρ (nth s i)) (fun b k=>(∃ X,(o9 z (pos s) h 0 s)[b]?=aa (aa X))/\(Ak hr (nth s b)/\ft (nth s b) k)) (o9 z (pos s) h 0 s) w:=by
   refine alD.rename (nth s) (fun i X hX=>dK ⟨rfl,?_⟩) fun i j X Y _ hX hY he=>?_
   ·have hi:i<s.length:=by have:=(aU.1 hX).1;omega
    have hg:=(r9 (z:=z) (u:=pos s) (h:=h) (l:=s) (i0:=0) (i:=i)).2 hi;rw[hX,bV] at hg;injection hg with hg
    cases hb:fS h (nth s i) with
    |none=>rw[hb] at hg;cases hg
    |some B =>
     rw[hb] at hg;simp only at hg;injection hg with hg
     have hq:=Za (nth s i) B (HE hi) hb;rw[hpn i hi] at hq;refine⟨_,hq,?_⟩;rw[hg];rcases B with⟨t,cs⟩|B
     ·have akb:=(Cy h2 (HE hi)).2 t cs hb;refine⟨rfl,?_,?_⟩
      ·rw[rX,← lh,← lh];refine Bx (p:=mem s) (fun b hb=>?_) cs akb
       rw[(oC (mem_iff.1 hb)).1]
      ·rw[n9];refine BK _ (Fe (p:=mem s) (q:=fun i=>gR i s.length) (fun b hb=>p9.2 (oC (mem_iff.1 hb)).2) cs akb)
     ·rcases B with⟨t,r⟩|r|q
      ·cases hz:z i
       ·exact⟨rfl,dK rfl⟩
       ·rfl
      ·rfl
      ·rfl
   ·have hi:i<s.length:=by have:=(aU.1 hX).1;omega
    have hj:j<s.length:=by have:=(aU.1 hY).1;omega
    rw[← hpn i hi,he,hpn j hj]
  have hargs:args.map (bT ρ)=(lU (pos s) args).map (bT (fun i=>ρ (nth s i))):=by
   rw[rX,← lh,← lh];refine Bx (p:=mem s) (fun b hb=>?_) args h1
   rw[(oC (mem_iff.1 hb)).1]
  rw[hargs];have anC:ix (o9 z (pos s) h 0 s).length (lU (pos s) args)=ao:=by
   rw[n9];exact BK _ (Fe (p:=mem s) (q:=fun i=>gR i s.length) (fun b hb=>p9.2 (oC (mem_iff.1 hb)).2) args h1)
  refine(ok.run _ _ _ mN hx _ _ _ w anz O5 anC).mono fun e w' ⟨gv,ku,g1,g2,g3⟩=>?_
  rw[n9] at g1
  let tB:Nat->Nat:=fun b=>if mem s b then pos s b else s.length+(b-h.length)
  let ni:Env:=fun b=>if b<h.length then ρ b else gv (s.length+(b-h.length))
  let PQ:Hp R:=(oi (h.length+(x.hp.length-s.length))).map fun b=>if b<h.length then(if mem s b then Ky (qo s h.length) (fS x.hp (pos s b)) else aj) else Ky (qo s h.length) (fS x.hp (s.length+(b-h.length)))
  have Zv:PQ.length=h.length+(x.hp.length-s.length):=by simp[PQ]
  have Qr:∀ (b:Nat),b<h.length+(x.hp.length-s.length)->PQ[b]?=aa (if b<h.length then(if mem s b then Ky (qo s h.length) (fS x.hp (pos s b)) else aj) else Ky (qo s h.length) (fS x.hp (s.length+(b-h.length)))):=fun b hb=>by
   simp only[PQ,fh,sP hb,kc]
  have Lj:∀ (b:Nat) (X:SB R),PQ[b]?=aa (aa X)->∃ Y,x.hp[tB b]?=aa (aa Y)/\X=yK (qo s h.length) Y/\ni b=gv (tB b)/\(b<h.length->b∈s)/\(h.length≤b->¬ b∈s):=by
   intro b X hX;have cj:b<h.length+(x.hp.length-s.length):=by
    have:=(aU.1 hX).1;omega
   rw[Qr b cj] at hX;injection hX with hX
   split at hX
   ·rename_i hb;split at hX
    ·rename_i CC;obtain⟨Y,hY,rfl⟩:=HO hX;obtain⟨p1,p2⟩:=oC (mem_iff.1 CC);refine⟨Y,?_,rfl,?_,fun _=>mem_iff.1 CC,fun j7=>by omega⟩
     ·simp only[tB,CC,if_true];exact rz hY
     ·simp only[tB,CC,if_true,ni,hb];rw[g1 _ p2,p1]
    ·cases hX
   ·rename_i hb;obtain⟨Y,hY,rfl⟩:=HO hX;have hns:¬ b∈s:=fun hh=>hb (ad6 b hh)
    have CC:mem s b=an:=by
     cases hh:mem s b with
     |false=>rfl
     |true=>exact absurd (mem_iff.1 hh) hns
    refine⟨Y,?_,rfl,?_,fun cj=>absurd cj hb,fun _=>hns⟩
    ·simp only[tB,CC,fO,if_false];exact rz hY
    ·simp only[tB,CC,fO,if_false,ni,hb]
  have ado:∀ i,i<x.hp.length->ni (qo s h.length i)=gv i/\qo s h.length i<h.length+(x.hp.length-s.length):=by
   intro i hi
   by_cases hs:i<s.length
   ·rw[MD hs];have:=ad6 _ (HE hs);refine⟨?_,by omega⟩
    simp only[ni,this,if_true];exact(g1 i hs).symm
   ·rw[ad1 hs];refine⟨?_,by omega⟩
    simp only[ni];rw[if_neg (by omega)]
    congr 1
    omega
  have Zk:HM D (S4 w hr ft ρ 0) ni (fun b k=>(∃ X,PQ[b]?=aa (aa X))/\ku (tB b) k) PQ w':=by
   refine g3.rename tB (fun b X hX=>dK ?_) fun b b' X X' _ hX hX' he=>?_
   ·obtain⟨Y,hY,rfl,qD,_⟩:=Lj b X hX;refine⟨qD,Y,hY,?_⟩;rcases Y with⟨t,cs⟩|Y
    ·have HG:=(g3.at_ _ _ hY).2;simp only[inside] at HG;refine⟨rfl,?_,?_⟩
     ·rw[rX,← lh,← lh];exact qq (n:=x.hp.length) (fun i hi=>(ado i hi).1) cs HG
     ·rw[Zv];exact wc (n:=x.hp.length) (fun i hi=>(ado i hi).2) cs HG
    ·exact Ln.refl Y
   ·obtain⟨_,_,_,_,a1,a2⟩:=Lj b X hX;obtain⟨_,_,_,_,b1,b2⟩:=Lj b' X' hX';simp only[tB] at he;rcases cr b h.length with c1|c1<;>rcases cr b' h.length with c2|c2
    ·rw[mem_iff.2 (a1 c1),mem_iff.2 (b1 c2)] at he;simp only[if_true] at he;rw[← (oC (a1 c1)).1,he,(oC (b1 c2)).1]
    ·have:=(oC (a1 c1)).2;have CC:mem s b'=an:=by
      cases hh:mem s b' with
      |false=>rfl
      |true=>exact absurd (mem_iff.1 hh) (b2 c2)
     rw[mem_iff.2 (a1 c1),CC] at he;simp at he;omega
    ·have:=(oC (b1 c2)).2;have CC:mem s b=an:=by
      cases hh:mem s b with
      |false=>rfl
      |true=>exact absurd (mem_iff.1 hh) (a2 c1)
     rw[mem_iff.2 (b1 c2),CC] at he;simp at he;omega
    ·have CC:mem s b=an:=by
      cases hh:mem s b with
      |false=>rfl
      |true=>exact absurd (mem_iff.1 hh) (a2 c1)
     have anx:mem s b'=an:=by
      cases hh:mem s b' with
      |false=>rfl
      |true=>exact absurd (mem_iff.1 hh) (b2 c2)
     rw[CC,anx] at he;simp at he;omega
  have hbk:=fun b X=>rQ (b:=b) (X:=X) h5
  have TL:∀ b,Ak hr b↔(b∈s/\HP (o9 z (pos s) h 0 s) (pos s b)=ao):=by
   intro b
   constructor
   ·intro⟨X,hX,hv⟩;obtain⟨hb,B,hB,rfl⟩:=Fh b X hX;refine⟨hb,qL.2 ?_⟩;obtain⟨p1,p2⟩:=oC hb;have hg:=(r9 (z:=z) (u:=pos s) (h:=h) (l:=s) (i0:=0) (i:=pos s b)).2 p2;rw[p1,hB,bV] at hg;exact⟨_,hg,by rw[F4];exact hv⟩
   ·intro⟨hb,hh⟩;obtain⟨X,hX,hv⟩:=qL.1 hh;obtain⟨p1,p2⟩:=oC hb;have hg:=(r9 (z:=z) (u:=pos s) (h:=h) (l:=s) (i0:=0) (i:=pos s b)).2 p2;rw[hX,p1,bV] at hg;injection hg with hg
    cases hB:fS h b with
    |none=>rw[hB] at hg;cases hg
    |some B =>
     rw[hB] at hg;simp only at hg;injection hg with hg
     refine⟨_,Za b B hb hB,?_⟩;rw[hg,F4] at hv;exact hv
  have agp:=hm.aiJ nj hrl (n:=0) (h':=ym s (qo s h.length) (o9 z (pos s) h 0 s) x.hp 0 h++yI (qo s h.length) (x.hp.drop s.length)) Zk
   (fun b hb=>by simp only[ni,hb,if_true]) (by rw[Zv];omega) ?_ ?_ ?_ ?_
  ·refine⟨ni,_,fun i hi=>by simp only[ni,hi,if_true],?_,agp⟩
   rw[g2,CP,nh (n:=x.hp.length) (fun i hi=>(ado i hi).1) x.v h6]
  ·intro b X hX;obtain⟨Y,hY,rfl,_,a1,a2⟩:=Lj b X hX;rw[F4];rcases((hbk _ Y).2 hY).2 with h7|⟨Z,hZ,hv⟩
   ·exact dK h7
   ·right
    rcases cr b h.length with c1|c1
    ·have hb:=a1 c1;obtain⟨p1,p2⟩:=oC hb;simp only[tB,mem_iff.2 hb,if_true] at hZ;have hg:=(r9 (z:=z) (u:=pos s) (h:=h) (l:=s) (i0:=0) (i:=pos s b)).2 p2;rw[hZ,p1,bV] at hg;injection hg with hg
     cases hB:fS h b with
     |none=>rw[hB] at hg;cases hg
     |some B =>
      rw[hB] at hg;simp only at hg;injection hg with hg
      refine⟨_,Za b B hb hB,?_⟩;rw[hg,F4] at hv;exact hv
    ·have CC:mem s b=an:=by
      cases hh:mem s b with
      |false=>rfl
      |true=>exact absurd (mem_iff.1 hh) (a2 c1)
     simp only[tB,CC,fO,if_false] at hZ;have:=(aU.1 hZ).1;omega
  ·rw[bA,(nF (b0:=0) (b:=0)).1,u0 (i:=0) |>.1,Zv,List.length_drop]
  ·intro b hb;rcases cr b h.length with c1|c1
   ·have ho:Ak hr b:=hb.elim id fun j7=>by omega
    obtain⟨hbs,hoa⟩:=(TL b).1 ho;rw[c_ (by rw[(nF (b0:=0) (b:=0)).1];exact c1),(nF (b0:=0) (b:=b)).2 c1,bV,Qr b (by omega)]
    rw[mem_iff.2 hbs,hoa];simp only[SV,if_true,c1]
   ·rw[dQ (by rw[(nF (b0:=0) (b:=0)).1];exact c1),(nF (b0:=0) (b:=0)).1,u0.2,oQ]
    rcases cr b (h.length+(x.hp.length-s.length)) with c2|c2
    ·rw[Qr b c2,if_neg (by omega)]
     have:s.length+(b-h.length)<x.hp.length:=by omega
     rw[xM this]
     rfl
    ·rw[dc (by omega),dc (by rw[Zv];omega)]
     rfl
  ·intro b hb hn;rw[c_ (by rw[(nF (b0:=0) (b:=0)).1];exact hb),(nF (b0:=0) (b:=b)).2 hb,bV]
   split
   ·rename_i hc;simp only[aL] at hc;exact absurd ((TL b).2 ⟨mem_iff.1 hc.1,hc.2⟩) hn
   ·rw[xM hb]
theorem Kz {f:FuncId} {c:jb R} (z:Nat->Bool) (d:Nat) (ok:b6 D P f c):b6 D P f (bJ z d c):=by
 intro b;have:=adk z d (ok b);have e:(bJ z d c).go b=DA z d (c.go b):=by cases b<;>rfl
 rw[e];refine⟨this.known,fun args h x mN=>this.run args h x ?_,this.len,this.lit,this.still⟩
 unfold rZ bJ Zu at mN;simp only[Wg,JP] at mN;exact mN
theorem aT {f:FuncId} {c:jb R} (z:Nat->Bool) (d:Nat) (ok:b6 D P f c):HF D P f (bJ z d c):=by
 refine⟨Kz z d ok,fun b args h x hx i hi hk=>?_⟩
 have e:(bJ z d c).go b=DA z d (c.go b):=by cases b<;>rfl
 rw[e] at hx;obtain⟨s,y,_,_,_,_,_,_,_,rfl⟩:=zm hx;simp only at hk;split at hk<;>cases hk
def KJ (K:List Nat):Nat->List Nat->List (Nat×Nat)
 |_,[]=>[]
 |i,b::l=>if mem K i then KJ K (i+1) l else(b,0)::KJ K (i+1) l
def V1 (K:List Nat) (d:Nat) (spec:Prim R):Prim R:=fun args h =>
 match DA (fun _=>an) d spec args h with
 |some x=>aa ⟨x.vc,x.v,x.lit,x.hp,x.rd,match x.wr with
  |[]=>[]
  |_=>(0,1)::KJ K 0 (L0 (reach h d (sO args)) [])⟩
 |none=>aj
def Cs (K:List Nat) (d:Nat) (c:jb R):jb R:=⟨Zu (fun _=>an) d c.when,V1 K d c.yes,V1 K d c.no⟩
def Ll (K:List Nat) (c:jb R):Prop:=∀ b args h x,c.go b args h=aa x->∀ i,i∈K->i<h.length->x.hp[i]?=h[i]?
theorem V' {K:List Nat} {b:Nat}:∀ {s:List Nat} {i j:Nat},s[j]?=aa b->mem K (i+j)=an->ID (KJ K i s) b=ao
 |[],_,_,h,_=>by simp at h
 |c::l,i,0,h,hK=>by
  simp only[cd,ct] at h;subst h;rw[gT] at hK;simp[KJ,hK,ID]
 |c::l,i,j+1,h,hK=>by
  simp only[bH] at h;have:=V' (i:=i+1) h (by rwa [show i+1+j=i+(j+1) by omega])
  simp only[KJ];split
  ·exact this
  ·simp[ID,this]
theorem agf {s:List Nat} {i:Nat} (h:i<s.length):s[i]?=aa (nth s i):=by
 induction s generalizing i with
 |nil=>simp at h
 |cons a l ih =>
  cases i with
  |zero=>rfl
  |succ i =>
   simp only[bH,nth];exact ih (by simpa using h)
theorem CL {f:FuncId} {c:jb R} (K:List Nat) (d:Nat) (ok:b6 D P f c) (hK:Ll K c):HF D P f (Cs K d c):=by
 have U7:∀ b args h x,(Cs K d c).go b args h=aa x->∃ y,(bJ (fun _=>an) d c).go b args h=aa y/\x=⟨y.vc,y.v,y.lit,y.hp,y.rd,match y.wr with
   |[]=>[]
   |_=>(0,1)::KJ K 0 (L0 (reach h d (sO args)) [])⟩:=by
  intro b args h x hx;cases b
  all_goals
   simp only[Cs,jb.go,V1] at hx;split at hx
   ·rename_i y hy;injection hx with hx
    exact⟨y,hy,hx.symm⟩
   ·cases hx
 refine⟨fun b=>?_,fun b args h x hx i hi hk=>?_⟩
 ·have o:=Kz (fun _=>an) d ok b
  refine⟨o.known,fun args h x mN hx=>?_,fun args h x hx=>?_,fun args h x hx=>?_,fun args h x hx hw=>?_⟩
  ·obtain⟨y,hy,rfl⟩:=U7 _ _ _ _ hx;exact o.run args h y mN hy
  ·obtain⟨y,hy,rfl⟩:=U7 _ _ _ _ hx;exact o.len args h y hy
  ·obtain⟨y,hy,rfl⟩:=U7 _ _ _ _ hx;exact o.lit args h y hy
  ·obtain⟨y,hy,rfl⟩:=U7 _ _ _ _ hx;refine o.still args h y hy ?_;simp only at hw;split at hw
   ·assumption
   ·cases hw
 ·obtain⟨y,hy,rfl⟩:=U7 _ _ _ _ hx;have e:(bJ (fun _=>an) d c).go b=DA (fun _=>an) d (c.go b):=by cases b<;>rfl
  rw[e] at hy;obtain⟨s,x,hs0,h1,h2,h3,PQ,h5,h6,rfl⟩:=zm hy;have hkp:ID (KJ K 0 s) i=an:=by
   simp only at hk;split at hk
   ·cases hk
   ·rw[← hs0] at hk
    simpa [OU] using hk
  clear hk;have n9:(o9 (fun _=>an) (pos s) h 0 s).length=s.length:=(r9 (i0:=0) (i:=0)).1
  have Ay:(ym s (qo s h.length) (o9 (fun _=>an) (pos s) h 0 s) x.hp 0 h).length=h.length:=(nF (b0:=0) (b:=0)).1
  simp only;rw[c_ (by rw[Ay];exact hi),(nF (b0:=0) (b:=i)).2 hi,bV]
  split
  ·rename_i hc;simp only[aL] at hc;have hm:=mem_iff.1 hc.1;obtain⟨p1,p2⟩:=oC hm;have hmK:pos s i∈K:=by
    cases hmk:mem K (pos s i) with
    |true=>exact mem_iff.1 hmk
    |false =>
     have:=V' (K:=K) (i:=0) (agf p2) (by rwa [bV])
     rw[p1] at this;rw[this] at hkp;cases hkp
   have hke:=hK b _ _ _ PQ (pos s i) hmK (by rw[n9];exact p2)
   obtain⟨X,hX,hv⟩:=qL.1 hc.2;rw[hX] at hke;have hg:=(r9 (z:=fun _=>an) (u:=pos s) (h:=h) (l:=s) (i0:=0) (i:=pos s i)).2 p2
   rw[hX,p1] at hg;injection hg with hg
   cases hb:fS h i with
   |none=>rw[hb] at hg;cases hg
   |some B =>
    rw[hb] at hg;simp only at hg;injection hg with hg
    rw[Ks hke,xM hi,hb,hg];have hfr:F' an B=B:=by rcases B with⟨t,cs⟩|⟨t,r⟩|r|q<;>rfl
    simp only[Ky,hfr]
    congr 2
    rcases B with⟨t,cs⟩|B
    ·simp only[yK];rw[BE,EL (p:=mem s)]
     ·intro j hj;obtain⟨q1,q2⟩:=oC (mem_iff.1 hj);rw[MD q2,q1]
     ·exact(Cy h2 hm).2 t cs hb
    ·rfl
  ·rw[xM hi]
end
end Rx
namespace Rx
open Go.RowKit State
section
variable {R R0:Type}
structure EZ (R R0:Type) where
 lay:R->Hp R0
 ne:∀ x,0<(lay x).length
 own:∀ (x:R) (b:Nat) (X:SB R0),(lay x)[b]?=aa (aa X)->g_ X=an
 ins:∀ x,te (lay x).length (lay x)=ao
def F3 (D0:fH R0) (L:EZ R R0):fH R where
 H x p F w:=∃ Mi PO,Mi 0=p/\(∀ k,F k↔∃ i,PO i k)/\HM D0 ⟨w,F,Mi,0⟩ Mi PO (L.lay x) w
 HT x p F w w' h hk:=by
  obtain⟨Mi,PO,h1,h2,h3⟩:=h;refine⟨Mi,PO,h1,h2,?_⟩;refine⟨fun i B hi=>⟨yO (L.own x i B hi) (JO (h3.at_ i B hi).1 fun k nB=>hk k ((h2 k).2 ⟨i,nB⟩)),(h3.at_ i B hi).2⟩,fun i k Mq=>?_,fun i k Mq=>dK ((h2 k).2 ⟨i,Mq⟩),h3.apart,h3.some_,Kept.refl _ _⟩
  have h4:=hk k ((h2 k).2 ⟨i,Mq⟩);have h5:=h3.lt i k Mq;rw[Array.getElem?_eq_getElem h5] at h4;exact(v_.1 h4).1
 lt x p F w k h hk:=by
  obtain⟨Mi,PO,h1,h2,h3⟩:=h;obtain⟨i,hi⟩:=(h2 k).1 hk;exact h3.lt i k hi
variable {L:EZ R R0}
def width (L:EZ R R0):Option (SB R)->Nat
 |some (.inr (.inr (.inr x)))=>(L.lay x).length
 |_=>1
def off (L:EZ R R0):Hp R->Nat->Nat
 |[],b=>b
 |_::_,0=>0
 |x::l,b+1=>width L x+off L l b
def loc (L:EZ R R0):Hp R->Nat->Nat×Nat
 |[],j=>(j,0)
 |x::l,j=>if j<width L x then(0,j) else((loc L l (j-width L x)).1+1,(loc L l (j-width L x)).2)
def AN (L:EZ R R0) (s:Nat->Nat) (o:Nat):Option (SB R)->Hp R0
 |none=>[aj]
 |some (.inl (t,cs))=>[aa (.inl (t,lU s cs))]
 |some (.inr (.inl tr))=>[aa (.inr (.inl tr))]
 |some (.inr (.inr (.inl r)))=>[aa (.inr (.inr (.inl r)))]
 |some (.inr (.inr (.inr x)))=>yI (fun i=>i+o) (L.lay x)
def FK (L:EZ R R0) (s:Nat->Nat):Nat->Hp R->Hp R0
 |_,[]=>[]
 |o,x::l=>AN L s o x++FK L s (o+width L x) l
def xY (L:EZ R R0) (h:Hp R):Hp R0:=FK L (off L h) 0 h
theorem u9 (x:Option (SB R)):0<width L x:=by
 rcases x with _|⟨t,cs⟩|tr|r|x
 ·exact GD
 ·exact GD
 ·exact GD
 ·exact GD
 ·exact L.ne x
theorem Ch (s:Nat->Nat) (o:Nat) (x:Option (SB R)):(AN L s o x).length=width L x:=by
 rcases x with _|⟨t,cs⟩|tr|r|x
 ·rfl
 ·rfl
 ·rfl
 ·rfl
 ·exact(u0 (i:=0)).1
theorem FT (s:Nat->Nat):∀ (h:Hp R) (o b i:Nat),b<h.length->i<width L (fS h b)->(FK L s o h)[off L h b+i]?=(AN L s (o+off L h b) (fS h b))[i]?
 |[],o,b,i,hb,_=>by simp at hb
 |x::l,o,0,i,_,hi=>by
  have e:fS (x::l) 0=x:=by simp[fS]
  rw[e] at hi ⊢;simp only[FK,off,bV,gT];rw[c_ (by rw[Ch];exact hi)]
 |x::l,o,b+1,i,hb,hi=>by
  have e:fS (x::l) (b+1)=fS l b:=by simp[fS]
  rw[e] at hi ⊢;simp only[cy] at hb;simp only[FK,off];rw[dQ (by rw[Ch];omega),Ch,show width L x+off L l b+i-width L x=off L l b+i by omega]
  rw[FT s l (o+width L x) b i (by omega) hi,jd]
theorem H9:∀ (h:Hp R) (b b':Nat),b<b'->b<h.length->off L h b+width L (fS h b)≤off L h b'
 |[],b,b',_,hb=>by simp at hb
 |x::l,0,0,h,_=>by omega
 |x::l,0,b'+1,_,_=>by
  have e:fS (x::l) 0=x:=by simp[fS]
  rw[e];simp only[off];omega
 |x::l,b+1,0,h,_=>by omega
 |x::l,b+1,b'+1,h,hb=>by
  have e:fS (x::l) (b+1)=fS l b:=by simp[fS]
  rw[e];simp only[cy] at hb;simp only[off];have:=H9 l b b' (by omega) (by omega)
  omega
theorem JV (s:Nat->Nat):∀ (h:Hp R) (o:Nat),(FK L s o h).length=off L h h.length
 |[],o=>rfl
 |x::l,o=>by
  simp only[FK,bA,Ch,cy,off];rw[JV s l]
theorem P4 (h:Hp R):(xY L h).length=off L h h.length:=JV _ _ _
theorem G5 (h:Hp R) {b i:Nat} (hb:b<h.length) (hi:i<width L (fS h b)):off L h b+i<(xY L h).length:=by
 rw[P4];have:=H9 (L:=L) h b h.length hb hb;omega
theorem Q4:∀ (h:Hp R) (b i:Nat),b<h.length->i<width L (fS h b)->loc L h (off L h b+i)=(b,i)
 |[],b,i,hb,_=>by simp at hb
 |x::l,0,i,_,hi=>by
  have e:fS (x::l) 0=x:=by simp[fS]
  rw[e] at hi;simp only[loc,off,bV,hi,if_true]
 |x::l,b+1,i,hb,hi=>by
  have e:fS (x::l) (b+1)=fS l b:=by simp[fS]
  rw[e] at hi;simp only[cy] at hb;have e2:off L (x::l) (b+1)+i=width L x+(off L l b+i):=by simp only[off];omega
  rw[e2];simp only[loc];rw[if_neg (by omega),show width L x+(off L l b+i)-width L x=off L l b+i by omega,Q4 l b i (by omega) hi]
theorem GP:∀ (h:Hp R) (j:Nat),(loc L h j).1<h.length->off L h (loc L h j).1+(loc L h j).2=j/\(loc L h j).2<width L (fS h (loc L h j).1)
 |[],j,hj=>by simp at hj
 |x::l,j,hj=>by
  simp only[loc] at hj ⊢;split
  ·rename_i cj;have e:fS (x::l) 0=x:=by simp[fS]
   refine⟨by simp[off],by rw[e];exact cj⟩
  ·rename_i j7;rw[if_neg j7] at hj;simp only[cy] at hj;obtain⟨h1,h2⟩:=GP l (j-width L x) (by simpa using hj)
   have e:fS (x::l) ((loc L l (j-width L x)).1+1)=fS l (loc L l (j-width L x)).1:=by simp[fS]
   simp only[off];rw[e];exact⟨by omega,h2⟩
theorem abc:∀ (h:Hp R) (j:Nat),j<off L h h.length->(loc L h j).1<h.length
 |[],j,hj=>by simp[off] at hj
 |x::l,j,hj=>by
  simp only[loc];split
  ·simp
  ·rename_i j7;simp only[cy,off] at hj;have:=abc l (j-width L x) (by omega)
   simp only[cy];omega
theorem ag0 (h:Hp R) {j:Nat} {B:SB R0} (hj:(xY L h)[j]?=aa (aa B)):∃ b i,b<h.length/\i<width L (fS h b)/\j=off L h b+i/\loc L h j=(b,i)/\(AN L (off L h) (off L h b) (fS h b))[i]?=aa (aa B):=by
 have cj:j<off L h h.length:=by
  have:=(aU.1 hj).1
  rwa [P4] at this
 have h1:=abc h j cj;obtain⟨h2,h3⟩:=GP h j h1;refine⟨_,_,h1,h3,h2.symm,rfl,?_⟩;rw[← h2] at hj;unfold xY at hj;rw[FT _ h 0 _ _ h1 h3,bV] at hj;exact hj
variable {D0:fH R0} {C:Ctx} {ρ gv:Env} {ft ku:Nat->Nat->Prop} {w w':World} {h:Hp R} {P:Program}
theorem HM.open_ (hm:HM (F3 D0 L) C ρ ft h w):∃ gv ku,(∀ b,b<h.length->gv (off L h b)=ρ b)/\HM D0 C gv ku (xY L h) w:=by
 have key:∀ b,∃ pr:(Env×(Nat->Nat->Prop)),pr.1 0=ρ b/\(∀ k,ft b k↔∃ i,pr.2 i k)/\(∀ i k,b<h.length->pr.2 i k->i<width L (fS h b)) /\
   (∀ x,fS h b=aa (.inr (.inr (.inr x)))->HM D0 ⟨w,ft b,pr.1,0⟩ pr.1 pr.2 (L.lay x) w)/\((∀ x,fS h b≠aa (.inr (.inr (.inr x))))->∀ i k,pr.2 i k->i=0):=by
  intro b
  by_cases hx:∃ x,fS h b=aa (.inr (.inr (.inr x)))
  ·obtain⟨x,hx⟩:=hx;obtain⟨Mi,PO,h1,h2,h3⟩:=(hm.at_ b _ (rz hx)).1;refine⟨⟨Mi,PO⟩,h1,h2,fun i k _ Mq=>?_,fun y hy=>?_,fun hn=>absurd hx (hn x)⟩
   ·rw[hx];obtain⟨B,hB⟩:=h3.some_ i k Mq;exact(aU.1 hB).1
   ·rw[hx] at hy;injection hy with hy;injection hy with hy;injection hy with hy;injection hy with hy
    subst hy;exact h3
  ·refine⟨⟨fun _=>ρ b,fun i k=>i=0/\ft b k⟩,rfl,fun k=>⟨fun hk=>⟨0,rfl,hk⟩,fun⟨_,_,hk⟩=>hk⟩,fun i k _ Mq=>?_,fun x Xi=>absurd ⟨x,Xi⟩ hx,fun _ i k Mq=>Mq.1⟩
   rw[Mq.1];exact u9 _
 obtain⟨pr,RO⟩:=Wy key;have qD:∀ b,b<h.length->(pr (loc L h (off L h b)).1).1 (loc L h (off L h b)).2=ρ b:=fun b hb=>by
  have:=Q4 (L:=L) h b 0 hb (u9 _);rw[gT] at this;rw[this];exact(RO b).1
 refine⟨fun j=>(pr (loc L h j).1).1 (loc L h j).2,fun j k=>(pr (loc L h j).1).2 (loc L h j).2 k,qD,?_⟩
 have nj:∀ j k,(pr (loc L h j).1).2 (loc L h j).2 k->ft (loc L h j).1 k:=fun j k hk=>((RO _).2.1 k).2 ⟨_,hk⟩
 have hb:∀ b k,ft b k->b<h.length:=fun b k hk=>by
  obtain⟨B,hB⟩:=hm.some_ b k hk;exact(aU.1 hB).1
 refine⟨fun j B hj=>?_,fun j k hk=>hm.lt _ k (nj j k hk),fun j k hk=>hm.fresh _ k (nj j k hk),fun j j' k hk nB=>?_,fun j k hk=>?_,hm.kept⟩
 ·obtain⟨b,i,Ay,CD,rfl,hl,hB⟩:=ag0 h hj;rw[hl];obtain⟨p1,p2,p3,p4,p5⟩:=RO b;have hfb:(∀ x,fS h b≠aa (.inr (.inr (.inr x))))->(pr b).2 0=ft b:=fun hn=>funext fun k=>propext ⟨fun hk=>(p2 k).2 ⟨0,hk⟩,fun hk=>by
   obtain⟨i,hi⟩:=(p2 k).1 hk;rw[p5 hn i k hi] at hi;exact hi⟩
  cases hx:fS h b with
  |none =>
   rw[hx] at CD hB;simp only[width] at CD;obtain rfl:i=0:=by omega
   simp[AN] at hB
  |some X =>
   have hX:=rz hx;obtain⟨g1,g2⟩:=hm.at_ b X hX;rcases X with⟨t,cs⟩|⟨t,r⟩|r|x
   ·rw[hx] at CD hB;simp only[width] at CD;obtain rfl:i=0:=by omega
    simp only[AN,cd,ct] at hB;subst hB;simp only[hfb (fun x e=>by rw[hx] at e;cases e)]
    obtain⟨q1,q2,q3⟩:=g1;simp only[inside] at g2;refine⟨?_,?_⟩
    ·simp only[hold,hl,p1];refine⟨q1,q2,?_⟩;have e:(lU (off L h) cs).map (bT (fun j=>(pr (loc L h j).1).1 (loc L h j).2))=cs.map (bT ρ):=by
      rw[rX,← lh,← lh];exact qq (n:=h.length) (fun b hb=>qD b hb) cs g2
     rw[e];exact q3
    ·simp only[inside];refine wc (n:=h.length) (fun b hb=>?_) cs g2
     have:=G5 (L:=L) h (b:=b) (i:=0) hb (u9 _)
     simpa using this
   ·rw[hx] at CD hB;simp only[width] at CD;obtain rfl:i=0:=by omega
    simp only[AN,cd,ct] at hB;subst hB;simp only[hfb (fun x e=>by rw[hx] at e;cases e)]
    simp only[hold,hl,p1] at g1 ⊢;exact⟨g1,trivial⟩
   ·rw[hx] at CD hB;simp only[width] at CD;obtain rfl:i=0:=by omega
    simp only[AN,cd,ct] at hB;subst hB;simp only[hfb (fun x e=>by rw[hx] at e;cases e)]
    simp only[hold,hl,p1] at g1 ⊢;exact⟨g1,trivial⟩
   ·rw[hx] at CD hB;simp only[width] at CD;simp only[AN] at hB;rw[u0.2] at hB;cases hY:(L.lay x)[i]? with
    |none=>rw[hY] at hB;cases hB
    |some Y =>
     rw[hY] at hB;simp only[kc,ct] at hB;obtain⟨Y,rfl,rfl⟩:=HO hB;have h3:=p4 x hx;obtain⟨q1,q2⟩:=h3.at_ i Y hY;have Sb:=L.own x i Y hY;have q3:hold D0 C (pr b).1 i ((pr b).2 i) w Y:=yO Sb q1;have Rr:∀ i',i'<(L.lay x).length->(pr (loc L h (i'+off L h b)).1).1 (loc L h (i'+off L h b)).2=(pr b).1 i':=fun i' lP=>by
      rw[sK i' (off L h b),Q4 h b i' Ay (by rw[hx];exact lP)]
     rcases Y with⟨t,cs⟩|⟨t,r⟩|r|y
     ·obtain⟨z1,z2,z3⟩:=q3;simp only[inside] at q2;refine⟨?_,?_⟩
      ·simp only[yK,hold,hl];refine⟨z1,z2,?_⟩;have e:(lU (fun i=>i+off L h b) cs).map (bT (fun j=>(pr (loc L h j).1).1 (loc L h j).2))=cs.map (bT (pr b).1):=by
        rw[rX,← lh,← lh];exact qq (n:=(L.lay x).length) (fun i' lP=>Rr i' lP) cs q2
       rw[e];exact z3
      ·simp only[yK,inside];refine wc (n:=(L.lay x).length) (fun i' lP=>?_) cs q2
       have:=G5 (L:=L) h (b:=b) (i:=i') Ay (by rw[hx];exact lP)
       omega
     ·simp only[yK,hold,hl] at q3 ⊢;exact⟨q3,trivial⟩
     ·simp[g_] at Sb
     ·simp only[yK,hold,hl] at q3 ⊢;exact⟨q3,trivial⟩
 ·have e1:=hm.apart _ _ k (nj j k hk) (nj j' k nB);have Ay:=hb _ k (nj j k hk);have anl:=hb _ k (nj j' k nB);have o1:=GP h j Ay;have o2:=GP h j' anl;obtain⟨p1,p2,p3,p4,p5⟩:=RO (loc L h j).1;have e2:(loc L h j).2=(loc L h j').2:=by
   rw[← e1] at nB
   by_cases hx:∃ x,fS h (loc L h j).1=aa (.inr (.inr (.inr x)))
   ·obtain⟨x,hx⟩:=hx;exact(p4 x hx).apart _ _ k hk nB
   ·have hn:∀ x,fS h (loc L h j).1≠aa (.inr (.inr (.inr x))):=fun x e=>hx ⟨x,e⟩
    rw[p5 hn _ k hk,p5 hn _ k nB]
  rw[← o1.1,← o2.1,e1,e2]
 ·have LZ:=nj j k hk;have Ay:=hb _ k LZ;obtain⟨o1,o2⟩:=GP h j Ay;have hg:=FT (L:=L) (off L h) h 0 _ _ Ay o2;rw[bV,o1] at hg;show ∃ B,(FK L (off L h) 0 h)[j]?=aa (aa B)
  rw[hg];obtain⟨X,hX⟩:=hm.some_ _ k LZ;obtain⟨p1,p2,p3,p4,p5⟩:=RO (loc L h j).1;rw[Ks hX] at o2 ⊢;rcases X with⟨t,cs⟩|tr|r|x
  ·have:(loc L h j).2=0:=by simp only[width] at o2;omega
   rw[this];exact⟨_,rfl⟩
  ·have:(loc L h j).2=0:=by simp only[width] at o2;omega
   rw[this];exact⟨_,rfl⟩
  ·have:(loc L h j).2=0:=by simp only[width] at o2;omega
   rw[this];exact⟨_,rfl⟩
  ·obtain⟨B,hB⟩:=(p4 x (Ks hX)).some_ _ k hk;simp only[AN];rw[u0.2,hB];exact⟨_,rfl⟩
theorem HM.close_ (hm:HM D0 C ρ ft (xY L h) w) (j8:te h.length h=ao) :
  HM (F3 D0 L) C (fun b=>ρ (off L h b)) (fun b k=>b<h.length/\∃ i,i<width L (fS h b)/\ft (off L h b+i) k) h w:=by
 have YR:∀ b i,b<h.length->i<width L (fS h b)->(xY L h)[off L h b+i]?=(AN L (off L h) (off L h b) (fS h b))[i]?:=fun b i hb hi=>by
  have:=FT (L:=L) (off L h) h 0 b i hb hi;rw[bV] at this;exact this
 refine⟨fun b B hB=>⟨?_,BP j8 hB⟩,fun b k hk=>?_,fun b k hk=>?_,fun b b' k hk nB=>?_,fun b k hk=>?_,hm.kept⟩
 ·have Ay:b<h.length:=(aU.1 hB).1;have hx:=Ks hB;have ZE:width L (fS h b)=1->(fun k=>b<h.length/\∃ i,i<width L (fS h b)/\ft (off L h b+i) k)=ft (off L h b):=fun hw=>funext fun k=>propext ⟨fun⟨_,i,hi,hk⟩=>by
   obtain rfl:i=0:=by omega
   exact hk,fun hk=>⟨Ay,0,by omega,hk⟩⟩
  have h0:=YR b 0 Ay (u9 _);rw[gT] at h0;rcases B with⟨t,cs⟩|⟨t,r⟩|r|x
  ·rw[ZE (by rw[hx];rfl)]
   rw[hx] at h0;obtain⟨g1,g2⟩:=hm.at_ _ _ h0;obtain⟨q1,q2,q3⟩:=g1;refine⟨q1,q2,?_⟩;rw[rX] at q3;exact q3
  ·rw[ZE (by rw[hx];rfl)]
   rw[hx] at h0;exact(hm.at_ _ _ h0).1
  ·rw[ZE (by rw[hx];rfl)]
   rw[hx] at h0;exact(hm.at_ _ _ h0).1
  ·refine⟨fun i=>ρ (off L h b+i),fun i k=>i<(L.lay x).length/\ft (off L h b+i) k,rfl,fun k=>⟨fun⟨_,i,hi,hk⟩=>⟨i,by rw[hx] at hi;exact hi,hk⟩,fun⟨i,hi,hk⟩=>⟨Ay,i,by rw[hx];exact hi,hk⟩⟩,?_⟩
   have J':∀ i Y,(L.lay x)[i]?=aa (aa Y)->(xY L h)[off L h b+i]?=aa (aa (yK (fun i=>i+off L h b) Y)):=fun i Y hY=>by
    have CD:=(aU.1 hY).1;rw[YR b i Ay (by rw[hx];exact CD),hx]
    simp only[AN];rw[u0.2,hY]
    rfl
   refine⟨fun i Y hY=>?_,fun i k hk=>hm.lt _ k hk.2,fun i k hk=>dK ⟨Ay,i,by rw[hx];exact hk.1,hk.2⟩,fun i j k hi hj=>?_,fun i k hk=>?_,Kept.refl _ _⟩
   ·have CD:=(aU.1 hY).1;obtain⟨g1,g2⟩:=hm.at_ _ _ (J' i Y hY);have amY:=BP (L.ins x) hY;have:=Sg g1 (agW (ρn:=fun i=>ρ (off L h b+i)) (fun i=>by rw[sK i]) amY) (b:=i) rfl
    have e:(fun k=>i<(L.lay x).length/\ft (off L h b+i) k)=ft (off L h b+i):=funext fun k=>propext ⟨fun h=>h.2,fun h=>⟨CD,h⟩⟩
    rw[e];exact⟨yO (L.own x i Y hY) this.1,this.2⟩
   ·have:=hm.apart _ _ k hi.2 hj.2;omega
   ·obtain⟨Z,hZ⟩:=hm.some_ _ k hk.2;rw[YR b i Ay (by rw[hx];exact hk.1),hx] at hZ
    simp only[AN] at hZ;rw[u0.2] at hZ;cases hY:(L.lay x)[i]? with
    |none=>rw[hY] at hZ;cases hZ
    |some Y =>
     rw[hY] at hZ;simp only[kc,ct] at hZ;obtain⟨Y,rfl,_⟩:=HO hZ;exact⟨Y,rfl⟩
 ·obtain⟨_,i,_,hk⟩:=hk;exact hm.lt _ k hk
 ·obtain⟨_,i,_,hk⟩:=hk;exact hm.fresh _ k hk
 ·obtain⟨hb,i,hi,hk⟩:=hk;obtain⟨qm,i',lP,nB⟩:=nB;have e:=hm.apart _ _ k hk nB;rcases nW b b' with cj|he|cj
  ·have:=H9 (L:=L) h b b' cj hb;omega
  ·exact he
  ·have:=H9 (L:=L) h b' b cj qm;omega
 ·obtain⟨hb,i,hi,hk⟩:=hk;obtain⟨Z,hZ⟩:=hm.some_ _ k hk;rw[YR b i hb hi] at hZ;cases hx:fS h b with
  |none =>
   rw[hx] at hZ hi;simp only[width] at hi;obtain rfl:i=0:=by omega
   simp[AN] at hZ
  |some X=>exact⟨X,rz hx⟩
structure xG (L:EZ R R0) (hh:Hp R) (x:Out R) (v:Value) (hp:Hp R0):Prop where
 ex:∃ s:List Nat,v=pA hp.length (gg (nth s) (gg (off L x.hp) x.v))/\fp hp.length v=ao/\ub hp.length (nth s) hp 0 (xY L x.hp)/\vQ (yV hp.length (nth s) 0 (xY L x.hp))=ao/\uM (xY L hh).length hp.length=ao/\Gi (fun b=>fb (nth s (off L x.hp b)) (off L hh b)) hh.length=ao /\
  te (xY L x.hp).length (xY L x.hp)=ao/\te x.hp.length x.hp=ao
theorem rA {f : FuncId} {fn : Func} {root : Code} {on : List Value → Hp R → Prop} {spec : Prim R} (hf : P.funcs[f]? = aa fn) (hb : fn.body = aa root) (Y_ : (fn.name == "runtime.NumGoroutine") = an)
  (H:∀ args hh x,spec args hh=aa x->hh.length≤x.hp.length/\(∀ b,x.lit=aa b->x.v=.bool b)/\(x.wr=[]->x.hp=hh) /\
   (on args hh->x.vc->At D0 P root (xY L hh).length (iE P fn.results.toList (xG L hh x)) [.inl []] ⟨vk (lU (off L hh) args)++lj (fn.ntmps-args.length) aj,[],xY L hh⟩)):rK (F3 D0 L) P f on spec where
 known:=⟨fn,hf,Y_,by rw[hb];rfl⟩
 run args hh x mN hx C ρ ft w hm hv hi:=by
  obtain⟨_,_,_,h4⟩:=H args hh x hx;obtain⟨ρ1,ft1,o1,o2⟩:=hm.open_;have hargs:args.map (bT ρ)=(lU (off L hh) args).map (bT ρ1):=by
   rw[rX,← lh,← lh];exact(qq (n:=hh.length) (fun b hb=>o1 b hb) args hi).symm
  have hlen:(lU (off L hh) args).length=args.length:=by
   have:∀ l:List Value,(lU (off L hh) l).length=l.length:=fun l=>by
    induction l with
    |nil=>simp[lU]
    |cons v l ih=>simp[lU,ih]
   exact this args
  rw[hargs];have j8:ix (xY L hh).length (lU (off L hh) args)=ao:=wc (n:=hh.length) (fun b hb=>by
   have:=G5 (L:=L) hh (b:=b) (i:=0) hb (u9 _)
   simpa using this) args hi
  have h5:=h4 mN hv;rw[← hlen] at h5;refine(M6 hf hb h5 o2 j8).mono fun e w' ⟨gv,ku,v,wY,g1,g2,g3,g4⟩=>?_
  obtain⟨s,e1,Ja,e2,e3,e3',e4,e5,e6⟩:=g3.ex;have Vo:=g4.Uu e2 e3 e5;refine⟨_,_,fun b hb=>?_,?_,Vo.close_ e6⟩
  ·show xD gv wY.length (nth s (off L x.hp b))=ρ b
   have h6:off L hh b<(xY L hh).length:=by
    have:=G5 (L:=L) hh (b:=b) (i:=0) hb (u9 _)
    simpa using this
   have:=zQ e4 hb;have h7:=jF e3';rw[cP this,xr (by omega),g1 _ h6,o1 b hb]
  ·rw[g2];rw[e1] at Ja ⊢;rw[KA _ Ja,CP,CP]
 len args hh x hx:=(H args hh x hx).1
 lit args hh x hx:=(H args hh x hx).2.1
 still args hh x hx:=(H args hh x hx).2.2.1
end
end Rx
namespace Rx
open Go.ChangeShapes Go.WideShapes Go.ChangeAt Go.RowKit Go.Deep State
def Az:Value->Value->Prop
 |.int k _,.int k' x=>k=k'/\(Lit.int k x).wf=ao
 |.bool _,.bool _=>True
 |.string _,.string s=>s.size≤maxLen
 |_,_=>False
def sj:List Value->List Value->Prop
 |[],[]=>True
 |t::tm,v::l=>Az t v/\sj tm l
 |_,_=>False
theorem BL:∀ {a b c d:List Value},sj a c->sj b d->sj (a++b) (c++d)
 |[],b,[],d,_,h=>h
 |[],b,_::_,d,h,_=>h.elim
 |_::_,b,[],d,h,_=>h.elim
 |t::a,b,v::c,d,h,h'=>⟨h.1,BL h.2 h'⟩
theorem Mg:∀ {a c:List Value} {f:Nat} {t:Value},sj a c->a[f]?=aa t->∃ v,c[f]?=aa v/\Az t v
 |[],_,f,t,_,h=>by simp at h
 |_::_,[],f,t,h,_=>h.elim
 |u::a,v::c,f,t,h,ht=>by
  cases f with
  |zero=>simp only[cd,ct] at ht ⊢;subst ht;exact⟨v,rfl,h.1⟩
  |succ f=>simp only[bH] at ht ⊢;exact Mg h.2 ht
def J7 (P:Program) (rec:TypeId->Option (List Value)):Nat->List Field->Option (List Value)
 |_,[]=>aa []
 |off,f::fs =>
  match rec f.type with
  |some tm=>if fb f.offset off&&fb (P.cellsOf f.type) tm.length then
    match J7 P rec (off+tm.length) fs with
    |some r=>aa (tm++r)
    |none=>aj
   else aj
  |none=>aj
def NU (tm:List Value):Nat->List Value
 |0=>[]
 |n+1=>tm++NU tm n
theorem TR {tm:List Value} {v:Value}:∀ {n},v∈NU tm n->v∈tm
 |0,h=>by simp[NU] at h
 |n+1,h=>by
  simp only[NU] at h;rcases b5.1 h with h|h
  ·exact h
  ·exact TR h
def Gm (P:Program):Nat->TypeId->Option (List Value)
 |0,_=>aj
 |n+1,t =>
  match P.underlying t with
  |some (.int k)=>aa [.int k 0]
  |some .bool=>aa [.bool an]
  |some .string=>aa [.string ⟨#[]⟩]
  |some (.struct fs) =>
   match J7 P (Gm P n) 0 fs.toList with
   |some tm=>if fb (P.cellsOf t) tm.length then aa tm else aj
   |none=>aj
  |some (.array k el) =>
   match Gm P n el with
   |some tm=>if fb (P.cellsOf el) tm.length&&fb (P.cellsOf t) (k*tm.length) then aa (NU tm k) else aj
   |none=>aj
  |_=>aj
section
variable {H:Type} {enc:TypeId×Value->H} {P:Program} {w:World} {base:Nat} {spare:Nat->Bool} {held:Bool}
theorem Xs {tm cs:List Value} {m:Nat} {e:TypeId} (hc:P.cellsOf e=tm.length) (ih:∀ (cs:List Value) (x:DataW H×List MemPlace),DI enc P w base spare held m e cs=aa x->sj tm cs) :
  ∀ (k i0:Nat),(∀ i,i<i0+k->∃ y,DI enc P w base spare held m e ((cs.drop (i*P.cellsOf e)).take (P.cellsOf e))=aa y)->sj (NU tm k) ((cs.drop (i0*tm.length)).take (k*tm.length))
 |0,i0,_=>by simp[NU,sj]
 |k+1,i0,hy=>by
  obtain⟨y,h1⟩:=hy i0 (by omega)
  have a1:=ih _ _ h1;rw[hc] at a1;have a2:=Xs hc ih k (i0+1) fun i hi=>hy i (by omega)
  have:=BL a1 a2;rw[show(k+1)*tm.length=tm.length+k*tm.length by rw[Wl];omega,wa,sn]
  rw[show(i0+1)*tm.length=i0*tm.length+tm.length by rw[Wl]] at this
  exact this
theorem Ym {rec:TypeId->Option (List Value)} {cs:List Value} {n:Nat}
  (ih:∀ (t:TypeId) (tm cs:List Value) (x:DataW H×List MemPlace),rec t=aa tm->DI enc P w base spare held n t cs=aa x->sj tm cs) :
  ∀ (fs:List Field) (off:Nat) (tm:List Value),J7 P rec off fs=aa tm->(∀ f∈fs,∃ y,DI enc P w base spare held n f.type ((cs.drop f.offset).take (P.cellsOf f.type))=aa y)->sj tm ((cs.drop off).take tm.length)
 |[],off,tm,h,_=>by simp only[J7,ct] at h;subst h;simp[sj]
 |f::fs,off,tm,h,hy=>by
  simp only[J7] at h;split at h
  ·rename_i RK h1;split at h
   ·rename_i hc;simp only[aL] at hc;have e1:=cP hc.1;have e2:=cP hc.2;split at h
    ·rename_i r hr;injection h with h
     subst h;obtain⟨y,Ar⟩:=hy f bL;have a1:=ih _ _ _ _ h1 Ar;rw[e1,e2] at a1;have a2:=Ym ih fs (off+RK.length) r hr fun g hg=>hy g (ed _ hg)
     have:=BL a1 a2;rw[bA,wa,sn];exact this
    ·cases h
   ·cases h
  ·cases h
theorem QA:∀ (m:Nat) (t:TypeId) (tm cs:List Value) (fuel:Nat) (x:DataW H×List MemPlace),Gm P m t=aa tm->DI enc P w base spare held fuel t cs=aa x->sj tm cs
 |0,_,_,_,_,_,h,_=>by simp[Gm] at h
 |m+1,t,tm,cs,fuel,x,h,ht=>by
  simp only[Gm] at h;split at h
  ·rename_i k hk;injection h with h
   subst h;obtain⟨n,rfl,_,hw⟩:=DataW.trod_int hk ht;exact⟨⟨rfl,hw⟩,trivial⟩
  ·rename_i hk;injection h with h
   subst h;obtain⟨b,rfl,_⟩:=DataW.trod_bool hk ht;exact⟨trivial,trivial⟩
  ·rename_i hk;injection h with h
   subst h;obtain⟨s,rfl,_,hs⟩:=DataW.trod_string hk ht;exact⟨hs,trivial⟩
  ·rename_i fs hk;split at h
   ·rename_i RK h1;split at h
    ·rename_i hc;injection h with h
     subst h;have hc:=cP hc;obtain⟨xs,n,rfl,_,hl,hxs,hf⟩:=DataW.trod_struct hk ht;have:=Ym (fun t tm cs x h1 h2=>QA m t tm cs n x h1 h2) fs.toList 0 RK h1 (cs:=cs) fun f hf'=>by
      obtain⟨i,hi⟩:=List.mem_iff_getElem?.1 hf';have lP:fs[i]?=aa f:=by simpa using hi
      have cj:i<xs.length:=by rw[hxs];exact(v_.1 lP).1
      exact⟨xs[i],by rw[hf i f lP,bd cj]⟩
     rw[so,jj (by omega)] at this
     exact this
    ·cases h
   ·cases h
  ·rename_i k el hk;split at h
   ·rename_i RK h1;split at h
    ·rename_i hc;injection h with h
     subst h;simp only[aL] at hc;have Of:=cP hc.1;have pS:=cP hc.2;obtain⟨xs,n,rfl,_,hl,hxs,hf⟩:=DataW.trod_array hk ht;have:=Xs (cs:=cs) Of (fun cs x h2=>QA m el RK cs n x h1 h2) k 0 fun i hi=>by
      have cj:i<xs.length:=by omega
      exact⟨xs[i],by rw[hf i (by omega),bd cj]⟩
     rw[Ba,so,jj (by omega)] at this
     exact this
    ·cases h
   ·cases h
  ·cases h
end
structure Ph (W:World) (p:Place) (r:Row):Prop where
 ne:0<r.tm.length
 n:r.n≤p.cap
 cap:p.cap≤maxLen
 nil:p.nil=ao->p.cap=0
 ex:∃ arr,(p.nil=an->0<r.n->p.lD<W.heap.size/\∃ t fz,W.heap[p.lD]?=aa (.cells arr t fz))/\oc r arr p.off
def S_:Value->aX->Nat->Prop
 |.int k _,c,n=>c=yQ c.i/\c.i.length=n/\∀ x∈c.i,(Lit.int k x).wf=ao
 |.bool _,c,n=>c=AM c.b/\c.b.length=n
 |.string _,c,n=>c=El c.s/\c.s.length=n/\∀ x∈c.s,x.size≤maxLen
 |_,_,_=>False
def Hs:List Value->List aX->Nat->Prop
 |[],[],_=>True
 |t::tm,c::cs,n=>S_ t c n/\Hs tm cs n
 |_,_,_=>False
def cellAt (W:World) (a:Addr):Value:=(W.cell? a).getD undef
def ua (W:World) (b o s n f:Nat) (t:Value):aX :=
 match t with
 |.int _ _=>yQ ((oi n).map fun e=>match cellAt W ⟨b,o+(e*s+f),aj⟩ with
  |.int _ x=>x
  |_=>0)
 |.bool _=>AM ((oi n).map fun e=>match cellAt W ⟨b,o+(e*s+f),aj⟩ with
  |.bool x=>x
  |_=>an)
 |.string _=>El ((oi n).map fun e=>match cellAt W ⟨b,o+(e*s+f),aj⟩ with
  |.string x=>x
  |_=>⟨#[]⟩)
 |_=>KZ
def wU (W:World) (b o s n:Nat):Nat->List Value->List aX
 |_,[]=>[]
 |f,t::tm=>ua W b o s n f t::wU W b o s n (f+1) tm
theorem vn (W:World) (b o s n:Nat):∀ (tm:List Value) (f0 f:Nat),(wU W b o s n f0 tm).length=tm.length/\(wU W b o s n f0 tm)[f]?=(tm[f]?).map (ua W b o s n (f0+f))
 |[],f0,f=>⟨rfl,by simp[wU]⟩
 |t::tm,f0,f=>by
  obtain⟨h1,h2⟩:=vn W b o s n tm (f0+1) (f-1);refine⟨by simp[wU,h1],?_⟩
  cases f with
  |zero=>simp[wU]
  |succ f =>
   simp only[wU,bH];simp only[mg] at h2;rw[h2,show f0+1+f=f0+(f+1) by omega]
theorem Ku:∀ {tm:List Value} {cs:List aX} {n:Nat},cs.length=tm.length->(∀ (f:Nat) (t:Value) (c:aX),tm[f]?=aa t->cs[f]?=aa c->S_ t c n)->Hs tm cs n
 |[],[],_,_,_=>trivial
 |[],_::_,_,h,_=>by simp at h
 |_::_,[],_,h,_=>by simp at h
 |t::tm,c::cs,n,h,hf=>⟨hf 0 t c rfl rfl,Ku (by simpa using h) fun f t c h1 h2=>hf (f+1) t c h1 h2⟩
theorem BZ {P:Program}:∀ (m:Nat) (t:TypeId) (tm:List Value),Gm P m t=aa tm->∀ v∈tm,(∃ k,v=.int k 0)∨v=.bool an∨v=.string ⟨#[]⟩
 |0,_,_,h=>by simp[Gm] at h
 |m+1,t,tm,h=>by
  simp only[Gm] at h;split at h
  ·injection h with h;subst h;intro v hv;simp at hv;exact dK ⟨_,hv⟩
  ·injection h with h;subst h;intro v hv;simp at hv;exact eV (dK hv)
  ·injection h with h;subst h;intro v hv;simp at hv;exact eV (eV hv)
  ·rename_i fs hk;have key:∀ (fs:List Field) (off:Nat) (tm:List Value),J7 P (Gm P m) off fs=aa tm->∀ v∈tm,(∃ k,v=.int k 0)∨v=.bool an∨v=.string ⟨#[]⟩:=by
    intro fs
    induction fs with
    |nil=>intro off tm h v hv;simp only[J7,ct] at h;subst h;cases hv
    |cons f fs ih =>
     intro off tm h v hv;simp only[J7] at h;split at h
     ·rename_i RK h1;split at h
      ·split at h
       ·rename_i r hr;injection h with h
        subst h;rcases b5.1 hv with hv|hv
        ·exact BZ m _ _ h1 v hv
        ·exact ih _ _ hr v hv
       ·cases h
      ·cases h
     ·cases h
   split at h
   ·rename_i RK h1;split at h
    ·injection h with h;subst h;exact key _ _ _ h1
    ·cases h
   ·cases h
  ·split at h
   ·rename_i RK h1;split at h
    ·injection h with h;subst h;exact fun v hv=>BZ m _ _ h1 v (TR hv)
    ·cases h
   ·cases h
  ·cases h
theorem slice_arg {H:Type} {enc:TypeId×Value->H} {P:Program} {W:World} {base:Nat} {t el:TypeId} {v:Value} {d:DataW H} {pl:List MemPlace} {tm:List Value} {m:Nat}
  (ht:P.underlying t=aa (.slice el)) (Bk:Gm P m el=aa tm) (kv:0<tm.length) (R6:P.cellsOf el=tm.length) (Mw:0<tm.length/\tm.length<1000)
  (hv:Wm P W .any base t v) (h:DataW.Trod enc P W 0 (fun _=>ao) ao t v d pl) :
  ∃ (p:Place) (r:Row),r.tm=tm/\Hs tm r.eu r.n/\Ph W p r/\∀ (ρ:Env) (i:Nat),ρ i=p->v=bT ρ (.slice (aa ⟨i,0,aa (1000*tm.length)⟩) r.n 0):=by
 obtain⟨a0,len,cap,rfl⟩:=okWide_slice ht hv;obtain⟨fuel,hf⟩:=h;rcases open_slice ht hf with⟨HG,_⟩|⟨a,l,c,mm,n,D,Pl,HG,_,hl,hm,hmm,_,hi⟩
 ·simp[nx] at HG;obtain⟨rfl,rfl,rfl⟩:=HG;refine⟨⟨0,0,0,ao⟩,⟨tm,0,wU W 0 0 tm.length 0 0 tm⟩,rfl,?_,⟨kv,a_ _,du _,fun _=>rfl,⟨#[],(fun h=>by cases h),?_⟩⟩,fun ρ i qD=>?_⟩
  ·refine Ku (vn W 0 0 tm.length 0 tm 0 0).1 fun f t c h1 h2=>?_
   have h3:=(vn W 0 0 tm.length 0 tm 0 f).2;rw[h1,h2] at h3;simp only[kc,ct] at h3;subst h3;rcases BZ _ _ _ Bk t (lz h1) with⟨k,rfl⟩|rfl|rfl<;>simp[ua,S_,yQ,AM,El]
  ·refine⟨(vn W 0 0 tm.length 0 tm 0 0).1,fun f t c h1 h2=>?_,fun f t c e h1 h2 he=>by simp at he⟩
   have h3:=(vn W 0 0 tm.length 0 tm 0 f).2;simp only at h1 h2;rw[h1,h2] at h3;simp only[kc,ct] at h3;subst h3;rcases BZ _ _ _ Bk t (lz h1) with⟨k,rfl⟩|rfl|rfl<;>simp[ua,jK,yQ,AM,El]
  ·simp[bT,lF,qD]
 ·simp[nx] at HG;obtain⟨rfl,rfl,rfl⟩:=HG;have hmc:mm=cap:=by simpa using hmm
  have hel:∀ e,e<cap->∃ cs,sj tm cs/\∀ f,f<tm.length->W.cell? ((a.add (e*tm.length)).add f)=cs[f]?:=by
   intro e he;obtain⟨Cu,hc,ht'⟩:=hi e (by omega)
   rw[R6] at hc;obtain⟨_,hlen,hat⟩:=World.cells?_some hc;exact⟨Cu,QA _ _ _ _ _ _ Bk ht',hat⟩
  have afh:a.spot=aj:=by
   simp only[Wm,ht,Cell.okWide,Cell.ok] at hv;exact hv.2.2.2.1
  obtain⟨b,o,spot⟩:=a;simp only at afh;subst afh;have hat:∀ e f,e<cap->f<tm.length->∃ t v,tm[f]?=aa t/\W.cell? ⟨b,o+(e*tm.length+f),aj⟩=aa v/\Az t v:=by
   intro e f he hf;obtain⟨cs,um,hc⟩:=hel e he;obtain⟨v,hv,hk⟩:=Mg um (bd hf);refine⟨tm[f],v,bd hf,?_,hk⟩;have:=hc f hf;rw[hv] at this;rw[pN,pN] at this;rw[← jd];exact this
  have hwf:∀ (f:Nat) (t:Value),tm[f]?=aa t->S_ t (ua W b o tm.length len f t) len/\∀ e,e<len->W.cell? ⟨b,o+(e*tm.length+f),aj⟩=aa (gD t (ua W b o tm.length len f t) e):=by
   intro f t ht1;have hf:f<tm.length:=(aU.1 ht1).1;have pX:∀ e,e<len->∃ v,W.cell? ⟨b,o+(e*tm.length+f),aj⟩=aa v/\Az t v:=fun e he=>by
    obtain⟨t',v,h1,h2,h3⟩:=hat e f (by omega) hf
    rw[ht1] at h1;injection h1 with h1
    subst h1;exact⟨v,h2,h3⟩
   rcases BZ _ _ _ Bk t (lz ht1) with⟨k,rfl⟩|rfl|rfl
   ·refine⟨⟨rfl,by simp[ua,yQ],fun x hx=>?_⟩,fun e he=>?_⟩
    ·simp only[ua,yQ,pb,RC] at hx;obtain⟨e,he,rfl⟩:=hx;obtain⟨v,h1,h2⟩:=pX e he;cases v<;>simp only[Az] at h2
     obtain⟨rfl,h2⟩:=h2;simp only[cellAt,h1,lI];exact h2
    ·obtain⟨v,h1,h2⟩:=pX e he;cases v<;>simp only[Az] at h2
     obtain⟨rfl,h2⟩:=h2;rw[h1];simp[gD,ua,yQ,he,cellAt,h1]
   ·refine⟨⟨rfl,by simp[ua,AM]⟩,fun e he=>?_⟩
    obtain⟨v,h1,h2⟩:=pX e he;cases v<;>simp only[Az] at h2
    rw[h1];simp[gD,ua,AM,he,cellAt,h1]
   ·refine⟨⟨rfl,by simp[ua,El],fun x hx=>?_⟩,fun e he=>?_⟩
    ·simp only[ua,El,pb,RC] at hx;obtain⟨e,he,rfl⟩:=hx;obtain⟨v,h1,h2⟩:=pX e he;cases v<;>simp only[Az] at h2
     simp only[cellAt,h1,lI];exact h2
    ·obtain⟨v,h1,h2⟩:=pX e he;cases v<;>simp only[Az] at h2
     rw[h1];simp[gD,ua,El,he,cellAt,h1]
  have ac6:∀ (f:Nat) (t:Value) (c:aX),tm[f]?=aa t->(wU W b o tm.length len 0 tm)[f]?=aa c->c=ua W b o tm.length len f t:=fun f t c h1 h2=>by
   have h3:=(vn W b o tm.length len tm 0 f).2;rw[h1,h2] at h3
   simpa using h3
  have hlen:=(vn W b o tm.length len tm 0 0).1;have wo:∀ arr,(0<len->∃ t fz,W.heap[b]?=aa (.cells arr t fz))->oc ⟨tm,len,wU W b o tm.length len 0 tm⟩ arr o:=by
   intro arr Gx;refine⟨hlen,fun f t c h1 h2=>?_,fun f t c e h1 h2 he=>?_⟩
   ·rw[ac6 f t c h1 h2];have:=(hwf f t h1).1;rcases BZ _ _ _ Bk t (lz h1) with⟨k,rfl⟩|rfl|rfl<;>simp[ua,jK,yQ,AM,El]
   ·rw[ac6 f t c h1 h2];obtain⟨t',fz,hb⟩:=Gx (by simp only at he;omega)
    rw[← (hwf f t h1).2 e he,cell_of_row W b _ arr t' fz hb]
  refine⟨⟨b,o,cap,an⟩,⟨tm,len,wU W b o tm.length len 0 tm⟩,rfl,Ku hlen fun f t c h1 h2=>by rw[ac6 f t c h1 h2];exact(hwf f t h1).1,⟨kv,hl,hm,(fun h=>by cases h),?_⟩,fun ρ i qD=>?_⟩
  ·by_cases h0:0<len
   ·obtain⟨t,v,_,h2,_⟩:=hat 0 0 (by omega) kv
    unfold World.cell? at h2;simp only[Option.isSome_none,fO,if_false] at h2;split at h2
    ·rename_i arr t' fz hb;exact⟨arr,fun _ _=>⟨by have:=v_.1 hb;exact this.1,_,_,hb⟩,wo arr fun _=>⟨_,_,hb⟩⟩
    ·cases h2
   ·exact⟨#[],fun _ h=>absurd h h0,wo #[] fun h=>absurd h h0⟩
  ·simp[bT,lF,qD,iD,cellOf];omega
def xH {R:Type}:List (Place×Row)->Hp R
 |[]=>[]
 |x::l=>aa (.inr (.inr (.inl x.2)))::xH l
theorem Mr {R:Type}:∀ {l:List (Place×Row)} {i:Nat} {B:SB R},(xH l:Hp R)[i]?=aa (aa B)->∃ x,l[i]?=aa x/\B=.inr (.inr (.inl x.2))
 |[],i,B,h=>by simp[xH] at h
 |x::l,i,B,h=>by
  cases i with
  |zero=>simp only[xH,cd,ct] at h ⊢;exact⟨x,rfl,h.symm⟩
  |succ i=>simp only[xH,bH] at h ⊢;exact Mr h
def viewsE (l:List (Place×Row)):Env:=fun i=>match l[i]? with
 |some x=>x.1
 |none=>⟨0,0,0,ao⟩
theorem ac9 {R:Type} {D:fH R} {W:World} {l:List (Place×Row)} (h:∀ x∈l,Ph W x.1 x.2) (n:Nat):HM D ⟨W,fun _=>False,viewsE l,n⟩ (viewsE l) (fun _ _=>False) (xH l) W where
 at_ i B hB:=by
  obtain⟨x,hx,rfl⟩:=Mr hB;obtain⟨h1,h2,h3,h4,arr,h5,h6⟩:=h x (lz hx);have e:viewsE l i=x.1:=by simp[viewsE,hx]
  refine⟨?_,trivial⟩;simp only[hold,e];exact⟨fun k hk=>hk,h1,h2,h3,h4,arr,fun hn h0=>⟨(h5 hn h0).1,fun hf=>hf,(h5 hn h0).2⟩,h6⟩
 lt i k hk:=hk.elim
 fresh i k hk:=hk.elim
 apart i j k hk:=hk.elim
 some_ i k hk:=hk.elim
 kept:=Kept.refl _ _
theorem Kept.below {W W':World} (h:Kept (fun _=>False) W W'):Below W.heap.size W W':=⟨h.os,h.tape,h.output,h.size,fun k hk=>h.block k hk fun hf=>hf⟩
theorem ab' {R:Type} {D:fH R} {P:Program} {f:FuncId} {fn:Func} {root:Code} {args:List Value} {W:World} (l:List (Place×Row)) (hf:P.funcs[f]?=aa fn) (hb:fn.body=aa root)
  (hW:∀ x∈l,Ph W x.1 x.2) (hi:ix (xH l:Hp R).length args=ao)
  (h:At D P root (xH l:Hp R).length (iE P fn.results.toList fun v _=>v=.bool ao) [.inl []] ⟨vk args++lj (fn.ntmps-args.length) aj,[],xH l⟩) :
  Calls P f (args.map (bT (viewsE l))).toArray W fun e W'=>e=.returned (.bool ao)/\Below W.heap.size W W':=by
 refine(M6 hf hb h (ac9 hW 0) hi).mono fun e w' ⟨gv,ku,v,wY,_,h2,h3,h4⟩=>?_
 subst h3;exact⟨by rw[h2];simp,Kept.below h4.kept⟩
end Rx
namespace Rx
open Go.RowKit State
def OX (t:Value) (c:aX) (e n:Nat):aX :=
 match t with
 |.int _ _=>⟨cut c.i e n,[],[]⟩
 |.bool _=>⟨[],cut c.b e n,[]⟩
 |.string _=>⟨[],[],cut c.s e n⟩
 |_=>KZ
def xp:List Value->List aX->Nat->Nat->List aX
 |t::tm,c::cs,e,n=>OX t c e n::xp tm cs e n
 |_,_,_,_=>[]
theorem Ci:∀ {tm:List Value} {cs:List aX} {e n f:Nat},cs.length=tm.length->(xp tm cs e n).length=tm.length/\∀ t c',tm[f]?=aa t->(xp tm cs e n)[f]?=aa c'->∃ c,cs[f]?=aa c/\c'=OX t c e n
 |[],[],e,n,f,_=>⟨rfl,fun t c' h=>by simp at h⟩
 |[],_::_,e,n,f,h=>by simp at h
 |_::_,[],e,n,f,h=>by simp at h
 |t::tm,c::cs,e,n,f,h=>by
  obtain⟨h1,h2⟩:=Ci (tm:=tm) (cs:=cs) (e:=e) (n:=n) (f:=f-1) (by simpa using h)
  refine⟨by simp[xp,h1],fun t' c' ht hc=>?_⟩
  cases f with
  |zero =>
   simp only[xp,cd,ct] at ht hc ⊢;subst ht hc;exact⟨c,rfl,rfl⟩
  |succ f =>
   simp only[xp,bH] at ht hc ⊢;simp only[mg] at h2;exact h2 t' c' ht hc
theorem adI {α:Type} {l:List α} {e n i:Nat} {d:α} (hi:i<n):(cut l e n).getD i d=l.getD (e+i) d:=by
 simp only[cut,av,oN,hi,if_true,oQ]
theorem ahe {α:Type} {l:List α} {e n:Nat} (h:e+n≤l.length):(cut l e n).length=n:=by simp[cut];omega
theorem oc.cut {r:Row} {arr:Array Value} {o e n:Nat} (h:oc r arr o) (hn:e+n≤r.n):oc ⟨r.tm,n,xp r.tm r.eu e n⟩ arr (o+e*r.tm.length):=by
 obtain⟨h1,h2,h3⟩:=h;refine⟨(Ci (f:=0) h1).1,fun f t c ht hc=>?_,fun f t c i ht hc hi=>?_⟩
 ·obtain⟨c0,Dl,rfl⟩:=(Ci h1).2 t c ht hc;have:=h2 f t c0 ht Dl;cases t<;>simp only[jK,OX] at this ⊢<;>first|exact ahe (by omega)|exact this
 ·obtain⟨c0,Dl,rfl⟩:=(Ci h1).2 t c ht hc;have lP:i<n:=hi;have:=h3 f t c0 (e+i) ht Dl (by omega)
  show arr[o+e*r.tm.length+(i*r.tm.length+f)]?=_
  rw[show o+e*r.tm.length+(i*r.tm.length+f)=o+((e+i)*r.tm.length+f) by rw[Nat.add_mul];omega,this]
  cases t<;>simp only[gD,OX]<;>simp only[adI lP]
def YG (C:Ctx) (p:Place) (r:Row):Prop:=0<r.tm.length/\r.n≤p.cap/\p.cap≤maxLen/\(p.nil=ao->p.cap=0) /\
 ∃ arr,(p.nil=an->0<r.n->p.lD<C.w0.heap.size/\¬ C.U p.lD/\∃ t fz,C.w0.heap[p.lD]?=aa (.cells arr t fz))/\oc r arr p.off
section
variable {R:Type} {D:fH R} {P:Program} {T:ez R} {C:Ctx} {ρ gv:Env} {ft:Nat->Nat->Prop} {w w':World}
def xd (ro:Nat->Bool) (hl:Hp R):Nat->Nat->List Value->Option (List Value×Hp R×Prop)
 |_,_,[]=>aa ([],[],True)
 |j,k,v::l =>
  match ro j with
  |false =>
   match xd ro hl (j+1) k l with
   |some (a,h,p)=>aa (v::a,h,p)
   |none=>aj
  |true =>
   match v with
   |.slice (aa ⟨b,e,aa q⟩) n _ =>
    match fS hl b with
    |some (.inr (.inr (.inl r))) =>
     if fb (q%1000000) (1000*r.tm.length) then
      match xd ro hl (j+1) (k+1) l with
      |some (a,h,p)=>aa (.slice (aa ⟨k,0,aa (1000*r.tm.length)⟩) n 0::a,aa (.inr (.inr (.inl ⟨r.tm,n,xp r.tm r.eu e n⟩)))::h,e+n≤r.n/\p)
      |none=>aj
     else aj
    |_=>aj
   |_=>aj
theorem Gy {ro:Nat->Bool} {hl:Hp R} (hm:HM D C ρ ft hl w):∀ (l:List Value) (j k:Nat) (a:List Value) (h:Hp R) (p:Prop),xd ro hl j k l=aa (a,h,p)->p->hl.length≤k->ix hl.length l=ao->(∀ (b:Nat) (r:Row),fS hl b=aa (.inr (.inr (.inl r)):SB R)->r.tm.length<1000) ->
  ∃ pl:List Place,pl.length=h.length/\ix (k+h.length) a=ao /\
   (∀ ni:Env,(∀ i,i<hl.length->ni i=ρ i)->(∀ i q,pl[i]?=aa q->ni (k+i)=q)->a.map (bT ni)=l.map (bT ρ)) /\
   (∀ (i:Nat) (B:SB R),h[i]?=aa (aa B)->∃ (r:Row) (q:Place),B=.inr (.inr (.inl r))/\pl[i]?=aa q/\YG C q r)
 |[],j,k,a,h,p,hv,_,_,_,_=>by
  simp only[xd,ct,tw] at hv;obtain⟨rfl,rfl,_⟩:=hv;exact⟨[],rfl,rfl,fun _ _ _=>rfl,fun i B hB=>by simp at hB⟩
 |v::l,j,k,a,h,p,hv,hp,hk,j8,hsm=>by
  simp only[ix,aL] at j8;simp only[xd] at hv;split at hv
  ·split at hv
   ·rename_i a1 h1 p1 he;simp only[ct,tw] at hv;obtain⟨rfl,rfl,rfl⟩:=hv;obtain⟨pl,q1,q2,q3,q4⟩:=Gy hm l _ _ _ _ _ he hp hk j8.2 hsm;refine⟨pl,q1,?_,fun ni e1 e2=>?_,q4⟩
    ·simp only[ix,aL];exact⟨BF (by omega) v j8.1,q2⟩
    ·simp only[gr,q3 ni e1 e2];rw[nh (n:=hl.length) (fun i hi=>e1 i hi) v j8.1]
   ·cases hv
  ·split at hv
   ·rename_i b e q n c;split at hv
    ·rename_i r hr;split at hv
     ·rename_i hq;have hq:=cP hq;split at hv
      ·rename_i a1 h1 p1 he;simp only[ct,tw] at hv;obtain⟨rfl,rfl,rfl⟩:=hv;obtain⟨hp1,hp2⟩:=hp;obtain⟨pl,q1,q2,q3,q4⟩:=Gy hm l _ _ _ _ _ he hp2 (by omega) j8.2 hsm
       have hb:=rz hr;have Ay:b<hl.length:=(aU.1 hb).1;obtain⟨_,g1,g2,g3,g4,arr,g5,g6⟩:=(hm.at_ b _ hb).1;have apF:=hsm b r hr;have adV:=g6.cut hp1;have apZ:Ej (aa q)≤hl.length:=by
        have:=j8.1;simp only[fp,aL,vw] at this;exact this.2
       have main:∃ pp:Place,YG C pp ⟨r.tm,n,xp r.tm r.eu e n⟩/\∀ ni:Env,ni k=pp->bT ni (.slice (aa ⟨k,0,aa (1000*r.tm.length)⟩) n 0)=bT ρ (.slice (aa ⟨b,e,aa q⟩) n c):=by
        have hz:1000*r.tm.length / 1000000=0:=by omega
        by_cases hn:(ρ b).nil=ao
        ·have hc:=g4 hn;refine⟨⟨0,(ρ b).off+e*r.tm.length,0,ao⟩,⟨g1,(by show n≤0;omega),du _,(fun _=>rfl),arr,(fun h=>by cases h),adV⟩,fun ni e2=>?_⟩
         simp only[bT,z4,e2,if_true];rw[if_pos hn]
        ·have ya:(ρ b).nil=an:=by simpa using hn
         by_cases hc:q / 1000000≠0/\(ρ b).cap≤e
         ·have uu:n=0:=by omega
          subst uu;refine⟨⟨(ρ (q / 1000000-1)).lD,(ρ (q / 1000000-1)).off,0,an⟩,⟨g1,a_ _,du _,(fun h=>by cases h),arr,(fun _ h=>absurd h (Nat.lt_irrefl 0)),?_⟩,fun ni e2=>?_⟩
          ·obtain⟨z1,z2,z3⟩:=adV;exact⟨z1,z2,fun f t c i _ _ hi=>absurd hi (Nat.not_lt_zero i)⟩
          ·simp only[bT,z4,e2,iD,cellOf,hz];rw[if_neg (by simp),if_neg hn,if_pos hc]
           simp
         ·refine⟨⟨(ρ b).lD,(ρ b).off+e*r.tm.length,(ρ b).cap-e,an⟩,⟨g1,(by show n≤(ρ b).cap-e;omega),(by show(ρ b).cap-e≤maxLen;omega),(fun h=>by cases h),arr,(fun _ h0=>g5 ya (by have h0':0<n:=h0;omega)),adV⟩,fun ni e2=>?_⟩
          simp only[bT,z4,e2,iD,cellOf,hz,hq];rw[if_neg (by simp),if_neg hn,if_neg hc,if_neg (by simp)]
          have e3:1000*r.tm.length / 1000=r.tm.length:=by omega
          have e4:q%1000=0:=by omega
          have e5:1000*r.tm.length%1000=0:=by omega
          simp[e3,e4,e5]
       obtain⟨pp,v1,v2⟩:=main;refine⟨pp::pl,by simp[q1],?_,fun ni e1 e2=>?_,fun i B hB=>?_⟩
       ·simp only[ix,fp,Ej,aL,fe,vw,cy];refine⟨⟨by omega,by omega⟩,?_⟩
        rw[show k+(h1.length+1)=k+1+h1.length by omega]
        exact q2
       ·simp only[gr];rw[v2 ni (e2 0 pp rfl),q3 ni e1 fun i q hi=>by rw[show k+1+i=k+(i+1) by omega];exact e2 (i+1) q (by simpa using hi)]
       ·cases i with
        |zero =>
         simp only[cd,ct] at hB ⊢;exact⟨_,pp,hB.symm,rfl,v1⟩
        |succ i =>
         simp only[bH] at hB ⊢;exact q4 i B hB
      ·cases hv
     ·cases hv
    ·cases hv
   ·cases hv
def sh:Nat->Nat->Hp R->Hp R
 |_,_,[]=>[]
 |0,0,l=>l
 |0,k+1,_::l=>aj::sh 0 k l
 |n+1,k,x::l=>x::sh n k l
theorem yx:∀ {n k:Nat} {l:Hp R},(sh n k l).length=l.length/\∀ (i:Nat) (B:SB R),(sh n k l)[i]?=aa (aa B)->l[i]?=aa (aa B)
 |n,k,[]=>by cases n<;>cases k<;>exact⟨rfl,fun i B h=>by simp[sh] at h⟩
 |0,0,x::l=>⟨rfl,fun i B h=>h⟩
 |0,k+1,x::l=>by
  obtain⟨h1,h2⟩:=yx (n:=0) (k:=k) (l:=l);refine⟨by simp[sh,h1],fun i B h=>?_⟩
  cases i with
  |zero=>simp[sh] at h
  |succ i=>simp only[sh,bH] at h ⊢;exact h2 i B h
 |n+1,k,x::l=>by
  obtain⟨h1,h2⟩:=yx (n:=n) (k:=k) (l:=l);refine⟨by simp[sh,h1],fun i B h=>?_⟩
  cases i with
  |zero=>simpa [sh] using h
  |succ i=>simp only[sh,bH] at h ⊢;exact h2 i B h
def zz (hl:Hp R):Bool :=
 match hl with
 |[]=>ao
 |some (.inr (.inr (.inl r)))::l=>gR r.tm.length 1000&&zz l
 |_::l=>zz l
theorem Ji:∀ {l:Hp R} {b:Nat} {r:Row},zz l=ao->fS l b=aa (.inr (.inr (.inl r)))->r.tm.length<1000
 |[],b,r,_,h=>by simp[fS] at h
 |x::l,b,r,hs,h=>by
  have hl:zz l=ao/\(x=aa (.inr (.inr (.inl r)))->r.tm.length<1000):=by
   rcases x with _|⟨t,cs⟩|⟨t,r0⟩|r0|x
   ·exact⟨hs,fun e=>by cases e⟩
   ·exact⟨hs,fun e=>by cases e⟩
   ·exact⟨hs,fun e=>by cases e⟩
   ·simp only[zz,aL,fe] at hs;exact⟨hs.2,fun e=>by injection e with e;injection e with e;injection e with e;injection e with e;subst e;exact hs.1⟩
   ·exact⟨hs,fun e=>by cases e⟩
  cases b with
  |zero=>simp[fS] at h;exact hl.2 h
  |succ b=>exact Ji hl.1 (by simpa [fS] using h)
def FG (ro:Nat->Bool) (spec:Prim R):Prim R:=fun args hl =>
 match xd ro hl 0 hl.length args with
 |some (a,hv,p) =>
  if zz hl then
   match spec a (hl++hv) with
   |some x=>match x.wr with
    |[]=>if fp hl.length x.v then aa ⟨p/\x.vc,x.v,x.lit,hl,[],[]⟩ else aj
    |_=>if te x.hp.length (sh hl.length hv.length x.hp) then aa ⟨p/\x.vc,x.v,x.lit,sh hl.length hv.length x.hp,[],[(0,0)]⟩ else aj
   |none=>aj
  else aj
 |none=>aj
theorem HM.part {h r:Hp R} (hm:HM D C ρ ft h w) (hl:∀ (i:Nat) (B:SB R),r[i]?=aa (aa B)->h[i]?=aa (aa B)) (hi:te r.length r=ao):HM D C ρ (fun i k=>(∃ B,r[i]?=aa (aa B))/\ft i k) r w where
 at_ i B hB:=by
  obtain⟨h1,h2⟩:=hm.at_ i B (hl i B hB);refine⟨?_,BP hi hB⟩;have:(fun k=>(∃ B,r[i]?=aa (aa B))/\ft i k)=ft i:=funext fun k=>propext ⟨fun h=>h.2,fun h=>⟨⟨B,hB⟩,h⟩⟩
  rw[this];exact h1
 lt i k hk:=hm.lt i k hk.2
 fresh i k hk:=hm.fresh i k hk.2
 apart i j k hi hj:=hm.apart i j k hi.2 hj.2
 some_ i k hk:=hk.1
 kept:=hm.kept
theorem HM.alw {hl hv:Hp R} (hm:HM D C ρ ft hl w) (ni:Env) (pl:List Place) (h1:∀ i,i<hl.length->ni i=ρ i) (h2:∀ i q,pl[i]?=aa q->ni (hl.length+i)=q)
  (hv_:∀ (i:Nat) (B:SB R),hv[i]?=aa (aa B)->∃ (r:Row) (q:Place),B=.inr (.inr (.inl r))/\pl[i]?=aa q/\YG C q r):HM D C ni ft (hl++hv) w where
 at_ i B hB:=by
  rcases cr i hl.length with cj|j7
  ·rw[c_ cj] at hB;obtain⟨g1,g2⟩:=hm.at_ i B hB;exact⟨IF g1 h1 cj g2,Cf (by simp) g2⟩
  ·rw[dQ j7] at hB;obtain⟨r,q,rfl,hq,hr⟩:=hv_ _ _ hB;have e:=h2 _ _ hq;rw[show hl.length+(i-hl.length)=i by omega] at e
   refine⟨?_,trivial⟩;simp only[hold,e];refine⟨fun k hk=>?_,hr⟩
   obtain⟨B',jD⟩:=hm.some_ i k hk;have:=(aU.1 jD).1;omega
 lt:=hm.lt
 fresh:=hm.fresh
 apart:=hm.apart
 some_ i k hk:=by
  obtain⟨B,hB⟩:=hm.some_ i k hk;have:=(aU.1 hB).1;exact⟨B,by rw[c_ this];exact hB⟩
 kept:=hm.kept
theorem Xy {n:Nat}:∀ {r:Hp R},(∀ (i:Nat) (B:SB R),r[i]?=aa (aa B)->inside n B)->te n r=ao
 |[],_=>rfl
 |x::r,h=>by
  have hr:te n r=ao:=Xy fun i B hB=>h (i+1) B (by simpa using hB)
  rcases x with _|⟨t,cs⟩|⟨t,ro⟩|ro|x
  ·exact hr
  ·simp only[te,aL];exact⟨h 0 _ rfl,hr⟩
  ·exact hr
  ·exact hr
  ·exact hr
def aii (ro:Nat->Bool) (on:List Value->Hp R->Prop) (args:List Value) (hl:Hp R):Prop:=∀ a hv p,xd ro hl 0 hl.length args=aa (a,hv,p)->on a (hl++hv)
theorem ac8 {f:FuncId} {on:List Value->Hp R->Prop} {spec:Prim R} (ro:Nat->Bool) (ok:rK D P f on spec):rK D P f (aii ro on) (FG ro spec) where
 known:=ok.known
 run args hl x mN hx C ρ ft w hm hv hi:=by
  unfold FG at hx;split at hx
  ·rename_i a D6 p he;split at hx
   ·rename_i hs;split at hx
    ·rename_i y hy;have main:p/\y.vc->Calls P f (args.map (bT ρ)).toArray w fun e w'=>∃ gv ku,(∀ i,i<(hl++D6).length->i<hl.length->gv i=ρ i)/\e=.returned (bT gv y.v)/\HM D C gv ku y.hp w':=by
      intro⟨hp,hyv⟩;obtain⟨pl,q1,q2,q3,q4⟩:=Gy hm args 0 hl.length a D6 p he hp (a_ _) hi fun b r hb=>Ji hs hb
      let ni:Env:=fun i=>if i<hl.length then ρ i else(pl[i-hl.length]?).getD ⟨0,0,0,ao⟩
      have e1:∀ i,i<hl.length->ni i=ρ i:=fun i hi=>by simp only[ni,hi,if_true]
      have e2:∀ i q,pl[i]?=aa q->ni (hl.length+i)=q:=fun i q hq=>by
       have:¬ hl.length+i<hl.length:=by omega
       simp only[ni,this,if_false,FD,hq,lI]
      have JH:=hm.alw ni pl e1 e2 q4;have:=ok.run a (hl++D6) y (mN a D6 p he) hy C ni ft w JH hyv (by rw[bA];exact q2)
      rw[q3 ni e1 e2] at this;refine this.mono fun e w' ⟨gv,ku,r1,r2,r3⟩=>⟨gv,ku,fun i hi lP=>(r1 i hi).trans (e1 i lP),r2,r3⟩
     split at hx
     ·rename_i hw;split at hx
      ·rename_i j8;cases hx;have yD:=ok.still _ _ _ hy hw;refine(main hv).mono fun e w' ⟨gv,ku,r1,r2,r3⟩=>?_
       rw[yD] at r3;have nj:∀ (i:Nat) (B:SB R),hl[i]?=aa (aa B)->(hl++D6)[i]?=aa (aa B):=fun i B hB=>by
        rw[c_ (aU.1 hB).1];exact hB
       refine⟨gv,_,fun i hi=>r1 i (by simp;omega) hi,r2,r3.part nj (Xy fun i B hB=>(hm.at_ i B hB).2)⟩
      ·cases hx
     ·split at hx
      ·rename_i j8;cases hx;refine(main hv).mono fun e w' ⟨gv,ku,r1,r2,r3⟩=>?_
       refine⟨gv,_,fun i hi=>r1 i (by simp;omega) hi,r2,r3.part (fun i B hB=>yx.2 i B hB) (by rw[yx.1];exact j8)⟩
      ·cases hx
    ·cases hx
   ·cases hx
  ·cases hx
 len args hl x hx:=by
  unfold FG at hx;split at hx
  ·split at hx
   ·split at hx
    ·rename_i a D6 p he hs y hy;have:=ok.len _ _ _ hy;split at hx
     ·split at hx
      ·injection hx with hx;subst hx;exact a_ _
      ·cases hx
     ·split at hx
      ·injection hx with hx
       subst hx;simp only[yx.1];simp at this;omega
      ·cases hx
    ·cases hx
   ·cases hx
  ·cases hx
 lit args hl x hx b hb:=by
  unfold FG at hx;split at hx
  ·split at hx
   ·split at hx
    ·rename_i a D6 p he hs y hy;split at hx
     ·split at hx
      ·injection hx with hx;subst hx;exact ok.lit _ _ _ hy b hb
      ·cases hx
     ·split at hx
      ·injection hx with hx;subst hx;exact ok.lit _ _ _ hy b hb
      ·cases hx
    ·cases hx
   ·cases hx
  ·cases hx
 still args hl x hx hw:=by
  unfold FG at hx;split at hx
  ·split at hx
   ·split at hx
    ·split at hx
     ·split at hx
      ·injection hx with hx;subst hx;rfl
      ·cases hx
     ·split at hx
      ·injection hx with hx;subst hx;cases hw
      ·cases hx
    ·cases hx
   ·cases hx
  ·cases hx
def ae4 (ro:Nat->Bool) (when:List Value->Hp R->Option Bool) (args:List Value) (hl:Hp R):Option Bool :=
 match xd ro hl 0 hl.length args with
 |some (a,hv,_)=>when a (hl++hv)
 |none=>aj
def Tn (ro:Nat->Bool) (c:jb R):jb R:=⟨ae4 ro c.when,FG ro c.yes,FG ro c.no⟩
theorem adR {f:FuncId} {c:jb R} (ro:Nat->Bool) (ok:b6 D P f c):b6 D P f (Tn ro c):=by
 intro b;have:=ac8 ro (ok b);have e:(Tn ro c).go b=FG ro (c.go b):=by cases b<;>rfl
 rw[e];refine⟨this.known,fun args h x mN=>this.run args h x fun a hv p he=>?_,this.len,this.lit,this.still⟩
 unfold rZ Tn ae4 at mN;simp only[he] at mN;exact mN
def tG (ro:Nat->Bool) (d:Nat) (c:jb R):jb R:=bJ (fun _=>ao) d (Tn ro (bJ (fun _=>an) d c))
theorem nU {f:FuncId} {c:jb R} (ro:Nat->Bool) (d:Nat) (ok:b6 D P f c):HF D P f (tG ro d c):=aT _ _ (adR _ (Kz _ _ ok))
end
end Rx
namespace Rx
def s8:fH Empty:=⟨fun _ _ _ _=>False,fun _ _ _ _ _ h _=>h,fun _ _ _ _ _ h _=>h.elim⟩
def dJ (f:Func):Code:=f.body.getD .skip
theorem bK {p q:Prop} (h:q) (e:p=q):p:=by rw[e];exact h
theorem mixed:Tryz.prog.follows .mixedOrders=ao:=by kernel_rfl
def Hu:Hp Empty->Bool
 |[]=>ao
 |none::l=>Hu l
 |some B::l=>!g_ B&&Hu l
theorem Cj:∀ {l:Hp Empty} {b:Nat} {X:SB Empty},Hu l=ao->l[b]?=aa (aa X)->g_ X=an
 |[],b,X,_,h=>by simp at h
 |none::l,b,X,hn,h=>by
  cases b with
  |zero=>simp at h
  |succ b =>
   simp only[bH] at h;simp only[Hu] at hn;exact Cj hn h
 |some B::l,b,X,hn,h=>by
  simp only[Hu,aL,mQ] at hn;cases b with
  |zero=>simp only[cd,ct] at h;subst h;exact hn.1
  |succ b=>simp only[bH] at h;exact Cj hn.2 h
def zN:Nat->Bool:=fun _=>an
theorem lM {R:Type} {x:Out R} (h:x.lit=aj):∀ b,x.lit=aa b->x.v=.bool b:=fun b hb=>by rw[h] at hb;cases hb
theorem fj {R:Type} {D:fH R} {P:Program} {f:FuncId} {spec:Prim R} (fn:Func) (H:∀ args hh x,spec args hh=aa x->hh.length≤x.hp.length/\(∀ b,x.lit=aa b->x.v=.bool b)/\(x.wr=[]->x.hp=hh) /\
 (True → x.vc → At D P (dJ fn) hh.length (iE P fn.results.toList (Ends hh.length x)) [.inl []] ⟨vk args ++ lj (fn.ntmps - args.length) aj, [], hh⟩)) (hf : P.funcs[f]? = aa fn := by kernel_rfl) (hb : fn.body = aa (dJ fn) := by kernel_rfl) (hn : (fn.name == "runtime.NumGoroutine") = an := by kernel_rfl) : b6 D P f (a9 spec) := qa (wg hf hb hn H)
theorem q4 {R:Type} {a b:Nat} {x:Out R} {C E:Prop} (h:E) (h1:a≤b:=by exact Nat.le_of_ble_eq_true rfl) (h2:x.lit=none:=by rfl) (h3:C:=by intro hw;first|rfl|cases hw):a≤b/\(∀ b,x.lit=some b->x.v=.bool b)/\C/\E:=⟨h1,lM h2,h3,h⟩
theorem sB:(∀ {p:Prop} [Decidable p],(decide p=ao)=p)/\(∀ {p:Prop} {_:Decidable p},decide p=an↔¬p)/\(∀ n:Nat,0+n=n)/\(∀ {a b:Int},a≥b↔b≤a)/\(∀ {a b:Nat},a≥b↔b≤a)/\(∀ {a b:Int},¬a≤b↔b<a)/\(∀ {a b:Int},¬a<b↔b≤a)/\(∀ n:Nat,(n:Int).toNat=n)/\(∀ {α:Type} [BEq α] [LawfulBEq α] {a b:α},(a==b)=ao↔a=b)/\(∀ {α:Type} [BEq α] [LawfulBEq α] {a b:α},(a==b)=an↔a≠b)/\(∀ {α:Type} [BEq α] [LawfulBEq α] {a b:α},(a != b)=ao↔a≠b)/\(∀ {α:Type} [BEq α] [LawfulBEq α] {a b:α},(a != b)=an↔a=b)/\(∀ b:Bool,((!b)=ao)=(b=an))/\(∀ b:Bool,((!b)=an)=(b=ao)) :=
 ⟨decide_eq_true_eq,decide_eq_false_iff_not,bV,ge_iff_le,ge_iff_le,Int.not_le,IU,Int.toNat_natCast,beq_iff_eq,beq_eq_false_iff_ne,bne_iff_ne,bne_eq_false_iff_eq,fun b=>by cases b<;>simp,fun b=>by cases b<;>simp⟩
theorem jm {p q:Bool} (h:p=q):aD p=aD q:=congrArg aD h
theorem jo {p:Prop} [Decidable p] (h:p):aD (decide p)=aD ao:=congrArg aD (decide_eq_true h)
theorem jk {a b:Int} (h:b≤a):aD (decide (a<b))=aD an:=congrArg aD (decide_eq_false (IU.mpr h))
abbrev n4 (l:List (Option Value)):List (Option Value):=aj::aj::aj::aj::l
abbrev nH (l:List (Option Value)):List (Option Value):=n4 (n4 (n4 (n4 l)))
theorem yY {α:Type} {l:List α} {i:Nat} {d:α} (h:i<l.length):l.getD i d∈l:=by
 rw[av,bd h];exact List.getElem_mem h
theorem ot {α:Type} (l:List α) (i j:Nat) (a d:α):(l.set i a).getD j d=if i=j/\i<l.length then a else l.getD j d:=by
 simp only[av,List.getElem?_set]
 by_cases h:i=j
 ·subst h
  by_cases h2:i<l.length
  ·simp[h2]
  ·simp[h2,dc (nw h2)]
 ·simp[h]
theorem ur {α:Type} (l:List α) (a d:α) (j:Nat):(l++[a]).getD j d=if j=l.length then a else l.getD j d:=by
 simp only[av]
 by_cases h:j<l.length
 ·rw[c_ h,if_neg (by omega)]
 ·rw[dQ (by omega)]
  by_cases h2:j=l.length
  ·simp[h2]
  ·rw[if_neg h2,dc (by simp;omega),dc (by omega)]
theorem xK {α:Type} {l:List α} {i:Nat} (d:α) (h:i<l.length):l.take (i+1)=l.take i++[l.getD i d]:=by
 rw[List.take_succ_eq_append_getElem h,av,bd h];rfl
def vI:Value->Int
 |.int _ x=>x
 |_=>0
def vB:Value->Bool
 |.bool b=>b
 |_=>an
def gm (l:List Value) (i:Nat):Value:=l.getD i (.bool an)
end Rx
namespace Gv
open Rx
abbrev W (n:Int):Int:=ar.wrap n
theorem uD {n:Int} (h:-9223372036854775808≤n/\n≤9223372036854775807):W n=n:=oJ ⟨h.1,h.2⟩
theorem W_W (a b:Int):W (W a+b)=W (a+b):=by
 unfold W;rw[Fp,Fp,Fp];omega
structure Ref where
 i:Int
 g:Int
instance:DecidableEq Ref:=fun a b=>decidable_of_iff (a.i=b.i/\a.g=b.g) ⟨fun h=>by cases a;cases b;cases h.1;cases h.2;rfl,fun h=>by cases h;exact⟨rfl,rfl⟩⟩
def r0:Ref:=⟨0,0⟩
structure PM (N:Type) where
 vs:List N
 dE:List Int
 live:List Bool
 free:List Int
 held:Int
 cap:Int
 cX:Int
section
variable {N:Type}
def has (m:PM N) (r:Ref):Bool:=decide (0≤r.i)&&decide (r.i<m.vs.length)&&m.live.getD r.i.toNat an&&decide (m.dE.getD r.i.toNat 0=r.g)
def look (z:N) (m:PM N) (r:Ref):N:=if has m r then m.vs.getD r.i.toNat z else z
def seen (m:PM N):PM N:={ m with cX:=W (m.cX+1) }
def aF (m:PM N) (r:Ref):PM N:=if has m r then seen m else m
def pJ (m:PM N) (r:Ref) (n:N):PM N:=if has m r then { seen m with vs:=m.vs.set r.i.toNat n } else m
def nextIdx (m:PM N):Int:=if m.free.length=0 then(m.vs.length:Int) else m.free.getD (m.free.length-1) 0
def jI (z:N) (m:PM N):PM N:=if m.free.length=0 then { m with vs:=m.vs++[z],dE:=m.dE++[0],live:=m.live++[an] } else { m with free:=m.free.take (m.free.length-1) }
def Ai (z:N) (m:PM N):Int:=(jI z m).dE.getD (nextIdx m).toNat 0+1
def put (z:N) (m:PM N) (v:N):PM N :=
 if m.held=m.cap then m else
  { jI z m with vs:=(jI z m).vs.set (nextIdx m).toNat v,live:=(jI z m).live.set (nextIdx m).toNat ao,dE:=(jI z m).dE.set (nextIdx m).toNat (Ai z m),held:=m.held+1 }
def ma (z:N) (m:PM N):Ref:=if m.held=m.cap then r0 else⟨nextIdx m,Ai z m⟩
def drop (z:N) (m:PM N) (r:Ref):PM N :=
 if has m r then { seen m with vs:=m.vs.set r.i.toNat z,live:=m.live.set r.i.toNat an,held:=m.held-1,free:=if m.dE.getD r.i.toNat 0<4294967295 then m.free++[r.i] else m.free } else m
structure fX (n:Nat) (m:PM N):Prop where
 dE:m.dE.length=m.vs.length
 live:m.live.length=m.vs.length
 inn:∀ f∈m.free,0≤f/\f<m.vs.length/\m.live.getD f.toNat an=an
 lR:m.free.Nodup
 cells:m.vs.length≤n
 pK:m.free.length≤n
 gen:∀ g∈m.dE,0≤g/\g≤n
 pos:∀ i,m.live.getD i an=ao->1≤m.dE.getD i 0
 Sj:-n≤m.held/\m.held≤n
theorem fX.mono {m:PM N} {n k:Nat} (h:fX n m) (hk:n≤k):fX k m:=by
 obtain⟨h1,h2,h3,wS,h4,h5,h6,I',h8⟩:=h;exact⟨h1,h2,h3,wS,by omega,by omega,fun g hg=>by have:=h6 g hg;omega,I',by omega⟩
theorem sy {m:PM N} {r:Ref} (h:has m r=ao):0≤r.i/\r.i<m.vs.length/\m.live.getD r.i.toNat an=ao/\m.dE.getD r.i.toNat 0=r.g:=by
 simp only[has,aL,decide_eq_true_eq] at h;obtain⟨⟨⟨w1,w2⟩,w3⟩,w4⟩:=h;exact⟨w1,w2,w3,w4⟩
theorem Yu {m:PM N} {r:Ref}:has m r=ao↔0≤r.i/\r.i<m.vs.length/\m.live.getD r.i.toNat an=ao/\m.dE.getD r.i.toNat 0=r.g:=by
 simp only[has,aL,decide_eq_true_eq,and_assoc]
theorem fX.z0 {m:PM N} {n:Nat} (h:fX n m):has m r0=an:=by
 cases hh:has m r0 with
 |false=>rfl
 |true =>
  obtain⟨_,_,w3,w4⟩:=sy hh;have:=h.pos _ w3;rw[w4] at this;simp[r0] at this
theorem A6 {l:List Int} {i n:Nat} (h:∀ g∈l,0≤g/\g≤(n:Int)):0≤l.getD i 0/\l.getD i 0≤n:=by
 rcases cr i l.length with hl|hl
 ·exact h _ (yY hl)
 ·rw[av,dc hl];simp
@[simp] theorem ans (m:PM N) (r:Ref):has (seen m) r=has m r:=rfl
@[simp] theorem alV (z:N) (m:PM N) (r:Ref):look z (seen m) r=look z m r:=rfl
@[simp] theorem anG (m:PM N) (s r:Ref):has (aF m s) r=has m r:=by unfold aF;split<;>rfl
@[simp] theorem V6 (z:N) (m:PM N) (s r:Ref):look z (aF m s) r=look z m r:=by unfold aF;split<;>rfl
structure iI (S:List Ref) (k:Nat) (z:N) (m m':PM N):Prop where
 dE:m'.dE=m.dE
 live:m'.live=m.live
 free:m'.free=m.free
 held:m'.held=m.held
 cap:m'.cap=m.cap
 len:m'.vs.length=m.vs.length
 look:∀ r,r∉S->look z m' r=look z m r
 qR:∃ j:Nat,j≤k/\(m'.cX=m.cX/\j=0∨m'.cX=W (m.cX+j))
theorem iI.has {S:List Ref} {k:Nat} {z:N} {m m':PM N} (h:iI S k z m m') (r:Ref):has m' r=has m r:=by
 unfold Gv.has;rw[h.len,h.live,h.dE]
theorem iI.refl (S:List Ref) (k:Nat) (z:N) (m:PM N):iI S k z m m:=⟨rfl,rfl,rfl,rfl,rfl,rfl,fun _ _=>rfl,0,du _,.inl ⟨rfl,rfl⟩⟩
theorem iI.trans {S S':List Ref} {k k':Nat} {z:N} {a b c:PM N} (h:iI S k z a b) (h':iI S' k' z b c):iI (S++S') (k+k') z a c:=by
 refine⟨h'.dE.trans h.dE,h'.live.trans h.live,h'.free.trans h.free,h'.held.trans h.held,h'.cap.trans h.cap,h'.len.trans h.len,fun r hr=>?_,?_⟩
 ·rw[b5,not_or] at hr;rw[h'.look r hr.2,h.look r hr.1]
 ·obtain⟨j,hj,e⟩:=h.qR;obtain⟨j',Mh,e'⟩:=h'.qR;refine⟨j+j',by omega,?_⟩
  rcases e with⟨e,rfl⟩|e<;>rcases e' with⟨e',rfl⟩|e'
  ·exact .inl ⟨e'.trans e,rfl⟩
  ·right;rw[e',e];congr 1;omega
  ·right;rw[e',e];congr 1
  ·right;rw[e',e,W_W];congr 1;omega
theorem iI.mono {S S':List Ref} {k k':Nat} {z:N} {a b:PM N} (h:iI S k z a b) (hS:∀ r,r∈S->r∈S') (hk:k≤k'):iI S' k' z a b:=by
 obtain⟨j,hj,e⟩:=h.qR;exact⟨h.dE,h.live,h.free,h.held,h.cap,h.len,fun r hr=>h.look r (fun tY=>hr (hS r tY)),j,jq hj hk,e⟩
theorem iI.to {S S1 S2:List Ref} {k k1 k2:Nat} {z:N} {a b c:PM N} (h:iI S1 k1 z a b) (h':iI S2 k2 z b c) (hS:∀ r,r∈S1∨r∈S2->r∈S) (hk:k1+k2≤k):iI S k z a c :=
 (h.trans h').mono (fun r hr=>hS r (b5.1 hr)) hk
theorem iI.ok {S:List Ref} {k n:Nat} {z:N} {m m':PM N} (h:iI S k z m m') (ho:fX n m):fX n m':=by
 obtain⟨h1,h2,h3,wS,h4,h5,h6,I',h8⟩:=ho;exact⟨by rw[h.dE,h.len,h1],by rw[h.live,h.len,h2],by rw[h.free,h.len,h.live];exact h3,by rw[h.free];exact wS,by rw[h.len];exact h4,by rw[h.free];exact h5,by rw[h.dE];exact h6,by rw[h.dE,h.live];exact I',by rw[h.held];exact h8⟩
theorem gC (z:N) (m:PM N) (r:Ref):iI [] 1 z m (aF m r):=by
 refine⟨?_,?_,?_,?_,?_,?_,fun s _=>V6 z m r s,?_⟩
 all_goals unfold aF;split
 all_goals first|rfl|exact⟨1,a_ _,.inr rfl⟩|exact⟨0,du _,.inl ⟨rfl,rfl⟩⟩
theorem Ib {m:PM N} {r s:Ref} (hr:has m r=ao) (hs:has m s=ao) (h:r.i.toNat=s.i.toNat):r=s:=by
 obtain⟨a1,a2,a3,a4⟩:=sy hr;obtain⟨b1,b2,b3,b4⟩:=sy hs;cases r;cases s;simp only[Ref.mk.injEq] at *
 refine⟨by omega,?_⟩
 rw[← a4,← b4,h]
theorem VR (z:N) (m:PM N) (r:Ref) (n:N):iI [r] 1 z m (pJ m r n):=by
 by_cases h:has m r=ao
 ·have e:pJ m r n={ seen m with vs:=m.vs.set r.i.toNat n }:=by unfold pJ;rw[if_pos h]
  refine⟨by rw[e];rfl,by rw[e];rfl,by rw[e];rfl,by rw[e];rfl,by rw[e];rfl,by rw[e];simp,fun s hs=>?_,1,a_ _,.inr (by rw[e];rfl)⟩
  have kv:s≠r:=by simpa using hs
  have hh:has (pJ m r n) s=has m s:=by rw[e];simp only[has,seen,fa];rfl
  unfold look;rw[hh];split
  ·rename_i h2;rw[e];simp only;rw[ot,if_neg];intro⟨h3,_⟩;exact kv (Ib h2 h h3.symm)
  ·rfl
 ·have e:pJ m r n=m:=by unfold pJ;rw[if_neg h]
  rw[e];exact iI.refl _ _ _ _
theorem abk (z:N) {m:PM N} {r:Ref} (n:N) (h:has m r=ao):look z (pJ m r n) r=n:=by
 have hh:=(VR z m r n).has r;unfold look;rw[hh,if_pos h];unfold pJ;rw[if_pos h];simp only;obtain⟨a1,a2,_,_⟩:=sy h;rw[ot,if_pos ⟨rfl,by omega⟩]
theorem aad {m:PM N} {n:Nat} (z:N) (h:fX n m):0≤nextIdx m/\nextIdx m<(jI z m).vs.length/\m.live.getD (nextIdx m).toNat an=an/\(jI z m).live.getD (nextIdx m).toNat an=an/\(jI z m).live.length=(jI z m).vs.length/\(jI z m).dE.length=(jI z m).vs.length:=by
 unfold nextIdx jI
 by_cases h0:m.free.length=0
 ·rw[if_pos h0,if_pos h0];simp only[bA,rh];have h1:=h.live;have h2:=h.dE;refine⟨by omega,by omega,?_,?_,by omega,by omega⟩
  ·rw[av,dc (by omega)];rfl
  ·rw[ur,if_pos (by omega)]
 ·rw[if_neg h0,if_neg h0];obtain⟨a,b,c⟩:=h.inn _ (yY (d:=0) (i:=m.free.length-1) (by omega))
  exact⟨a,b,c,c,h.live,h.dE⟩
theorem aby (z:N) {m:PM N} {n:Nat} (h:fX n m) (r:Ref) (hr:has m r=ao):(jI z m).vs.getD r.i.toNat z=m.vs.getD r.i.toNat z/\(jI z m).live.getD r.i.toNat an=ao/\(jI z m).dE.getD r.i.toNat 0=r.g/\r.i<(jI z m).vs.length:=by
 obtain⟨a1,a2,a3,a4⟩:=sy hr;have h1:=h.live;have h2:=h.dE;unfold jI;split
 ·simp only[ur,bA,rh];rw[if_neg (by omega),if_neg (by omega),if_neg (by omega)]
  exact⟨rfl,a3,a4,by omega⟩
 ·exact⟨rfl,a3,a4,a2⟩
structure anv (z:N) (m m':PM N) (r:Ref) (v:N):Prop where
 new:has m r=an
 has:has m' r=ao
 look:look z m' r=v
 old:∀ s,Gv.has m s=ao->Gv.has m' s=ao/\Gv.look z m' s=Gv.look z m s
 held:m'.held=m.held+1
 cap:m'.cap=m.cap
 qR:m'.cX=m.cX
theorem tA {m:PM N} {n:Nat} (z:N) (h:fX n m) (hc:m.held≠m.cap) (v:N):anv z m (put z m v) (ma z m) v/\fX (n+1) (put z m v):=by
 obtain⟨a,b,c,c',d,e⟩:=aad z h;have ep:put z m v={ jI z m with vs:=(jI z m).vs.set (nextIdx m).toNat v,live:=(jI z m).live.set (nextIdx m).toNat ao,dE:=(jI z m).dE.set (nextIdx m).toNat (Ai z m),held:=m.held+1 }:=by unfold put;rw[if_neg hc]
 have er:ma z m=⟨nextIdx m,Ai z m⟩:=by unfold ma;rw[if_neg hc]
 have uo:has (put z m v) (ma z m)=ao:=by
  rw[Yu,er,ep];simp only[fa,ot];refine⟨a,b,?_,?_⟩
  ·rw[if_pos (by first|exact⟨rfl,by omega⟩|exact⟨trivial,by omega⟩)]
  ·rw[if_pos (by first|exact⟨rfl,by omega⟩|exact⟨trivial,by omega⟩)]
 have hold:∀ s,has m s=ao->has (put z m v) s=ao/\look z (put z m v) s=look z m s:=by
  intro s hs;obtain⟨q1,q2,q3,q4⟩:=aby z h s hs;obtain⟨s1,s2,s3,s4⟩:=sy hs;have kv:¬ (nextIdx m).toNat=s.i.toNat:=by intro e2;rw[e2,s3] at c;cases c
  have hh:has (put z m v) s=ao:=by
   rw[Yu,ep];simp only[fa,ot];rw[if_neg (fun x=>kv x.1),if_neg (fun x=>kv x.1)]
   exact⟨s1,q4,q2,q3⟩
  refine⟨hh,?_⟩;unfold look;rw[if_pos hh,if_pos hs,ep];simp only[ot];rw[if_neg (fun x=>kv x.1),q1]
 refine⟨⟨?_,uo,?_,hold,?_,?_,?_⟩,?_⟩
 ·cases hh:has m (ma z m) with
  |false=>rfl
  |true =>
   obtain⟨_,_,s3,_⟩:=sy hh;rw[er] at s3;rw[s3] at c;cases c
 ·unfold look;rw[if_pos uo,er,ep];simp only[ot];rw[if_pos (by first|exact⟨rfl,by omega⟩|exact⟨trivial,by omega⟩)]
 ·rw[ep]
 ·rw[ep];simp only[jI];split<;>rfl
 ·rw[ep];simp only[jI];split<;>rfl
 ·obtain⟨h1,h2,h3,wS,h4,h5,h6,I',h8⟩:=h;have hgb:=A6 (i:=(nextIdx m).toNat) h6;have hpg:1≤Ai z m/\Ai z m≤n+1:=by
   unfold Ai jI;split
   ·simp only[ur];split
    ·omega
    ·omega
   ·simp only;omega
  rw[ep];refine⟨by simp only[fa];exact e,by simp only[fa];exact d,?_,?_,?_,?_,?_,?_,by simp only;omega⟩
  ·intro f hf;have Ml:f∈m.free/\f≠nextIdx m/\¬ m.free.length=0:=by
    simp only at hf;unfold jI at hf;split at hf
    ·rename_i h0;simp only at hf;rw[iN h0] at hf;cases hf
    ·rename_i h0;simp only at hf;refine⟨List.mem_of_mem_take hf,?_,h0⟩;intro e2;unfold nextIdx at e2;rw[if_neg h0] at e2;subst e2;have ahP:m.free=m.free.take (m.free.length-1)++[m.free.getD (m.free.length-1) 0]:=by
      have:=xK (l:=m.free) (i:=m.free.length-1) 0 (by omega)
      rw[← this,jj (by omega)]
     rw[ahP,cf] at wS;exact wS.2.2 _ hf _ (List.mem_singleton_self _) rfl
   obtain⟨k1,k2,k3⟩:=h3 f Ml.1;simp only[fa,ot];have kv:¬ (nextIdx m).toNat=f.toNat:=fun e2=>Ml.2.1 (by omega)
   rw[if_neg (fun x=>kv x.1)]
   have e3:(jI z m).live=m.live/\(jI z m).vs=m.vs:=by unfold jI;rw[if_neg Ml.2.2];exact⟨rfl,rfl⟩
   rw[e3.1,e3.2];exact⟨k1,k2,k3⟩
  ·simp only;unfold jI;split
   ·exact wS
   ·exact(List.take_sublist _ _).nodup wS
  ·simp only[fa];unfold jI;split
   ·simp only[bA,rh];omega
   ·simp only;omega
  ·simp only;unfold jI;split
   ·simp only;omega
   ·simp only[dZ];omega
  ·intro g hg;simp only at hg;rcases List.mem_or_eq_of_mem_set hg with hg|hg
   ·unfold jI at hg;split at hg
    ·simp only at hg;rcases b5.1 hg with hg|hg
     ·have:=h6 g hg;omega
     ·simp at hg;omega
    ·have:=h6 g hg;omega
   ·omega
  ·intro i hi;simp only[ot] at hi ⊢
   by_cases hx:(nextIdx m).toNat=i
   ·rw[if_pos ⟨hx,by omega⟩];omega
   ·rw[if_neg (fun x=>hx x.1)] at hi ⊢
    unfold jI at hi ⊢;split at hi
    ·rename_i h0;rw[if_pos h0];simp only[ur] at hi ⊢;split at hi
     ·cases hi
     ·rename_i h00;have:=I' i hi;rw[if_neg (by omega)]
      exact this
    ·rename_i h0;rw[if_neg h0];exact I' i hi
theorem tu {m:PM N} {n:Nat} (z:N) (h:fX n m) {r:Ref} (hr:has m r=ao):fX (n+1) (drop z m r)/\(∀ s,s≠r->has (drop z m r) s=has m s/\look z (drop z m r) s=look z m s)/\has (drop z m r) r=an/\(drop z m r).held=m.held-1/\(drop z m r).cap=m.cap/\(drop z m r).cX=W (m.cX+1):=by
 obtain⟨r1,r2,r3,r4⟩:=sy hr;obtain⟨h1,h2,h3,wS,h4,h5,h6,I',h8⟩:=h;have e:drop z m r={ seen m with vs:=m.vs.set r.i.toNat z,live:=m.live.set r.i.toNat an,held:=m.held-1,free:=if m.dE.getD r.i.toNat 0<4294967295 then m.free++[r.i] else m.free }:=by unfold drop;rw[if_pos hr]
 have hrn:r.i∉m.free:=fun hf=>by
  obtain⟨_,_,k⟩:=h3 _ hf;rw[r3] at k;cases k
 refine⟨⟨?_,?_,?_,?_,?_,?_,?_,?_,?_⟩,?_,?_,by rw[e],by rw[e];rfl,by rw[e];rfl⟩
 ·rw[e];simp only[fa];exact h1
 ·rw[e];simp only[fa];exact h2
 ·rw[e];simp only[fa,ot];intro f hf;have hh:f=r.i∨f∈m.free:=by
   split at hf
   ·rcases b5.1 hf with hf|hf
    ·exact .inr hf
    ·exact .inl (by simpa using hf)
   ·exact .inr hf
  rcases hh with rfl|hf
  ·exact⟨r1,r2,by rw[if_pos (by first|exact⟨rfl,by omega⟩|exact⟨trivial,by omega⟩)]⟩
  ·obtain⟨k1,k2,k3⟩:=h3 f hf;refine⟨k1,k2,?_⟩;split
   ·rfl
   ·exact k3
 ·rw[e];simp only;split
  ·rw[cf];refine⟨wS,List.nodup_cons.2 ⟨by simp,List.nodup_nil⟩,fun a ha b hb=>?_⟩
   have:b=r.i:=by simpa using hb
   subst this;exact fun e2=>hrn (e2▸ha)
  ·exact wS
 ·rw[e];simp only[fa];omega
 ·rw[e];simp only;split
  ·simp only[bA,rh];omega
  ·omega
 ·rw[e];simp only[seen];intro g hg;have:=h6 g hg;omega
 ·rw[e];simp only[seen,ot];intro i hi;split at hi
  ·cases hi
  ·exact I' i hi
 ·rw[e];simp only;omega
 ·intro s hs;have hh:has (drop z m r) s=has m s:=by
   rw[e];unfold has;simp only[fa,seen,ot]
   by_cases hx:r.i.toNat=s.i.toNat/\r.i.toNat<m.live.length
   ·rw[if_pos hx]
    by_cases rY:has m s=ao
    ·exact absurd (Ib rY hr hx.1.symm) hs
    ·have hs3:has m s=an:=by simpa using rY
     unfold has at hs3;rw[hs3];simp
   ·rw[if_neg hx];rfl
  refine⟨hh,?_⟩;unfold look;rw[hh];split
  ·rename_i h2;rw[e];simp only[ot];rw[if_neg];intro⟨h3,_⟩;exact hs (Ib h2 hr h3.symm)
  ·rfl
 ·cases hh:has (drop z m r) r with
  |false=>rfl
  |true =>
   obtain⟨_,_,k,_⟩:=sy hh;rw[e] at k;simp only[ot] at k;rw[if_pos (by first|exact⟨rfl,by omega⟩|exact⟨trivial,by omega⟩)] at k
   cases k
end
end Gv
namespace Gv
open Rx
set_option linter.unusedSectionVars false
structure iL (E A:Type) where
 e0:E
 a0:A
 cmp:E->E->Int
 sum:E->A
 plus:A->A->A
structure Part (A:Type) where
 n:Int
 sum:A
structure Node (E A:Type) where
 e:E
 l:Ref
 r:Ref
 all:Part A
 h:Int
abbrev Po (E A:Type):=PM (Node E A)
def mx (a b:Int):Int:=if b>a then b else a
def mn (a b:Int):Int:=if b<a then b else a
section
variable {E A:Type} (O:iL E A)
def zn:Node E A:=⟨O.e0,r0,r0,⟨0,O.a0⟩,0⟩
def lk (m:Po E A) (r:Ref):Node E A:=look (zn O) m r
def one (e:E):Part A:=⟨1,O.sum e⟩
def dY (p q:Part A):Part A:=if p.n=0 then q else if q.n=0 then p else⟨W (p.n+q.n),O.plus p.sum q.sum⟩
def sI (m:Po E A) (r:Ref) (n l q:Node E A):Po E A:=pJ m r ⟨n.e,n.l,n.r,dY O (dY O l.all (one O n.e)) q.all,W (1+mx l.h q.h)⟩
def tie (m:Po E A) (r:Ref) (n:Node E A):Po E A:=sI O (aF (aF m n.l) n.r) r n (lk O m n.l) (lk O (aF m n.l) n.r)
def oX (m:Po E A) (r:Ref) (n:Node E A):Po E A :=
 tie O (tie O (aF m n.r) r ⟨n.e,n.l,(lk O m n.r).l,n.all,n.h⟩) n.r ⟨(lk O m n.r).e,r,(lk O m n.r).r,(lk O m n.r).all,(lk O m n.r).h⟩
def oW (m:Po E A) (r:Ref) (n:Node E A):Po E A :=
 tie O (tie O (aF m n.l) r ⟨n.e,(lk O m n.l).r,n.r,n.all,n.h⟩) n.l ⟨(lk O m n.l).e,(lk O m n.l).l,r,(lk O m n.l).all,(lk O m n.l).h⟩
def level (m:Po E A) (r:Ref) (n:Node E A):Ref×Po E A :=
 if(lk O m n.l).h>W ((lk O (aF m n.l) n.r).h+1) then
  if(lk O (aF (aF m n.l) n.r) (lk O m n.l).r).h>(lk O (aF (aF (aF m n.l) n.r) (lk O m n.l).r) (lk O m n.l).l).h then
   ((lk O m n.l).r,oW O (oX O (aF (aF (aF (aF m n.l) n.r) (lk O m n.l).r) (lk O m n.l).l) n.l (lk O m n.l)) r ⟨n.e,(lk O m n.l).r,n.r,n.all,n.h⟩)
  else(n.l,oW O (aF (aF (aF (aF m n.l) n.r) (lk O m n.l).r) (lk O m n.l).l) r n)
 else if(lk O (aF m n.l) n.r).h>W ((lk O m n.l).h+1) then
  if(lk O (aF (aF m n.l) n.r) (lk O (aF m n.l) n.r).l).h>(lk O (aF (aF (aF m n.l) n.r) (lk O (aF m n.l) n.r).l) (lk O (aF m n.l) n.r).r).h then
   ((lk O (aF m n.l) n.r).l,oX O (oW O (aF (aF (aF (aF m n.l) n.r) (lk O (aF m n.l) n.r).l) (lk O (aF m n.l) n.r).r) n.r (lk O (aF m n.l) n.r)) r ⟨n.e,n.l,(lk O (aF m n.l) n.r).l,n.all,n.h⟩)
  else(n.r,oX O (aF (aF (aF (aF m n.l) n.r) (lk O (aF m n.l) n.r).l) (lk O (aF m n.l) n.r).r) r n)
 else(r,sI O (aF (aF m n.l) n.r) r n (lk O m n.l) (lk O (aF m n.l) n.r))
def Deep:Nat->Po E A->Ref->Prop
 |0,_,_=>False
 |k+1,m,r=>(lk O m r).h=0∨(Deep k m (lk O m r).l/\Deep k m (lk O m r).r)
def replace:Nat->Po E A->Ref->E->Bool×Po E A
 |0,m,_,_=>(an,m)
 |k+1,m,r,e =>
  if(lk O m r).h=0 then(an,aF m r)
  else if O.cmp e (lk O m r).e<0 then
   if(replace k (aF m r) (lk O m r).l e).1=ao then(ao,tie O (replace k (aF m r) (lk O m r).l e).2 r (lk O m r)) else replace k (aF m r) (lk O m r).l e
  else if O.cmp e (lk O m r).e>0 then
   if(replace k (aF m r) (lk O m r).r e).1=ao then(ao,tie O (replace k (aF m r) (lk O m r).r e).2 r (lk O m r)) else replace k (aF m r) (lk O m r).r e
  else(ao,tie O (aF m r) r ⟨e,(lk O m r).l,(lk O m r).r,(lk O m r).all,(lk O m r).h⟩)
def kW:Nat->Po E A->Ref->Ref->E->Ref×Po E A
 |0,m,_,f,_=>(f,m)
 |k+1,m,r,f,e =>
  if(lk O m r).h=0 then(f,aF m r)
  else if O.cmp e (lk O m r).e<0 then
   level O (kW k (aF m r) (lk O m r).l f e).2 r ⟨(lk O m r).e,(kW k (aF m r) (lk O m r).l f e).1,(lk O m r).r,(lk O m r).all,(lk O m r).h⟩
  else
   level O (kW k (aF m r) (lk O m r).r f e).2 r ⟨(lk O m r).e,(lk O m r).l,(kW k (aF m r) (lk O m r).r f e).1,(lk O m r).all,(lk O m r).h⟩
def link:Nat->Po E A->Ref->Ref->Ref->Ref×Po E A
 |0,m,_,b,_=>(b,m)
 |k+1,m,a,b,c =>
  if(lk O m a).h>W ((lk O (aF m a) c).h+1) then
   level O (link k (aF (aF m a) c) (lk O m a).r b c).2 a ⟨(lk O m a).e,(lk O m a).l,(link k (aF (aF m a) c) (lk O m a).r b c).1,(lk O m a).all,(lk O m a).h⟩
  else if(lk O (aF m a) c).h>W ((lk O m a).h+1) then
   level O (link k (aF (aF m a) c) a b (lk O (aF m a) c).l).2 c ⟨(lk O (aF m a) c).e,(link k (aF (aF m a) c) a b (lk O (aF m a) c).l).1,(lk O (aF m a) c).r,(lk O (aF m a) c).all,(lk O (aF m a) c).h⟩
  else(b,sI O (aF (aF (aF m a) c) b) b ⟨(lk O (aF (aF m a) c) b).e,a,c,(lk O (aF (aF m a) c) b).all,(lk O (aF (aF m a) c) b).h⟩ (lk O m a) (lk O (aF m a) c))
def tD:Nat->Po E A->Ref->Ref->Ref->Prop
 |0,_,_,_,_=>False
 |k+1,m,a,b,c =>
  if(lk O m a).h>W ((lk O (aF m a) c).h+1) then tD k (aF (aF m a) c) (lk O m a).r b c
  else if(lk O (aF m a) c).h>W ((lk O m a).h+1) then tD k (aF (aF m a) c) a b (lk O (aF m a) c).l
  else True
def iH:Nat->Po E A->Ref->Ref×Ref×Po E A
 |0,m,r=>(r,r,m)
 |k+1,m,r =>
  if(lk O m r).l=r0 then((lk O m r).r,r,aF m r)
  else
   ((level O (iH k (aF m r) (lk O m r).l).2.2 r ⟨(lk O m r).e,(iH k (aF m r) (lk O m r).l).1,(lk O m r).r,(lk O m r).all,(lk O m r).h⟩).1,(iH k (aF m r) (lk O m r).l).2.1,
    (level O (iH k (aF m r) (lk O m r).l).2.2 r ⟨(lk O m r).e,(iH k (aF m r) (lk O m r).l).1,(lk O m r).r,(lk O m r).all,(lk O m r).h⟩).2)
def sC:Nat->Po E A->Ref->Prop
 |0,_,_=>False
 |k+1,m,r=>if(lk O m r).l=r0 then True else sC k (aF m r) (lk O m r).l
def glue (k:Nat) (m:Po E A) (a c:Ref):Ref×Po E A :=
 if c=r0 then(a,m) else link O k (iH O k m c).2.2 a (iH O k m c).2.1 (iH O k m c).1
def Dv (k:Nat) (m:Po E A) (a c:Ref):Prop :=
 if c=r0 then True else sC O k m c/\tD O k (iH O k m c).2.2 a (iH O k m c).2.1 (iH O k m c).1
def pick (K:Nat):Nat->Po E A->Ref->E->Ref×Ref×Po E A
 |0,m,r,_=>(r,r0,m)
 |k+1,m,r,e =>
  if(lk O m r).h=0 then(r,r0,aF m r)
  else if O.cmp e (lk O m r).e<0 then
   if(pick K k (aF m r) (lk O m r).l e).2.1=r0 then(r,(pick K k (aF m r) (lk O m r).l e).2.1,(pick K k (aF m r) (lk O m r).l e).2.2)
   else((level O (pick K k (aF m r) (lk O m r).l e).2.2 r ⟨(lk O m r).e,(pick K k (aF m r) (lk O m r).l e).1,(lk O m r).r,(lk O m r).all,(lk O m r).h⟩).1,(pick K k (aF m r) (lk O m r).l e).2.1,
    (level O (pick K k (aF m r) (lk O m r).l e).2.2 r ⟨(lk O m r).e,(pick K k (aF m r) (lk O m r).l e).1,(lk O m r).r,(lk O m r).all,(lk O m r).h⟩).2)
  else if O.cmp e (lk O m r).e>0 then
   if(pick K k (aF m r) (lk O m r).r e).2.1=r0 then(r,(pick K k (aF m r) (lk O m r).r e).2.1,(pick K k (aF m r) (lk O m r).r e).2.2)
   else((level O (pick K k (aF m r) (lk O m r).r e).2.2 r ⟨(lk O m r).e,(lk O m r).l,(pick K k (aF m r) (lk O m r).r e).1,(lk O m r).all,(lk O m r).h⟩).1,(pick K k (aF m r) (lk O m r).r e).2.1,
    (level O (pick K k (aF m r) (lk O m r).r e).2.2 r ⟨(lk O m r).e,(lk O m r).l,(pick K k (aF m r) (lk O m r).r e).1,(lk O m r).all,(lk O m r).h⟩).2)
  else((glue O K (aF m r) (lk O m r).l (lk O m r).r).1,r,(glue O K (aF m r) (lk O m r).l (lk O m r).r).2)
def qv (K:Nat):Nat->Po E A->Ref->E->Prop
 |0,_,_,_=>False
 |k+1,m,r,e =>
  if(lk O m r).h=0 then True
  else if O.cmp e (lk O m r).e<0 then qv K k (aF m r) (lk O m r).l e
  else if O.cmp e (lk O m r).e>0 then qv K k (aF m r) (lk O m r).r e
  else Dv O K (aF m r) (lk O m r).l (lk O m r).r
def lX (K:Nat):Nat->Po E A->Ref->E->Ref×Ref×Po E A
 |0,m,_,_=>(r0,r0,m)
 |k+1,m,r,e =>
  if(lk O m r).h=0 then(r0,r0,aF m r)
  else if O.cmp (lk O m r).e e<0 then
   ((link O K (lX K k (aF m r) (lk O m r).r e).2.2 (lk O m r).l r (lX K k (aF m r) (lk O m r).r e).1).1,(lX K k (aF m r) (lk O m r).r e).2.1,
    (link O K (lX K k (aF m r) (lk O m r).r e).2.2 (lk O m r).l r (lX K k (aF m r) (lk O m r).r e).1).2)
  else
   ((lX K k (aF m r) (lk O m r).l e).1,(link O K (lX K k (aF m r) (lk O m r).l e).2.2 (lX K k (aF m r) (lk O m r).l e).2.1 r (lk O m r).r).1,
    (link O K (lX K k (aF m r) (lk O m r).l e).2.2 (lX K k (aF m r) (lk O m r).l e).2.1 r (lk O m r).r).2)
def Ko (K:Nat):Nat->Po E A->Ref->E->Prop
 |0,_,_,_=>False
 |k+1,m,r,e =>
  if(lk O m r).h=0 then True
  else if O.cmp (lk O m r).e e<0 then Ko K k (aF m r) (lk O m r).r e/\tD O K (lX O K k (aF m r) (lk O m r).r e).2.2 (lk O m r).l r (lX O K k (aF m r) (lk O m r).r e).1
  else Ko K k (aF m r) (lk O m r).l e/\tD O K (lX O K k (aF m r) (lk O m r).l e).2.2 (lX O K k (aF m r) (lk O m r).l e).2.1 r (lk O m r).r
def cw:Nat->Po E A->Ref->List E×Po E A
 |0,m,_=>([],m)
 |k+1,m,r =>
  if(lk O m r).h=0 then([],aF m r)
  else((cw k (aF m r) (lk O m r).l).1++(lk O m r).e::(cw k (cw k (aF m r) (lk O m r).l).2 (lk O m r).r).1,(cw k (cw k (aF m r) (lk O m r).l).2 (lk O m r).r).2)
def fW:Nat->Po E A->Node E A->Int->Int->Part A×Po E A
 |0,m,_,_,_=>(⟨0,O.a0⟩,m)
 |k+1,m,n,from_,to =>
  if mx from_ 0≥mn to n.all.n then(⟨0,O.a0⟩,m)
  else if mx from_ 0=0/\mn to n.all.n=n.all.n then(n.all,m)
  else
   let x:=fW k (aF m n.l) (lk O m n.l) (mx from_ 0) (mn to n.all.n)
   let s:=if mx from_ 0≤(lk O m n.l).all.n/\(lk O m n.l).all.n<mn to n.all.n then dY O x.1 (one O n.e) else x.1
   if mn to n.all.n≤W ((lk O m n.l).all.n+1) then(s,x.2)
   else
    let y:=fW k (aF x.2 n.r) (lk O x.2 n.r) (W (W (mx from_ 0-(lk O m n.l).all.n)-1)) (W (W (mn to n.all.n-(lk O m n.l).all.n)-1))
    (dY O s y.1,y.2)
def jh:Nat->Po E A->Node E A->Prop
 |0,_,_=>False
 |k+1,m,n=>n.h=0∨(Deep O k m n.l/\Deep O k m n.r)
def first (may:A->A->Bool):Nat->Po E A->Node E A->Part A->Int->Int×Po E A
 |0,m,_,_,_=>(-1,m)
 |k+1,m,n,a,from_ =>
  if n.h=0∨W (a.n+n.all.n)≤from_ then(-1,m)
  else if a.n≥from_/\may a.sum n.all.sum=an then(-1,m)
  else if(first may k (aF m n.l) (lk O m n.l) a from_).1≥0 then first may k (aF m n.l) (lk O m n.l) a from_
  else if(dY O a (lk O m n.l).all).n≥from_/\may (dY O a (lk O m n.l).all).sum (O.sum n.e)=ao then((dY O a (lk O m n.l).all).n,(first may k (aF m n.l) (lk O m n.l) a from_).2)
  else first may k (aF (first may k (aF m n.l) (lk O m n.l) a from_).2 n.r) (lk O (first may k (aF m n.l) (lk O m n.l) a from_).2 n.r) (dY O (dY O a (lk O m n.l).all) (one O n.e)) from_
def last (may:A->A->Bool):Nat->Po E A->Node E A->Part A->Int->Int×Po E A
 |0,m,_,_,_=>(-1,m)
 |k+1,m,n,a,to =>
  if n.h=0∨a.n≥to then(-1,m)
  else if W (a.n+n.all.n)≤to/\may a.sum n.all.sum=an then(-1,m)
  else
   let b:=dY O a (lk O m n.l).all
   let x:=last may k (aF (aF m n.l) n.r) (lk O (aF m n.l) n.r) (dY O b (one O n.e)) to
   if x.1≥0 then x
   else if b.n<to/\may b.sum (O.sum n.e)=ao then(b.n,x.2)
   else last may k x.2 (lk O m n.l) a to
def find:Nat->Po E A->Node E A->E->(E×Bool)×Po E A
 |0,m,_,_=>((O.e0,an),m)
 |k+1,m,n,e =>
  if n.h>0 then
   if O.cmp e n.e=0 then((n.e,ao),m)
   else if O.cmp e n.e<0 then find k (aF m n.l) (lk O m n.l) e
   else find k (aF m n.r) (lk O m n.r) e
  else((O.e0,an),m)
def ky:Nat->Po E A->Node E A->E->Int->Int×Po E A
 |0,m,_,_,c=>(c,m)
 |k+1,m,n,e,c =>
  if n.h>0 then
   if O.cmp e n.e≤0 then ky k (aF m n.l) (lk O m n.l) e c
   else ky k (aF m n.r) (lk O m n.r) e (W (c+W (n.all.n-(lk O m n.r).all.n)))
  else(c,m)
def rm:Nat->Po E A->Node E A->Int->E×Po E A
 |0,m,_,_=>(O.e0,m)
 |k+1,m,n,i =>
  if i=(lk O m n.l).all.n then(n.e,aF m n.l)
  else if i<(lk O m n.l).all.n then rm k (aF m n.l) (lk O m n.l) i
  else rm k (aF (aF m n.l) n.r) (lk O (aF m n.l) n.r) (W (i-W ((lk O m n.l).all.n+1)))
end
end Gv
namespace Wv
open Rx
structure It where
 k:Int
 i:Int
instance:DecidableEq It:=fun a b=>decidable_of_iff (a.k=b.k/\a.i=b.i) ⟨fun h=>by cases a;cases b;cases h.1;cases h.2;rfl,fun h=>by cases h;exact⟨rfl,rfl⟩⟩
def ah (a b:It):Prop:=a.k<b.k∨a.k=b.k/\a.i<b.i
instance (a b:It):Decidable (ah a b):=inferInstanceAs (Decidable (_∨_))
def kM (a b:It):Int:=if a.k<b.k then -1 else if a.k>b.k then 1 else if a.i<b.i then -1 else if a.i>b.i then 1 else 0
def Cx (a b:Int):Int:=if a<b then -1 else if a>b then 1 else 0
theorem wW (a b:It):kM a b>0↔ah b a:=by unfold kM ah;repeat' split;all_goals omega
theorem ac7 (a b:It):kM a b=1↔ah b a:=by unfold kM ah;repeat' split;all_goals omega
theorem aey (a b:It):kM a b = -1↔ah a b:=by unfold kM ah;repeat' split;all_goals omega
abbrev iz:It:=⟨0,0⟩
theorem It.Q_ {a b:It} (h:a.k=b.k) (h':a.i=b.i):a=b:=by cases a;cases b;cases h;cases h';rfl
theorem sG {a b:It} (h:ah a b):¬ ah b a:=by unfold ah at *;omega
theorem ab0 {a b:It} (h:¬ ah a b) (h':¬ ah b a):a=b:=It.Q_ (by unfold ah at *;omega) (by unfold ah at *;omega)
def up:Option It->Option It->Option It
 |a,aj=>a
 |none,aa b=>aa b
 |some a,aa b=>if ah a b then aa b else aa a
def dn:Option It->Option It->Option It
 |a,aj=>a
 |none,aa b=>aa b
 |some a,aa b=>if ah b a then aa b else aa a
theorem QQ (a:Option It):up aj a=a:=by cases a<;>rfl
theorem Qs (a:Option It):dn aj a=a:=by cases a<;>rfl
theorem VY:∀ a b c:Option It,up (up a b) c=up a (up b c)
 |a,b,aj=>by cases a<;>cases b<;>rfl
 |a,aj,aa c=>by cases a<;>rfl
 |none,aa b,aa c=>by rw[QQ,QQ]
 |some a,aa b,aa c=>by
  simp only[up]
  by_cases h1:ah a b<;>by_cases h2:ah b c<;>simp only[h1,h2,if_true,if_false,up]
  ·rw[if_pos (by unfold ah at *;omega)]
  ·rw[if_neg (by unfold ah at *;omega)]
theorem ael:∀ a b c:Option It,dn (dn a b) c=dn a (dn b c)
 |a,b,aj=>by cases a<;>cases b<;>rfl
 |a,aj,aa c=>by cases a<;>rfl
 |none,aa b,aa c=>by rw[Qs,Qs]
 |some a,aa b,aa c=>by
  simp only[dn]
  by_cases h1:ah b a<;>by_cases h2:ah c b<;>simp only[h1,h2,if_true,if_false,dn]
  ·rw[if_pos (by unfold ah at *;omega)]
  ·rw[if_neg (by unfold ah at *;omega)]
def hi:List It->Option It
 |[]=>aj
 |x::l=>up (aa x) (hi l)
def lo:List It->Option It
 |[]=>aj
 |x::l=>dn (aa x) (lo l)
theorem KG:∀ x y:List It,hi (x++y)=up (hi x) (hi y)
 |[],y=>(QQ _).symm
 |a::x,y=>by
  show up (aa a) (hi (x++y))=up (up (aa a) (hi x)) (hi y)
  rw[KG x y,VY]
theorem RQ:∀ x y:List It,lo (x++y)=dn (lo x) (lo y)
 |[],y=>(Qs _).symm
 |a::x,y=>by
  show dn (aa a) (lo (x++y))=dn (dn (aa a) (lo x)) (lo y)
  rw[RQ x y,ael]
theorem X4 (a:It) (b:Option It):(up (aa a) b).isSome=ao:=by cases b<;>simp only[up]<;>(try split)<;>rfl
theorem af5 (a:It) (b:Option It):(dn (aa a) b).isSome=ao:=by cases b<;>simp only[dn]<;>(try split)<;>rfl
theorem Yh:∀ l:List It,(hi l).isSome=ao↔l≠[]
 |[]=>by simp[hi]
 |a::l=>by simp only[hi,X4,true_iff];exact N_ _ _
theorem Yy:∀ l:List It,(lo l).isSome=ao↔l≠[]
 |[]=>by simp[lo]
 |a::l=>by simp only[lo,af5,true_iff];exact N_ _ _
theorem acI:∀ (l:List It) (h:It),lo l=aa h->∀ e∈l,¬ ah e h
 |[],h,hh=>by cases hh
 |a::l,h,hh=>by
  intro e he;simp only[lo] at hh;cases hl:lo l with
  |none =>
   have:l=[]:=by
    rcases HH l with h0|⟨y,z,h0⟩
    ·exact h0
    ·have:=(Yy l).2 (by rw[h0];simp)
     rw[hl] at this;cases this
   subst this;rw[hl] at hh;injection hh with hh
   subst hh;simp only[ia] at he;subst he;unfold ah;omega
  |some b =>
   have ih:=acI l b hl;rw[hl] at hh;simp only[dn] at hh;rcases bP.1 he with he|he
   ·subst he;split at hh<;>(injection hh with hh;subst hh)<;>unfold ah at *<;>omega
   ·have:=ih e he;split at hh<;>(injection hh with hh;subst hh)<;>unfold ah at *<;>omega
def tC (x:It) (l:List It):Nat->Nat
 |0=>0
 |k+1=>if ah x (l.getD k iz) then tC x l k else k+1
theorem VJ (x:It) (l:List It):∀ k,tC x l k≤k
 |0=>a_ _
 |k+1=>by rw[tC];split;exact Nat.le_succ_of_le (VJ x l k);exact a_ _
def ins (x:It) (l:List It):List It:=l.take (tC x l l.length)++x::l.drop (tC x l l.length)
def mK (l:List It):List It:=l.foldl (fun s x=>ins x s) []
theorem D8 (l:List It) (x:It):mK (l++[x])=ins x (mK l):=by unfold mK;rw[List.foldl_append];rfl
theorem Xv (x:It) (l:List It):(ins x l).length=l.length+1:=by
 have:=VJ x l l.length;unfold ins;simp;omega
theorem ND {α:Type} {P:List α->Prop} (h0:P []) (h1:∀ l x,P l->P (l++[x])):∀ l,P l:=by
 intro l;have:∀ n (l:List α),l.length=n->P l:=by
  intro n
  induction n with
  |zero=>intro l h;rw[iN h];exact h0
  |succ n ih =>
   intro l h;rcases HH l with e|⟨y,z,e⟩
   ·rw[e] at h;cases h
   ·rw[e,List.concat_eq_append] at h ⊢;refine h1 y z (ih y ?_);rw[bA] at h
    simpa using h
 exact this _ l rfl
theorem Yn (l:List It):(mK l).length=l.length:=ND (P:=fun l=>(mK l).length=l.length) rfl (fun l x h=>by rw[D8,Xv,h];simp) l
end Wv
namespace Ti
open Rx
set_option maxRecDepth 100000
def o3 (x:List Int) (k:Nat):Int:=(x.take k).sum
def qs (x:List Int):Nat->Int
 |0=>0
 |1=>o3 x 1
 |k+2=>min (qs x (k+1)) (o3 x (k+2))
def low (x:List Int):Int:=qs x x.length
structure Small (x:List Int):Prop where
 len:x.length≤60
 lo:∀ i,i<x.length->-1099511627776≤x.getD i 0
 hi:∀ i,i<x.length->x.getD i 0≤1099511627776
theorem aat {x:List Int} {k:Nat} (h:k<x.length):o3 x (k+1)=o3 x k+x.getD k 0:=by
 unfold o3;rw[xK 0 h,Qc];simp
theorem L1 {x:List Int} (hx:Small x):∀ k,k≤x.length->-(k:Int)*1099511627776≤o3 x k/\o3 x k≤(k:Int)*1099511627776
 |0,_=>by simp[o3]
 |k+1,h=>by
  have h1:=L1 hx k (by omega)
  have h2:=hx.lo k (by omega)
  have h3:=hx.hi k (by omega)
  rw[aat (by omega)]
  omega
theorem Av {x:List Int} (hx:Small x) (k:Nat) (hk:k≤x.length):-65970697666560≤o3 x k/\o3 x k≤65970697666560:=by
 have:=L1 hx k hk;have:=hx.len;omega
theorem Gu {x:List Int} (hx:Small x):∀ k,k≤x.length->-65970697666560≤qs x k/\qs x k≤65970697666560
 |0,_=>by simp[qs]
 |1,h=>Av hx 1 h
 |k+2,h=>by
  have h1:=Gu hx (k+1) (by omega)
  have h2:=Av hx (k+2) h;simp only[qs];omega
def vI {R:Type} (l:List Int):Option (SB R):=aa (.inr (.inr (.inl ⟨[.int .i64 0],l.length,[⟨l,[],[]⟩]⟩)))
def z0:Nat->Bool:=fun j=>fb j 0
theorem PE {x:List Int} {k:Nat} (h:0<k):qs x (k+1)=min (qs x k) (o3 x (k+1)):=by
 cases k with
 |zero=>omega
 |succ k=>rfl
structure Td where
 n:Int
 s:Int
 l:Int
def Td.v (t:Td):Value:=.agg ⟨[.int .i64 t.n,.int .i64 t.s,.int .i64 t.l]⟩
def Hz (x:Int):Int:=ar.wrap x
def Td.plus (t u:Td):Td:=if t.n=0 then u else if u.n=0 then t else⟨Hz (t.n+u.n),Hz (t.s+u.s),min t.l (Hz (t.s+u.l))⟩
def Td.least (t:Td) (x:Int):Int:=if t.n=0 then x else min x (Hz (x+t.l))
def TW {R:Type}:ez R:=[(1000000000,lL)]
theorem alS {R:Type} {D:fH R}:cL D Tryz.prog (TW:ez R):=⟨iu,trivial⟩
def dY {R:Type}:Prim R:=fun args hh=>match args,hh with
 |[.agg ⟨[.int .i64 n,.int .i64 s,.int .i64 l]⟩,.agg ⟨[.int .i64 n',.int .i64 s',.int .i64 l']⟩],[]=>aa ⟨True,.agg ⟨[.int .i64 (Td.plus ⟨n,s,l⟩ ⟨n',s',l'⟩).n,.int .i64 (Td.plus ⟨n,s,l⟩ ⟨n',s',l'⟩).s,.int .i64 (Td.plus ⟨n,s,l⟩ ⟨n',s',l'⟩).l]⟩,aj,hh,[],[]⟩
 |_,_=>aj
theorem uz {R:Type} {D:fH R}:b6 D Tryz.prog 227 (a9 dY):=by
 refine fj Tryz.f227 fun args hh x hx=>?_
 unfold dY at hx;split at hx
 ·rename_i n s l n' s' l';cases hx;refine q4 fun _ hv=>?_
  generalize hG:Rx.Ends (R:=R) _ _=G;refine cJ (T:=TW) alS mixed 200 ?_;refine bK (q:=((n==(0:Int))=ao->aW (G (bE (aO [.int ar n',.int ar s',.int ar l'])) [aa (.inl (51,[.int ar n,.int ar s,.int ar l])),aa (.inl (51,[.int ar n',.int ar s',.int ar l'])),aa (.inl (51,[.int ar n',.int ar s',.int ar l']))]))/\((n==(0:Int))=an->((n'==(0:Int))=ao->aW (G (bE (aO [.int ar n,.int ar s,.int ar l])) [aa (.inl (51,[.int ar n,.int ar s,.int ar l])),aa (.inl (51,[.int ar n',.int ar s',.int ar l'])),aa (.inl (51,[.int ar n,.int ar s,.int ar l]))]))/\((n'==(0:Int))=an->Vc True/\Vc True/\Vc True/\aW (G (bE (aO [.int ar (ck ar (n+n')),.int ar (ck ar (s+s')),.int ar (if ck ar (s+l')<l then ck ar (s+l') else l)])) [aa (.inl (51,[.int ar n,.int ar s,.int ar l])),aa (.inl (51,[.int ar n',.int ar s',.int ar l'])),aa (.inl (51,[.int ar (ck ar (n+n')),.int ar (ck ar (s+s')),.int ar (if ck ar (s+l')<l then ck ar (s+l') else l)]))])))) ?_ (by kernel_rfl)
  have fin:∀ (t:Td) (hp:Hp R),t=Td.plus ⟨n,s,l⟩ ⟨n',s',l'⟩->G t.v hp:=by
   intro t hp ht;subst ht;subst hG;exact⟨⟨[],rfl,rfl,trivial,rfl,rfl,rfl,rfl⟩⟩
  clear hG;refine⟨fun h=>⟨?_⟩,fun h=>⟨fun h'=>⟨?_⟩,fun h'=>⟨⟨trivial⟩,⟨trivial⟩,⟨trivial⟩,⟨?_⟩⟩⟩⟩
  ·exact fin ⟨n',s',l'⟩ _ (by rw[Td.plus,if_pos (eq_of_beq h)])
  ·exact fin ⟨n,s,l⟩ _ (by rw[Td.plus,if_neg (ne_of_beq_false h),if_pos (eq_of_beq h')])
  ·have e:∀ p q:Int,(if p<q then p else q)=min q p:=fun p q=>by split<;>omega
   refine fin ⟨Hz (n+n'),Hz (s+s'),if Hz (s+l')<l then Hz (s+l') else l⟩ _ ?_
   rw[Td.plus,if_neg (ne_of_beq_false h),if_neg (ne_of_beq_false h')];simp only[e]
 ·cases hx
def qN (x:List Int):Td:=⟨x.length,o3 x x.length,low x⟩
theorem JB {x:Int} (h:-9223372036854775808≤x/\x≤9223372036854775807):Hz x=x:=oJ ⟨h.1,h.2⟩
theorem yz {y z:List Int} (j:Nat):o3 (y++z) (y.length+j)=o3 y y.length+o3 z j:=by
 unfold o3;rw[List.take_length_add_append,Qc,js]
theorem FZ {y z:List Int} {k:Nat} (h:k≤y.length):o3 (y++z) k=o3 y k:=by
 unfold o3;rw[Bi h]
theorem OZ {y z:List Int}:∀ k,k≤y.length->qs (y++z) k=qs y k
 |0,_=>rfl
 |1,h=>FZ h
 |k+2,h=>by
  simp only[qs];rw[OZ (k+1) (by omega),FZ h]
theorem Ki {y z:List Int} (hy:y.length≠0):∀ j,1≤j->j≤z.length->qs (y++z) (y.length+j)=min (qs y y.length) (o3 y y.length+qs z j)
 |0,h,_=>by omega
 |1,_,h=>by
  rw[PE (show 0<y.length by omega),OZ y.length (a_ _),yz]
  rfl
 |j+2,_,h=>by
  have ih:=Ki (z:=z) hy (j+1) (by omega) (by omega)
  rw[show y.length+(j+2)=y.length+(j+1)+1 by omega,PE (show 0<y.length+(j+1) by omega),ih,show y.length+(j+1)+1=y.length+(j+2) by omega,yz]
  simp only[qs];omega
theorem RR {y z:List Int} {i:Nat} (h:i<y.length):(y++z).getD i 0=y.getD i 0:=by
 simp only[av,c_ h]
theorem Ox {y z:List Int} {i:Nat}:(y++z).getD (y.length+i) 0=z.getD i 0:=by
 simp only[av];rw[dQ (by omega),FD]
theorem Small.left {y z:List Int} (h:Small (y++z)):Small y:=by
 obtain⟨h1,h2,h3⟩:=h;simp only[bA] at h1 h2 h3;refine⟨by omega,fun i hi=>?_,fun i hi=>?_⟩
 ·have:=h2 i (by omega);rwa [RR hi] at this
 ·have:=h3 i (by omega);rwa [RR hi] at this
theorem Small.right {y z:List Int} (h:Small (y++z)):Small z:=by
 obtain⟨h1,h2,h3⟩:=h;simp only[bA] at h1 h2 h3;refine⟨by omega,fun i hi=>?_,fun i hi=>?_⟩
 ·have:=h2 (y.length+i) (by omega);rwa [Ox] at this
 ·have:=h3 (y.length+i) (by omega);rwa [Ox] at this
theorem RN {y z:List Int} (h:Small (y++z)):(qN y).plus (qN z)=qN (y++z):=by
 by_cases hy:y.length=0
 ·have:y=[]:=iN hy;subst this;rw[Td.plus,if_pos (show(qN []).n=0 from rfl)];rfl
 by_cases hz:z.length=0
 ·have:z=[]:=iN hz;subst this;rw[Td.plus,if_neg (by simp only[qN];omega),if_pos (show(qN []).n=0 from rfl),Bb]
 have a1:=Av h.left y.length (a_ _);have a2:=Av h.right z.length (a_ _);have a3:=Gu h.right z.length (a_ _);have a4:=h.len;have e1:=yz (y:=y) (z:=z) z.length;have e2:=Ki (y:=y) (z:=z) hy z.length (by omega) (a_ _)
 rw[bA] at a4;rw[Td.plus,if_neg (by simp only[qN];omega),if_neg (by simp only[qN];omega)]
 simp only[qN,low,bA] at *
 rw[JB (by omega),JB (by omega),JB (by omega),e1,e2]
 simp
end Ti
end Go.Proofs.YtjlomlgdgpoepaaGreat
