import Derived.Test.YtpjdphiopolanaaGreatZve
set_option linter.unusedVariables false
set_option linter.unusedSimpArgs false
namespace Go.Proofs.YtpjdphiopolanaaGreat
namespace Pa
open Rx Wv Br
open Sh (putI dropI sls sl inI)
def opM (m:Mk):Op:=⟨m.t,m.ins,m.it⟩
def QS.ops (q:QS):List Op:=q.mt.l.map opM
theorem ops_mk (H:List It) (l:List Op):(mkH H l).map opM=l:=by
 unfold mkH;rw[List.map_map];exact List.map_id'' (fun o=>rfl) l
theorem HQ.ops {q:QS} {l:List Op} {c:Int} {n:Nat} (h:HQ q l c n):q.ops=l:=by
 unfold QS.ops;rw[h.m0,mkL_H,ops_mk]
theorem HQ.mono {q:QS} {l:List Op} {c:Int} {n n':Nat} (h:HQ q l c n) (hn:n≤n'):HQ q l c n':=by
 obtain⟨v1,v2,v3⟩:=h.vb;exact⟨h.mq.up hn (Int.le_refl _),h.tm,h.nd,h.dl,h.len,h.l60,by omega,by omega,by omega⟩
theorem HQ.cap {q:QS} {l:List Op} {c:Int} {n:Nat} (h:HQ q l c n):q.cap=c:=h.mq.cap
abbrev QS.Ok (q:QS):Prop:=HQ q q.ops q.cap 90000
theorem HQ.ok {q:QS} {l:List Op} {c:Int} (h:HQ q l c 90000):q.Ok:=by
 unfold QS.Ok;rw[h.ops,h.cap];exact h
theorem HQ.few {q:QS} {l:List Op} {c:Int} {n:Nat} (h:HQ q l c n) (hn:n≤90000):q.Few:=h.mq.few (by omega)
theorem HQ.exc {q:QS} {l:List Op} {c:Int} {n:Nat} (h:HQ q l c n):excI q=exc l:=MQ.exc (H:=fin [] l) h.mq
def QS.vis (q:QS):Int:=q.mt.m.visits+q.pr.m.visits+q.gn.m.visits
def VOk (q:QS):Prop:=(0≤q.mt.m.visits/\q.mt.m.visits≤1000000000000000)/\(0≤q.pr.m.visits/\q.pr.m.visits≤1000000000000000)/\(0≤q.gn.m.visits/\q.gn.m.visits≤1000000000000000)
theorem HQ.vok {q:QS} {l:List Op} {c:Int} {n:Nat} (h:HQ q l c n) (hn:n≤100000):VOk q:=by
 obtain⟨b1,b2,b3⟩:=h.vb' hn;exact⟨⟨h.mq.v1.1,b1⟩,⟨h.mq.v2.1,b2⟩,⟨h.mq.v3.1,b3⟩⟩
def insE (l:List Op) (c t:Int) (x:It):Int:=if(l.length:Int)=c then 10 else if 0≤atO l t then 11 else if hasB l x=true then 2 else 0
def delE (l:List Op) (c t:Int):Int:=if(l.length:Int)=c then 10 else if 0≤atO l t then 11 else 0
def rvkE (l:List Op) (t:Int):Int:=if atO l t<0 then 14 else 0
def insL (l:List Op) (c t:Int) (x:It):List Op:=if insE l c t x=0 then addO' l ⟨t,true,x⟩ else l
def delL (l:List Op) (c t:Int):List Op:=if delE l c t=0 then addO' l ⟨t,false,iz⟩ else l
def rvkL (l:List Op) (t:Int):List Op:=if rvkE l t=0 then woO l (atO l t).toNat else l
abbrev chI (l l':List Op):List It:=chA (fin [] l) (fin [] l')
theorem at_free {l:List Op} {t:Int} (h:Free l t):atO l t = -1:=by
 unfold atO;rw[if_neg];intro k;rw[List.findIdx_lt_length] at k;obtain⟨o,ho,e⟩:=k;exact h o ho (by simpa using e)
theorem at_at {l:List Op} {t:Int} {k:Nat} (h:Tm l) (hk:k<l.length) (ht:(og l k).t=t):atO l t=k:=by
 unfold atO;have e:l.findIdx (fun o=>o.t==t)=k:=by
  rw[List.findIdx_eq hk];have eg:∀ j (hj:j<l.length),l[j]=og l j:=fun j hj=>by rw[og,List.getD_eq_getElem?_getD,List.getElem?_eq_getElem hj];rfl
  refine⟨by rw[eg,ht];simp,fun j hj=>?_⟩
  have h2:=List.pairwise_iff_getElem.1 h j k (by omega) hk hj
  rw[eg,eg,ht] at h2;rw[eg];simp only[beq_eq_false_iff_ne];omega
 rw[e,if_pos hk]
theorem ch_self (a:List It):chA a a=[]:=by
 unfold chA chN;rw[List.take_length,List.filter_eq_nil_iff];intro x hx;rw[mem_inI.2 hx];decide
theorem ch_none {a b:List It} (h:∀ x,x∈b->x∈a):chA a b=[]:=by
 unfold chA chN;rw[List.take_length,List.filter_eq_nil_iff];intro x hx;rw[mem_inI.2 (h x hx)];decide
theorem nin {x:It} {a:List It} (h:x∉a):inI x a=false:=by
 rw[Bool.eq_false_iff];exact fun c=>h (mem_inI.1 c)
theorem ch_ins {z:It} {a:List It} (h:z∉a):chA a (insI z a)=[z]:=by
 have key:∀ r:List It,(∀ x,x∈r->x∈a)->(insI z r).filter (fun x=>!inI x a)=[z]:=fun r=>by
  induction r with
  |nil=>intro _;unfold insI;rw[List.filter_cons,nin h];rfl
  |cons y r ih =>
   intro hr;have h0:(y::r).filter (fun x=>!inI x a)=[]:=by
    rw[List.filter_eq_nil_iff];intro x hx;rw[mem_inI.2 (hr x hx)];decide
   unfold insI;split
   ·rw[List.filter_cons,nin h,h0];rfl
   ·rw[List.filter_cons,mem_inI.2 (hr y List.mem_cons_self),ih fun x hx=>hr x (List.mem_cons_of_mem _ hx)];rfl
 unfold chA chN;rw[List.take_length];exact key a fun x hx=>hx
theorem ch_rmv {z:It} {a:List It} (ho:Ord a) (h:z∈a):chA (rmv z a) a=[z]:=by
 have e:a.filter (fun x=>!inI x (rmv z a))=a.filter (fun x=>decide (x=z)):=List.filter_congr fun x hx=>by
  by_cases c:x=z
  ·rw[nin (fun k=>(mem_rmv.1 k).2 c),decide_eq_true c];rfl
  ·rw[mem_inI.2 (mem_rmv.2 ⟨hx,c⟩),decide_eq_false c];rfl
 have key:∀ r:List It,Ord r->z∈r->r.filter (fun x=>decide (x=z))=[z]:=fun r=>by
  induction r with
  |nil=>intro _ h;cases h
  |cons y r ih =>
   intro ho h;rw[List.filter_cons]
   by_cases c:y=z
   ·subst c;rw[decide_eq_true rfl,if_pos rfl]
    congr 1
    rw[List.filter_eq_nil_iff];intro x hx;rw[decide_eq_false];· decide
    intro e;subst e;exact ord_nh ho hx
   ·rw[decide_eq_false c,if_neg (by decide)]
    exact ih (ord_tail ho) ((List.mem_cons.1 h).resolve_left fun e=>c e.symm)
 unfold chA chN;rw[List.take_length,e];exact key a ho h
theorem vis_of {q q':QS} {k:Int} (h:q'.mt.m.visits≤q.mt.m.visits+k/\q'.pr.m.visits≤q.pr.m.visits+k/\q'.gn.m.visits≤q.gn.m.visits+k) (hk:k≤20000) (l:List Op):q'.vis≤q.vis+10000*(Gv.hgt l.length+4:Nat):=by
 have:2≤Gv.hgt l.length:=by unfold Gv.hgt;omega
 unfold QS.vis;omega
theorem HQ.look {q q':QS} {l:List Op} {c:Int} {n:Nat} {k:Int} (h:HQ q l c n) (m:MQ q' (mkL l) (fin [] l) (gn l) c n q k) (hk:k≤20000) :
  HQ q' l c (n+1)/\q'.vis≤q.vis+10000*(Gv.hgt l.length+4:Nat):=by
 have v1:=m.v1;have v2:=m.v2;have v3:=m.v3;exact⟨HQ.mk' (m.up (n':=n+1) (k':=90000) (by omega) (by omega)) h.vb (by omega) (by omega) h.tm h.nd h.dl h.len h.l60,vis_of ⟨v1.2,v2.2,v3.2⟩ hk l⟩
theorem ins_all {q:QS} {l:List Op} {c:Int} {n:Nat} {t:Int} {x:It} (h:HQ q l c n) (h59:l.length≤59) (hn:n≤90000) :
  InsOk q t x/\insC q t x=insE l c t x/\HQ (insQ q t x) (insL l c t x) c (n+10)/\(insQ q t x).vis≤q.vis+10000*(Gv.hgt l.length+4:Nat)/\insI' q t x=chI l (insL l c t x)/\chI (insL l c t x) l=[]:=by
 have hB:=h.vb' (by omega)
 have fq:=h.few hn;obtain⟨r1,r2,r3⟩:=h.ref t;have m1:=h.mq.ref_ hB (by omega) t
 have no:∀ {e:Int},refI q t=e->e≠0->insE l c t x=e->InsOk q t x/\insC q t x=insE l c t x/\HQ (insQ q t x) (insL l c t x) c (n+10)/\(insQ q t x).vis≤q.vis+10000*(Gv.hgt l.length+4:Nat)/\insI' q t x=chI l (insL l c t x)/\chI (insL l c t x) l=[]:=fun {e} h1 h2 h3=>by
  have h0:¬ refI q t=0:=by rw[h1];exact h2
  have eL:insL l c t x=l:=by unfold insL;rw[h3,if_neg h2]
  have eQ:insQ q t x=refQ q t:=by unfold insQ;rw[if_neg h0]
  have L:=h.look m1 (by omega)
  rw[eL,eQ];refine⟨⟨fq,fun c=>absurd c h0⟩,?_,L.1.mono (by omega),L.2,?_,ch_self _⟩
  ·unfold insC;rw[if_neg h0,h1,h3]
  ·unfold insI' chI;rw[if_neg h0,ch_self]
 by_cases c1:(l.length:Int)=c
 ·exact no (r1 c1) (by decide) (by unfold insE;rw[if_pos c1])
 ·rcases free_or l t with c2|⟨k,hk,ht⟩
  ·by_cases c3:x∈itm l
   ·have h0:=r3 c1 c2;have hi':indB (refQ q t) x=true:=(h.ind x).2 c3;have eE:insE l c t x=2:=by unfold insE;rw[if_neg c1,at_free c2,if_neg (by decide),if_pos (has_mem.2 c3)]
    have eL:insL l c t x=l:=by unfold insL;rw[eE,if_neg (by decide)]
    have eQ:insQ q t x=in1 q t x:=by unfold insQ;rw[if_pos h0,if_pos hi']
    have m2:=m1.ind_ hB (by omega) x
    have L:=h.look m2 (by omega)
    rw[eL,eQ,eE];refine⟨⟨fq,fun _ k=>absurd (hi'.symm.trans k) (by decide)⟩,?_,L.1.mono (by omega),L.2,?_,ch_self _⟩
    ·unfold insC;rw[if_pos h0,if_pos hi']
    ·unfold insI' chI;rw[if_pos h0,if_pos hi',ch_self]
   ·obtain⟨g1,g2,g3,v1,v2,v3,g4,g5⟩:=ins_go h h59 hn c1 c2 c3;have eE:insE l c t x=0:=by unfold insE;rw[if_neg c1,at_free c2,if_neg (by decide),if_neg (fun k=>c3 (has_mem.1 k))]
    have eL:insL l c t x=adA l (rkT t l) ⟨t,true,x⟩:=by unfold insL;rw[eE,if_pos rfl];rfl
    rw[eL,eE];refine⟨g1,g2,g3,vis_of ⟨v1,v2,v3⟩ (by omega) l,?_,?_⟩
    ·unfold chI
     by_cases hb:prB l (rkT t l)<0
     ·rw[(g4 hb).1,(g4 hb).2,ch_self]
     ·obtain⟨z,a1,a2,a3⟩:=g5 hb;rw[a2,a3,ch_ins a1]
    ·unfold chI
     by_cases hb:prB l (rkT t l)<0
     ·rw[(g4 hb).2,ch_self]
     ·obtain⟨z,a1,a2,a3⟩:=g5 hb;rw[a3];exact ch_none fun w hw=>mem_ins.2 (.inr hw)
  ·have nf:¬ Free l t:=fun f=>f _ (mem_og hk) ht
   exact no (r2 c1 nf) (by decide) (by unfold insE;rw[if_neg c1,at_at h.tm hk ht,if_pos (by omega)])
theorem del_all {q:QS} {l:List Op} {c:Int} {n:Nat} {t:Int} (h:HQ q l c n) (h59:l.length≤59) (hn:n≤90000) :
  DelOk q t/\refI q t=delE l c t/\HQ (delQ q t) (delL l c t) c (n+10)/\(delQ q t).vis≤q.vis+10000*(Gv.hgt l.length+4:Nat)/\chI l (delL l c t)=[]/\delI q t=chI (delL l c t) l:=by
 have hB:=h.vb' (by omega)
 have fq:=h.few hn;obtain⟨r1,r2,r3⟩:=h.ref t;have m1:=h.mq.ref_ hB (by omega) t
 have no:∀ {e:Int},refI q t=e->e≠0->delE l c t=e->DelOk q t/\refI q t=delE l c t/\HQ (delQ q t) (delL l c t) c (n+10)/\(delQ q t).vis≤q.vis+10000*(Gv.hgt l.length+4:Nat)/\chI l (delL l c t)=[]/\delI q t=chI (delL l c t) l:=fun {e} h1 h2 h3=>by
  have h0:¬ refI q t=0:=by rw[h1];exact h2
  have eL:delL l c t=l:=by unfold delL;rw[h3,if_neg h2]
  have eQ:delQ q t=refQ q t:=by unfold delQ;rw[if_neg h0]
  have L:=h.look m1 (by omega)
  rw[eL,eQ];refine⟨⟨fq,fun c=>absurd c h0⟩,by rw[h1,h3],L.1.mono (by omega),L.2,ch_self _,?_⟩
  unfold delI chI;rw[if_neg h0,ch_self]
 by_cases c1:(l.length:Int)=c
 ·exact no (r1 c1) (by decide) (by unfold delE;rw[if_pos c1])
 ·rcases free_or l t with c2|⟨k,hk,ht⟩
  ·obtain⟨g1,g3,v1,v2,v3,g4⟩:=del_go h h59 hn c1 c2;have eE:delE l c t=0:=by unfold delE;rw[if_neg c1,at_free c2,if_neg (by decide)]
   have eL:delL l c t=adA l (rkT t l) ⟨t,false,iz⟩:=by unfold delL;rw[eE,if_pos rfl];rfl
   rw[eL,eE];refine⟨g1,r3 c1 c2,g3,vis_of ⟨v1,v2,v3⟩ (by omega) l,?_,?_⟩
   ·unfold chI;rcases g4 with⟨a1,a2⟩|⟨z,a1,a2,a3⟩
    ·rw[a2,ch_self]
    ·rw[a3];exact ch_none fun w hw=>(mem_rmv.1 hw).1
   ·unfold chI;rcases g4 with⟨a1,a2⟩|⟨z,a1,a2,a3⟩
    ·rw[a1,a2,ch_self]
    ·rw[a2,a3,ch_rmv (fin_ord h.nd) a1]
  ·have nf:¬ Free l t:=fun f=>f _ (mem_og hk) ht
   exact no (r2 c1 nf) (by decide) (by unfold delE;rw[if_neg c1,at_at h.tm hk ht,if_pos (by omega)])
theorem rvk_all {q:QS} {l:List Op} {c:Int} {n:Nat} {t:Int} (h:HQ q l c n) (hn:n≤90000) :
  RvkOk q t/\rvkC q t=rvkE l t/\HQ (rvkQ q t) (rvkL l t) c (n+10)/\(rvkQ q t).vis≤q.vis+10000*(Gv.hgt l.length+4:Nat)/\rvkI q t=chI l (rvkL l t)/\rvkO q t=chI (rvkL l t) l:=by
 have hB:=h.vb' (by omega)
 have fq:=h.few hn;rcases free_or l t with c2|⟨k,hk,ht⟩
 ·have hb:rvB q t=false:=by
   unfold rvB;rw[h.m0];exact hit_free (H:=fin [] l) (e:=keyM t) c2
  have nb:¬ rvB q t=true:=by rw[hb];decide
  have eE:rvkE l t=14:=by unfold rvkE;rw[at_free c2,if_pos (by decide)]
  have eL:rvkL l t=l:=by unfold rvkL;rw[eE,if_neg (by decide)]
  have eQ:rvkQ q t=rv1 q t:=by unfold rvkQ;rw[if_neg nb]
  have L:=h.look (h.mq.fnd_ hB (by omega) (keyM t)) (by omega)
  rw[eL,eQ,eE];refine⟨⟨fq,fun k=>absurd k nb⟩,?_,L.1.mono (by omega),L.2,?_,?_⟩
  ·unfold rvkC;rw[if_neg nb]
  ·unfold rvkI chI;rw[if_neg nb,ch_self]
  ·unfold rvkO chI;rw[if_neg nb,ch_self]
 ·obtain⟨g1,g2,g3,v1,v2,v3,g4⟩:=rvk_go h hn hk ht;have eA:=at_at h.tm hk ht;have eE:rvkE l t=0:=by unfold rvkE;rw[eA,if_neg (by omega)]
  have eL:rvkL l t=woA l k:=by unfold rvkL;rw[eE,if_pos rfl,eA,Int.toNat_natCast];rfl
  rw[eL,eE];refine⟨g1,g2,g3,vis_of ⟨v1,v2,v3⟩ (by omega) l,?_,?_⟩
  ·unfold chI;rcases g4 with⟨a1,a2,a3⟩|⟨z,a0,a1,a2,a3⟩|⟨z,a0,a1,a2,a3⟩
   ·rw[a1,a3,ch_self]
   ·rw[a1,a3,ch_ins a0]
   ·rw[a1,a3];exact(ch_none fun w hw=>(mem_rmv.1 hw).1).symm
  ·unfold chI;rcases g4 with⟨a1,a2,a3⟩|⟨z,a0,a1,a2,a3⟩|⟨z,a0,a1,a2,a3⟩
   ·rw[a2,a3,ch_self]
   ·rw[a2,a3];exact(ch_none fun w hw=>mem_ins.2 (.inr hw)).symm
   ·rw[a2,a3,ch_rmv (fin_ord h.nd) a0]
end Pa
namespace Pa
open Rx Wv Br
open Sh (putI dropI sls sl inI)
set_option maxRecDepth 100000
set_option maxHeartbeats 8000000
abbrev Rt:=G8.Rt ⊕ G9.Rt
abbrev D2:Res Rt:=resSum G8.D2 G9.D2
abbrev E8:Emb G8.Rt Rt:=embL G8.Rt G9.Rt
abbrev E9:Emb G9.Rt Rt:=embR G8.Rt G9.Rt
abbrev c8 (c:Rx.Con G8.Rt):Rx.Con Rt:=eC E8 c
abbrev c9 (c:Rx.Con G9.Rt):Rx.Con Rt:=eC E9 c
abbrev oM (s:T8):Option (SB Rt):=some (.inr (.inr (.inr (.inl (.tree s)))))
abbrev oS (s:T9):Option (SB Rt):=some (.inr (.inr (.inr (.inr (.tree s)))))
abbrev bQ (q:QS):Option (SB Rt):=some (.inl (80,[.int .i64 q.cap,.pointer (some ⟨1,0,none⟩),.pointer (some ⟨2,0,none⟩),.pointer (some ⟨3,0,none⟩)]))
theorem con_as {R:Type} {D:Res R} {P:Program} {f:FuncId} {p q:Prim R} (h:ConOk D P f (con1 p))
  (H:∀ args hh x,q args hh=some x->∃ y,p args hh=some y/\hh.length≤x.hp.length/\(∀ b,x.lit=some b->x.v=.bool b)/\(x.wr=[]->x.hp=hh)/\(x.vc->y.vc/\y.v=x.v/\y.hp=x.hp)):ConOk D P f (con1 q):=by
 refine con1_ok ⟨(h true).known,fun args hh x _ hx C ρ ft w hm hv hi=>?_,fun args hh x hx=>?_,fun args hh x hx=>?_,fun args hh x hx=>?_⟩
 ·obtain⟨y,h1,_,_,_,h5⟩:=H args hh x hx;obtain⟨a1,a2,a3⟩:=h5 hv;rw[← a2,← a3];exact(h true).run args hh y (.inl ⟨rfl,rfl⟩) h1 C ρ ft w hm a1 hi
 ·obtain⟨y,_,h2,_⟩:=H args hh x hx;exact h2
 ·obtain⟨y,_,_,h3,_⟩:=H args hh x hx;exact h3
 ·obtain⟨y,_,_,_,h4,_⟩:=H args hh x hx;exact h4
def TQn:Tab Rt:=[(36,liftC zN 2 (c8 (con1 tnwP))),(37,liftC zN 2 (c9 (con1 G9.tnwP)))]
theorem TQn_ok:TabOk D2 Tryz.prog TQn:=⟨liftC_ok _ _ (embL_ok tnw_ok),liftC_ok _ _ (embR_ok G9.tnw_ok),trivial⟩
def capN (c:Int):Int:=min (max c 0) 65536
def newQ (c:Int):QS:=⟨Gv.TS.new G8.k8 (capN c),Gv.TS.new G9.k9 (capN c),Gv.TS.new G9.k9 (capN c),capN c⟩
def qnewP:Prim Rt:=fun args hh=>match args,hh with
 |[.int .i64 c],[]=>some ⟨True,.pointer (some ⟨0,0,none⟩),none,[bQ (newQ c),oM (newQ c).mt,oS (newQ c).pr,oS (newQ c).gn],[],[(0,0)]⟩
 |_,_=>none
theorem qnew_ok:ConOk D2 Tryz.prog 10 (con1 qnewP):=by
 refine prK Tryz.f10 fun args hh x hx=>?_
 unfold qnewP at hx;split at hx
 ·rename_i c;injection hx with hx
  subst hx;refine q4 fun _ hv=>?_
  generalize hG:Rx.Ends (R:=Rt) _ _=G;refine rx_ok (T:=TQn) TQn_ok mixed 200 ?_;refine as_text (q:=let Z1:=(if(65536:Int)<if(0:Int)>c then(0:Int) else c then(65536:Int) else if(0:Int)>c then(0:Int) else c);Vc True/\Vc True/\Vc True/\Post (G (Value.pointer (some (Addr.mk 3 0 none))) [some (.inr (.inr (.inr (.inl (G8.Rt.tree (Gv.TS.new G8.k8 Z1)))))),some (.inr (.inr (.inr (.inr (G9.Rt.tree (Gv.TS.new G9.k9 Z1)))))),some (.inr (.inr (.inr (.inr (G9.Rt.tree (Gv.TS.new G9.k9 Z1)))))),some (.inl (80,[Value.int IntKind.i64 Z1,Value.pointer (some (Addr.mk 0 0 none)),Value.pointer (some (Addr.mk 1 0 none)),Value.pointer (some (Addr.mk 2 0 none))]))])) ?_ (by kernel_rfl)
  intro Z1;subst Z1;have e:(if 65536<if 0>c then 0 else c then(65536:Int) else if 0>c then 0 else c)=capN c:=by unfold capN;split<;>split at *<;>omega
  rw[e];subst hG;exact⟨⟨trivial⟩,⟨trivial⟩,⟨trivial⟩,⟨⟨[3,0,1,2],rfl,rfl,⟨.inl rfl,rfl,rfl,rfl,trivial⟩,rfl,rfl,rfl,rfl⟩⟩⟩
 ·cases hx
def TQm:Tab Rt:=[(35,liftC zN 2 (c8 (con1 G8.tlenP))),(62,liftC zN 2 (c8 (con1 G8.tbetP))),(16,liftC zN 2 (c8 (con1 G8.tallP))),(60,liftC zN 2 (c8 (con1 G8.tvisP))),(61,liftC zN 2 (c9 (con1 G9.tvisP))),(33,liftC zN 2 (c9 (con1 G9.tlenP)))]
theorem TQm_ok:TabOk D2 Tryz.prog TQm:=⟨liftC_ok _ _ (embL_ok G8.tlen_ok),liftC_ok _ _ (embL_ok G8.tbet_ok),liftC_ok _ _ (embL_ok G8.tall_ok),liftC_ok _ _ (embL_ok G8.tvis_ok),liftC_ok _ _ (embR_ok G9.tvis_ok),liftC_ok _ _ (embR_ok G9.tlen_ok),trivial⟩
def rlenP:Prim Rt:=fun args hh=>match args,hh with
 |[.pointer (some ⟨0,0,none⟩)],[some (.inl (80,[.int .i64 c,.pointer (some ⟨1,0,none⟩),.pointer (some ⟨2,0,none⟩),.pointer (some ⟨3,0,none⟩)])),some (.inr (.inr (.inr (.inl (.tree s))))),some (.inr (.inr (.inr (.inr (.tree g))))),some (.inr (.inr (.inr (.inr (.tree h)))))]=>some ⟨s.Few,.int .i64 s.l.length,none,[bQ (lenQ (⟨s,g,h,c⟩:QS)),oM (lenQ (⟨s,g,h,c⟩:QS)).mt,oS (lenQ (⟨s,g,h,c⟩:QS)).pr,oS (lenQ (⟨s,g,h,c⟩:QS)).gn],[],[(0,0)]⟩
 |_,_=>none
theorem rlen_ok:ConOk D2 Tryz.prog 30 (con1 rlenP):=by
 refine prK Tryz.f30 fun args hh x hx=>?_
 unfold rlenP at hx;split at hx
 ·rename_i c s g h;injection hx with hx
  subst hx;refine q4 fun _ hv=>?_
  generalize hG:Rx.Ends (R:=Rt) _ _=G;refine rx_ok (T:=TQm) TQm_ok mixed 200 ?_;refine as_text (q:=Vc (Gv.TS.Few s)/\Post (G (Value.int IntKind.i64 (↑(List.length (Gv.TS.l s)):Int)) [some (.inl (80,[Value.int IntKind.i64 c,Value.pointer (some (Addr.mk 1 0 none)),Value.pointer (some (Addr.mk 2 0 none)),Value.pointer (some (Addr.mk 3 0 none))])),some (.inr (.inr (.inr (.inl (G8.Rt.tree (Gv.TS.seen s)))))),some (.inr (.inr (.inr (.inr (G9.Rt.tree g))))),some (.inr (.inr (.inr (.inr (G9.Rt.tree h)))))])) ?_ (by kernel_rfl)
  subst hG;exact⟨⟨hv⟩,⟨⟨[0,1,2,3],rfl,rfl,⟨.inl rfl,rfl,rfl,rfl,trivial⟩,rfl,rfl,rfl,rfl⟩⟩⟩
 ·cases hx
theorem rlen_keep:KeepC [0,2,3] (con1 rlenP):=by
 intro b args h x hx i hi hl;cases b with
 |false=>cases hx
 |true =>
  simp only[con1,Con.go,rlenP] at hx;split at hx
  ·injection hx with hx
   subst hx;simp only[List.mem_cons,List.not_mem_nil,or_false] at hi;rcases hi with rfl|rfl|rfl<;>rfl
  ·cases hx
def rdlsP:Prim Rt:=fun args hh=>match args,hh with
 |[.pointer (some ⟨0,0,none⟩)],[some (.inl (80,[.int .i64 c,.pointer (some ⟨1,0,none⟩),.pointer (some ⟨2,0,none⟩),.pointer (some ⟨3,0,none⟩)])),some (.inr (.inr (.inr (.inl (.tree s))))),some (.inr (.inr (.inr (.inr (.tree g))))),some (.inr (.inr (.inr (.inr (.tree h)))))]=>some ⟨s.Few,.int .i64 (dlsI (⟨s,g,h,c⟩:QS)),none,[bQ (dlsQ (⟨s,g,h,c⟩:QS)),oM (dlsQ (⟨s,g,h,c⟩:QS)).mt,oS (dlsQ (⟨s,g,h,c⟩:QS)).pr,oS (dlsQ (⟨s,g,h,c⟩:QS)).gn],[],[(0,0)]⟩
 |_,_=>none
theorem rdls_ok:ConOk D2 Tryz.prog 31 (con1 rdlsP):=by
 refine prK Tryz.f31 fun args hh x hx=>?_
 unfold rdlsP at hx;split at hx
 ·rename_i c s g h;injection hx with hx
  subst hx;refine q4 fun _ hv=>?_
  generalize hG:Rx.Ends (R:=Rt) _ _=G;refine rx_ok (T:=TQm) TQm_ok mixed 200 ?_;refine as_text (q:=Vc (Gv.TS.Few s)/\Vc (Gv.TS.Few (Gv.TS.seen s))/\Post (G (Value.int IntKind.i64 (Sw.d (S8 (Gv.sub (Gv.TS.l (Gv.TS.seen s)) 0 (Int.toNat (↑(List.length (Gv.TS.l s)):Int)))))) [some (.inl (80,[Value.int IntKind.i64 c,Value.pointer (some (Addr.mk 1 0 none)),Value.pointer (some (Addr.mk 2 0 none)),Value.pointer (some (Addr.mk 3 0 none))])),some (.inr (.inr (.inr (.inl (G8.Rt.tree (Gv.TS.bet (Gv.TS.seen s) (0:Int) (↑(List.length (Gv.TS.l s)):Int))))))),some (.inr (.inr (.inr (.inr (G9.Rt.tree g))))),some (.inr (.inr (.inr (.inr (G9.Rt.tree h)))))])) ?_ (by kernel_rfl)
  have e:(S8 (Gv.sub s.seen.l 0 (s.l.length:Int).toNat)).d=dlsI (⟨s,g,h,c⟩:QS):=by
   show(S8 (Gv.sub s.l 0 (s.l.length:Int).toNat)).d=((dels s.l).length:Int)
   rw[Int.toNat_natCast];show(S8 ((s.l.drop 0).take (s.l.length-0))).d=_
   rw[List.drop_zero,Nat.sub_zero,List.take_length]
   rfl
  rw[e];subst hG;exact⟨⟨hv⟩,⟨few_seen hv⟩,⟨⟨[0,1,2,3],rfl,rfl,⟨.inl rfl,rfl,rfl,rfl,trivial⟩,rfl,rfl,rfl,rfl⟩⟩⟩
 ·cases hx
def rvisP:Prim Rt:=fun args hh=>match args,hh with
 |[.pointer (some ⟨0,0,none⟩)],[some (.inl (80,[.int .i64 c,.pointer (some ⟨1,0,none⟩),.pointer (some ⟨2,0,none⟩),.pointer (some ⟨3,0,none⟩)])),some (.inr (.inr (.inr (.inl (.tree s))))),some (.inr (.inr (.inr (.inr (.tree g))))),some (.inr (.inr (.inr (.inr (.tree h)))))]=>some ⟨VOk (⟨s,g,h,c⟩:QS),.int .i64 (⟨s,g,h,c⟩:QS).vis,none,hh,[],[]⟩
 |_,_=>none
theorem rvis_ok:ConOk D2 Tryz.prog 26 (con1 rvisP):=by
 refine prK Tryz.f26 fun args hh x hx=>?_
 unfold rvisP at hx;split at hx
 ·rename_i c s g h;injection hx with hx
  subst hx;refine q4 fun _ hv=>?_
  generalize hG:Rx.Ends (R:=Rt) _ _=G;refine rx_ok (T:=TQm) TQm_ok mixed 200 ?_;refine as_text (q:=let Z1:=(Gv.PM.visits (Gv.TS.m s)+Gv.PM.visits (Gv.TS.m g)+Gv.PM.visits (Gv.TS.m h));Vc True/\Vc True/\Vc (fits (Gv.PM.visits (Gv.TS.m s)+Gv.PM.visits (Gv.TS.m g)))/\Vc True/\Vc (fits Z1)/\Post (G (Value.int IntKind.i64 Z1) [some (.inl (80,[Value.int IntKind.i64 c,Value.pointer (some (Addr.mk 1 0 none)),Value.pointer (some (Addr.mk 2 0 none)),Value.pointer (some (Addr.mk 3 0 none))])),some (.inr (.inr (.inr (.inl (G8.Rt.tree s))))),some (.inr (.inr (.inr (.inr (G9.Rt.tree g))))),some (.inr (.inr (.inr (.inr (G9.Rt.tree h)))))])) ?_ (by kernel_rfl)
  intro Z1;subst Z1;subst hG;obtain⟨⟨a1,a2⟩,⟨a3,a4⟩,⟨a5,a6⟩⟩:=hv;have a1:0≤s.m.visits:=a1;have a2:s.m.visits≤1000000000000000:=a2;have a3:0≤g.m.visits:=a3;have a4:g.m.visits≤1000000000000000:=a4;have a5:0≤h.m.visits:=a5;have a6:h.m.visits≤1000000000000000:=a6;exact⟨⟨trivial⟩,⟨trivial⟩,⟨by omega,by omega⟩,⟨trivial⟩,⟨by omega,by omega⟩,⟨⟨[0,1,2,3],rfl,rfl,⟨.inl rfl,rfl,rfl,rfl,trivial⟩,rfl,rfl,rfl,rfl⟩⟩⟩
 ·cases hx
theorem rdls_keep:KeepC [0,2,3] (con1 rdlsP):=by
 intro b args h x hx i hi hl;cases b with
 |false=>cases hx
 |true =>
  simp only[con1,Con.go,rdlsP] at hx;split at hx
  ·injection hx with hx
   subst hx;simp only[List.mem_cons,List.not_mem_nil,or_false] at hi;rcases hi with rfl|rfl|rfl<;>rfl
  ·cases hx
def TQe:Tab Rt:=[(31,liftKC [0,2,3] 2 (con1 rdlsP)),(33,liftC zN 2 (c9 (con1 G9.tlenP)))]
theorem TQe_ok:TabOk D2 Tryz.prog TQe:=⟨liftKC_ok _ _ rdls_ok rdls_keep,liftC_ok _ _ (embR_ok G9.tlen_ok),trivial⟩
def rexcP:Prim Rt:=fun args hh=>match args,hh with
 |[.pointer (some ⟨0,0,none⟩)],[some (.inl (80,[.int .i64 c,.pointer (some ⟨1,0,none⟩),.pointer (some ⟨2,0,none⟩),.pointer (some ⟨3,0,none⟩)])),some (.inr (.inr (.inr (.inl (.tree s))))),some (.inr (.inr (.inr (.inr (.tree g))))),some (.inr (.inr (.inr (.inr (.tree h)))))]=>some ⟨(⟨s,g,h,c⟩:QS).Few,.int .i64 (excI (⟨s,g,h,c⟩:QS)),none,[bQ (excQ (⟨s,g,h,c⟩:QS)),oM (excQ (⟨s,g,h,c⟩:QS)).mt,oS (excQ (⟨s,g,h,c⟩:QS)).pr,oS (excQ (⟨s,g,h,c⟩:QS)).gn],[],[(0,0)]⟩
 |_,_=>none
theorem rexc_ok:ConOk D2 Tryz.prog 34 (con1 rexcP):=by
 refine prK Tryz.f34 fun args hh x hx=>?_
 unfold rexcP at hx;split at hx
 ·rename_i c s g h;injection hx with hx
  subst hx;refine q4 fun _ hv=>?_
  generalize hG:Rx.Ends (R:=Rt) _ _=G;refine rx_ok (T:=TQe) TQe_ok mixed 200 ?_;refine as_text (q:=Vc (Gv.TS.Few s)/\Vc (Gv.TS.Few h)/\Vc (fits (dlsI (QS.mk s g h c)-(↑(List.length (Gv.TS.l h)):Int)))/\Post (G (Value.int IntKind.i64 (dlsI (QS.mk s g h c)-(↑(List.length (Gv.TS.l h)):Int))) [some (.inl (80,[Value.int IntKind.i64 c,Value.pointer (some (Addr.mk 1 0 none)),Value.pointer (some (Addr.mk 2 0 none)),Value.pointer (some (Addr.mk 3 0 none))])),some (.inr (.inr (.inr (.inl (G8.Rt.tree (QS.mt (dlsQ (QS.mk s g h c)))))))),some (.inr (.inr (.inr (.inr (G9.Rt.tree g))))),some (.inr (.inr (.inr (.inr (G9.Rt.tree (Gv.TS.seen h))))))])) ?_ (by kernel_rfl)
  subst hG;obtain⟨f1,f2,f3⟩:=hv;have hb:-1099511627776≤dlsI (⟨s,g,h,c⟩:QS)-(h.l.length:Int)/\dlsI (⟨s,g,h,c⟩:QS)-(h.l.length:Int)≤1099511627776:=exc_b (⟨s,g,h,c⟩:QS);exact⟨⟨f1⟩,⟨f3⟩,⟨by omega,by omega⟩,⟨⟨[0,1,2,3],rfl,rfl,⟨.inl rfl,rfl,rfl,rfl,trivial⟩,rfl,rfl,rfl,rfl⟩⟩⟩
 ·cases hx
theorem rexc_keep:KeepC [0,2] (con1 rexcP):=by
 intro b args h x hx i hi hl;cases b with
 |false=>cases hx
 |true =>
  simp only[con1,Con.go,rexcP] at hx;split at hx
  ·injection hx with hx
   subst hx;simp only[List.mem_cons,List.not_mem_nil,or_false] at hi;rcases hi with rfl|rfl<;>rfl
  ·cases hx
end Pa
namespace Pa
open Rx Wv Br
open Sh (putI dropI sls sl inI)
set_option maxRecDepth 100000
set_option maxHeartbeats 8000000
def TQr:Tab Rt:=[(30,liftKC [0,2,3] 2 (con1 rlenP)),(57,liftC zN 2 (c8 (con1 G8.tfindP))),(50,liftC zN 2 (con1 keyP))]
theorem TQr_ok:TabOk D2 Tryz.prog TQr:=⟨liftKC_ok _ _ rlen_ok rlen_keep,liftC_ok _ _ (embL_ok G8.tfind_ok),liftC_ok _ _ key_ok,trivial⟩
def rrefP:Prim Rt:=fun args hh=>match args,hh with
 |[.pointer (some ⟨0,0,none⟩),.int .i64 t],[some (.inl (80,[.int .i64 c,.pointer (some ⟨1,0,none⟩),.pointer (some ⟨2,0,none⟩),.pointer (some ⟨3,0,none⟩)])),some (.inr (.inr (.inr (.inl (.tree s))))),some (.inr (.inr (.inr (.inr (.tree g))))),some (.inr (.inr (.inr (.inr (.tree h)))))]=>some ⟨s.Few,.int .i64 (refI (⟨s,g,h,c⟩:QS) t),none,[bQ (refQ (⟨s,g,h,c⟩:QS) t),oM (refQ (⟨s,g,h,c⟩:QS) t).mt,oS (refQ (⟨s,g,h,c⟩:QS) t).pr,oS (refQ (⟨s,g,h,c⟩:QS) t).gn],[],[(0,0)]⟩
 |_,_=>none
theorem rref_ok:ConOk D2 Tryz.prog 46 (con1 rrefP):=by
 refine prK Tryz.f46 fun args hh x hx=>?_
 unfold rrefP at hx;split at hx
 ·rename_i t c s g h;injection hx with hx
  subst hx;refine q4 fun _ hv=>?_
  generalize hG:Rx.Ends (R:=Rt) _ _=G;refine rx_ok (T:=TQr) TQr_ok mixed 200 ?_;refine as_text (q:=let Z4:=Value.pointer (some (Addr.mk 2 0 none));let Z5:=Value.pointer (some (Addr.mk 3 0 none));let Z6:=Value.pointer (some (Addr.mk 1 0 none));let Z7:=Value.int IntKind.i64;let Z1:=(QS.mt (lenQ (QS.mk s g h c)));let Z2:=(Mk.mk t false (It.mk (0:Int) (0:Int)) false false (It.mk (0:Int) (0:Int)));let Z3:=(Prod.fst (Gv.fndE O8 Z2 (Gv.TS.l Z1)));Vc (Gv.TS.Few s)/\(((↑(List.length (Gv.TS.l s)):Int)==c)=true->Post (G (Z7 10) [some (.inl (80,[Z7 c,Z6,Z4,Z5])),some (.inr (.inr (.inr (.inl (G8.Rt.tree Z1))))),some (.inr (.inr (.inr (.inr (G9.Rt.tree g))))),some (.inr (.inr (.inr (.inr (G9.Rt.tree h)))))]))/\(((↑(List.length (Gv.TS.l s)):Int)==c)=false->Vc True/\Vc (Gv.TS.Few Z1)/\(Prod.snd (Gv.fndE O8 Z2 (Gv.TS.l Z1))=true->Post (G (Z7 11) [some (.inl (80,[Z7 c,Z6,Z4,Z5])),some (.inr (.inr (.inr (.inl (G8.Rt.tree (Gv.TS.find Z1 Z2)))))),some (.inr (.inr (.inr (.inr (G9.Rt.tree g))))),some (.inr (.inr (.inr (.inr (G9.Rt.tree h))))),some (.inl (49,[Z7 (Mk.t Z3),Value.bool (Mk.ins Z3),Z7 (It.k (Mk.it Z3)),Z7 (It.i (Mk.it Z3)),Value.bool (Mk.here Z3),Value.bool (Mk.tf Z3),Z7 (It.k (Mk.tk Z3)),Z7 (It.i (Mk.tk Z3))]))]))/\(Prod.snd (Gv.fndE O8 Z2 (Gv.TS.l Z1))=false->Post (G (Z7 0) [some (.inl (80,[Z7 c,Z6,Z4,Z5])),some (.inr (.inr (.inr (.inl (G8.Rt.tree (Gv.TS.find Z1 Z2)))))),some (.inr (.inr (.inr (.inr (G9.Rt.tree g))))),some (.inr (.inr (.inr (.inr (G9.Rt.tree h))))),some (.inl (49,[Z7 (Mk.t Z3),Value.bool (Mk.ins Z3),Z7 (It.k (Mk.it Z3)),Z7 (It.i (Mk.it Z3)),Value.bool (Mk.here Z3),Value.bool (Mk.tf Z3),Z7 (It.k (Mk.tk Z3)),Z7 (It.i (Mk.tk Z3))]))])))) ?_ (by kernel_rfl)
  intro Z4 Z5 Z6 Z7 Z1 Z2 Z3;subst Z3 Z2 Z1 Z7 Z6 Z5 Z4;have done:∀ (x:Int) (s':T8) (g' h':T9) (rest:Hp Rt),x=refI (⟨s,g,h,c⟩:QS) t->s'=(refQ (⟨s,g,h,c⟩:QS) t).mt->g'=g->h'=h->G (.int .i64 x) (some (.inl (80,[.int .i64 c,.pointer (some ⟨1,0,none⟩),.pointer (some ⟨2,0,none⟩),.pointer (some ⟨3,0,none⟩)]))::oM s'::oS g'::oS h'::rest):=by
   intro x s' g' h' rest e1 e2 e3 e4;subst e1 e2 e3 e4;subst hG;exact⟨[0,1,2,3],rfl,rfl,⟨.inl rfl,rfl,rfl,rfl,trivial⟩,rfl,rfl,rfl,rfl⟩
  clear hG;refine⟨⟨hv⟩,fun h1=>⟨?_⟩,fun h1=>⟨⟨trivial⟩,⟨hv⟩,fun h2=>⟨?_⟩,fun h2=>⟨?_⟩⟩⟩
  ·have h1:(s.l.length:Int)=c:=eq_of_beq h1;exact done _ _ _ _ _ (by unfold refI;rw[if_pos (show(s.l.length:Int)=c from h1)]) (by unfold refQ;exact(if_pos (show(s.l.length:Int)=c from h1)).symm) rfl rfl
  all_goals
   have h1:¬ (s.l.length:Int)=c:=fun e=>by rw[beq_eq_false_iff_ne] at h1;exact h1 e
  ·exact done _ _ _ _ _ (by unfold refI;rw[if_neg (show ¬ (s.l.length:Int)=c from h1),if_pos (show(Gv.fndE O8 (keyM t) s.l).2=true from h2)]) (by unfold refQ;exact(if_neg (show ¬ (s.l.length:Int)=c from h1)).symm) rfl rfl
  ·exact done _ _ _ _ _ (by unfold refI;rw[if_neg (show ¬ (s.l.length:Int)=c from h1),if_neg (show ¬ (Gv.fndE O8 (keyM t) s.l).2=true from by rw[show(Gv.fndE O8 (keyM t) s.l).2=false from h2];decide)]) (by unfold refQ;exact(if_neg (show ¬ (s.l.length:Int)=c from h1)).symm) rfl rfl
 ·cases hx
def TQi:Tab Rt:=[(70,liftC zN 2 (c9 (con1 G9.tfindP))),(53,liftC zN 2 (con1 Sh.sofP))]
theorem TQi_ok:TabOk D2 Tryz.prog TQi:=⟨liftC_ok _ _ (embR_ok G9.tfind_ok),liftC_ok _ _ Sh.sof_ok,trivial⟩
def rindP:Prim Rt:=fun args hh=>match args,hh with
 |[.pointer (some ⟨0,0,none⟩),.agg ⟨[.int .i64 a,.int .i64 b]⟩],[some (.inl (80,[.int .i64 c,.pointer (some ⟨1,0,none⟩),.pointer (some ⟨2,0,none⟩),.pointer (some ⟨3,0,none⟩)])),some (.inr (.inr (.inr (.inl (.tree s))))),some (.inr (.inr (.inr (.inr (.tree g))))),some (.inr (.inr (.inr (.inr (.tree h)))))]=>some ⟨(⟨s,g,h,c⟩:QS).Few,.bool (indB (⟨s,g,h,c⟩:QS) ⟨a,b⟩),none,[bQ (indQ (⟨s,g,h,c⟩:QS) ⟨a,b⟩),oM (indQ (⟨s,g,h,c⟩:QS) ⟨a,b⟩).mt,oS (indQ (⟨s,g,h,c⟩:QS) ⟨a,b⟩).pr,oS (indQ (⟨s,g,h,c⟩:QS) ⟨a,b⟩).gn],[],[(0,0)]⟩
 |_,_=>none
theorem rind_ok:ConOk D2 Tryz.prog 47 (con1 rindP):=by
 refine prK Tryz.f47 fun args hh x hx=>?_
 unfold rindP at hx;split at hx
 ·rename_i a b c s g h;injection hx with hx
  subst hx;refine q4 fun _ hv=>?_
  generalize hG:Rx.Ends (R:=Rt) _ _=G;refine rx_ok (T:=TQi) TQi_ok mixed 200 ?_;refine as_text (q:=let Z4:=Value.int IntKind.i64;let Z1:=(Sh.Sl.mk (It.mk a b) false (0:Int));let Z2:=(Prod.fst (Gv.fndE Sh.O9 Z1 (Gv.TS.l g)));let Z3:=(Prod.fst (Gv.fndE Sh.O9 Z1 (Gv.TS.l h)));Vc True/\Vc (Gv.TS.Few g)/\Vc True/\Vc (Gv.TS.Few h)/\(Prod.snd (Gv.fndE Sh.O9 Z1 (Gv.TS.l g))=false->Post (G (Value.bool (Prod.snd (Gv.fndE Sh.O9 Z1 (Gv.TS.l h)))) [some (.inl (80,[Z4 c,Value.pointer (some (Addr.mk 1 0 none)),Value.pointer (some (Addr.mk 2 0 none)),Value.pointer (some (Addr.mk 3 0 none))])),some (.inr (.inr (.inr (.inl (G8.Rt.tree s))))),some (.inr (.inr (.inr (.inr (G9.Rt.tree (Gv.TS.find g Z1)))))),some (.inr (.inr (.inr (.inr (G9.Rt.tree (Gv.TS.find h Z1)))))),some (.inl (31,[Z4 a,Z4 b])),some (.inl (75,[Z4 (It.k (Sh.Sl.it Z2)),Z4 (It.i (Sh.Sl.it Z2)),Value.bool (Sh.Sl.eaten Z2),Z4 (Sh.Sl.time Z2)])),some (.inl (75,[Z4 (It.k (Sh.Sl.it Z3)),Z4 (It.i (Sh.Sl.it Z3)),Value.bool (Sh.Sl.eaten Z3),Z4 (Sh.Sl.time Z3)]))]))/\(Prod.snd (Gv.fndE Sh.O9 Z1 (Gv.TS.l g))=true->Post (G (Value.bool true) [some (.inl (80,[Z4 c,Value.pointer (some (Addr.mk 1 0 none)),Value.pointer (some (Addr.mk 2 0 none)),Value.pointer (some (Addr.mk 3 0 none))])),some (.inr (.inr (.inr (.inl (G8.Rt.tree s))))),some (.inr (.inr (.inr (.inr (G9.Rt.tree (Gv.TS.find g Z1)))))),some (.inr (.inr (.inr (.inr (G9.Rt.tree (Gv.TS.find h Z1)))))),some (.inl (31,[Z4 a,Z4 b])),some (.inl (75,[Z4 (It.k (Sh.Sl.it Z2)),Z4 (It.i (Sh.Sl.it Z2)),Value.bool (Sh.Sl.eaten Z2),Z4 (Sh.Sl.time Z2)])),some (.inl (75,[Z4 (It.k (Sh.Sl.it Z3)),Z4 (It.i (Sh.Sl.it Z3)),Value.bool (Sh.Sl.eaten Z3),Z4 (Sh.Sl.time Z3)]))]))) ?_ (by kernel_rfl)
  intro Z4 Z1 Z2 Z3;subst Z3 Z2 Z1 Z4;have done:∀ (x:Bool) (s':T8) (g' h':T9) (rest:Hp Rt),x=indB (⟨s,g,h,c⟩:QS) ⟨a,b⟩->s'=s->g'=g.find (sl ⟨a,b⟩)->h'=h.find (sl ⟨a,b⟩)->G (.bool x) (some (.inl (80,[.int .i64 c,.pointer (some ⟨1,0,none⟩),.pointer (some ⟨2,0,none⟩),.pointer (some ⟨3,0,none⟩)]))::oM s'::oS g'::oS h'::rest):=by
   intro x s' g' h' rest e1 e2 e3 e4;subst e1 e2 e3 e4;subst hG;exact⟨[0,1,2,3],rfl,rfl,⟨.inl rfl,rfl,rfl,rfl,trivial⟩,rfl,rfl,rfl,rfl⟩
  clear hG;obtain⟨f1,f2,f3⟩:=hv;refine⟨⟨trivial⟩,⟨f2⟩,⟨trivial⟩,⟨f3⟩,fun h1=>⟨done _ _ _ _ _ ?_ rfl rfl rfl⟩,fun h1=>⟨done _ _ _ _ _ ?_ rfl rfl rfl⟩⟩
  ·show _=((Gv.fndE Sh.O9 (sl ⟨a,b⟩) g.l).2||_)
   rw[show(Gv.fndE Sh.O9 (sl ⟨a,b⟩) g.l).2=false from h1];rfl
  ·show _=((Gv.fndE Sh.O9 (sl ⟨a,b⟩) g.l).2||_)
   rw[show(Gv.fndE Sh.O9 (sl ⟨a,b⟩) g.l).2=true from h1];rfl
 ·cases hx
def TQb:Tab Rt:=[(34,liftKC [0,2] 2 (con1 rexcP)),(71,liftC zN 2 (c8 (con1 bprP))),(88,liftC zN 2 (c8 (con1 bnxP)))]
theorem TQb_ok:TabOk D2 Tryz.prog TQb:=⟨liftKC_ok _ _ rexc_ok rexc_keep,liftC_ok _ _ (embL_ok bpr_ok),liftC_ok _ _ (embL_ok bnx_ok),trivial⟩
def rbuP:Prim Rt:=fun args hh=>match args,hh with
 |[.pointer (some ⟨0,0,none⟩),.int .i64 p],[some (.inl (80,[.int .i64 c,.pointer (some ⟨1,0,none⟩),.pointer (some ⟨2,0,none⟩),.pointer (some ⟨3,0,none⟩)])),some (.inr (.inr (.inr (.inl (.tree s))))),some (.inr (.inr (.inr (.inr (.tree g))))),some (.inr (.inr (.inr (.inr (.tree h)))))]=>some ⟨(⟨s,g,h,c⟩:QS).Few,.int .i64 (buI (⟨s,g,h,c⟩:QS) p),none,[bQ (buQ (⟨s,g,h,c⟩:QS) p),oM (buQ (⟨s,g,h,c⟩:QS) p).mt,oS (buQ (⟨s,g,h,c⟩:QS) p).pr,oS (buQ (⟨s,g,h,c⟩:QS) p).gn],[],[(0,0)]⟩
 |_,_=>none
theorem rbu_ok:ConOk D2 Tryz.prog 48 (con1 rbuP):=by
 refine prK Tryz.f48 fun args hh x hx=>?_
 unfold rbuP at hx;split at hx
 ·rename_i p c s g h;injection hx with hx
  subst hx;refine q4 fun _ hv=>?_
  generalize hG:Rx.Ends (R:=Rt) _ _=G;refine rx_ok (T:=TQb) TQb_ok mixed 200 ?_;refine as_text (q:=Vc (QS.Few (QS.mk s g h c))/\Vc (Gv.TS.Few (QS.mt (excQ (QS.mk s g h c)))/\(-1099511627776:Int)≤excI (QS.mk s g h c)/\excI (QS.mk s g h c)≤(1099511627776:Int))/\Post (G (Value.int IntKind.i64 (prI (Gv.TS.l (QS.mt (excQ (QS.mk s g h c)))) p (excI (QS.mk s g h c)))) [some (.inl (80,[Value.int IntKind.i64 c,Value.pointer (some (Addr.mk 1 0 none)),Value.pointer (some (Addr.mk 2 0 none)),Value.pointer (some (Addr.mk 3 0 none))])),some (.inr (.inr (.inr (.inl (G8.Rt.tree (prS (QS.mt (excQ (QS.mk s g h c))) p (excI (QS.mk s g h c)))))))),some (.inr (.inr (.inr (.inr (G9.Rt.tree g))))),some (.inr (.inr (.inr (.inr (G9.Rt.tree (QS.gn (excQ (QS.mk s g h c))))))))])) ?_ (by kernel_rfl)
  subst hG;have hb:=exc_b (⟨s,g,h,c⟩:QS);exact⟨⟨hv⟩,⟨hv.1,hb.1,hb.2⟩,⟨⟨[0,1,2,3],rfl,rfl,⟨.inl rfl,rfl,rfl,rfl,trivial⟩,rfl,rfl,rfl,rfl⟩⟩⟩
 ·cases hx
def rbfP:Prim Rt:=fun args hh=>match args,hh with
 |[.pointer (some ⟨0,0,none⟩),.int .i64 p],[some (.inl (80,[.int .i64 c,.pointer (some ⟨1,0,none⟩),.pointer (some ⟨2,0,none⟩),.pointer (some ⟨3,0,none⟩)])),some (.inr (.inr (.inr (.inl (.tree s))))),some (.inr (.inr (.inr (.inr (.tree g))))),some (.inr (.inr (.inr (.inr (.tree h)))))]=>some ⟨(⟨s,g,h,c⟩:QS).Few,.int .i64 (bfI (⟨s,g,h,c⟩:QS) p),none,[bQ (bfQ (⟨s,g,h,c⟩:QS) p),oM (bfQ (⟨s,g,h,c⟩:QS) p).mt,oS (bfQ (⟨s,g,h,c⟩:QS) p).pr,oS (bfQ (⟨s,g,h,c⟩:QS) p).gn],[],[(0,0)]⟩
 |_,_=>none
theorem rbf_ok:ConOk D2 Tryz.prog 56 (con1 rbfP):=by
 refine prK Tryz.f56 fun args hh x hx=>?_
 unfold rbfP at hx;split at hx
 ·rename_i p c s g h;injection hx with hx
  subst hx;refine q4 fun _ hv=>?_
  generalize hG:Rx.Ends (R:=Rt) _ _=G;refine rx_ok (T:=TQb) TQb_ok mixed 200 ?_;refine as_text (q:=Vc (QS.Few (QS.mk s g h c))/\Vc (Gv.TS.Few (QS.mt (excQ (QS.mk s g h c)))/\(-1099511627776:Int)≤excI (QS.mk s g h c)/\excI (QS.mk s g h c)≤(1099511627776:Int))/\Post (G (Value.int IntKind.i64 (nxI (Gv.TS.l (QS.mt (excQ (QS.mk s g h c)))) p (excI (QS.mk s g h c)))) [some (.inl (80,[Value.int IntKind.i64 c,Value.pointer (some (Addr.mk 1 0 none)),Value.pointer (some (Addr.mk 2 0 none)),Value.pointer (some (Addr.mk 3 0 none))])),some (.inr (.inr (.inr (.inl (G8.Rt.tree (nxS (QS.mt (excQ (QS.mk s g h c))) p (excI (QS.mk s g h c)))))))),some (.inr (.inr (.inr (.inr (G9.Rt.tree g))))),some (.inr (.inr (.inr (.inr (G9.Rt.tree (QS.gn (excQ (QS.mk s g h c))))))))])) ?_ (by kernel_rfl)
  subst hG;have hb:=exc_b (⟨s,g,h,c⟩:QS);exact⟨⟨hv⟩,⟨hv.1,hb.1,hb.2⟩,⟨⟨[0,1,2,3],rfl,rfl,⟨.inl rfl,rfl,rfl,rfl,trivial⟩,rfl,rfl,rfl,rfl⟩⟩⟩
 ·cases hx
def TQt:Tab Rt:=[(109,liftC zN 2 (c8 (con1 G8.tatP))),(51,liftC zN 2 (c8 (con1 G8.tputP)))]
theorem TQt_ok:TabOk D2 Tryz.prog TQt:=⟨liftC_ok _ _ (embL_ok G8.tat_ok),liftC_ok _ _ (embL_ok G8.tput_ok),trivial⟩
def rtrnP:Prim Rt:=fun args hh=>match args,hh with
 |[.pointer (some ⟨0,0,none⟩),.int .i64 i,.bool b],[some (.inl (80,[.int .i64 c,.pointer (some ⟨1,0,none⟩),.pointer (some ⟨2,0,none⟩),.pointer (some ⟨3,0,none⟩)])),some (.inr (.inr (.inr (.inl (.tree s))))),some (.inr (.inr (.inr (.inr (.tree g))))),some (.inr (.inr (.inr (.inr (.tree h)))))]=>some ⟨s.Few/\(s.at_ i).PutOk (trM s i b),.tuple #[],none,[bQ (⟨trS s i b,g,h,c⟩:QS),oM (⟨trS s i b,g,h,c⟩:QS).mt,oS (⟨trS s i b,g,h,c⟩:QS).pr,oS (⟨trS s i b,g,h,c⟩:QS).gn],[],[(0,0)]⟩
 |_,_=>none
theorem rtrn_ok:ConOk D2 Tryz.prog 83 (con1 rtrnP):=by
 refine prK Tryz.f83 fun args hh x hx=>?_
 unfold rtrnP at hx;split at hx
 ·rename_i i b c s g h;injection hx with hx
  subst hx;refine q4 fun _ hv=>?_
  generalize hG:Rx.Ends (R:=Rt) _ _=G;refine rx_ok (T:=TQt) TQt_ok mixed 200 ?_;refine as_text (q:=let Z3:=Value.int IntKind.i64;let Z1:=(Prod.fst (Gv.nthE O8 i (Gv.TS.l s)));let Z2:=(Mk.mk (Mk.t Z1) (Mk.ins Z1) (Mk.it Z1) b (Mk.tf Z1) (Mk.tk Z1));Vc (Gv.TS.Few s)/\Vc (Gv.TS.PutOk (Gv.TS.at_ s i) Z2)/\Post (G (Value.tuple (Array.mk [])) [some (.inl (80,[Z3 c,Value.pointer (some (Addr.mk 1 0 none)),Value.pointer (some (Addr.mk 2 0 none)),Value.pointer (some (Addr.mk 3 0 none))])),some (.inr (.inr (.inr (.inl (G8.Rt.tree (Gv.TS.put (Gv.TS.at_ s i) Z2)))))),some (.inr (.inr (.inr (.inr (G9.Rt.tree g))))),some (.inr (.inr (.inr (.inr (G9.Rt.tree h))))),some (.inl (49,[Z3 (Mk.t Z1),Value.bool (Mk.ins Z1),Z3 (It.k (Mk.it Z1)),Z3 (It.i (Mk.it Z1)),Value.bool b,Value.bool (Mk.tf Z1),Z3 (It.k (Mk.tk Z1)),Z3 (It.i (Mk.tk Z1))]))])) ?_ (by kernel_rfl)
  intro Z3 Z1 Z2;subst Z2 Z1 Z3;subst hG;exact⟨⟨hv.1⟩,⟨hv.2⟩,⟨⟨[0,1,2,3],rfl,rfl,⟨.inl rfl,rfl,rfl,rfl,trivial⟩,rfl,rfl,rfl,rfl⟩⟩⟩
 ·cases hx
end Pa
namespace Pa
open Rx Wv Br
open Sh (putI dropI sls sl inI)
set_option maxRecDepth 100000
set_option maxHeartbeats 8000000
def TQg:Tab Rt:=[(80,liftC zN 2 (c8 (con1 bbsP))),(85,liftC zN 2 (c8 (con1 blsP))),(53,liftC zN 2 (con1 Sh.sofP)),(84,liftC zN 2 (c8 (con1 G8.tfirstGP))),(87,liftC zN 2 (c8 (con1 G8.tlastLP))),(83,liftC zN 2 (con1 rtrnP)),(59,liftC zN 2 (c9 (con1 G9.tdropP))),(52,liftC zN 2 (c9 (con1 G9.tputP)))]
theorem TQg_ok:TabOk D2 Tryz.prog TQg:=⟨liftC_ok _ _ (embL_ok bbs_ok),liftC_ok _ _ (embL_ok bls_ok),liftC_ok _ _ Sh.sof_ok,liftC_ok _ _ (embL_ok G8.tfirstG_ok),liftC_ok _ _ (embL_ok G8.tlastL_ok),liftC_ok _ _ rtrn_ok,liftC_ok _ _ (embR_ok G9.tdrop_ok),liftC_ok _ _ (embR_ok G9.tput_ok),trivial⟩
def rgbP:Prim Rt:=fun args hh=>match args,hh with
 |[.pointer (some ⟨0,0,none⟩),.int .i64 f],[some (.inl (80,[.int .i64 c,.pointer (some ⟨1,0,none⟩),.pointer (some ⟨2,0,none⟩),.pointer (some ⟨3,0,none⟩)])),some (.inr (.inr (.inr (.inl (.tree s))))),some (.inr (.inr (.inr (.inr (.tree g))))),some (.inr (.inr (.inr (.inr (.tree h)))))]=>some ⟨GbOk (⟨s,g,h,c⟩:QS) f,.agg ⟨[.slice (some ⟨4,0,some 2000⟩) (gbL (⟨s,g,h,c⟩:QS) f).length (gbL (⟨s,g,h,c⟩:QS) f).length,.slice (some ⟨5,0,some 2000⟩) ([]:List It).length ([]:List It).length]⟩,none,[bQ (gbQ (⟨s,g,h,c⟩:QS) f),oM (gbQ (⟨s,g,h,c⟩:QS) f).mt,oS (gbQ (⟨s,g,h,c⟩:QS) f).pr,oS (gbQ (⟨s,g,h,c⟩:QS) f).gn,oI (gbL (⟨s,g,h,c⟩:QS) f),oI []],[],[(0,0)]⟩
 |_,_=>none
theorem rgb_ok:ConOk D2 Tryz.prog 54 (con1 rgbP):=by
 refine prK Tryz.f54 fun args hh x hx=>?_
 unfold rgbP at hx;split at hx
 ·rename_i f c s g h;injection hx with hx
  subst hx;refine q4 fun _ hv=>?_
  generalize hG:Rx.Ends (R:=Rt) _ _=G;refine rx_ok (T:=TQg) TQg_ok mixed 200 ?_;refine as_text (q:=let Z4:=Value.int IntKind.i64;let Z1:=(Option.getD (bstI (Gv.TS.l s) f) iz);let Z2:=(Gv.TS.first (mayG Z1) (bsS s f) f);let Z3:=(Gv.TS.firstI (mayG Z1) (bsS s f) f);(decide (f<(0:Int))=true->Post (G (Value.agg (Array.mk [Value.slice none 0 0,Value.slice none 0 0])) [some (.inl (80,[Z4 c,Value.pointer (some (Addr.mk 1 0 none)),Value.pointer (some (Addr.mk 2 0 none)),Value.pointer (some (Addr.mk 3 0 none))])),some (.inr (.inr (.inr (.inl (G8.Rt.tree s))))),some (.inr (.inr (.inr (.inr (G9.Rt.tree g))))),some (.inr (.inr (.inr (.inr (G9.Rt.tree h))))),some (.inl (59,[Value.slice none 0 0,Value.slice none 0 0]))]))/\(decide (f<(0:Int))=false->Vc (Gv.TS.Few s)/\Vc True/\Vc True/\Vc (Gv.TS.Few (bsS s f))/\Vc (Gv.TS.Few Z2/\Gv.TS.PutOk (Gv.TS.at_ Z2 Z3) (trM Z2 Z3 true))/\Vc (Gv.TS.Few h)/\Vc (Gv.TS.PutOk g (Sh.Sl.mk Z1 false (0:Int)))/\Post (G (Value.agg (Array.mk [Value.slice (some (Addr.mk 7 0 (some 2000))) 1 1,Value.slice none 0 0])) [some (.inl (80,[Z4 c,Value.pointer (some (Addr.mk 1 0 none)),Value.pointer (some (Addr.mk 2 0 none)),Value.pointer (some (Addr.mk 3 0 none))])),some (.inr (.inr (.inr (.inl (G8.Rt.tree (trS Z2 Z3 true)))))),some (.inr (.inr (.inr (.inr (G9.Rt.tree (Gv.TS.put g (Sh.Sl.mk Z1 false (0:Int)))))))),some (.inr (.inr (.inr (.inr (G9.Rt.tree (Gv.TS.drop h (Sh.Sl.mk Z1 false (0:Int)))))))),some (.inl (59,[Value.slice (some (Addr.mk 7 0 (some 2000))) 1 1,Value.slice none 0 0])),some (.inl (47,[Value.bool (Option.isSome (bstI (Gv.TS.l s) f)),Z4 (It.k Z1),Z4 (It.i Z1)])),some (.inl (75,[Z4 (It.k Z1),Z4 (It.i Z1),Value.bool false,Z4 0])),some (.inr (.inl (31,Row.mk [Z4 0,Z4 0] 1 [Col.mk [It.k Z1] [] [],Col.mk [It.i Z1] [] []])))]))) ?_ (by kernel_rfl)
  intro Z4 Z1 Z2 Z3;subst Z3 Z2 Z1 Z4;obtain⟨f1,f2,f3,f4⟩:=hv;refine⟨fun h1=>?_,fun h1=>?_⟩
  ·have h1:f<0:=of_decide_eq_true h1;subst hG;rw[show gbQ (⟨s,g,h,c⟩:QS) f=(⟨s,g,h,c⟩:QS) from if_pos h1,show gbL (⟨s,g,h,c⟩:QS) f=[] from if_pos h1]
   exact⟨⟨[0,1,2,3,90,91],rfl,rfl,⟨.inl rfl,rfl,rfl,rfl,⟨rfl,Nat.zero_lt_succ _,rfl⟩,⟨rfl,Nat.zero_lt_succ _,rfl⟩,trivial⟩,rfl,rfl,rfl,rfl⟩⟩
  ·have h1:¬ f<0:=of_decide_eq_false h1;obtain⟨g1,g2⟩:=f4 h1;subst hG;rw[show gbQ (⟨s,g,h,c⟩:QS) f=⟨trS (gbT (⟨s,g,h,c⟩:QS) f) (gbP (⟨s,g,h,c⟩:QS) f) true,g.put (sl (gbZ (⟨s,g,h,c⟩:QS) f)),h.drop (sl (gbZ (⟨s,g,h,c⟩:QS) f)),c⟩ from if_neg h1,show gbL (⟨s,g,h,c⟩:QS) f=[gbZ (⟨s,g,h,c⟩:QS) f] from if_neg h1]
   exact⟨⟨f1⟩,⟨trivial⟩,⟨trivial⟩,⟨f1⟩,⟨f1,g1⟩,⟨f3⟩,⟨g2⟩,⟨⟨[0,1,2,3,7,91],rfl,rfl,⟨.inl rfl,rfl,rfl,rfl,⟨_,rfl,.inl rfl⟩,⟨rfl,Nat.zero_lt_succ _,rfl⟩,trivial⟩,rfl,rfl,rfl,rfl⟩⟩⟩
 ·cases hx
def rtaP:Prim Rt:=fun args hh=>match args,hh with
 |[.pointer (some ⟨0,0,none⟩),.int .i64 u],[some (.inl (80,[.int .i64 c,.pointer (some ⟨1,0,none⟩),.pointer (some ⟨2,0,none⟩),.pointer (some ⟨3,0,none⟩)])),some (.inr (.inr (.inr (.inl (.tree s))))),some (.inr (.inr (.inr (.inr (.tree g))))),some (.inr (.inr (.inr (.inr (.tree h)))))]=>some ⟨TaOk (⟨s,g,h,c⟩:QS) u,.agg ⟨[.slice (some ⟨4,0,some 2000⟩) ([]:List It).length ([]:List It).length,.slice (some ⟨5,0,some 2000⟩) (taL (⟨s,g,h,c⟩:QS) u).length (taL (⟨s,g,h,c⟩:QS) u).length]⟩,none,[bQ (taQ (⟨s,g,h,c⟩:QS) u),oM (taQ (⟨s,g,h,c⟩:QS) u).mt,oS (taQ (⟨s,g,h,c⟩:QS) u).pr,oS (taQ (⟨s,g,h,c⟩:QS) u).gn,oI [],oI (taL (⟨s,g,h,c⟩:QS) u)],[],[(0,0)]⟩
 |_,_=>none
theorem rta_ok:ConOk D2 Tryz.prog 55 (con1 rtaP):=by
 refine prK Tryz.f55 fun args hh x hx=>?_
 unfold rtaP at hx;split at hx
 ·rename_i u c s g h;injection hx with hx
  subst hx;refine q4 fun _ hv=>?_
  generalize hG:Rx.Ends (R:=Rt) _ _=G;refine rx_ok (T:=TQg) TQg_ok mixed 200 ?_;refine as_text (q:=let Z4:=Value.int IntKind.i64;let Z1:=(Option.getD (lstI (Gv.TS.l s) u) iz);let Z2:=(Gv.TS.last (mayL Z1) (hgS s u) u);let Z3:=(Gv.TS.lastI (mayL Z1) (hgS s u) u);Vc (Gv.TS.Few s)/\((!Option.isSome (lstI (Gv.TS.l s) u))=true->Post (G (Value.agg (Array.mk [Value.slice none 0 0,Value.slice none 0 0])) [some (.inl (80,[Z4 c,Value.pointer (some (Addr.mk 1 0 none)),Value.pointer (some (Addr.mk 2 0 none)),Value.pointer (some (Addr.mk 3 0 none))])),some (.inr (.inr (.inr (.inl (G8.Rt.tree (hgS s u)))))),some (.inr (.inr (.inr (.inr (G9.Rt.tree g))))),some (.inr (.inr (.inr (.inr (G9.Rt.tree h))))),some (.inl (59,[Value.slice none 0 0,Value.slice none 0 0])),some (.inl (47,[Value.bool (Option.isSome (lstI (Gv.TS.l s) u)),Z4 (It.k Z1),Z4 (It.i Z1)]))]))/\((!Option.isSome (lstI (Gv.TS.l s) u))=false->Vc True/\Vc True/\Vc (Gv.TS.Few (hgS s u))/\Vc (Gv.TS.Few Z2/\Gv.TS.PutOk (Gv.TS.at_ Z2 Z3) (trM Z2 Z3 false))/\Vc (Gv.TS.Few g)/\Vc (Gv.TS.PutOk h (Sh.Sl.mk Z1 false (0:Int)))/\Post (G (Value.agg (Array.mk [Value.slice none 0 0,Value.slice (some (Addr.mk 7 0 (some 2000))) 1 1])) [some (.inl (80,[Z4 c,Value.pointer (some (Addr.mk 1 0 none)),Value.pointer (some (Addr.mk 2 0 none)),Value.pointer (some (Addr.mk 3 0 none))])),some (.inr (.inr (.inr (.inl (G8.Rt.tree (trS Z2 Z3 false)))))),some (.inr (.inr (.inr (.inr (G9.Rt.tree (Gv.TS.drop g (Sh.Sl.mk Z1 false (0:Int)))))))),some (.inr (.inr (.inr (.inr (G9.Rt.tree (Gv.TS.put h (Sh.Sl.mk Z1 false (0:Int)))))))),some (.inl (59,[Value.slice none 0 0,Value.slice (some (Addr.mk 7 0 (some 2000))) 1 1])),some (.inl (47,[Value.bool (Option.isSome (lstI (Gv.TS.l s) u)),Z4 (It.k Z1),Z4 (It.i Z1)])),some (.inl (75,[Z4 (It.k Z1),Z4 (It.i Z1),Value.bool false,Z4 0])),some (.inr (.inl (31,Row.mk [Z4 0,Z4 0] 1 [Col.mk [It.k Z1] [] [],Col.mk [It.i Z1] [] []])))]))) ?_ (by kernel_rfl)
  intro Z4 Z1 Z2 Z3;subst Z3 Z2 Z1 Z4;obtain⟨f1,f2,f3,f4⟩:=hv;refine⟨⟨f1⟩,fun h1=>?_,fun h1=>?_⟩
  ·have h1:¬ taB (⟨s,g,h,c⟩:QS) u=true:=by
    intro e;rw[show(lstI s.l u).isSome=true from e] at h1;cases h1
   subst hG;rw[show taQ (⟨s,g,h,c⟩:QS) u=⟨hgS s u,g,h,c⟩ from if_neg h1,show taL (⟨s,g,h,c⟩:QS) u=[] from if_neg h1]
   exact⟨⟨[0,1,2,3,90,91],rfl,rfl,⟨.inl rfl,rfl,rfl,rfl,⟨rfl,Nat.zero_lt_succ _,rfl⟩,⟨rfl,Nat.zero_lt_succ _,rfl⟩,trivial⟩,rfl,rfl,rfl,rfl⟩⟩
  ·have h1:taB (⟨s,g,h,c⟩:QS) u=true:=by
    show(lstI s.l u).isSome=true
    cases e:(lstI s.l u).isSome
    ·rw[e] at h1;cases h1
    ·rfl
   obtain⟨g1,g2⟩:=f4 h1;subst hG;rw[show taQ (⟨s,g,h,c⟩:QS) u=⟨trS (taT (⟨s,g,h,c⟩:QS) u) (taP (⟨s,g,h,c⟩:QS) u) false,g.drop (sl (taZ (⟨s,g,h,c⟩:QS) u)),h.put (sl (taZ (⟨s,g,h,c⟩:QS) u)),c⟩ from if_pos h1,show taL (⟨s,g,h,c⟩:QS) u=[taZ (⟨s,g,h,c⟩:QS) u] from if_pos h1]
   exact⟨⟨trivial⟩,⟨trivial⟩,⟨f1⟩,⟨f1,g1⟩,⟨f2⟩,⟨g2⟩,⟨⟨[0,1,2,3,90,7],rfl,rfl,⟨.inl rfl,rfl,rfl,rfl,⟨rfl,Nat.zero_lt_succ _,rfl⟩,⟨_,rfl,.inl rfl⟩,trivial⟩,rfl,rfl,rfl,rfl⟩⟩⟩
 ·cases hx
end Pa
namespace Pa
open Rx Wv Br
open Sh (putI dropI sls sl inI)
set_option maxRecDepth 100000
set_option maxHeartbeats 8000000
def TQI:Tab Rt:=[(46,liftC zN 2 (con1 rrefP)),(47,liftC zN 2 (con1 rindP)),(48,liftC zN 2 (con1 rbuP)),(56,liftC zN 2 (con1 rbfP)),(54,liftC zN 2 (con1 rgbP)),(55,liftC zN 2 (con1 rtaP)),(49,liftC zN 2 (c8 (con1 G8.trankP))),(51,liftC zN 2 (c8 (con1 G8.tputP))),(58,liftC zN 2 (c8 (con1 G8.tdropP))),(57,liftC zN 2 (c8 (con1 G8.tfindP))),(52,liftC zN 2 (c9 (con1 G9.tputP))),(59,liftC zN 2 (c9 (con1 G9.tdropP))),(50,liftC zN 2 (con1 keyP)),(53,liftC zN 2 (con1 Sh.sofP))]
theorem TQI_ok:TabOk D2 Tryz.prog TQI:=⟨liftC_ok _ _ rref_ok,liftC_ok _ _ rind_ok,liftC_ok _ _ rbu_ok,liftC_ok _ _ rbf_ok,liftC_ok _ _ rgb_ok,liftC_ok _ _ rta_ok,liftC_ok _ _ (embL_ok G8.trank_ok),liftC_ok _ _ (embL_ok G8.tput_ok),liftC_ok _ _ (embL_ok G8.tdrop_ok),liftC_ok _ _ (embL_ok G8.tfind_ok),liftC_ok _ _ (embR_ok G9.tput_ok),liftC_ok _ _ (embR_ok G9.tdrop_ok),liftC_ok _ _ key_ok,liftC_ok _ _ Sh.sof_ok,trivial⟩
def rinsP:Prim Rt:=fun args hh=>match args,hh with
 |[.pointer (some ⟨0,0,none⟩),.int .i64 t,.agg ⟨[.int .i64 a,.int .i64 b]⟩],[some (.inl (80,[.int .i64 c,.pointer (some ⟨1,0,none⟩),.pointer (some ⟨2,0,none⟩),.pointer (some ⟨3,0,none⟩)])),some (.inr (.inr (.inr (.inl (.tree s))))),some (.inr (.inr (.inr (.inr (.tree g))))),some (.inr (.inr (.inr (.inr (.tree h)))))]=>some ⟨InsOk (⟨s,g,h,c⟩:QS) t ⟨a,b⟩,.tuple #[.agg ⟨[.slice (some ⟨4,0,some 2000⟩) (insI' (⟨s,g,h,c⟩:QS) t ⟨a,b⟩).length (insI' (⟨s,g,h,c⟩:QS) t ⟨a,b⟩).length,.slice (some ⟨5,0,some 2000⟩) ([]:List It).length ([]:List It).length]⟩,.int .i64 (insC (⟨s,g,h,c⟩:QS) t ⟨a,b⟩)],none,[bQ (insQ (⟨s,g,h,c⟩:QS) t ⟨a,b⟩),oM (insQ (⟨s,g,h,c⟩:QS) t ⟨a,b⟩).mt,oS (insQ (⟨s,g,h,c⟩:QS) t ⟨a,b⟩).pr,oS (insQ (⟨s,g,h,c⟩:QS) t ⟨a,b⟩).gn,oI (insI' (⟨s,g,h,c⟩:QS) t ⟨a,b⟩),oI []],[],[(0,0)]⟩
 |_,_=>none
theorem rins_ok:ConOk D2 Tryz.prog 19 (con1 rinsP):=by
 refine prK Tryz.f19 fun args hh x hx=>?_
 unfold rinsP at hx;split at hx
 ·rename_i t a b c s g h;injection hx with hx
  subst hx;refine q4 fun _ hv=>?_
  generalize hG:Rx.Ends (R:=Rt) _ _=G;refine rx_ok (T:=TQI) TQI_ok mixed 200 ?_;refine as_text (q:=let Z10:=Value.pointer (some (Addr.mk 1 0 none));let Z11:=Value.pointer (some (Addr.mk 3 0 none));let Z12:=Value.pointer (some (Addr.mk 2 0 none));let Z13:=Value.int IntKind.i64;let Z1:=(refQ (QS.mk s g h c) t);let Z2:=(QS.mt (indQ Z1 (It.mk a b)));let Z3:=(Mk.mk t false (It.mk (0:Int) (0:Int)) false false (It.mk (0:Int) (0:Int)));let Z4:=(QS.mk (Gv.TS.rank Z2 Z3) (QS.pr (indQ Z1 (It.mk a b))) (QS.gn (indQ Z1 (It.mk a b))) (QS.cap (indQ Z1 (It.mk a b))));let Z5:=(buQ Z4 (↑(List.length (Gv.loE O8 Z3 (Gv.TS.l Z2))):Int));let Z6:=(Mk.mk t true (It.mk a b) false false (It.mk (0:Int) (0:Int)));let Z7:=(QS.mk (Gv.TS.put (QS.mt Z5) Z6) (QS.pr Z5) (Gv.TS.put (QS.gn Z5) (Sh.Sl.mk (It.mk a b) false (0:Int))) (QS.cap Z5));let Z8:=(buI Z4 (↑(List.length (Gv.loE O8 Z3 (Gv.TS.l Z2))):Int));let Z9:=(List.length (gbL Z7 Z8));Vc (Gv.TS.Few s)/\((refI (QS.mk s g h c) t != (0:Int))=true->Post (G (Value.tuple (Array.mk [Value.agg (Array.mk [Value.slice none 0 0,Value.slice none 0 0]),Z13 (refI (QS.mk s g h c) t)])) [some (.inl (80,[Z13 (QS.cap Z1),Z10,Z12,Z11])),some (.inr (.inr (.inr (.inl (G8.Rt.tree (QS.mt Z1)))))),some (.inr (.inr (.inr (.inr (G9.Rt.tree (QS.pr Z1)))))),some (.inr (.inr (.inr (.inr (G9.Rt.tree (QS.gn Z1)))))),some (.inl (31,[Z13 a,Z13 b])),some (.inl (59,[Value.slice none 0 0,Value.slice none 0 0]))]))/\((refI (QS.mk s g h c) t != (0:Int))=false->Vc (QS.Few Z1)/\(indB Z1 (It.mk a b)=true->Post (G (Value.tuple (Array.mk [Value.agg (Array.mk [Value.slice none 0 0,Value.slice none 0 0]),Z13 2])) [some (.inl (80,[Z13 (QS.cap (indQ Z1 (It.mk a b))),Z10,Z12,Z11])),some (.inr (.inr (.inr (.inl (G8.Rt.tree Z2))))),some (.inr (.inr (.inr (.inr (G9.Rt.tree (QS.pr (indQ Z1 (It.mk a b)))))))),some (.inr (.inr (.inr (.inr (G9.Rt.tree (QS.gn (indQ Z1 (It.mk a b)))))))),some (.inl (31,[Z13 a,Z13 b])),some (.inl (59,[Value.slice none 0 0,Value.slice none 0 0]))]))/\(indB Z1 (It.mk a b)=false->Vc True/\Vc (Gv.TS.Few Z2)/\Vc (QS.Few Z4)/\Vc (Gv.TS.PutOk (QS.mt Z5) Z6)/\Vc True/\Vc (Gv.TS.PutOk (QS.gn Z5) (Sh.Sl.mk (It.mk a b) false (0:Int)))/\Vc (GbOk Z7 Z8)/\Post (G (Value.tuple (Array.mk [Value.agg (Array.mk [Value.slice (some (Addr.mk 6 0 (some 2000))) Z9 Z9,Value.slice (some (Addr.mk 7 0 (some 2000))) 0 0]),Z13 0])) [some (.inl (80,[Z13 (QS.cap (gbQ Z7 Z8)),Z10,Z12,Z11])),some (.inr (.inr (.inr (.inl (G8.Rt.tree (QS.mt (gbQ Z7 Z8))))))),some (.inr (.inr (.inr (.inr (G9.Rt.tree (QS.pr (gbQ Z7 Z8))))))),some (.inr (.inr (.inr (.inr (G9.Rt.tree (QS.gn (gbQ Z7 Z8))))))),some (.inl (31,[Z13 a,Z13 b])),some (.inl (59,[Value.slice (some (Addr.mk 6 0 (some 2000))) Z9 Z9,Value.slice (some (Addr.mk 7 0 (some 2000))) 0 0])),some (.inr (.inl (31,Row.mk [Z13 0,Z13 0] Z9 [Col.mk (List.map It.k (gbL Z7 Z8)) [] [],Col.mk (List.map It.i (gbL Z7 Z8)) [] []]))),some (.inr (.inl (31,Row.mk [Z13 0,Z13 0] 0 [Col.mk [] [] [],Col.mk [] [] []])))])))) ?_ (by kernel_rfl)
  intro Z10 Z11 Z12 Z13 Z1 Z2 Z3 Z4 Z5 Z6 Z7 Z8 Z9;subst Z9 Z8 Z7 Z6 Z5 Z4 Z3 Z2 Z1 Z13 Z12 Z11 Z10;obtain⟨⟨f1,f2,f3⟩,ok⟩:=hv;have fr:=few_ref (t:=t) (q:=(⟨s,g,h,c⟩:QS)) ⟨f1,f2,f3⟩;refine⟨⟨f1⟩,fun h1=>?_,fun h1=>⟨⟨fr⟩,fun h2=>?_,fun h2=>?_⟩⟩
  ·have h1:¬ refI (⟨s,g,h,c⟩:QS) t=0:=fun e=>by rw[e] at h1;cases h1
   subst hG;rw[show insQ (⟨s,g,h,c⟩:QS) t ⟨a,b⟩=refQ (⟨s,g,h,c⟩:QS) t from if_neg h1,show insI' (⟨s,g,h,c⟩:QS) t ⟨a,b⟩=[] from if_neg h1,show insC (⟨s,g,h,c⟩:QS) t ⟨a,b⟩=refI (⟨s,g,h,c⟩:QS) t from if_neg h1]
   exact⟨⟨[0,1,2,3,90,91],rfl,rfl,⟨.inl rfl,rfl,rfl,rfl,⟨rfl,Nat.zero_lt_succ _,rfl⟩,⟨rfl,Nat.zero_lt_succ _,rfl⟩,trivial⟩,rfl,rfl,rfl,rfl⟩⟩
  ·have h1:refI (⟨s,g,h,c⟩:QS) t=0:=by simpa using h1
   subst hG;rw[show insQ (⟨s,g,h,c⟩:QS) t ⟨a,b⟩=in1 (⟨s,g,h,c⟩:QS) t ⟨a,b⟩ from(if_pos h1).trans (if_pos h2),show insI' (⟨s,g,h,c⟩:QS) t ⟨a,b⟩=[] from(if_pos h1).trans (if_pos h2),show insC (⟨s,g,h,c⟩:QS) t ⟨a,b⟩=2 from(if_pos h1).trans (if_pos h2)]
   exact⟨⟨[0,1,2,3,90,91],rfl,rfl,⟨.inl rfl,rfl,rfl,rfl,⟨rfl,Nat.zero_lt_succ _,rfl⟩,⟨rfl,Nat.zero_lt_succ _,rfl⟩,trivial⟩,rfl,rfl,rfl,rfl⟩⟩
  ·have h1:refI (⟨s,g,h,c⟩:QS) t=0:=by simpa using h1
   have h3:¬ indB (refQ (⟨s,g,h,c⟩:QS) t) ⟨a,b⟩=true:=by rw[h2];decide
   obtain⟨g1,g2,g3⟩:=ok h1 h2;subst hG;rw[show insQ (⟨s,g,h,c⟩:QS) t ⟨a,b⟩=gbQ (in4 (⟨s,g,h,c⟩:QS) t ⟨a,b⟩) (inF (⟨s,g,h,c⟩:QS) t ⟨a,b⟩) from(if_pos h1).trans (if_neg h3),show insI' (⟨s,g,h,c⟩:QS) t ⟨a,b⟩=gbL (in4 (⟨s,g,h,c⟩:QS) t ⟨a,b⟩) (inF (⟨s,g,h,c⟩:QS) t ⟨a,b⟩) from(if_pos h1).trans (if_neg h3),show insC (⟨s,g,h,c⟩:QS) t ⟨a,b⟩=0 from(if_pos h1).trans (if_neg h3)]
   exact⟨⟨trivial⟩,⟨fr.1⟩,⟨fr⟩,⟨g1⟩,⟨trivial⟩,⟨g2⟩,⟨g3⟩,⟨⟨[0,1,2,3,6,7],rfl,rfl,⟨.inl rfl,rfl,rfl,rfl,⟨_,rfl,.inl rfl⟩,⟨_,rfl,.inl rfl⟩,trivial⟩,rfl,rfl,rfl,rfl⟩⟩⟩
 ·cases hx
def rdelP:Prim Rt:=fun args hh=>match args,hh with
 |[.pointer (some ⟨0,0,none⟩),.int .i64 t],[some (.inl (80,[.int .i64 c,.pointer (some ⟨1,0,none⟩),.pointer (some ⟨2,0,none⟩),.pointer (some ⟨3,0,none⟩)])),some (.inr (.inr (.inr (.inl (.tree s))))),some (.inr (.inr (.inr (.inr (.tree g))))),some (.inr (.inr (.inr (.inr (.tree h)))))]=>some ⟨DelOk (⟨s,g,h,c⟩:QS) t,.tuple #[.agg ⟨[.slice (some ⟨4,0,some 2000⟩) ([]:List It).length ([]:List It).length,.slice (some ⟨5,0,some 2000⟩) (delI (⟨s,g,h,c⟩:QS) t).length (delI (⟨s,g,h,c⟩:QS) t).length]⟩,.int .i64 (refI (⟨s,g,h,c⟩:QS) t)],none,[bQ (delQ (⟨s,g,h,c⟩:QS) t),oM (delQ (⟨s,g,h,c⟩:QS) t).mt,oS (delQ (⟨s,g,h,c⟩:QS) t).pr,oS (delQ (⟨s,g,h,c⟩:QS) t).gn,oI [],oI (delI (⟨s,g,h,c⟩:QS) t)],[],[(0,0)]⟩
 |_,_=>none
theorem rdel_ok:ConOk D2 Tryz.prog 20 (con1 rdelP):=by
 refine prK Tryz.f20 fun args hh x hx=>?_
 unfold rdelP at hx;split at hx
 ·rename_i t c s g h;injection hx with hx
  subst hx;refine q4 fun _ hv=>?_
  generalize hG:Rx.Ends (R:=Rt) _ _=G;refine rx_ok (T:=TQI) TQI_ok mixed 200 ?_;refine as_text (q:=let Z7:=Value.int IntKind.i64;let Z1:=(refQ (QS.mk s g h c) t);let Z2:=(Mk.mk t false (It.mk (0:Int) (0:Int)) false false (It.mk (0:Int) (0:Int)));let Z3:=(QS.mk (Gv.TS.rank (QS.mt Z1) Z2) (QS.pr Z1) (QS.gn Z1) (QS.cap Z1));let Z4:=(↑(List.length (Gv.loE O8 Z2 (Gv.TS.l (QS.mt Z1)))):Int);let Z5:=(taQ (bfQ Z3 Z4) (bfI Z3 Z4));let Z6:=(taL (bfQ Z3 Z4) (bfI Z3 Z4));Vc (Gv.TS.Few s)/\((refI (QS.mk s g h c) t != (0:Int))=true->Post (G (Value.tuple (Array.mk [Value.agg (Array.mk [Value.slice none 0 0,Value.slice none 0 0]),Z7 (refI (QS.mk s g h c) t)])) [some (.inl (80,[Z7 (QS.cap Z1),Value.pointer (some (Addr.mk 1 0 none)),Value.pointer (some (Addr.mk 2 0 none)),Value.pointer (some (Addr.mk 3 0 none))])),some (.inr (.inr (.inr (.inl (G8.Rt.tree (QS.mt Z1)))))),some (.inr (.inr (.inr (.inr (G9.Rt.tree (QS.pr Z1)))))),some (.inr (.inr (.inr (.inr (G9.Rt.tree (QS.gn Z1)))))),some (.inl (59,[Value.slice none 0 0,Value.slice none 0 0]))]))/\((refI (QS.mk s g h c) t != (0:Int))=false->Vc True/\Vc (Gv.TS.Few (QS.mt Z1))/\Vc (QS.Few Z3)/\Vc (TaOk (bfQ Z3 Z4) (bfI Z3 Z4))/\Vc (Gv.TS.PutOk (QS.mt Z5) Z2)/\Post (G (Value.tuple (Array.mk [Value.agg (Array.mk [Value.slice (some (Addr.mk 6 0 (some 2000))) 0 0,Value.slice (some (Addr.mk 7 0 (some 2000))) (List.length Z6) (List.length Z6)]),Z7 0])) [some (.inl (80,[Z7 (QS.cap Z5),Value.pointer (some (Addr.mk 1 0 none)),Value.pointer (some (Addr.mk 2 0 none)),Value.pointer (some (Addr.mk 3 0 none))])),some (.inr (.inr (.inr (.inl (G8.Rt.tree (Gv.TS.put (QS.mt Z5) Z2)))))),some (.inr (.inr (.inr (.inr (G9.Rt.tree (QS.pr Z5)))))),some (.inr (.inr (.inr (.inr (G9.Rt.tree (QS.gn Z5)))))),some (.inl (59,[Value.slice (some (Addr.mk 6 0 (some 2000))) 0 0,Value.slice (some (Addr.mk 7 0 (some 2000))) (List.length Z6) (List.length Z6)])),some (.inl (49,[Z7 t,Value.bool false,Z7 0,Z7 0,Value.bool false,Value.bool false,Z7 0,Z7 0])),some (.inr (.inl (31,Row.mk [Z7 0,Z7 0] 0 [Col.mk [] [] [],Col.mk [] [] []]))),some (.inr (.inl (31,Row.mk [Z7 0,Z7 0] (List.length Z6) [Col.mk (List.map It.k Z6) [] [],Col.mk (List.map It.i Z6) [] []]))),some (.inl (59,[Value.slice (some (Addr.mk 6 0 (some 2000))) 0 0,Value.slice (some (Addr.mk 7 0 (some 2000))) (List.length Z6) (List.length Z6)]))]))) ?_ (by kernel_rfl)
  intro Z7 Z1 Z2 Z3 Z4 Z5 Z6;subst Z6 Z5 Z4 Z3 Z2 Z1 Z7;obtain⟨⟨f1,f2,f3⟩,ok⟩:=hv;have fr:=few_ref (t:=t) (q:=(⟨s,g,h,c⟩:QS)) ⟨f1,f2,f3⟩;refine⟨⟨f1⟩,fun h1=>?_,fun h1=>?_⟩
  ·have h1:¬ refI (⟨s,g,h,c⟩:QS) t=0:=fun e=>by rw[e] at h1;cases h1
   subst hG;rw[show delQ (⟨s,g,h,c⟩:QS) t=refQ (⟨s,g,h,c⟩:QS) t from if_neg h1,show delI (⟨s,g,h,c⟩:QS) t=[] from if_neg h1]
   exact⟨⟨[0,1,2,3,90,91],rfl,rfl,⟨.inl rfl,rfl,rfl,rfl,⟨rfl,Nat.zero_lt_succ _,rfl⟩,⟨rfl,Nat.zero_lt_succ _,rfl⟩,trivial⟩,rfl,rfl,rfl,rfl⟩⟩
  ·have h1:refI (⟨s,g,h,c⟩:QS) t=0:=by simpa using h1
   obtain⟨g1,g2⟩:=ok h1;subst hG;rw[show delQ (⟨s,g,h,c⟩:QS) t=⟨(de3 (⟨s,g,h,c⟩:QS) t).mt.put (keyM t),(de3 (⟨s,g,h,c⟩:QS) t).pr,(de3 (⟨s,g,h,c⟩:QS) t).gn,(de3 (⟨s,g,h,c⟩:QS) t).cap⟩ from if_pos h1,show delI (⟨s,g,h,c⟩:QS) t=taL (de2 (⟨s,g,h,c⟩:QS) t) (deU (⟨s,g,h,c⟩:QS) t) from if_pos h1,h1]
   exact⟨⟨trivial⟩,⟨fr.1⟩,⟨fr⟩,⟨g1⟩,⟨g2⟩,⟨⟨[0,1,2,3,6,7],rfl,rfl,⟨.inl rfl,rfl,rfl,rfl,⟨_,rfl,.inl rfl⟩,⟨_,rfl,.inl rfl⟩,trivial⟩,rfl,rfl,rfl,rfl⟩⟩⟩
 ·cases hx
def rrvkP:Prim Rt:=fun args hh=>match args,hh with
 |[.pointer (some ⟨0,0,none⟩),.int .i64 t],[some (.inl (80,[.int .i64 c,.pointer (some ⟨1,0,none⟩),.pointer (some ⟨2,0,none⟩),.pointer (some ⟨3,0,none⟩)])),some (.inr (.inr (.inr (.inl (.tree s))))),some (.inr (.inr (.inr (.inr (.tree g))))),some (.inr (.inr (.inr (.inr (.tree h)))))]=>some ⟨RvkOk (⟨s,g,h,c⟩:QS) t,.tuple #[.agg ⟨[.slice (some ⟨4,0,some 2000⟩) (rvkI (⟨s,g,h,c⟩:QS) t).length (rvkI (⟨s,g,h,c⟩:QS) t).length,.slice (some ⟨5,0,some 2000⟩) (rvkO (⟨s,g,h,c⟩:QS) t).length (rvkO (⟨s,g,h,c⟩:QS) t).length]⟩,.int .i64 (rvkC (⟨s,g,h,c⟩:QS) t)],none,[bQ (rvkQ (⟨s,g,h,c⟩:QS) t),oM (rvkQ (⟨s,g,h,c⟩:QS) t).mt,oS (rvkQ (⟨s,g,h,c⟩:QS) t).pr,oS (rvkQ (⟨s,g,h,c⟩:QS) t).gn,oI (rvkI (⟨s,g,h,c⟩:QS) t),oI (rvkO (⟨s,g,h,c⟩:QS) t)],[],[(0,0)]⟩
 |_,_=>none
theorem rrvk_ok:ConOk D2 Tryz.prog 22 (con1 rrvkP):=by
 refine prK Tryz.f22 fun args hh x hx=>?_
 unfold rrvkP at hx;split at hx
 ·rename_i t c s g h;injection hx with hx
  subst hx;refine q4 fun _ hv=>?_
  generalize hG:Rx.Ends (R:=Rt) _ _=G;refine rx_ok (T:=TQI) TQI_ok mixed 200 ?_;refine as_text (q:=let Z9:=Value.pointer (some (Addr.mk 1 0 none));let Z10:=Value.pointer (some (Addr.mk 3 0 none));let Z11:=Value.pointer (some (Addr.mk 2 0 none));let Z12:=Value.int IntKind.i64;let Z1:=(Mk.mk t false (It.mk (0:Int) (0:Int)) false false (It.mk (0:Int) (0:Int)));let Z2:=(Prod.fst (Gv.fndE O8 Z1 (Gv.TS.l s)));let Z3:=(QS.mk (Gv.TS.rank (Gv.TS.find s Z1) Z2) g h c);let Z4:=(↑(List.length (Gv.loE O8 Z2 (Gv.TS.l (Gv.TS.find s Z1)))):Int);let Z5:=(QS.mk (Gv.TS.drop (QS.mt (buQ Z3 Z4)) Z2) (QS.pr (buQ Z3 Z4)) (QS.gn (buQ Z3 Z4)) (QS.cap (buQ Z3 Z4)));let Z6:=(List.length (gbL Z5 (buI Z3 Z4)));let Z7:=(taQ (bfQ Z3 (Z4+(1:Int))) (bfI Z3 (Z4+(1:Int))));let Z8:=(taL (bfQ Z3 (Z4+(1:Int))) (bfI Z3 (Z4+(1:Int))));Vc True/\Vc (Gv.TS.Few s)/\((!Prod.snd (Gv.fndE O8 Z1 (Gv.TS.l s)))=true->Post (G (Value.tuple (Array.mk [Value.agg (Array.mk [Value.slice none 0 0,Value.slice none 0 0]),Z12 14])) [some (.inl (80,[Z12 c,Z9,Z11,Z10])),some (.inr (.inr (.inr (.inl (G8.Rt.tree (Gv.TS.find s Z1)))))),some (.inr (.inr (.inr (.inr (G9.Rt.tree g))))),some (.inr (.inr (.inr (.inr (G9.Rt.tree h))))),some (.inl (59,[Value.slice none 0 0,Value.slice none 0 0])),some (.inl (49,[Z12 (Mk.t Z2),Value.bool (Mk.ins Z2),Z12 (It.k (Mk.it Z2)),Z12 (It.i (Mk.it Z2)),Value.bool (Mk.here Z2),Value.bool (Mk.tf Z2),Z12 (It.k (Mk.tk Z2)),Z12 (It.i (Mk.tk Z2))]))]))/\((!Prod.snd (Gv.fndE O8 Z1 (Gv.TS.l s)))=false->((!Mk.ins Z2)=true->Vc (Gv.TS.Few (Gv.TS.find s Z1))/\Vc (QS.Few Z3)/\Vc (Gv.TS.Few (QS.mt (buQ Z3 Z4)))/\Vc (GbOk Z5 (buI Z3 Z4))/\Post (G (Value.tuple (Array.mk [Value.agg (Array.mk [Value.slice (some (Addr.mk 6 0 (some 2000))) Z6 Z6,Value.slice (some (Addr.mk 7 0 (some 2000))) 0 0]),Z12 0])) [some (.inl (80,[Z12 (QS.cap (gbQ Z5 (buI Z3 Z4))),Z9,Z11,Z10])),some (.inr (.inr (.inr (.inl (G8.Rt.tree (QS.mt (gbQ Z5 (buI Z3 Z4)))))))),some (.inr (.inr (.inr (.inr (G9.Rt.tree (QS.pr (gbQ Z5 (buI Z3 Z4)))))))),some (.inr (.inr (.inr (.inr (G9.Rt.tree (QS.gn (gbQ Z5 (buI Z3 Z4)))))))),some (.inl (59,[Value.slice (some (Addr.mk 6 0 (some 2000))) Z6 Z6,Value.slice (some (Addr.mk 7 0 (some 2000))) 0 0])),some (.inl (49,[Z12 (Mk.t Z2),Value.bool (Mk.ins Z2),Z12 (It.k (Mk.it Z2)),Z12 (It.i (Mk.it Z2)),Value.bool (Mk.here Z2),Value.bool (Mk.tf Z2),Z12 (It.k (Mk.tk Z2)),Z12 (It.i (Mk.tk Z2))])),some (.inr (.inl (31,Row.mk [Z12 0,Z12 0] Z6 [Col.mk (List.map It.k (gbL Z5 (buI Z3 Z4))) [] [],Col.mk (List.map It.i (gbL Z5 (buI Z3 Z4))) [] []]))),some (.inr (.inl (31,Row.mk [Z12 0,Z12 0] 0 [Col.mk [] [] [],Col.mk [] [] []])))]))/\((!Mk.ins Z2)=false->(Mk.here Z2=true->Vc (Gv.TS.Few (Gv.TS.find s Z1))/\Vc True/\Vc (Gv.TS.Few g)/\Post (G (Value.tuple (Array.mk [Value.agg (Array.mk [Value.slice none 0 0,Value.slice (some (Addr.mk 6 0 (some 2000))) 1 1]),Z12 0])) [some (.inl (80,[Z12 c,Z9,Z11,Z10])),some (.inr (.inr (.inr (.inl (G8.Rt.tree (Gv.TS.drop (Gv.TS.find s Z1) Z2)))))),some (.inr (.inr (.inr (.inr (G9.Rt.tree (Gv.TS.drop g (Sh.Sl.mk (Mk.it Z2) false (0:Int)))))))),some (.inr (.inr (.inr (.inr (G9.Rt.tree h))))),some (.inl (59,[Value.slice none 0 0,Value.slice (some (Addr.mk 6 0 (some 2000))) 1 1])),some (.inl (49,[Z12 (Mk.t Z2),Value.bool (Mk.ins Z2),Z12 (It.k (Mk.it Z2)),Z12 (It.i (Mk.it Z2)),Value.bool (Mk.here Z2),Value.bool (Mk.tf Z2),Z12 (It.k (Mk.tk Z2)),Z12 (It.i (Mk.tk Z2))])),some (.inr (.inl (31,Row.mk [Z12 0,Z12 0] 1 [Col.mk [It.k (Mk.it Z2)] [] [],Col.mk [It.i (Mk.it Z2)] [] []])))]))/\(Mk.here Z2=false->Vc (Gv.TS.Few (Gv.TS.find s Z1))/\Vc (fits (Z4+(1:Int)))/\Vc (QS.Few Z3)/\Vc (TaOk (bfQ Z3 (Z4+(1:Int))) (bfI Z3 (Z4+(1:Int))))/\Vc (Gv.TS.Few (QS.mt Z7))/\Vc True/\Vc (Gv.TS.Few (QS.gn Z7))/\Post (G (Value.tuple (Array.mk [Value.agg (Array.mk [Value.slice (some (Addr.mk 6 0 (some 2000))) 0 0,Value.slice (some (Addr.mk 7 0 (some 2000))) (List.length Z8) (List.length Z8)]),Z12 0])) [some (.inl (80,[Z12 (QS.cap Z7),Z9,Z11,Z10])),some (.inr (.inr (.inr (.inl (G8.Rt.tree (Gv.TS.drop (QS.mt Z7) Z2)))))),some (.inr (.inr (.inr (.inr (G9.Rt.tree (QS.pr Z7)))))),some (.inr (.inr (.inr (.inr (G9.Rt.tree (Gv.TS.drop (QS.gn Z7) (Sh.Sl.mk (Mk.it Z2) false (0:Int)))))))),some (.inl (59,[Value.slice (some (Addr.mk 6 0 (some 2000))) 0 0,Value.slice (some (Addr.mk 7 0 (some 2000))) (List.length Z8) (List.length Z8)])),some (.inl (49,[Z12 (Mk.t Z2),Value.bool (Mk.ins Z2),Z12 (It.k (Mk.it Z2)),Z12 (It.i (Mk.it Z2)),Value.bool (Mk.here Z2),Value.bool (Mk.tf Z2),Z12 (It.k (Mk.tk Z2)),Z12 (It.i (Mk.tk Z2))])),some (.inr (.inl (31,Row.mk [Z12 0,Z12 0] 0 [Col.mk [] [] [],Col.mk [] [] []]))),some (.inr (.inl (31,Row.mk [Z12 0,Z12 0] (List.length Z8) [Col.mk (List.map It.k Z8) [] [],Col.mk (List.map It.i Z8) [] []]))),some (.inl (59,[Value.slice (some (Addr.mk 6 0 (some 2000))) 0 0,Value.slice (some (Addr.mk 7 0 (some 2000))) (List.length Z8) (List.length Z8)]))]))))) ?_ (by kernel_rfl)
  intro Z9 Z10 Z11 Z12 Z1 Z2 Z3 Z4 Z5 Z6 Z7 Z8;subst Z8 Z7 Z6 Z5 Z4 Z3 Z2 Z1 Z12 Z11 Z10 Z9;obtain⟨⟨f1,f2,f3⟩,ok⟩:=hv;have bp:0≤rvP (⟨s,g,h,c⟩:QS) t/\rvP (⟨s,g,h,c⟩:QS) t≤60:=by
   have h1:=k60 s;have h2:(Gv.loE O8 (rvM (⟨s,g,h,c⟩:QS) t) s.l).length≤s.l.length:=by rw[Gv.lo_rk,List.length_take];omega
   exact⟨Int.natCast_nonneg _,by show((Gv.loE O8 (rvM (⟨s,g,h,c⟩:QS) t) s.l).length:Int)≤60;omega⟩
  refine⟨⟨trivial⟩,⟨f1⟩,fun h1=>?_,fun h1=>⟨fun h2=>?_,fun h2=>⟨fun h3=>?_,fun h3=>?_⟩⟩⟩
  ·have h1:(!rvB (⟨s,g,h,c⟩:QS) t)=true:=h1;have h1:¬ rvB (⟨s,g,h,c⟩:QS) t=true:=by simpa using h1
   subst hG;rw[show rvkQ (⟨s,g,h,c⟩:QS) t=rv1 (⟨s,g,h,c⟩:QS) t from if_neg h1,show rvkI (⟨s,g,h,c⟩:QS) t=[] from if_neg h1,show rvkO (⟨s,g,h,c⟩:QS) t=[] from if_neg h1,show rvkC (⟨s,g,h,c⟩:QS) t=14 from if_neg h1]
   exact⟨⟨[0,1,2,3,90,91],rfl,rfl,⟨.inl rfl,rfl,rfl,rfl,⟨rfl,Nat.zero_lt_succ _,rfl⟩,⟨rfl,Nat.zero_lt_succ _,rfl⟩,trivial⟩,rfl,rfl,rfl,rfl⟩⟩
  all_goals
   have h1:(!rvB (⟨s,g,h,c⟩:QS) t)=false:=h1;have h1:rvB (⟨s,g,h,c⟩:QS) t=true:=by simpa using h1
   have hc:rvkC (⟨s,g,h,c⟩:QS) t=0:=if_pos h1
  ·have h2:(!(rvM (⟨s,g,h,c⟩:QS) t).ins)=true:=h2;have h2:(rvM (⟨s,g,h,c⟩:QS) t).ins=false:=by simpa using h2
   have h3:¬ (rvM (⟨s,g,h,c⟩:QS) t).ins=true:=by rw[h2];decide
   have g1:=(ok h1).1 h2;subst hG;rw[show rvkQ (⟨s,g,h,c⟩:QS) t=gbQ (rv3 (⟨s,g,h,c⟩:QS) t) (rvF (⟨s,g,h,c⟩:QS) t) from(if_pos h1).trans (if_neg h3),show rvkI (⟨s,g,h,c⟩:QS) t=gbL (rv3 (⟨s,g,h,c⟩:QS) t) (rvF (⟨s,g,h,c⟩:QS) t) from(if_pos h1).trans (if_neg h3),show rvkO (⟨s,g,h,c⟩:QS) t=[] from(if_pos h1).trans (if_neg h3),hc]
   exact⟨⟨f1⟩,⟨f1,f2,f3⟩,⟨f1⟩,⟨g1⟩,⟨⟨[0,1,2,3,6,7],rfl,rfl,⟨.inl rfl,rfl,rfl,rfl,⟨_,rfl,.inl rfl⟩,⟨_,rfl,.inl rfl⟩,trivial⟩,rfl,rfl,rfl,rfl⟩⟩⟩
  all_goals
   have h2:(!(rvM (⟨s,g,h,c⟩:QS) t).ins)=false:=h2;have h2:(rvM (⟨s,g,h,c⟩:QS) t).ins=true:=by simpa using h2
  ·have h3:(rvM (⟨s,g,h,c⟩:QS) t).here=true:=h3;subst hG;rw[show rvkQ (⟨s,g,h,c⟩:QS) t=⟨(rv1 (⟨s,g,h,c⟩:QS) t).mt.drop (rvM (⟨s,g,h,c⟩:QS) t),(rv1 (⟨s,g,h,c⟩:QS) t).pr.drop (sl (rvM (⟨s,g,h,c⟩:QS) t).it),(rv1 (⟨s,g,h,c⟩:QS) t).gn,(rv1 (⟨s,g,h,c⟩:QS) t).cap⟩ from(if_pos h1).trans ((if_pos h2).trans (if_pos h3)),show rvkI (⟨s,g,h,c⟩:QS) t=[] from(if_pos h1).trans (if_pos h2),show rvkO (⟨s,g,h,c⟩:QS) t=[(rvM (⟨s,g,h,c⟩:QS) t).it] from(if_pos h1).trans ((if_pos h2).trans (if_pos h3)),hc]
   exact⟨⟨f1⟩,⟨trivial⟩,⟨f2⟩,⟨⟨[0,1,2,3,90,6],rfl,rfl,⟨.inl rfl,rfl,rfl,rfl,⟨rfl,Nat.zero_lt_succ _,rfl⟩,⟨_,rfl,.inl rfl⟩,trivial⟩,rfl,rfl,rfl,rfl⟩⟩⟩
  ·have h3:(rvM (⟨s,g,h,c⟩:QS) t).here=false:=h3;have h4:¬ (rvM (⟨s,g,h,c⟩:QS) t).here=true:=by rw[h3];decide
   obtain⟨g1,g2,g3⟩:=(ok h1).2 h2 h3;subst hG;rw[show rvkQ (⟨s,g,h,c⟩:QS) t=⟨(rv6 (⟨s,g,h,c⟩:QS) t).mt.drop (rvM (⟨s,g,h,c⟩:QS) t),(rv6 (⟨s,g,h,c⟩:QS) t).pr,(rv6 (⟨s,g,h,c⟩:QS) t).gn.drop (sl (rvM (⟨s,g,h,c⟩:QS) t).it),(rv6 (⟨s,g,h,c⟩:QS) t).cap⟩ from(if_pos h1).trans ((if_pos h2).trans (if_neg h4)),show rvkI (⟨s,g,h,c⟩:QS) t=[] from(if_pos h1).trans (if_pos h2),show rvkO (⟨s,g,h,c⟩:QS) t=taL (rv5 (⟨s,g,h,c⟩:QS) t) (rvU (⟨s,g,h,c⟩:QS) t) from(if_pos h1).trans ((if_pos h2).trans (if_neg h4)),hc]
   exact⟨⟨f1⟩,⟨by show -9223372036854775808≤rvP (⟨s,g,h,c⟩:QS) t+1;omega,by show rvP (⟨s,g,h,c⟩:QS) t+1≤9223372036854775807;omega⟩,⟨f1,f2,f3⟩,⟨g1⟩,⟨g2⟩,⟨trivial⟩,⟨g3⟩,⟨⟨[0,1,2,3,6,7],rfl,rfl,⟨.inl rfl,rfl,rfl,rfl,⟨_,rfl,.inl rfl⟩,⟨_,rfl,.inl rfl⟩,trivial⟩,rfl,rfl,rfl,rfl⟩⟩⟩
 ·cases hx
end Pa
namespace Pa
open Rx Wv Br
open Sh (putI dropI sls sl inI)
set_option maxRecDepth 100000
set_option maxRecDepth 100000
set_option maxHeartbeats 8000000
abbrev mRow (l:List Mk):Row:=⟨[.int .i64 0,.bool false,.int .i64 0,.int .i64 0,.bool false,.bool false,.int .i64 0,.int .i64 0],l.length,[⟨l.map fun e=>e.t,[],[]⟩,⟨[],l.map fun e=>e.ins,[]⟩,⟨l.map fun e=>e.it.k,[],[]⟩,⟨l.map fun e=>e.it.i,[],[]⟩,⟨[],l.map fun e=>e.here,[]⟩,⟨[],l.map fun e=>e.tf,[]⟩,⟨l.map fun e=>e.tk.k,[],[]⟩,⟨l.map fun e=>e.tk.i,[],[]⟩]⟩
theorem c_one1 {α:Type} (v:α):cut [v] 0 1=[v]:=rfl
abbrev oMk (l:List Mk):Option (SB Rt):=some (.inr (.inl (49,mRow l)))
def ropsP:Prim Rt:=fun args hh=>match args,hh with
 |[.pointer (some ⟨0,0,none⟩)],[some (.inl (80,[.int .i64 c,.pointer (some ⟨1,0,none⟩),.pointer (some ⟨2,0,none⟩),.pointer (some ⟨3,0,none⟩)])),some (.inr (.inr (.inr (.inl (.tree s))))),some (.inr (.inr (.inr (.inr (.tree g))))),some (.inr (.inr (.inr (.inr (.tree h)))))]=>some ⟨s.Few,.slice (some ⟨4,0,some 4000⟩) (⟨s,g,h,c⟩:QS).ops.length 0,none,[bQ (opsQ (⟨s,g,h,c⟩:QS)),oM (opsQ (⟨s,g,h,c⟩:QS)).mt,oS (opsQ (⟨s,g,h,c⟩:QS)).pr,oS (opsQ (⟨s,g,h,c⟩:QS)).gn,oO (⟨s,g,h,c⟩:QS).ops],[],[(0,0)]⟩
 |_,_=>none
theorem rops_ok:ConOk D2 Tryz.prog 24 (con1 ropsP):=by
 refine prK Tryz.f24 fun args hh x hx=>?_
 unfold ropsP at hx;split at hx
 ·rename_i c s g h;injection hx with hx
  subst hx;refine q4 fun _ hv=>?_
  generalize hG:Rx.Ends (R:=Rt) _ _=G;refine rx_ok (T:=TQm) TQm_ok mixed 200 ?_;refine as_text (q:=let Z5:=Value.pointer (some (Addr.mk 1 0 none));let Z6:=Value.int IntKind.i64;let Z1:=(↑(List.length (Gv.TS.l s)):Int);let Z2:=(Value.pointer (some (Addr.mk 0 0 none)));let Z3:=(Value.slice (some (Addr.mk 5 0 (some 4000))) 0 (Int.toNat Z1));let Z4:=(Gv.TS.l (Gv.TS.seen s));Vc (Gv.TS.Few s)/\Vc ((0:Int)≤(0:Int)/\(0:Int)≤Z1/\Z1*(32:Int)≤(140737488355328:Int)/\Z1≤(140737488355328:Int))/\Vc (Gv.TS.Few (Gv.TS.seen s))/\At D2 Tryz.prog (codeOf Tryz.f24) 4 (retK Tryz.prog (Array.toList (Func.results Tryz.f24)) G) [.inl [1,1,0,1,0],.inr (.inl 0),.inl [1,1,1]] (SS.mk [some Z2,none,some (Value.slice (some (Addr.mk 4 0 (some 4000))) 0 0),some Z3,none,none,some Z2,some Z2,some (Value.pointer (some (Addr.mk 0 1 none))),some (Z5),some (Z6 Z1),some Z3,some Z2,some Z2,some (Value.pointer (some (Addr.mk 0 1 none))),some (Z5),some (Value.slice (some (Addr.mk 6 0 (some 8000))) (List.length Z4) 0),some (Z6 (↑(List.length Z4):Int)),some (Z6 0),none,none,none,none,none,none,none,none,none,none] [] [some (.inl (80,[Z6 c,Z5,Value.pointer (some (Addr.mk 2 0 none)),Value.pointer (some (Addr.mk 3 0 none))])),some (.inr (.inr (.inr (.inl (G8.Rt.tree (Gv.TS.all (Gv.TS.seen s))))))),some (.inr (.inr (.inr (.inr (G9.Rt.tree g))))),some (.inr (.inr (.inr (.inr (G9.Rt.tree h))))),some (.inr (.inl (45,Row.mk [Z6 0,Value.bool false,Z6 0,Z6 0] 0 [Col.mk [] [] [],Col.mk [] [] [],Col.mk [] [] [],Col.mk [] [] []]))),some (.inr (.inl (45,Row.mk [Z6 0,Value.bool false,Z6 0,Z6 0] 0 [Col.mk [] [] [],Col.mk [] [] [],Col.mk [] [] [],Col.mk [] [] []]))),some (.inr (.inl (49,Row.mk [Z6 0,Value.bool false,Z6 0,Z6 0,Value.bool false,Value.bool false,Z6 0,Z6 0] (List.length Z4) [Col.mk (List.map (fun e=>Mk.t e) Z4) [] [],Col.mk [] (List.map (fun e=>Mk.ins e) Z4) [],Col.mk (List.map (fun e=>It.k (Mk.it e)) Z4) [] [],Col.mk (List.map (fun e=>It.i (Mk.it e)) Z4) [] [],Col.mk [] (List.map (fun e=>Mk.here e) Z4) [],Col.mk [] (List.map (fun e=>Mk.tf e) Z4) [],Col.mk (List.map (fun e=>It.k (Mk.tk e)) Z4) [] [],Col.mk (List.map (fun e=>It.i (Mk.tk e)) Z4) [] []])))])) ?_ (by kernel_rfl)
  intro Z5 Z6 Z1 Z2 Z3 Z4;subst Z4 Z3 Z2 Z1 Z6 Z5;have hb:=s.len_le;refine⟨⟨hv⟩,⟨⟨by omega,by omega,by omega,by omega⟩⟩,⟨hv⟩,?_⟩
  have hL:(⟨s,g,h,c⟩:QS).ops.length=s.l.length:=List.length_map ..;refine loop_atM (by kernel_rfl) (ι:=Nat×Nat) (fun x=>x.1≤s.l.length/\(x.1=s.l.length->x.2=0)) [3,16,17,18] (fun x=>[.slice (some ⟨4,0,some 4000⟩) ((⟨s,g,h,c⟩:QS).ops.take x.1).length x.2,.slice (some ⟨5,0,some 8000⟩) s.l.length 0,.int .i64 s.l.length,.int .i64 x.1]) (fun x=>[bQ (⟨s,g,h,c⟩:QS),oM s.seen.all,oS g,oS h,oO ((⟨s,g,h,c⟩:QS).ops.take x.1),oMk s.l]) (fun x=>s.l.length-x.1) 29 (fun i hi=>⟨rfl,rfl,by simp⟩) ⟨(0,(s.l.length:Int).toNat),⟨Nat.zero_le _,fun h=>by rw[← h];rfl⟩,⟨[0,1,2,3,5,6],rfl,⟨.inl rfl,rfl,rfl,rfl,⟨_,rfl,.inl rfl⟩,⟨_,rfl,.inl rfl⟩,trivial⟩,rfl,rfl,rfl,rfl⟩⟩ fun x hx=>?_
  obtain⟨i,cp⟩:=x;obtain⟨hi,hcp⟩:=hx;simp only at hi hcp ⊢;refine rx_ok (T:=TQm) TQm_ok mixed 200 ?_;refine as_text (q:=let Z4:=Value.int IntKind.i64;let Z1:=(Gv.TS.l s);let Z2:=(↑(List.length Z1):Int);let Z3:=(List.take i (QS.ops (QS.mk s g h c)));(decide ((↑i:Int)<Z2)=true->Vc ((0:Int)≤(↑i:Int)/\(↑i:Int)<Z2/\0+List.length Z1≤List.length Z1)/\Vc (0+Int.toNat (↑i:Int)<List.length Z1)/\Vc (0+List.length Z3≤List.length Z3/\1≤1/\(List.length Z3+1)*32≤140737488355328/\List.length Z3+1≤140737488355328)/\Vc (fits ((↑i:Int)+(1:Int)))/\Post (∃ j,(Prod.fst j≤List.length Z1/\(Prod.fst j=List.length Z1->Prod.snd j=0))/\List.length Z1-Prod.fst j<List.length Z1-i/\FitsM Rt 4 29 [3,16,17,18] [Value.slice (some (Addr.mk 4 0 (some 4000))) (List.length (List.take (Prod.fst j) (QS.ops (QS.mk s g h c)))) (Prod.snd j),Value.slice (some (Addr.mk 5 0 (some 8000))) (List.length Z1) 0,Z4 Z2,Z4 (↑(Prod.fst j):Int)] [bQ (QS.mk s g h c),oM (Gv.TS.all (Gv.TS.seen s)),oS g,oS h,oO (List.take (Prod.fst j) (QS.ops (QS.mk s g h c))),oMk Z1] [some (Value.slice (some (Addr.mk 8 0 (some 4000))) (List.length Z3+1) 0),some (Value.slice (some (Addr.mk 5 0 (some 8000))) (List.length Z1) 0),some (Z4 Z2),some (Z4 ((↑i:Int)+(1:Int)))] [some (.inl (80,[Z4 c,Value.pointer (some (Addr.mk 1 0 none)),Value.pointer (some (Addr.mk 2 0 none)),Value.pointer (some (Addr.mk 3 0 none))])),some (.inr (.inr (.inr (.inl (G8.Rt.tree (Gv.TS.all (Gv.TS.seen s))))))),some (.inr (.inr (.inr (.inr (G9.Rt.tree g))))),some (.inr (.inr (.inr (.inr (G9.Rt.tree h))))),none,some (.inr (.inl (49,Row.mk [Z4 0,Value.bool false,Z4 0,Z4 0,Value.bool false,Value.bool false,Z4 0,Z4 0] (List.length Z1) [Col.mk (List.map (fun e=>Mk.t e) Z1) [] [],Col.mk [] (List.map (fun e=>Mk.ins e) Z1) [],Col.mk (List.map (fun e=>It.k (Mk.it e)) Z1) [] [],Col.mk (List.map (fun e=>It.i (Mk.it e)) Z1) [] [],Col.mk [] (List.map (fun e=>Mk.here e) Z1) [],Col.mk [] (List.map (fun e=>Mk.tf e) Z1) [],Col.mk (List.map (fun e=>It.k (Mk.tk e)) Z1) [] [],Col.mk (List.map (fun e=>It.i (Mk.tk e)) Z1) [] []]))),some (.inl (49,[Z4 (List.getD (List.map (fun e=>Mk.t e) Z1) (0+Int.toNat (↑i:Int)) (0:Int)),Value.bool (List.getD (List.map (fun e=>Mk.ins e) Z1) (0+Int.toNat (↑i:Int)) false),Z4 (List.getD (List.map (fun e=>It.k (Mk.it e)) Z1) (0+Int.toNat (↑i:Int)) (0:Int)),Z4 (List.getD (List.map (fun e=>It.i (Mk.it e)) Z1) (0+Int.toNat (↑i:Int)) (0:Int)),Value.bool (List.getD (List.map (fun e=>Mk.here e) Z1) (0+Int.toNat (↑i:Int)) false),Value.bool (List.getD (List.map (fun e=>Mk.tf e) Z1) (0+Int.toNat (↑i:Int)) false),Z4 (List.getD (List.map (fun e=>It.k (Mk.tk e)) Z1) (0+Int.toNat (↑i:Int)) (0:Int)),Z4 (List.getD (List.map (fun e=>It.i (Mk.tk e)) Z1) (0+Int.toNat (↑i:Int)) (0:Int))])),some (.inr (.inl (45,Row.mk [Z4 0,Value.bool false,Z4 0,Z4 0] 1 [Col.mk [List.getD (List.map (fun e=>Mk.t e) Z1) (0+Int.toNat (↑i:Int)) (0:Int)] [] [],Col.mk [] [List.getD (List.map (fun e=>Mk.ins e) Z1) (0+Int.toNat (↑i:Int)) false] [],Col.mk [List.getD (List.map (fun e=>It.k (Mk.it e)) Z1) (0+Int.toNat (↑i:Int)) (0:Int)] [] [],Col.mk [List.getD (List.map (fun e=>It.i (Mk.it e)) Z1) (0+Int.toNat (↑i:Int)) (0:Int)] [] []]))),some (.inr (.inl (45,Row.mk [Z4 0,Value.bool false,Z4 0,Z4 0] (List.length Z3+1) [Col.mk (cut (List.map Op.t Z3) 0 (List.length Z3)++cut [List.getD (List.map (fun e=>Mk.t e) Z1) (0+Int.toNat (↑i:Int)) (0:Int)] 0 1) [] [],Col.mk [] (cut (List.map Op.ins Z3) 0 (List.length Z3)++cut [List.getD (List.map (fun e=>Mk.ins e) Z1) (0+Int.toNat (↑i:Int)) false] 0 1) [],Col.mk (cut (List.map (fun o=>It.k (Op.it o)) Z3) 0 (List.length Z3)++cut [List.getD (List.map (fun e=>It.k (Mk.it e)) Z1) (0+Int.toNat (↑i:Int)) (0:Int)] 0 1) [] [],Col.mk (cut (List.map (fun o=>It.i (Op.it o)) Z3) 0 (List.length Z3)++cut [List.getD (List.map (fun e=>It.i (Mk.it e)) Z1) (0+Int.toNat (↑i:Int)) (0:Int)] 0 1) [] []])))] 29))/\(decide ((↑i:Int)<Z2)=false->Post (G (Value.slice (some (Addr.mk 4 0 (some 4000))) (List.length Z3) cp) [some (.inl (80,[Z4 c,Value.pointer (some (Addr.mk 1 0 none)),Value.pointer (some (Addr.mk 2 0 none)),Value.pointer (some (Addr.mk 3 0 none))])),some (.inr (.inr (.inr (.inl (G8.Rt.tree (Gv.TS.all (Gv.TS.seen s))))))),some (.inr (.inr (.inr (.inr (G9.Rt.tree g))))),some (.inr (.inr (.inr (.inr (G9.Rt.tree h))))),some (.inr (.inl (45,oR Z3))),some (.inr (.inl (49,Row.mk [Z4 0,Value.bool false,Z4 0,Z4 0,Value.bool false,Value.bool false,Z4 0,Z4 0] (List.length Z1) [Col.mk (List.map (fun e=>Mk.t e) Z1) [] [],Col.mk [] (List.map (fun e=>Mk.ins e) Z1) [],Col.mk (List.map (fun e=>It.k (Mk.it e)) Z1) [] [],Col.mk (List.map (fun e=>It.i (Mk.it e)) Z1) [] [],Col.mk [] (List.map (fun e=>Mk.here e) Z1) [],Col.mk [] (List.map (fun e=>Mk.tf e) Z1) [],Col.mk (List.map (fun e=>It.k (Mk.tk e)) Z1) [] [],Col.mk (List.map (fun e=>It.i (Mk.tk e)) Z1) [] []])))]))) ?_ (by kernel_rfl)
  intro Z4 Z1 Z2 Z3;subst Z3 Z2 Z1 Z4;have gS:∀ {β:Type} (f:Mk->β) (d:β),f mz=d->(s.l.map f).getD i d=f (s.l.getD i mz):=fun f d h=>by
   subst h;rw[List.getD_eq_getElem?_getD,List.getD_eq_getElem?_getD,List.getElem?_map];cases s.l[i]?<;>rfl
  have hS:i<s.l.length->(⟨s,g,h,c⟩:QS).ops.take (i+1)=(⟨s,g,h,c⟩:QS).ops.take i++[opM (s.l.getD i mz)]:=fun h=>by
   rw[take_one (by rw[hL];exact h)]
   unfold QS.ops;rw[List.getD_eq_getElem?_getD,List.getElem?_map,List.getD_eq_getElem?_getD,List.getElem?_eq_getElem h];rfl
  have htl:=List.length_take_le i (⟨s,g,h,c⟩:QS).ops;simp only[gS (fun e=>e.t) 0 rfl,gS (fun e=>e.ins) false rfl,gS (fun e=>e.it.k) 0 rfl,gS (fun e=>e.it.i) 0 rfl,gS (fun e=>e.here) false rfl,gS (fun e=>e.tf) false rfl,gS (fun e=>e.tk.k) 0 rfl,gS (fun e=>e.tk.i) 0 rfl,cm,c_one1,e_i]
  refine⟨fun h=>?_,fun h=>?_⟩
  ·have hlt:i<s.l.length:=by have:=of_decide_eq_true h;omega
   refine⟨⟨by omega,by omega,by omega⟩,⟨by omega⟩,⟨by omega,by omega,by omega,by omega⟩,⟨by omega,by omega⟩,⟨(i+1,0),⟨hlt,fun _=>rfl⟩,by simp only;omega,?_⟩⟩
   rw[hS hlt];simp only[oO,oR,List.length_append,List.length_cons,List.length_nil,List.map_append,List.map_cons,List.map_nil,Nat.zero_add];exact⟨[0,1,2,3,8,5],rfl,⟨.inl rfl,rfl,rfl,rfl,⟨_,rfl,.inl rfl⟩,⟨_,rfl,.inl rfl⟩,trivial⟩,rfl,rfl,rfl,rfl⟩
  ·obtain rfl:i=s.l.length:=by have:=of_decide_eq_false h;omega
   obtain rfl:=hcp rfl;refine⟨?_⟩;subst hG;rw[← hL,List.take_length];exact⟨[0,1,2,3,4],rfl,rfl,⟨.inl rfl,rfl,rfl,rfl,⟨_,rfl,.inl rfl⟩,trivial⟩,rfl,rfl,rfl,rfl⟩
 ·cases hx
def qexcP:Prim Rt:=fun args hh=>match args,hh with
 |[.pointer (some ⟨0,0,none⟩)],[some (.inl (80,[.int .i64 c,.pointer (some ⟨1,0,none⟩),.pointer (some ⟨2,0,none⟩),.pointer (some ⟨3,0,none⟩)])),some (.inr (.inr (.inr (.inl (.tree s))))),some (.inr (.inr (.inr (.inr (.tree g))))),some (.inr (.inr (.inr (.inr (.tree h)))))]=>some ⟨(⟨s,g,h,c⟩:QS).Ok,.int .i64 (exc (⟨s,g,h,c⟩:QS).ops),none,[bQ (excQ (⟨s,g,h,c⟩:QS)),oM (excQ (⟨s,g,h,c⟩:QS)).mt,oS (excQ (⟨s,g,h,c⟩:QS)).pr,oS (excQ (⟨s,g,h,c⟩:QS)).gn],[],[(0,0)]⟩
 |_,_=>none
theorem qexc_ok:ConOk D2 Tryz.prog 34 (con1 qexcP):=by
 refine con_as rexc_ok fun args hh x hx=>?_
 unfold qexcP at hx;split at hx
 ·rename_i c s g h;injection hx with hx
  subst hx;refine⟨_,rfl,by first|exact Nat.le_refl _|exact Nat.le_succ _|exact Nat.le_add_right _ 2|exact(by decide:(4:Nat)≤6),noLit rfl,(fun hw=>by first|rfl|cases hw),fun hv=>?_⟩
  have hq:HQ (⟨s,g,h,c⟩:QS) (⟨s,g,h,c⟩:QS).ops (⟨s,g,h,c⟩:QS).cap 90000:=hv;exact⟨hq.few (by omega),by show Value.int IntKind.i64 (excI (⟨s,g,h,c⟩:QS))=_;rw[hq.exc],rfl⟩
 ·cases hx
def qvisP:Prim Rt:=fun args hh=>match args,hh with
 |[.pointer (some ⟨0,0,none⟩)],[some (.inl (80,[.int .i64 c,.pointer (some ⟨1,0,none⟩),.pointer (some ⟨2,0,none⟩),.pointer (some ⟨3,0,none⟩)])),some (.inr (.inr (.inr (.inl (.tree s))))),some (.inr (.inr (.inr (.inr (.tree g))))),some (.inr (.inr (.inr (.inr (.tree h)))))]=>some ⟨(⟨s,g,h,c⟩:QS).Ok,.int .i64 (⟨s,g,h,c⟩:QS).vis,none,hh,[],[]⟩
 |_,_=>none
theorem qvis_ok:ConOk D2 Tryz.prog 26 (con1 qvisP):=by
 refine con_as rvis_ok fun args hh x hx=>?_
 unfold qvisP at hx;split at hx
 ·rename_i c s g h;injection hx with hx
  subst hx;refine⟨_,rfl,by first|exact Nat.le_refl _|exact Nat.le_succ _|exact Nat.le_add_right _ 2|exact(by decide:(4:Nat)≤6),noLit rfl,(fun hw=>by first|rfl|cases hw),fun hv=>?_⟩
  have hq:HQ (⟨s,g,h,c⟩:QS) (⟨s,g,h,c⟩:QS).ops (⟨s,g,h,c⟩:QS).cap 90000:=hv;exact⟨hq.vok (by omega),rfl,rfl⟩
 ·cases hx
def qopsP:Prim Rt:=fun args hh=>match args,hh with
 |[.pointer (some ⟨0,0,none⟩)],[some (.inl (80,[.int .i64 c,.pointer (some ⟨1,0,none⟩),.pointer (some ⟨2,0,none⟩),.pointer (some ⟨3,0,none⟩)])),some (.inr (.inr (.inr (.inl (.tree s))))),some (.inr (.inr (.inr (.inr (.tree g))))),some (.inr (.inr (.inr (.inr (.tree h)))))]=>some ⟨(⟨s,g,h,c⟩:QS).Ok,.slice (some ⟨4,0,some 4000⟩) (⟨s,g,h,c⟩:QS).ops.length 0,none,[bQ (opsQ (⟨s,g,h,c⟩:QS)),oM (opsQ (⟨s,g,h,c⟩:QS)).mt,oS (opsQ (⟨s,g,h,c⟩:QS)).pr,oS (opsQ (⟨s,g,h,c⟩:QS)).gn,oO (⟨s,g,h,c⟩:QS).ops],[],[(0,0)]⟩
 |_,_=>none
theorem qops_ok:ConOk D2 Tryz.prog 24 (con1 qopsP):=by
 refine con_as rops_ok fun args hh x hx=>?_
 unfold qopsP at hx;split at hx
 ·rename_i c s g h;injection hx with hx
  subst hx;refine⟨_,rfl,by first|exact Nat.le_refl _|exact Nat.le_succ _|exact Nat.le_add_right _ 2|exact(by decide:(4:Nat)≤6),noLit rfl,(fun hw=>by first|rfl|cases hw),fun hv=>?_⟩
  have hq:HQ (⟨s,g,h,c⟩:QS) (⟨s,g,h,c⟩:QS).ops (⟨s,g,h,c⟩:QS).cap 90000:=hv;exact⟨(hq.few (by omega)).1,rfl,rfl⟩
 ·cases hx
def qinsP:Prim Rt:=fun args hh=>match args,hh with
 |[.pointer (some ⟨0,0,none⟩),.int .i64 t,.agg ⟨[.int .i64 a,.int .i64 b]⟩],[some (.inl (80,[.int .i64 c,.pointer (some ⟨1,0,none⟩),.pointer (some ⟨2,0,none⟩),.pointer (some ⟨3,0,none⟩)])),some (.inr (.inr (.inr (.inl (.tree s))))),some (.inr (.inr (.inr (.inr (.tree g))))),some (.inr (.inr (.inr (.inr (.tree h)))))]=>some ⟨(⟨s,g,h,c⟩:QS).Ok/\(⟨s,g,h,c⟩:QS).ops.length≤59,.tuple #[.agg ⟨[.slice (some ⟨4,0,some 2000⟩) (chI (⟨s,g,h,c⟩:QS).ops (insL (⟨s,g,h,c⟩:QS).ops (⟨s,g,h,c⟩:QS).cap t ⟨a,b⟩)).length (chI (⟨s,g,h,c⟩:QS).ops (insL (⟨s,g,h,c⟩:QS).ops (⟨s,g,h,c⟩:QS).cap t ⟨a,b⟩)).length,.slice (some ⟨5,0,some 2000⟩) (chI (insL (⟨s,g,h,c⟩:QS).ops (⟨s,g,h,c⟩:QS).cap t ⟨a,b⟩) (⟨s,g,h,c⟩:QS).ops).length (chI (insL (⟨s,g,h,c⟩:QS).ops (⟨s,g,h,c⟩:QS).cap t ⟨a,b⟩) (⟨s,g,h,c⟩:QS).ops).length]⟩,.int .i64 (insE (⟨s,g,h,c⟩:QS).ops (⟨s,g,h,c⟩:QS).cap t ⟨a,b⟩)],none,[bQ (insQ (⟨s,g,h,c⟩:QS) t ⟨a,b⟩),oM (insQ (⟨s,g,h,c⟩:QS) t ⟨a,b⟩).mt,oS (insQ (⟨s,g,h,c⟩:QS) t ⟨a,b⟩).pr,oS (insQ (⟨s,g,h,c⟩:QS) t ⟨a,b⟩).gn,oI (chI (⟨s,g,h,c⟩:QS).ops (insL (⟨s,g,h,c⟩:QS).ops (⟨s,g,h,c⟩:QS).cap t ⟨a,b⟩)),oI (chI (insL (⟨s,g,h,c⟩:QS).ops (⟨s,g,h,c⟩:QS).cap t ⟨a,b⟩) (⟨s,g,h,c⟩:QS).ops)],[],[(0,0)]⟩
 |_,_=>none
theorem qins_ok:ConOk D2 Tryz.prog 19 (con1 qinsP):=by
 refine con_as rins_ok fun args hh x hx=>?_
 unfold qinsP at hx;split at hx
 ·rename_i t a b c s g h;injection hx with hx
  subst hx;refine⟨_,rfl,by first|exact Nat.le_refl _|exact Nat.le_succ _|exact Nat.le_add_right _ 2|exact(by decide:(4:Nat)≤6),noLit rfl,(fun hw=>by first|rfl|cases hw),fun hv=>?_⟩
  have hq:HQ (⟨s,g,h,c⟩:QS) (⟨s,g,h,c⟩:QS).ops (⟨s,g,h,c⟩:QS).cap 90000:=hv.1;obtain⟨g1,g2,g3,g4,g5,g6⟩:=ins_all (t:=t) (x:=⟨a,b⟩) hq hv.2 (Nat.le_refl _);refine⟨g1,?_,?_⟩
  ·rw[← g5,g6,← g2]
  ·rw[← g5,g6]
 ·cases hx
def qdelP:Prim Rt:=fun args hh=>match args,hh with
 |[.pointer (some ⟨0,0,none⟩),.int .i64 t],[some (.inl (80,[.int .i64 c,.pointer (some ⟨1,0,none⟩),.pointer (some ⟨2,0,none⟩),.pointer (some ⟨3,0,none⟩)])),some (.inr (.inr (.inr (.inl (.tree s))))),some (.inr (.inr (.inr (.inr (.tree g))))),some (.inr (.inr (.inr (.inr (.tree h)))))]=>some ⟨(⟨s,g,h,c⟩:QS).Ok/\(⟨s,g,h,c⟩:QS).ops.length≤59,.tuple #[.agg ⟨[.slice (some ⟨4,0,some 2000⟩) (chI (⟨s,g,h,c⟩:QS).ops (delL (⟨s,g,h,c⟩:QS).ops (⟨s,g,h,c⟩:QS).cap t)).length (chI (⟨s,g,h,c⟩:QS).ops (delL (⟨s,g,h,c⟩:QS).ops (⟨s,g,h,c⟩:QS).cap t)).length,.slice (some ⟨5,0,some 2000⟩) (chI (delL (⟨s,g,h,c⟩:QS).ops (⟨s,g,h,c⟩:QS).cap t) (⟨s,g,h,c⟩:QS).ops).length (chI (delL (⟨s,g,h,c⟩:QS).ops (⟨s,g,h,c⟩:QS).cap t) (⟨s,g,h,c⟩:QS).ops).length]⟩,.int .i64 (delE (⟨s,g,h,c⟩:QS).ops (⟨s,g,h,c⟩:QS).cap t)],none,[bQ (delQ (⟨s,g,h,c⟩:QS) t),oM (delQ (⟨s,g,h,c⟩:QS) t).mt,oS (delQ (⟨s,g,h,c⟩:QS) t).pr,oS (delQ (⟨s,g,h,c⟩:QS) t).gn,oI (chI (⟨s,g,h,c⟩:QS).ops (delL (⟨s,g,h,c⟩:QS).ops (⟨s,g,h,c⟩:QS).cap t)),oI (chI (delL (⟨s,g,h,c⟩:QS).ops (⟨s,g,h,c⟩:QS).cap t) (⟨s,g,h,c⟩:QS).ops)],[],[(0,0)]⟩
 |_,_=>none
theorem qdel_ok:ConOk D2 Tryz.prog 20 (con1 qdelP):=by
 refine con_as rdel_ok fun args hh x hx=>?_
 unfold qdelP at hx;split at hx
 ·rename_i t c s g h;injection hx with hx
  subst hx;refine⟨_,rfl,by first|exact Nat.le_refl _|exact Nat.le_succ _|exact Nat.le_add_right _ 2|exact(by decide:(4:Nat)≤6),noLit rfl,(fun hw=>by first|rfl|cases hw),fun hv=>?_⟩
  have hq:HQ (⟨s,g,h,c⟩:QS) (⟨s,g,h,c⟩:QS).ops (⟨s,g,h,c⟩:QS).cap 90000:=hv.1;obtain⟨g1,g2,g3,g4,g5,g6⟩:=del_all (t:=t) hq hv.2 (Nat.le_refl _);refine⟨g1,?_,?_⟩
  ·rw[← g6,g5,← g2]
  ·rw[← g6,g5]
 ·cases hx
def qrvkP:Prim Rt:=fun args hh=>match args,hh with
 |[.pointer (some ⟨0,0,none⟩),.int .i64 t],[some (.inl (80,[.int .i64 c,.pointer (some ⟨1,0,none⟩),.pointer (some ⟨2,0,none⟩),.pointer (some ⟨3,0,none⟩)])),some (.inr (.inr (.inr (.inl (.tree s))))),some (.inr (.inr (.inr (.inr (.tree g))))),some (.inr (.inr (.inr (.inr (.tree h)))))]=>some ⟨(⟨s,g,h,c⟩:QS).Ok,.tuple #[.agg ⟨[.slice (some ⟨4,0,some 2000⟩) (chI (⟨s,g,h,c⟩:QS).ops (rvkL (⟨s,g,h,c⟩:QS).ops t)).length (chI (⟨s,g,h,c⟩:QS).ops (rvkL (⟨s,g,h,c⟩:QS).ops t)).length,.slice (some ⟨5,0,some 2000⟩) (chI (rvkL (⟨s,g,h,c⟩:QS).ops t) (⟨s,g,h,c⟩:QS).ops).length (chI (rvkL (⟨s,g,h,c⟩:QS).ops t) (⟨s,g,h,c⟩:QS).ops).length]⟩,.int .i64 (rvkE (⟨s,g,h,c⟩:QS).ops t)],none,[bQ (rvkQ (⟨s,g,h,c⟩:QS) t),oM (rvkQ (⟨s,g,h,c⟩:QS) t).mt,oS (rvkQ (⟨s,g,h,c⟩:QS) t).pr,oS (rvkQ (⟨s,g,h,c⟩:QS) t).gn,oI (chI (⟨s,g,h,c⟩:QS).ops (rvkL (⟨s,g,h,c⟩:QS).ops t)),oI (chI (rvkL (⟨s,g,h,c⟩:QS).ops t) (⟨s,g,h,c⟩:QS).ops)],[],[(0,0)]⟩
 |_,_=>none
theorem qrvk_ok:ConOk D2 Tryz.prog 22 (con1 qrvkP):=by
 refine con_as rrvk_ok fun args hh x hx=>?_
 unfold qrvkP at hx;split at hx
 ·rename_i t c s g h;injection hx with hx
  subst hx;refine⟨_,rfl,by first|exact Nat.le_refl _|exact Nat.le_succ _|exact Nat.le_add_right _ 2|exact(by decide:(4:Nat)≤6),noLit rfl,(fun hw=>by first|rfl|cases hw),fun hv=>?_⟩
  have hq:HQ (⟨s,g,h,c⟩:QS) (⟨s,g,h,c⟩:QS).ops (⟨s,g,h,c⟩:QS).cap 90000:=hv;obtain⟨g1,g2,g3,g4,g5,g6⟩:=rvk_all (t:=t) hq (Nat.le_refl _);refine⟨g1,?_,?_⟩
  ·rw[← g5,← g6,← g2]
  ·rw[← g5,← g6]
 ·cases hx
end Pa
namespace Pa
open Rx Wv Br Sh
set_option maxRecDepth 100000
set_option maxHeartbeats 8000000
def z1:Nat->Bool:=fun j=>Nat.beq j 1
def kdA (a:Act):Int:=restI a.k 3
def doL (l:List Op) (c:Int) (a:Act):List Op:=if kdA a=2 then rvkL l (timA a l) else if kdA a=0 then insL l c (timA a l) a.x else delL l c (timA a l)
def doQ (q:QS) (a:Act):QS:=if kdA a=2 then rvkQ q (timA a q.ops) else if kdA a=0 then insQ q (timA a q.ops) a.x else delQ q (timA a q.ops)
theorem do_hq {q:QS} {l:List Op} {c:Int} {n:Nat} {a:Act} (h:HQ q l c n) (h59:l.length≤59) (hn:n≤90000):HQ (doQ q a) (doL l c a) c (n+10)/\(doQ q a).vis≤q.vis+10000*(Gv.hgt l.length+4:Nat):=by
 unfold doQ doL;rw[h.ops];split
 ·have:=rvk_all (t:=timA a l) h hn;exact⟨this.2.2.1,this.2.2.2.1⟩
 ·split
  ·have:=ins_all (t:=timA a l) (x:=a.x) h h59 hn;exact⟨this.2.2.1,this.2.2.2.1⟩
  ·have:=del_all (t:=timA a l) h h59 hn;exact⟨this.2.2.1,this.2.2.2.1⟩
theorem do_len {l:List Op} {c:Int} {a:Act}:(doL l c a).length≤l.length+1:=by
 unfold doL;split
 ·unfold rvkL;split
  ·unfold woO;rw[List.length_append,List.length_take,List.length_drop];omega
  ·omega
 ·split
  ·unfold insL;split
   ·rw[addO_len];exact Nat.le_refl _
   ·omega
  ·unfold delL;split
   ·rw[addO_len];exact Nat.le_refl _
   ·omega
theorem ops_hq {q:QS} {l:List Op} {c:Int} {n:Nat} (h:HQ q l c n) (hn:n≤100000):HQ (opsQ q) l c (n+1):=(h.look (h.mq.ops_ (h.vb' hn) (by omega)) (by omega)).1
end Pa
namespace Pa
open Rx Wv Br Sh
set_option maxRecDepth 100000
set_option maxHeartbeats 16000000
theorem new_hq (c:Int):HQ (newQ c) [] (capN c) 0:=by
 have hc:0≤capN c/\capN c≤65536:=by unfold capN;omega
 have e:min (max (capN c) 0) 16777216=capN c:=by omega
 exact⟨⟨rfl,rfl,rfl,rfl,e,e,e,Nat.le_refl _,Nat.le_refl _,Nat.le_refl _,⟨Int.le_refl _,Int.le_refl _⟩,⟨Int.le_refl _,Int.le_refl _⟩,⟨Int.le_refl _,Int.le_refl _⟩⟩,List.Pairwise.nil,List.nodup_nil,(fun o h=>by cases h),⟨hc.1,hc.2⟩,Nat.zero_le _,Int.le_refl _,Int.le_refl _,Int.le_refl _⟩
def TAw:Tab Rt:=[(10,liftC zN 2 (con1 qnewP)),(19,liftC zN 2 (con1 qinsP)),(20,liftC zN 2 (con1 qdelP)),(22,liftC zN 2 (con1 qrvkP)),(34,liftC zN 2 (con1 qexcP))]
theorem TAw_ok:TabOk D2 Tryz.prog TAw:=⟨liftC_ok _ _ qnew_ok,liftC_ok _ _ qins_ok,liftC_ok _ _ qdel_ok,liftC_ok _ _ qrvk_ok,liftC_ok _ _ qexc_ok,trivial⟩
abbrev bCw (a b i j:Nat):Option (SB Rt):=some (.inl (59,[.slice (some ⟨i,0,some 2000⟩) a a,.slice (some ⟨j,0,some 2000⟩) b b]))
theorem awk_run {G:Value->Hp Rt->Prop} (hG:∀ rest,G (.bool true) rest):At D2 Tryz.prog (codeOf Tryz.f9) 0 (retK Tryz.prog Tryz.f9.results.toList G) [.inl []] ⟨someL []++List.replicate (Tryz.f9.ntmps-0) none,[],[]⟩:=by
 refine rxS_ok (T:=TAw) [[1,1,1]] TAw_ok mixed 200 ?_;refine as_text (q:=let Z1:=(Value.pointer (some (Addr.mk 0 0 none)));Vc True/\At D2 Tryz.prog (codeOf Tryz.f9) 0 (retK Tryz.prog (Array.toList (Func.results Tryz.f9)) G) [.inl [1,1,1]] (SS.mk [some (Value.bool false),some Z1,none,none,none,none,some Z1,some Z1,some (Value.bool false),none,none,none,none,none,none,none,none,none,none,none,none,none,none,none,none,none,none,none,none,none,none,none,none,none,none,none,none,none,none,none,none,none,none,none,none,none,none,none,none,none,none,none,none,none,none,none,none,none,none,none,none,none] [(8,false),(0,false)] [some (.inl (80,[Value.int IntKind.i64 9,Value.pointer (some (Addr.mk 1 0 none)),Value.pointer (some (Addr.mk 2 0 none)),Value.pointer (some (Addr.mk 3 0 none))])),some (.inr (.inr (.inr (.inl (G8.Rt.tree (QS.mt (newQ (9:Int)))))))),some (.inr (.inr (.inr (.inr (G9.Rt.tree (QS.pr (newQ (9:Int)))))))),some (.inr (.inr (.inr (.inr (G9.Rt.tree (QS.gn (newQ (9:Int))))))))])) ?_ (by kernel_rfl)
 intro Z1;subst Z1;refine⟨⟨trivial⟩,At.fit [1] [.pointer (some ⟨0,0,none⟩)] [bQ (newQ 9),oM (newQ 9).mt,oS (newQ 9).pr,oS (newQ 9).gn] 62 ⟨rfl,rfl,by simp⟩ ⟨[0,1,2,3],rfl,⟨.inl rfl,rfl,rfl,rfl,trivial⟩,rfl,rfl,rfl,rfl⟩ ?_⟩
 have h0:HQ (newQ 9) [] 9 0:=new_hq 9;generalize newQ 9=q at h0 ⊢;refine rxS_ok (T:=TAw) [[1,1,1,1]] TAw_ok mixed 200 ?_;refine as_text (q:=let Z1:=(insL (QS.ops q) (QS.cap q) (1:Int) (It.mk (5:Int) (0:Int)));let Z2:=(insQ q (1:Int) (It.mk (5:Int) (0:Int)));Vc (QS.Ok q/\List.length (QS.ops q)≤59)/\At D2 Tryz.prog (codeOf Tryz.f9) 0 (retK Tryz.prog (Array.toList (Func.results Tryz.f9)) G) [.inl [1,1,1,1]] (SS.mk [none,some (Value.pointer (some (Addr.mk 0 0 none))),none,none,none,none,none,none,none,some (Value.pointer (some (Addr.mk 0 0 none))),some (Value.agg (Array.mk [Value.int IntKind.i64 5,Value.int IntKind.i64 0])),some (Value.tuple (Array.mk [Value.agg (Array.mk [Value.slice (some (Addr.mk 4 0 (some 2000))) (List.length (chI (QS.ops q) Z1)) (List.length (chI (QS.ops q) Z1)),Value.slice (some (Addr.mk 5 0 (some 2000))) (List.length (chI Z1 (QS.ops q))) (List.length (chI Z1 (QS.ops q)))]),Value.int IntKind.i64 (insE (QS.ops q) (QS.cap q) (1:Int) (It.mk (5:Int) (0:Int)))])),none,none,none,none,none,none,none,none,none,none,none,none,none,none,none,none,none,none,none,none,none,none,none,none,none,none,none,none,none,none,none,none,none,none,none,none,none,none,none,none,none,none,none,none,none,none,none,none,none,none] [] [some (.inl (80,[Value.int IntKind.i64 (QS.cap Z2),Value.pointer (some (Addr.mk 1 0 none)),Value.pointer (some (Addr.mk 2 0 none)),Value.pointer (some (Addr.mk 3 0 none))])),some (.inr (.inr (.inr (.inl (G8.Rt.tree (QS.mt Z2)))))),some (.inr (.inr (.inr (.inr (G9.Rt.tree (QS.pr Z2)))))),some (.inr (.inr (.inr (.inr (G9.Rt.tree (QS.gn Z2)))))),some (.inr (.inl (31,iR (chI (QS.ops q) Z1)))),some (.inr (.inl (31,iR (chI Z1 (QS.ops q)))))])) ?_ (by kernel_rfl)
 intro Z1 Z2;subst Z2 Z1;refine⟨⟨(h0.mono (by decide)).ok,by rw[h0.ops];decide⟩,At.fit [1] [.pointer (some ⟨0,0,none⟩)] [bQ (insQ q 1 ⟨5,0⟩),oM (insQ q 1 ⟨5,0⟩).mt,oS (insQ q 1 ⟨5,0⟩).pr,oS (insQ q 1 ⟨5,0⟩).gn] 62 ⟨rfl,rfl,by simp⟩ ⟨[0,1,2,3],rfl,⟨.inl rfl,rfl,rfl,rfl,trivial⟩,rfl,rfl,rfl,rfl⟩ ?_⟩
 have h1:HQ (insQ q 1 ⟨5,0⟩) ([⟨1,true,⟨5,0⟩⟩]:List Op) 9 10:=(ins_all (t:=1) (x:=⟨5,0⟩) h0 (by decide) (by decide)).2.2.1
 generalize(insQ q 1 ⟨5,0⟩)=q1 at h1 ⊢;refine rxS_ok (T:=TAw) [[1,1,1,1,1]] TAw_ok mixed 200 ?_;refine as_text (q:=let Z1:=(insL (QS.ops q1) (QS.cap q1) (2:Int) (It.mk (3:Int) (0:Int)));let Z2:=(insQ q1 (2:Int) (It.mk (3:Int) (0:Int)));Vc (QS.Ok q1/\List.length (QS.ops q1)≤59)/\At D2 Tryz.prog (codeOf Tryz.f9) 0 (retK Tryz.prog (Array.toList (Func.results Tryz.f9)) G) [.inl [1,1,1,1,1]] (SS.mk [none,some (Value.pointer (some (Addr.mk 0 0 none))),none,none,none,none,none,none,none,none,none,none,some (Value.pointer (some (Addr.mk 0 0 none))),some (Value.agg (Array.mk [Value.int IntKind.i64 3,Value.int IntKind.i64 0])),some (Value.tuple (Array.mk [Value.agg (Array.mk [Value.slice (some (Addr.mk 4 0 (some 2000))) (List.length (chI (QS.ops q1) Z1)) (List.length (chI (QS.ops q1) Z1)),Value.slice (some (Addr.mk 5 0 (some 2000))) (List.length (chI Z1 (QS.ops q1))) (List.length (chI Z1 (QS.ops q1)))]),Value.int IntKind.i64 (insE (QS.ops q1) (QS.cap q1) (2:Int) (It.mk (3:Int) (0:Int)))])),none,none,none,none,none,none,none,none,none,none,none,none,none,none,none,none,none,none,none,none,none,none,none,none,none,none,none,none,none,none,none,none,none,none,none,none,none,none,none,none,none,none,none,none,none,none,none] [] [some (.inl (80,[Value.int IntKind.i64 (QS.cap Z2),Value.pointer (some (Addr.mk 1 0 none)),Value.pointer (some (Addr.mk 2 0 none)),Value.pointer (some (Addr.mk 3 0 none))])),some (.inr (.inr (.inr (.inl (G8.Rt.tree (QS.mt Z2)))))),some (.inr (.inr (.inr (.inr (G9.Rt.tree (QS.pr Z2)))))),some (.inr (.inr (.inr (.inr (G9.Rt.tree (QS.gn Z2)))))),some (.inr (.inl (31,iR (chI (QS.ops q1) Z1)))),some (.inr (.inl (31,iR (chI Z1 (QS.ops q1)))))])) ?_ (by kernel_rfl)
 intro Z1 Z2;subst Z2 Z1;refine⟨⟨(h1.mono (by decide)).ok,by rw[h1.ops];decide⟩,At.fit [1] [.pointer (some ⟨0,0,none⟩)] [bQ (insQ q1 2 ⟨3,0⟩),oM (insQ q1 2 ⟨3,0⟩).mt,oS (insQ q1 2 ⟨3,0⟩).pr,oS (insQ q1 2 ⟨3,0⟩).gn] 62 ⟨rfl,rfl,by simp⟩ ⟨[0,1,2,3],rfl,⟨.inl rfl,rfl,rfl,rfl,trivial⟩,rfl,rfl,rfl,rfl⟩ ?_⟩
 have h2:HQ (insQ q1 2 ⟨3,0⟩) ([⟨1,true,⟨5,0⟩⟩,⟨2,true,⟨3,0⟩⟩]:List Op) 9 20:=(ins_all (t:=2) (x:=⟨3,0⟩) h1 (by decide) (by decide)).2.2.1
 generalize(insQ q1 2 ⟨3,0⟩)=q2 at h2 ⊢;refine rxS_ok (T:=TAw) [[1,1,1,1,1,1]] TAw_ok mixed 200 ?_;refine as_text (q:=let Z1:=(List.length (chI (QS.ops q2) (delL (QS.ops q2) (QS.cap q2) (3:Int))));let Z2:=(List.length (chI (delL (QS.ops q2) (QS.cap q2) (3:Int)) (QS.ops q2)));Vc (QS.Ok q2/\List.length (QS.ops q2)≤59)/\At D2 Tryz.prog (codeOf Tryz.f9) 0 (retK Tryz.prog (Array.toList (Func.results Tryz.f9)) G) [.inl [1,1,1,1,1,1]] (SS.mk [none,some (Value.pointer (some (Addr.mk 0 0 none))),none,none,none,none,none,none,none,none,none,none,none,none,none,some (Value.pointer (some (Addr.mk 0 0 none))),some (Value.tuple (Array.mk [Value.agg (Array.mk [Value.slice (some (Addr.mk 4 0 (some 2000))) Z1 Z1,Value.slice (some (Addr.mk 5 0 (some 2000))) Z2 Z2]),Value.int IntKind.i64 (delE (QS.ops q2) (QS.cap q2) (3:Int))])),none,none,none,none,none,none,none,none,none,none,none,none,none,none,none,none,none,none,none,none,none,none,none,none,none,none,none,none,none,none,none,none,none,none,none,none,none,none,none,none,none,none,none,none,none] [] [some (.inl (80,[Value.int IntKind.i64 (QS.cap (delQ q2 (3:Int))),Value.pointer (some (Addr.mk 1 0 none)),Value.pointer (some (Addr.mk 2 0 none)),Value.pointer (some (Addr.mk 3 0 none))])),some (.inr (.inr (.inr (.inl (G8.Rt.tree (QS.mt (delQ q2 (3:Int)))))))),some (.inr (.inr (.inr (.inr (G9.Rt.tree (QS.pr (delQ q2 (3:Int)))))))),some (.inr (.inr (.inr (.inr (G9.Rt.tree (QS.gn (delQ q2 (3:Int)))))))),some (.inr (.inl (31,iR (chI (QS.ops q2) (delL (QS.ops q2) (QS.cap q2) (3:Int)))))),some (.inr (.inl (31,iR (chI (delL (QS.ops q2) (QS.cap q2) (3:Int)) (QS.ops q2)))))])) ?_ (by kernel_rfl)
 intro Z1 Z2;subst Z2 Z1;refine⟨⟨(h2.mono (by decide)).ok,by rw[h2.ops];decide⟩,At.fit [1] [.pointer (some ⟨0,0,none⟩)] [bQ (delQ q2 3),oM (delQ q2 3).mt,oS (delQ q2 3).pr,oS (delQ q2 3).gn] 62 ⟨rfl,rfl,by simp⟩ ⟨[0,1,2,3],rfl,⟨.inl rfl,rfl,rfl,rfl,trivial⟩,rfl,rfl,rfl,rfl⟩ ?_⟩
 have h3:HQ (delQ q2 3) ([⟨1,true,⟨5,0⟩⟩,⟨2,true,⟨3,0⟩⟩,⟨3,false,⟨0,0⟩⟩]:List Op) 9 30:=(del_all (t:=3) h2 (by decide) (by decide)).2.2.1
 generalize(delQ q2 3)=q3 at h3 ⊢;refine rxS_ok (T:=TAw) [[1,1,1,1,1,1,1]] TAw_ok mixed 200 ?_;refine as_text (q:=let Z1:=(List.length (chI (QS.ops q3) (rvkL (QS.ops q3) (2:Int))));let Z2:=(List.length (chI (rvkL (QS.ops q3) (2:Int)) (QS.ops q3)));let Z3:=(Value.tuple (Array.mk [Value.agg (Array.mk [Value.slice (some (Addr.mk 4 0 (some 2000))) Z1 Z1,Value.slice (some (Addr.mk 5 0 (some 2000))) Z2 Z2]),Value.int IntKind.i64 (rvkE (QS.ops q3) (2:Int))]));Vc (QS.Ok q3)/\At D2 Tryz.prog (codeOf Tryz.f9) 0 (retK Tryz.prog (Array.toList (Func.results Tryz.f9)) G) [.inl [1,1,1,1,1,1,1]] (SS.mk [none,some (Value.pointer (some (Addr.mk 0 0 none))),some (Value.pointer (some (Addr.mk 6 0 none))),some (Value.int IntKind.i64 (rvkE (QS.ops q3) (2:Int))),none,none,none,none,none,none,none,none,none,none,none,none,none,some Z3,some (Value.pointer (some (Addr.mk 0 0 none))),some Z3,some (Value.agg (Array.mk [Value.slice (some (Addr.mk 4 0 (some 2000))) Z1 Z1,Value.slice (some (Addr.mk 5 0 (some 2000))) Z2 Z2])),some (Value.int IntKind.i64 (rvkE (QS.ops q3) (2:Int))),none,none,none,none,none,none,none,none,none,none,none,none,none,none,none,none,none,none,none,none,none,none,none,none,none,none,none,none,none,none,none,none,none,none,none,none,none,none,none,none] [] [some (.inl (80,[Value.int IntKind.i64 (QS.cap (rvkQ q3 (2:Int))),Value.pointer (some (Addr.mk 1 0 none)),Value.pointer (some (Addr.mk 2 0 none)),Value.pointer (some (Addr.mk 3 0 none))])),some (.inr (.inr (.inr (.inl (G8.Rt.tree (QS.mt (rvkQ q3 (2:Int)))))))),some (.inr (.inr (.inr (.inr (G9.Rt.tree (QS.pr (rvkQ q3 (2:Int)))))))),some (.inr (.inr (.inr (.inr (G9.Rt.tree (QS.gn (rvkQ q3 (2:Int)))))))),some (.inr (.inl (31,iR (chI (QS.ops q3) (rvkL (QS.ops q3) (2:Int)))))),some (.inr (.inl (31,iR (chI (rvkL (QS.ops q3) (2:Int)) (QS.ops q3))))),some (.inl (59,[Value.slice (some (Addr.mk 4 0 (some 2000))) Z1 Z1,Value.slice (some (Addr.mk 5 0 (some 2000))) Z2 Z2]))])) ?_ (by kernel_rfl)
 intro Z1 Z2 Z3;subst Z3 Z2 Z1;simp only[h3.ops,show rvkE ([⟨1,true,⟨5,0⟩⟩,⟨2,true,⟨3,0⟩⟩,⟨3,false,⟨0,0⟩⟩]:List Op) 2=0 by decide,show chI ([⟨1,true,⟨5,0⟩⟩,⟨2,true,⟨3,0⟩⟩,⟨3,false,⟨0,0⟩⟩]:List Op) (rvkL ([⟨1,true,⟨5,0⟩⟩,⟨2,true,⟨3,0⟩⟩,⟨3,false,⟨0,0⟩⟩]:List Op) 2)=[] by decide,show chI (rvkL ([⟨1,true,⟨5,0⟩⟩,⟨2,true,⟨3,0⟩⟩,⟨3,false,⟨0,0⟩⟩]:List Op) 2) ([⟨1,true,⟨5,0⟩⟩,⟨2,true,⟨3,0⟩⟩,⟨3,false,⟨0,0⟩⟩]:List Op)=[⟨5,0⟩] by decide]
 refine⟨⟨(h3.mono (by decide)).ok⟩,At.fit [1,2,3] [.pointer (some ⟨0,0,none⟩),.pointer (some ⟨4,0,none⟩),.int .i64 0] [bQ (rvkQ q3 2),oM (rvkQ q3 2).mt,oS (rvkQ q3 2).pr,oS (rvkQ q3 2).gn,bCw 0 1 5 6,oI [],oI [⟨5,0⟩]] 62 ⟨rfl,rfl,by simp⟩ ⟨[0,1,2,3,6,4,5],rfl,⟨.inl rfl,rfl,rfl,rfl,.inl rfl,⟨_,rfl,.inl rfl⟩,⟨_,rfl,.inl rfl⟩,trivial⟩,rfl,rfl,rfl,rfl⟩ ?_⟩
 have h4:HQ (rvkQ q3 2) ([⟨1,true,⟨5,0⟩⟩,⟨3,false,⟨0,0⟩⟩]:List Op) 9 40:=(rvk_all (t:=2) h3 (by decide)).2.2.1
 generalize rvkQ q3 2=q4 at h4 ⊢;refine rxS_ok (T:=TAw) [[1,1,1,1,1,1,1,1]] TAw_ok mixed 200 ?_;refine as_text (q:=let Z5:=Value.int IntKind.i64;let Z1:=(Z5 (delE (QS.ops q4) (QS.cap q4) (0:Int)));let Z2:=(List.length (chI (QS.ops q4) (delL (QS.ops q4) (QS.cap q4) (0:Int))));let Z3:=(List.length (chI (delL (QS.ops q4) (QS.cap q4) (0:Int)) (QS.ops q4)));let Z4:=(Value.tuple (Array.mk [Value.agg (Array.mk [Value.slice (some (Addr.mk 7 0 (some 2000))) Z2 Z2,Value.slice (some (Addr.mk 8 0 (some 2000))) Z3 Z3]),Z5 (delE (QS.ops q4) (QS.cap q4) (0:Int))]));Vc (QS.Ok q4/\List.length (QS.ops q4)≤59)/\At D2 Tryz.prog (codeOf Tryz.f9) 0 (retK Tryz.prog (Array.toList (Func.results Tryz.f9)) G) [.inl [1,1,1,1,1,1,1,1]] (SS.mk [none,some (Value.pointer (some (Addr.mk 0 0 none))),some (Value.pointer (some (Addr.mk 4 0 none))),some (Z5 0),some (Value.pointer (some (Addr.mk 9 0 none))),some Z1,none,none,none,none,none,none,none,none,none,none,none,none,none,none,none,none,some Z4,some (Value.pointer (some (Addr.mk 0 0 none))),some Z4,some (Value.agg (Array.mk [Value.slice (some (Addr.mk 7 0 (some 2000))) Z2 Z2,Value.slice (some (Addr.mk 8 0 (some 2000))) Z3 Z3])),some Z1,none,none,none,none,none,none,none,none,none,none,none,none,none,none,none,none,none,none,none,none,none,none,none,none,none,none,none,none,none,none,none,none,none,none,none] [] [some (.inl (80,[Z5 (QS.cap (delQ q4 (0:Int))),Value.pointer (some (Addr.mk 1 0 none)),Value.pointer (some (Addr.mk 2 0 none)),Value.pointer (some (Addr.mk 3 0 none))])),some (.inr (.inr (.inr (.inl (G8.Rt.tree (QS.mt (delQ q4 (0:Int)))))))),some (.inr (.inr (.inr (.inr (G9.Rt.tree (QS.pr (delQ q4 (0:Int)))))))),some (.inr (.inr (.inr (.inr (G9.Rt.tree (QS.gn (delQ q4 (0:Int)))))))),some (.inl (59,[Value.slice (some (Addr.mk 5 0 (some 2000))) 0 0,Value.slice (some (Addr.mk 6 0 (some 2000))) 1 1])),some (.inr (.inl (31,Row.mk [Z5 0,Z5 0] 0 [Col.mk [] [] [],Col.mk [] [] []]))),some (.inr (.inl (31,Row.mk [Z5 0,Z5 0] 1 [Col.mk [(5:Int)] [] [],Col.mk [(0:Int)] [] []]))),some (.inr (.inl (31,iR (chI (QS.ops q4) (delL (QS.ops q4) (QS.cap q4) (0:Int)))))),some (.inr (.inl (31,iR (chI (delL (QS.ops q4) (QS.cap q4) (0:Int)) (QS.ops q4))))),some (.inl (59,[Value.slice (some (Addr.mk 7 0 (some 2000))) Z2 Z2,Value.slice (some (Addr.mk 8 0 (some 2000))) Z3 Z3]))])) ?_ (by kernel_rfl)
 intro Z5 Z1 Z2 Z3 Z4;subst Z4 Z3 Z2 Z1 Z5;simp only[h4.ops,h4.cap,show delE ([⟨1,true,⟨5,0⟩⟩,⟨3,false,⟨0,0⟩⟩]:List Op) 9 0=0 by decide,show chI ([⟨1,true,⟨5,0⟩⟩,⟨3,false,⟨0,0⟩⟩]:List Op) (delL ([⟨1,true,⟨5,0⟩⟩,⟨3,false,⟨0,0⟩⟩]:List Op) 9 0)=[] by decide,show chI (delL ([⟨1,true,⟨5,0⟩⟩,⟨3,false,⟨0,0⟩⟩]:List Op) 9 0) ([⟨1,true,⟨5,0⟩⟩,⟨3,false,⟨0,0⟩⟩]:List Op)=[] by decide]
 refine⟨⟨(h4.mono (by decide)).ok,by decide⟩,At.fit [1,2,3,4,5] [.pointer (some ⟨0,0,none⟩),.pointer (some ⟨4,0,none⟩),.int .i64 0,.pointer (some ⟨7,0,none⟩),.int .i64 0] [bQ (delQ q4 0),oM (delQ q4 0).mt,oS (delQ q4 0).pr,oS (delQ q4 0).gn,bCw 0 1 5 6,oI [],oI [⟨5,0⟩],bCw 0 0 8 9,oI [],oI []] 62 ⟨rfl,rfl,by simp⟩ ⟨[0,1,2,3,4,5,6,9,7,8],rfl,⟨.inl rfl,rfl,rfl,rfl,.inl rfl,⟨_,rfl,.inl rfl⟩,⟨_,rfl,.inl rfl⟩,.inl rfl,⟨_,rfl,.inl rfl⟩,⟨_,rfl,.inl rfl⟩,trivial⟩,rfl,rfl,rfl,rfl⟩ ?_⟩
 have h5:HQ (delQ q4 0) ([⟨0,false,⟨0,0⟩⟩,⟨1,true,⟨5,0⟩⟩,⟨3,false,⟨0,0⟩⟩]:List Op) 9 50:=(del_all (t:=0) h4 (by decide) (by decide)).2.2.1
 generalize delQ q4 0=q5 at h5 ⊢;refine rx_ok (T:=TAw) TAw_ok mixed 200 ?_;refine as_text (q:=let Z1:=Value.pointer (some (Addr.mk 2 0 none));let Z2:=Value.pointer (some (Addr.mk 3 0 none));let Z3:=Value.pointer (some (Addr.mk 1 0 none));let Z4:=Value.int IntKind.i64;(true=true->(true=true->(true=true->Vc ((0:Int)≤(0:Int)/\(0:Int)<(1:Int)/\1≤1)/\Vc (0<1)/\(true=true->Vc (fits (0:Int))/\(true=true->Vc (QS.Ok q5)/\Post (G (Value.bool (exc (QS.ops q5)==(1:Int))) [some (.inl (80,[Z4 (QS.cap (excQ q5)),Z3,Z1,Z2])),some (.inr (.inr (.inr (.inl (G8.Rt.tree (QS.mt (excQ q5))))))),some (.inr (.inr (.inr (.inr (G9.Rt.tree (QS.pr (excQ q5))))))),some (.inr (.inr (.inr (.inr (G9.Rt.tree (QS.gn (excQ q5))))))),some (.inl (59,[Value.slice (some (Addr.mk 5 0 (some 2000))) 0 0,Value.slice (some (Addr.mk 6 0 (some 2000))) 1 1])),some (.inr (.inl (31,Row.mk [Z4 0,Z4 0] 0 [Col.mk [] [] [],Col.mk [] [] []]))),some (.inr (.inl (31,Row.mk [Z4 0,Z4 0] 1 [Col.mk [(5:Int)] [] [],Col.mk [(0:Int)] [] []]))),some (.inl (59,[Value.slice (some (Addr.mk 8 0 (some 2000))) 0 0,Value.slice (some (Addr.mk 9 0 (some 2000))) 0 0])),some (.inr (.inl (31,Row.mk [Z4 0,Z4 0] 0 [Col.mk [] [] [],Col.mk [] [] []]))),some (.inr (.inl (31,Row.mk [Z4 0,Z4 0] 0 [Col.mk [] [] [],Col.mk [] [] []])))]))/\(true=false->Post (G (Value.bool false) [some (.inl (80,[Z4 (QS.cap q5),Z3,Z1,Z2])),some (.inr (.inr (.inr (.inl (G8.Rt.tree (QS.mt q5)))))),some (.inr (.inr (.inr (.inr (G9.Rt.tree (QS.pr q5)))))),some (.inr (.inr (.inr (.inr (G9.Rt.tree (QS.gn q5)))))),some (.inl (59,[Value.slice (some (Addr.mk 5 0 (some 2000))) 0 0,Value.slice (some (Addr.mk 6 0 (some 2000))) 1 1])),some (.inr (.inl (31,Row.mk [Z4 0,Z4 0] 0 [Col.mk [] [] [],Col.mk [] [] []]))),some (.inr (.inl (31,Row.mk [Z4 0,Z4 0] 1 [Col.mk [(5:Int)] [] [],Col.mk [(0:Int)] [] []]))),some (.inl (59,[Value.slice (some (Addr.mk 8 0 (some 2000))) 0 0,Value.slice (some (Addr.mk 9 0 (some 2000))) 0 0])),some (.inr (.inl (31,Row.mk [Z4 0,Z4 0] 0 [Col.mk [] [] [],Col.mk [] [] []]))),some (.inr (.inl (31,Row.mk [Z4 0,Z4 0] 0 [Col.mk [] [] [],Col.mk [] [] []])))])))/\(true=false->Post (G (Value.bool false) [some (.inl (80,[Z4 (QS.cap q5),Z3,Z1,Z2])),some (.inr (.inr (.inr (.inl (G8.Rt.tree (QS.mt q5)))))),some (.inr (.inr (.inr (.inr (G9.Rt.tree (QS.pr q5)))))),some (.inr (.inr (.inr (.inr (G9.Rt.tree (QS.gn q5)))))),some (.inl (59,[Value.slice (some (Addr.mk 5 0 (some 2000))) 0 0,Value.slice (some (Addr.mk 6 0 (some 2000))) 1 1])),some (.inr (.inl (31,Row.mk [Z4 0,Z4 0] 0 [Col.mk [] [] [],Col.mk [] [] []]))),some (.inr (.inl (31,Row.mk [Z4 0,Z4 0] 1 [Col.mk [(5:Int)] [] [],Col.mk [(0:Int)] [] []]))),some (.inl (59,[Value.slice (some (Addr.mk 8 0 (some 2000))) 0 0,Value.slice (some (Addr.mk 9 0 (some 2000))) 0 0])),some (.inr (.inl (31,Row.mk [Z4 0,Z4 0] 0 [Col.mk [] [] [],Col.mk [] [] []]))),some (.inr (.inl (31,Row.mk [Z4 0,Z4 0] 0 [Col.mk [] [] [],Col.mk [] [] []])))])))/\(true=false->Post (G (Value.bool false) [some (.inl (80,[Z4 (QS.cap q5),Z3,Z1,Z2])),some (.inr (.inr (.inr (.inl (G8.Rt.tree (QS.mt q5)))))),some (.inr (.inr (.inr (.inr (G9.Rt.tree (QS.pr q5)))))),some (.inr (.inr (.inr (.inr (G9.Rt.tree (QS.gn q5)))))),some (.inl (59,[Value.slice (some (Addr.mk 5 0 (some 2000))) 0 0,Value.slice (some (Addr.mk 6 0 (some 2000))) 1 1])),some (.inr (.inl (31,Row.mk [Z4 0,Z4 0] 0 [Col.mk [] [] [],Col.mk [] [] []]))),some (.inr (.inl (31,Row.mk [Z4 0,Z4 0] 1 [Col.mk [(5:Int)] [] [],Col.mk [(0:Int)] [] []]))),some (.inl (59,[Value.slice (some (Addr.mk 8 0 (some 2000))) 0 0,Value.slice (some (Addr.mk 9 0 (some 2000))) 0 0])),some (.inr (.inl (31,Row.mk [Z4 0,Z4 0] 0 [Col.mk [] [] [],Col.mk [] [] []]))),some (.inr (.inl (31,Row.mk [Z4 0,Z4 0] 0 [Col.mk [] [] [],Col.mk [] [] []])))])))/\(true=false->Post (G (Value.bool false) [some (.inl (80,[Z4 (QS.cap q5),Z3,Z1,Z2])),some (.inr (.inr (.inr (.inl (G8.Rt.tree (QS.mt q5)))))),some (.inr (.inr (.inr (.inr (G9.Rt.tree (QS.pr q5)))))),some (.inr (.inr (.inr (.inr (G9.Rt.tree (QS.gn q5)))))),some (.inl (59,[Value.slice (some (Addr.mk 5 0 (some 2000))) 0 0,Value.slice (some (Addr.mk 6 0 (some 2000))) 1 1])),some (.inr (.inl (31,Row.mk [Z4 0,Z4 0] 0 [Col.mk [] [] [],Col.mk [] [] []]))),some (.inr (.inl (31,Row.mk [Z4 0,Z4 0] 1 [Col.mk [(5:Int)] [] [],Col.mk [(0:Int)] [] []]))),some (.inl (59,[Value.slice (some (Addr.mk 8 0 (some 2000))) 0 0,Value.slice (some (Addr.mk 9 0 (some 2000))) 0 0])),some (.inr (.inl (31,Row.mk [Z4 0,Z4 0] 0 [Col.mk [] [] [],Col.mk [] [] []]))),some (.inr (.inl (31,Row.mk [Z4 0,Z4 0] 0 [Col.mk [] [] [],Col.mk [] [] []])))])))/\(true=false->Post (G (Value.bool false) [some (.inl (80,[Z4 (QS.cap q5),Z3,Z1,Z2])),some (.inr (.inr (.inr (.inl (G8.Rt.tree (QS.mt q5)))))),some (.inr (.inr (.inr (.inr (G9.Rt.tree (QS.pr q5)))))),some (.inr (.inr (.inr (.inr (G9.Rt.tree (QS.gn q5)))))),some (.inl (59,[Value.slice (some (Addr.mk 5 0 (some 2000))) 0 0,Value.slice (some (Addr.mk 6 0 (some 2000))) 1 1])),some (.inr (.inl (31,Row.mk [Z4 0,Z4 0] 0 [Col.mk [] [] [],Col.mk [] [] []]))),some (.inr (.inl (31,Row.mk [Z4 0,Z4 0] 1 [Col.mk [(5:Int)] [] [],Col.mk [(0:Int)] [] []]))),some (.inl (59,[Value.slice (some (Addr.mk 8 0 (some 2000))) 0 0,Value.slice (some (Addr.mk 9 0 (some 2000))) 0 0])),some (.inr (.inl (31,Row.mk [Z4 0,Z4 0] 0 [Col.mk [] [] [],Col.mk [] [] []]))),some (.inr (.inl (31,Row.mk [Z4 0,Z4 0] 0 [Col.mk [] [] [],Col.mk [] [] []])))]))) ?_ (by kernel_rfl)
 intro Z1 Z2 Z3 Z4;subst Z4 Z3 Z2 Z1;simp only[h5.ops];refine⟨fun _=>?_,fun h=>by cases h⟩
 refine⟨fun _=>?_,fun h=>by cases h⟩
 refine⟨fun _=>⟨⟨by decide,by decide,by decide⟩,⟨by decide⟩,?_⟩,fun h=>by cases h⟩
 refine⟨fun _=>⟨⟨by decide,by decide⟩,?_⟩,fun h=>by cases h⟩
 refine⟨fun _=>⟨⟨(h5.mono (by decide)).ok⟩,⟨?_⟩⟩,fun h=>by cases h⟩
 rw[show(exc ([⟨0,false,⟨0,0⟩⟩,⟨1,true,⟨5,0⟩⟩,⟨3,false,⟨0,0⟩⟩]:List Op)==1)=true by decide]
 exact hG _
def awkP:Prim Rt:=fun args hh=>match args,hh with
 |[],[]=>some ⟨True,.bool true,none,hh,[],[]⟩
 |_,_=>none
theorem awk_ok:ConOk D2 Tryz.prog 9 (con1 awkP):=by
 refine prK Tryz.f9 fun args hh x hx=>?_
 unfold awkP at hx;split at hx
 ·injection hx with hx
  subst hx;refine⟨Nat.le_refl _,noLit rfl,(fun hw=>rfl),fun _ hv=>?_⟩
  exact awk_run fun rest=>⟨[],rfl,rfl,trivial,rfl,rfl,rfl,rfl⟩
 ·cases hx
abbrev az:Act:=⟨0,0,false,⟨0,0⟩⟩
abbrev aR (l:List Act):Row:=⟨[.int .i64 0,.int .i64 0,.bool false,.int .i64 0,.int .i64 0],l.length,[⟨l.map Act.k,[],[]⟩,⟨l.map Act.t,[],[]⟩,⟨[],l.map Act.d,[]⟩,⟨l.map fun a=>a.x.k,[],[]⟩,⟨l.map fun a=>a.x.i,[],[]⟩]⟩
abbrev vA (l:List Act):Option (SB Rt):=some (.inr (.inr (.inl (aR l))))
theorem gA {β:Type} {l:List Act} {i:Nat} (f:Act->β) (d:β) (h:f az=d):(l.map f).getD i d=f (l.getD i az):=by
 subst h;rw[List.getD_eq_getElem?_getD,List.getD_eq_getElem?_getD,List.getElem?_map];cases l[i]?<;>rfl
abbrev tmA:List Value:=[.int .i64 0,.int .i64 0,.bool false,.int .i64 0,.int .i64 0]
theorem aol_i {c:Col} {n:Nat} (h:c=colI c.i) (l:c.i.length=n):c=⟨(List.range n).map fun i=>c.i.getD i 0,[],[]⟩:=by
 have e:(List.range n).map (fun i=>c.i.getD i 0)=c.i:=by
  subst l;exact range_get fun i hi=>by rw[List.getD_eq_getElem?_getD,List.getElem?_eq_getElem hi];rfl
 rw[e];exact h
theorem aol_b {c:Col} {n:Nat} (h:c=colB c.b) (l:c.b.length=n):c=⟨[],(List.range n).map fun i=>c.b.getD i false,[]⟩:=by
 have e:(List.range n).map (fun i=>c.b.getD i false)=c.b:=by
  subst l;exact range_get fun i hi=>by rw[List.getD_eq_getElem?_getD,List.getElem?_eq_getElem hi];rfl
 rw[e];exact h
theorem rowA_of {r:Row} (hr:r.tm=tmA) (hw:wfCols tmA r.cols r.n):∃ l,r=aR l:=by
 obtain⟨tm,n,cols⟩:=r;simp only at hr hw;subst hr
 match cols,hw with
 |[a,b,c,d,e],hw =>
  simp only[wfCols] at hw;obtain⟨h1,h2,h3,h4,h5⟩:=hw;refine⟨(List.range n).map fun i=>⟨a.i.getD i 0,b.i.getD i 0,c.b.getD i false,⟨d.i.getD i 0,e.i.getD i 0⟩⟩,?_⟩
  unfold aR;simp only[List.map_map,Function.comp_def,List.length_map,List.length_range];rw[← aol_i h1.1 h1.2.1,← aol_i h2.1 h2.2.1,← aol_b h3.1 h3.2,← aol_i h4.1 h4.2.1,← aol_i h5.1.1 h5.1.2.1]
abbrev bQi (i:Nat) (q:QS):Option (SB Rt):=some (.inl (80,[.int .i64 q.cap,.pointer (some ⟨i,0,none⟩),.pointer (some ⟨i+1,0,none⟩),.pointer (some ⟨i+2,0,none⟩)]))
def opA (c:Int) (acs:List Act):Nat->List Op
 |0=>[]
 |i+1=>doL (opA c acs i) (capN c) (acs.getD i az)
theorem opA_len (c:Int) (acs:List Act):∀ i,(opA c acs i).length≤i
 |0=>Nat.le_refl _
 |i+1=>Nat.le_trans do_len (Nat.succ_le_succ (opA_len c acs i))
def z1':Nat->Bool:=fun j=>Nat.beq j 1
open Go.RowKit
def heightP {R:Type}:Prim R:=fun args hh=>match args,hh with
 |[.int .i64 n],[]=>some ⟨0≤n/\n≤100000,.int .i64 (Gv.hgt n.toNat),none,hh,[],[]⟩
 |_,_=>none
theorem height_ok {R:Type} {D:Res R}:ConOk D Tryz.prog 29 (con1 heightP):=by
 refine prK Tryz.f29 fun args hh x hx=>?_
 unfold heightP at hx;split at hx
 ·rename_i n;injection hx with hx
  subst hx;refine q4 fun _ hv=>?_
  obtain⟨h0,h1⟩:=hv;generalize hG:Rx.Ends (R:=R) _ _=G;refine rx_ok (T:=[]) trivial mixed 200 ?_;refine as_text (q:=let Z1:=Value.int IntKind.i64;Vc (fits (n+(1:Int)))/\At D Tryz.prog (codeOf Tryz.f29) 0 (retK Tryz.prog (Array.toList (Func.results Tryz.f29)) G) [.inl [1,1,0,1,0],.inr (.inl 0),.inl [1,1,1]] (SS.mk [some (Z1 n),none,some (Z1 0),some (Z1 2),some (Z1 (n+(1:Int))),some (Z1 n),some (Z1 (n+(1:Int))),none,none,none,none,none,none,none] [] [])) ?_ (by kernel_rfl)
  intro Z1;subst Z1;refine⟨⟨⟨by omega,by omega⟩⟩,?_⟩
  refine loop_atM (by kernel_rfl) (ι:=Nat) (fun k=>1≤k/\k≤n.toNat+1) [0,3,4] (fun k=>[.int .i64 n,.int .i64 (2+3*Nat.log2 (n.toNat+1)-3*Nat.log2 k),.int .i64 k]) (fun k=>[]) (fun k=>k) 14 (fun i hi=>⟨rfl,rfl,Nat.le_refl _⟩) ⟨n.toNat+1,⟨by omega,Nat.le_refl _⟩,⟨[],?_,trivial,rfl,rfl,rfl,rfl⟩⟩ fun i hi=>?_
  ·have e:2+3*(Nat.log2 (n.toNat+1):Int)-3*(Nat.log2 (n.toNat+1):Int)=2:=by omega
   have e2:((n.toNat+1:Nat):Int)=n+1:=by omega
   rw[e,e2]
   rfl
  refine rx_ok (T:=[]) trivial mixed 200 ?_;refine as_text (q:=let Z2:=Value.int IntKind.i64;let Z1:=(↑(Nat.log2 (Int.toNat n+1)):Int);(decide ((↑i:Int)>(1:Int))=true->Vc (fits ((2:Int)+(3:Int)*Z1-(3:Int)*(↑(Nat.log2 i):Int)+(3:Int)))/\Vc ((2:Int)≠(0:Int)/\fits (Int.tdiv (↑i:Int) (2:Int)))/\Post (∃ j,(1≤j/\j≤Int.toNat n+1)/\j<i/\FitsM R 0 14 [0,3,4] [Z2 n,Z2 ((2:Int)+(3:Int)*Z1-(3:Int)*(↑(Nat.log2 j):Int)),Z2 (↑j:Int)] [] [some (Z2 n),some (Z2 ((2:Int)+(3:Int)*Z1-(3:Int)*(↑(Nat.log2 i):Int)+(3:Int))),some (Z2 (Int.tdiv (↑i:Int) (2:Int)))] [] 14))/\(decide ((↑i:Int)>(1:Int))=false->Post (G (Z2 ((2:Int)+(3:Int)*Z1-(3:Int)*(↑(Nat.log2 i):Int))) []))) ?_ (by kernel_rfl)
  intro Z2 Z1;subst Z1 Z2;have hd:(i:Int).tdiv 2=((i / 2:Nat):Int):=by rw[Int.tdiv_eq_ediv_of_nonneg (by omega)];omega
  have hb:Nat.log2 i≤Nat.log2 (n.toNat+1):=(Nat.le_log2 (by omega)).2 (Nat.le_trans (Nat.log2_self_le (by omega)) hi.2)
  have hs:2≤i->Nat.log2 i=Nat.log2 (i / 2)+1:=fun h=>by conv=>lhs;rw[Nat.log2_def,if_pos h]
  have hz:i=1->Nat.log2 i=0:=fun h=>by rw[h];rfl
  have hL:Nat.log2 (n.toNat+1)≤100001:=Nat.le_trans (Nat.log2_le_self _) (by omega)
  repeat' (first|apply And.intro|apply Vc.mk|apply fits.mk|intro h|apply Post.mk)
  all_goals (try simp only[sB] at *)
  all_goals first|contradiction|omega|exact vb1 ‹_›|exact vb2 ‹_›|exact vb3 ‹_›|exact⟨rfl,by omega⟩|exact rfl|(simp[*,-List.getD_eq_getElem?_getD];done)|skip
  all_goals first
   |(have h2:=hs (by omega);refine⟨i / 2,⟨by omega,by omega⟩,by omega,⟨[],?_,trivial,rfl,rfl,rfl,rfl⟩⟩;have e:2+3*(Nat.log2 (n.toNat+1):Int)-3*(Nat.log2 i:Int)+3=2+3*(Nat.log2 (n.toNat+1):Int)-3*(Nat.log2 (i / 2):Int):=(by omega);rw[hd,e];rfl)
   |(have e:2+3*(Nat.log2 (n.toNat+1):Int)-3*(Nat.log2 i:Int)=((Gv.hgt n.toNat:Nat):Int):=(by rw[hz (by omega)];unfold Gv.hgt;omega);subst hG;rw[e];exact⟨[],rfl,rfl,trivial,rfl,rfl,rfl,rfl⟩)
 ·cases hx
def TLv:Tab Rt:=[(9,liftC zN 2 (con1 awkP)),(27,liftV z1' 2 (con1 timP)),(28,liftC zN 2 (con1 restP)),(10,liftC zN 2 (con1 qnewP)),(19,liftC zN 2 (con1 qinsP)),(20,liftC zN 2 (con1 qdelP)),(22,liftC zN 2 (con1 qrvkP)),(26,liftC zN 2 (con1 qvisP)),(24,liftC zN 2 (con1 qopsP)),(29,liftC zN 2 (con1 heightP))]
theorem TLv_ok:TabOk D2 Tryz.prog TLv:=⟨liftC_ok _ _ awk_ok,liftV_ok _ _ tim_ok,liftC_ok _ _ rest_ok,liftC_ok _ _ qnew_ok,liftC_ok _ _ qins_ok,liftC_ok _ _ qdel_ok,liftC_ok _ _ qrvk_ok,liftC_ok _ _ qvis_ok,liftC_ok _ _ qops_ok,liftC_ok _ _ height_ok,trivial⟩
def stV (acs:List Act):Nat->QS
 |0=>newQ 60
 |i+1=>opsQ (doQ (stV acs i) (acs.getD i az))
theorem stV_hq (acs:List Act):∀ i,i≤60->HQ (stV acs i) (opA 60 acs i) 60 (20*i)
 |0,_=>new_hq 60
 |i+1,h=>by
  have l:=opA_len 60 acs i;exact(ops_hq (do_hq (a:=acs.getD i az) (stV_hq acs i (by omega)) (by omega) (by omega)).1 (by omega)).mono (by omega)
theorem visits_run {G:Value->Hp Rt->Prop} {acs:List Act} (hG:∀ hp,G (.bool true) hp):At D2 Tryz.prog (codeOf Tryz.f7) 1 (retK Tryz.prog Tryz.f7.results.toList G) [.inl []] ⟨someL [.slice (some ⟨0,0,some 5000⟩) acs.length 0]++List.replicate (Tryz.f7.ntmps-1) none,[],[vA acs]⟩:=by
 refine rx_ok (T:=TLv) TLv_ok mixed 200 ?_;refine as_text (q:=let Z3:=Value.int IntKind.i64;let Z1:=(G (Value.bool true) [some (.inr (.inr (.inl (aR acs))))]);let Z2:=(Value.slice (some (Addr.mk 0 0 (some 5000))) (List.length acs) 0);Vc True/\(false=false->(decide ((↑(List.length acs):Int)>(60:Int))=true->Vc True/\Post Z1)/\(decide ((↑(List.length acs):Int)>(60:Int))=false->Vc True/\At D2 Tryz.prog (codeOf Tryz.f7) 1 (retK Tryz.prog (Array.toList (Func.results Tryz.f7)) G) [.inl [1,1,1,1,0,1,0],.inr (.inl 0),.inl [1,1,1,1,1]] (SS.mk [some Z2,none,some (Value.bool false),some (Value.pointer (some (Addr.mk 1 0 none))),some (Value.slice (some (Addr.mk 5 0 (some 4000))) 0 0),some (Z3 0),none,none,none,some (Value.bool true),some (Value.bool false),some (Value.bool false),some Z2,some (Z3 (↑(List.length acs):Int)),some (Value.bool (decide ((↑(List.length acs):Int)>(60:Int)))),some (Value.bool false),none,some (Value.pointer (some (Addr.mk 1 0 none))),none,none,none,none,none,none,none,none,none,none,none,none,none,none,none,none,none,none,none,none,none,none,none,none,none,none,none,none,none,none,none,none,none,none,none,none,none,none,none,none,none,none,none,none,none,none,none,none,none,none,none,none,none] [(15,false),(11,false),(2,false)] [some (.inr (.inr (.inl (aR acs)))),some (.inl (80,[Z3 60,Value.pointer (some (Addr.mk 2 0 none)),Value.pointer (some (Addr.mk 3 0 none)),Value.pointer (some (Addr.mk 4 0 none))])),some (.inr (.inr (.inr (.inl (G8.Rt.tree (QS.mt (newQ (60:Int)))))))),some (.inr (.inr (.inr (.inr (G9.Rt.tree (QS.pr (newQ (60:Int)))))))),some (.inr (.inr (.inr (.inr (G9.Rt.tree (QS.gn (newQ (60:Int)))))))),some (.inr (.inl (45,Row.mk [Z3 0,Value.bool false,Z3 0,Z3 0] 0 [Col.mk [] [] [],Col.mk [] [] [],Col.mk [] [] [],Col.mk [] [] []])))])))/\(false=true->Vc True/\Post Z1)) ?_ (by kernel_rfl)
 intro Z3 Z1 Z2;subst Z2 Z1 Z3;refine⟨⟨trivial⟩,fun _=>⟨fun _=>⟨⟨trivial⟩,⟨hG _⟩⟩,fun h60=>⟨⟨trivial⟩,?_⟩⟩,fun h=>by cases h⟩
 have h60:acs.length≤60:=by have:=of_decide_eq_false h60;omega
 refine loop_atM (by kernel_rfl) (ι:=Nat) (fun i=>i≤acs.length) [0,3,4,5] (fun i=>[.slice (some ⟨0,0,some 5000⟩) acs.length 0,.pointer (some ⟨1,0,none⟩),.slice (some ⟨2,0,some 4000⟩) (opA 60 acs i).length 0,.int .i64 i]) (fun i=>[vA acs,bQi 3 (stV acs i),oO (opA 60 acs i),oM (stV acs i).mt,oS (stV acs i).pr,oS (stV acs i).gn]) (fun i=>acs.length-i) 71 (fun i hi=>⟨rfl,rfl,by simp⟩) ⟨0,Nat.zero_le _,⟨[0,1,5,2,3,4],rfl,⟨rfl,.inl rfl,⟨_,rfl,.inl rfl⟩,rfl,rfl,rfl,trivial⟩,rfl,rfl,rfl,rfl⟩⟩ fun i hi=>?_
 refine rx_ok (T:=TLv) TLv_ok mixed 200 ?_;refine as_text (q:=let Z14:=Value.pointer (some (Addr.mk 3 0 none));let Z15:=Value.pointer (some (Addr.mk 4 0 none));let Z16:=Value.pointer (some (Addr.mk 1 0 none));let Z17:=Value.pointer (some (Addr.mk 5 0 none));let Z18:=Value.int IntKind.i64;let Z1:=(List.length acs);let Z2:=(stV acs i);let Z3:=(opA (60:Int) acs i);let Z4:=(uO (oRx Z3 0 (List.length Z3)));let Z5:=(List.getD (List.map Act.k acs) (0+Int.toNat (↑i:Int)) (0:Int));let Z6:=(QS.ops Z2);let Z7:=(fits ((↑(Gv.hgt (Int.toNat (↑(List.length Z3):Int))):Int)+(4:Int)));let Z8:=(fits ((10000:Int)*((↑(Gv.hgt (Int.toNat (↑(List.length Z3):Int))):Int)+(4:Int))));let Z9:=(fits ((↑i:Int)+(1:Int)));let Z10:=(Value.slice (some (Addr.mk 0 0 (some 5000))) Z1 0);let Z11:=(Z16);let Z12:=(Z18 ((↑i:Int)+(1:Int)));let Z13:=(QS.vis Z2-QS.vis Z2>(10000:Int)*((↑(Gv.hgt (Int.toNat (↑(List.length Z3):Int))):Int)+(4:Int)));(decide ((↑i:Int)<(↑Z1:Int))=true->Vc (QS.Ok Z2)/\Vc ((0:Int)≤(↑i:Int)/\(↑i:Int)<(↑Z1:Int)/\0+List.length acs≤List.length acs)/\Vc (0+Int.toNat (↑i:Int)<List.length acs)/\Vc ((0+List.length Z3≤List.length Z3/\True)/\oRx Z3 0 (List.length Z3)=oR Z4/\List.length Z3=List.length Z4/\List.length Z4≤100)/\Vc ((0:Int)≤(↑i:Int)/\(↑i:Int)<(↑Z1:Int)/\0+List.length acs≤List.length acs)/\Vc (0+Int.toNat (↑i:Int)<List.length acs)/\Vc ((0:Int)<(3:Int)/\(3:Int)<(1000000:Int))/\((restI Z5 (3:Int)==(0:Int))=true->Vc ((0:Int)≤(↑i:Int)/\(↑i:Int)<(↑Z1:Int)/\0+List.length acs≤List.length acs)/\Vc (0+Int.toNat (↑i:Int)<List.length acs)/\Vc (QS.Ok Z2/\List.length Z6≤59)/\Vc (QS.Ok (insQ Z2 (timA (Act.mk Z5 (List.getD (List.map Act.t acs) (0+Int.toNat (↑i:Int)) (0:Int)) (List.getD (List.map Act.d acs) (0+Int.toNat (↑i:Int)) false) (It.mk (List.getD (List.map (fun a=>It.k (Act.x a)) acs) (0+Int.toNat (↑i:Int)) (0:Int)) (List.getD (List.map (fun a=>It.i (Act.x a)) acs) (0+Int.toNat (↑i:Int)) (0:Int)))) Z4) (It.mk (List.getD (List.map (fun a=>It.k (Act.x a)) acs) (0+Int.toNat (↑i:Int)) (0:Int)) (List.getD (List.map (fun a=>It.i (Act.x a)) acs) (0+Int.toNat (↑i:Int)) (0:Int)))))/\Vc (fits (QS.vis (insQ Z2 (timA (Act.mk Z5 (List.getD (List.map Act.t acs) (0+Int.toNat (↑i:Int)) (0:Int)) (List.getD (List.map Act.d acs) (0+Int.toNat (↑i:Int)) false) (It.mk (List.getD (List.map (fun a=>It.k (Act.x a)) acs) (0+Int.toNat (↑i:Int)) (0:Int)) (List.getD (List.map (fun a=>It.i (Act.x a)) acs) (0+Int.toNat (↑i:Int)) (0:Int)))) Z4) (It.mk (List.getD (List.map (fun a=>It.k (Act.x a)) acs) (0+Int.toNat (↑i:Int)) (0:Int)) (List.getD (List.map (fun a=>It.i (Act.x a)) acs) (0+Int.toNat (↑i:Int)) (0:Int))))-QS.vis Z2))/\Vc ((0:Int)≤(↑(List.length Z3):Int)/\(↑(List.length Z3):Int)≤(100000:Int))/\Vc Z7/\Vc Z8/\(decide (QS.vis (insQ Z2 (timA (Act.mk Z5 (List.getD (List.map Act.t acs) (0+Int.toNat (↑i:Int)) (0:Int)) (List.getD (List.map Act.d acs) (0+Int.toNat (↑i:Int)) false) (It.mk (List.getD (List.map (fun a=>It.k (Act.x a)) acs) (0+Int.toNat (↑i:Int)) (0:Int)) (List.getD (List.map (fun a=>It.i (Act.x a)) acs) (0+Int.toNat (↑i:Int)) (0:Int)))) Z4) (It.mk (List.getD (List.map (fun a=>It.k (Act.x a)) acs) (0+Int.toNat (↑i:Int)) (0:Int)) (List.getD (List.map (fun a=>It.i (Act.x a)) acs) (0+Int.toNat (↑i:Int)) (0:Int))))-QS.vis Z2>(10000:Int)*((↑(Gv.hgt (Int.toNat (↑(List.length Z3):Int))):Int)+(4:Int)))=true->Post (G (Value.bool false) [some (.inr (.inr (.inl (aR acs)))),some (.inl (80,[Z18 (QS.cap (insQ Z2 (timA (Act.mk Z5 (List.getD (List.map Act.t acs) (0+Int.toNat (↑i:Int)) (0:Int)) (List.getD (List.map Act.d acs) (0+Int.toNat (↑i:Int)) false) (It.mk (List.getD (List.map (fun a=>It.k (Act.x a)) acs) (0+Int.toNat (↑i:Int)) (0:Int)) (List.getD (List.map (fun a=>It.i (Act.x a)) acs) (0+Int.toNat (↑i:Int)) (0:Int)))) Z4) (It.mk (List.getD (List.map (fun a=>It.k (Act.x a)) acs) (0+Int.toNat (↑i:Int)) (0:Int)) (List.getD (List.map (fun a=>It.i (Act.x a)) acs) (0+Int.toNat (↑i:Int)) (0:Int))))),Z14,Z15,Z17])),some (.inr (.inl (45,oR Z3))),some (.inr (.inr (.inr (.inl (G8.Rt.tree (QS.mt (insQ Z2 (timA (Act.mk Z5 (List.getD (List.map Act.t acs) (0+Int.toNat (↑i:Int)) (0:Int)) (List.getD (List.map Act.d acs) (0+Int.toNat (↑i:Int)) false) (It.mk (List.getD (List.map (fun a=>It.k (Act.x a)) acs) (0+Int.toNat (↑i:Int)) (0:Int)) (List.getD (List.map (fun a=>It.i (Act.x a)) acs) (0+Int.toNat (↑i:Int)) (0:Int)))) Z4) (It.mk (List.getD (List.map (fun a=>It.k (Act.x a)) acs) (0+Int.toNat (↑i:Int)) (0:Int)) (List.getD (List.map (fun a=>It.i (Act.x a)) acs) (0+Int.toNat (↑i:Int)) (0:Int)))))))))),some (.inr (.inr (.inr (.inr (G9.Rt.tree (QS.pr (insQ Z2 (timA (Act.mk Z5 (List.getD (List.map Act.t acs) (0+Int.toNat (↑i:Int)) (0:Int)) (List.getD (List.map Act.d acs) (0+Int.toNat (↑i:Int)) false) (It.mk (List.getD (List.map (fun a=>It.k (Act.x a)) acs) (0+Int.toNat (↑i:Int)) (0:Int)) (List.getD (List.map (fun a=>It.i (Act.x a)) acs) (0+Int.toNat (↑i:Int)) (0:Int)))) Z4) (It.mk (List.getD (List.map (fun a=>It.k (Act.x a)) acs) (0+Int.toNat (↑i:Int)) (0:Int)) (List.getD (List.map (fun a=>It.i (Act.x a)) acs) (0+Int.toNat (↑i:Int)) (0:Int)))))))))),some (.inr (.inr (.inr (.inr (G9.Rt.tree (QS.gn (insQ Z2 (timA (Act.mk Z5 (List.getD (List.map Act.t acs) (0+Int.toNat (↑i:Int)) (0:Int)) (List.getD (List.map Act.d acs) (0+Int.toNat (↑i:Int)) false) (It.mk (List.getD (List.map (fun a=>It.k (Act.x a)) acs) (0+Int.toNat (↑i:Int)) (0:Int)) (List.getD (List.map (fun a=>It.i (Act.x a)) acs) (0+Int.toNat (↑i:Int)) (0:Int)))) Z4) (It.mk (List.getD (List.map (fun a=>It.k (Act.x a)) acs) (0+Int.toNat (↑i:Int)) (0:Int)) (List.getD (List.map (fun a=>It.i (Act.x a)) acs) (0+Int.toNat (↑i:Int)) (0:Int)))))))))),some (.inr (.inl (31,iR (chI Z6 (insL Z6 (QS.cap Z2) (timA (Act.mk Z5 (List.getD (List.map Act.t acs) (0+Int.toNat (↑i:Int)) (0:Int)) (List.getD (List.map Act.d acs) (0+Int.toNat (↑i:Int)) false) (It.mk (List.getD (List.map (fun a=>It.k (Act.x a)) acs) (0+Int.toNat (↑i:Int)) (0:Int)) (List.getD (List.map (fun a=>It.i (Act.x a)) acs) (0+Int.toNat (↑i:Int)) (0:Int)))) Z4) (It.mk (List.getD (List.map (fun a=>It.k (Act.x a)) acs) (0+Int.toNat (↑i:Int)) (0:Int)) (List.getD (List.map (fun a=>It.i (Act.x a)) acs) (0+Int.toNat (↑i:Int)) (0:Int)))))))),some (.inr (.inl (31,iR (chI (insL Z6 (QS.cap Z2) (timA (Act.mk Z5 (List.getD (List.map Act.t acs) (0+Int.toNat (↑i:Int)) (0:Int)) (List.getD (List.map Act.d acs) (0+Int.toNat (↑i:Int)) false) (It.mk (List.getD (List.map (fun a=>It.k (Act.x a)) acs) (0+Int.toNat (↑i:Int)) (0:Int)) (List.getD (List.map (fun a=>It.i (Act.x a)) acs) (0+Int.toNat (↑i:Int)) (0:Int)))) Z4) (It.mk (List.getD (List.map (fun a=>It.k (Act.x a)) acs) (0+Int.toNat (↑i:Int)) (0:Int)) (List.getD (List.map (fun a=>It.i (Act.x a)) acs) (0+Int.toNat (↑i:Int)) (0:Int)))) Z6))))]))/\(decide (QS.vis (insQ Z2 (timA (Act.mk Z5 (List.getD (List.map Act.t acs) (0+Int.toNat (↑i:Int)) (0:Int)) (List.getD (List.map Act.d acs) (0+Int.toNat (↑i:Int)) false) (It.mk (List.getD (List.map (fun a=>It.k (Act.x a)) acs) (0+Int.toNat (↑i:Int)) (0:Int)) (List.getD (List.map (fun a=>It.i (Act.x a)) acs) (0+Int.toNat (↑i:Int)) (0:Int)))) Z4) (It.mk (List.getD (List.map (fun a=>It.k (Act.x a)) acs) (0+Int.toNat (↑i:Int)) (0:Int)) (List.getD (List.map (fun a=>It.i (Act.x a)) acs) (0+Int.toNat (↑i:Int)) (0:Int))))-QS.vis Z2>(10000:Int)*((↑(Gv.hgt (Int.toNat (↑(List.length Z3):Int))):Int)+(4:Int)))=false->Vc (QS.Ok (insQ Z2 (timA (Act.mk Z5 (List.getD (List.map Act.t acs) (0+Int.toNat (↑i:Int)) (0:Int)) (List.getD (List.map Act.d acs) (0+Int.toNat (↑i:Int)) false) (It.mk (List.getD (List.map (fun a=>It.k (Act.x a)) acs) (0+Int.toNat (↑i:Int)) (0:Int)) (List.getD (List.map (fun a=>It.i (Act.x a)) acs) (0+Int.toNat (↑i:Int)) (0:Int)))) Z4) (It.mk (List.getD (List.map (fun a=>It.k (Act.x a)) acs) (0+Int.toNat (↑i:Int)) (0:Int)) (List.getD (List.map (fun a=>It.i (Act.x a)) acs) (0+Int.toNat (↑i:Int)) (0:Int)))))/\Vc Z9/\Post (∃ j,j≤List.length acs/\List.length acs-j<List.length acs-i/\FitsM Rt 1 71 [0,3,4,5] [Value.slice (some (Addr.mk 0 0 (some 5000))) Z1 0,Z16,Value.slice (some (Addr.mk 2 0 (some 4000))) (List.length (opA (60:Int) acs j)) 0,Z18 (↑j:Int)] [vA acs,bQi 3 (stV acs j),oO (opA (60:Int) acs j),oM (QS.mt (stV acs j)),oS (QS.pr (stV acs j)),oS (QS.gn (stV acs j))] [some Z10,some Z11,some (Value.slice (some (Addr.mk 8 0 (some 4000))) (List.length (QS.ops (insQ Z2 (timA (Act.mk Z5 (List.getD (List.map Act.t acs) (0+Int.toNat (↑i:Int)) (0:Int)) (List.getD (List.map Act.d acs) (0+Int.toNat (↑i:Int)) false) (It.mk (List.getD (List.map (fun a=>It.k (Act.x a)) acs) (0+Int.toNat (↑i:Int)) (0:Int)) (List.getD (List.map (fun a=>It.i (Act.x a)) acs) (0+Int.toNat (↑i:Int)) (0:Int)))) Z4) (It.mk (List.getD (List.map (fun a=>It.k (Act.x a)) acs) (0+Int.toNat (↑i:Int)) (0:Int)) (List.getD (List.map (fun a=>It.i (Act.x a)) acs) (0+Int.toNat (↑i:Int)) (0:Int)))))) 0),some Z12] [some (.inr (.inr (.inl (aR acs)))),some (.inl (80,[Z18 (QS.cap (opsQ (insQ Z2 (timA (Act.mk Z5 (List.getD (List.map Act.t acs) (0+Int.toNat (↑i:Int)) (0:Int)) (List.getD (List.map Act.d acs) (0+Int.toNat (↑i:Int)) false) (It.mk (List.getD (List.map (fun a=>It.k (Act.x a)) acs) (0+Int.toNat (↑i:Int)) (0:Int)) (List.getD (List.map (fun a=>It.i (Act.x a)) acs) (0+Int.toNat (↑i:Int)) (0:Int)))) Z4) (It.mk (List.getD (List.map (fun a=>It.k (Act.x a)) acs) (0+Int.toNat (↑i:Int)) (0:Int)) (List.getD (List.map (fun a=>It.i (Act.x a)) acs) (0+Int.toNat (↑i:Int)) (0:Int)))))),Z14,Z15,Z17])),some (.inr (.inl (45,oR Z3))),some (.inr (.inr (.inr (.inl (G8.Rt.tree (QS.mt (opsQ (insQ Z2 (timA (Act.mk Z5 (List.getD (List.map Act.t acs) (0+Int.toNat (↑i:Int)) (0:Int)) (List.getD (List.map Act.d acs) (0+Int.toNat (↑i:Int)) false) (It.mk (List.getD (List.map (fun a=>It.k (Act.x a)) acs) (0+Int.toNat (↑i:Int)) (0:Int)) (List.getD (List.map (fun a=>It.i (Act.x a)) acs) (0+Int.toNat (↑i:Int)) (0:Int)))) Z4) (It.mk (List.getD (List.map (fun a=>It.k (Act.x a)) acs) (0+Int.toNat (↑i:Int)) (0:Int)) (List.getD (List.map (fun a=>It.i (Act.x a)) acs) (0+Int.toNat (↑i:Int)) (0:Int))))))))))),some (.inr (.inr (.inr (.inr (G9.Rt.tree (QS.pr (opsQ (insQ Z2 (timA (Act.mk Z5 (List.getD (List.map Act.t acs) (0+Int.toNat (↑i:Int)) (0:Int)) (List.getD (List.map Act.d acs) (0+Int.toNat (↑i:Int)) false) (It.mk (List.getD (List.map (fun a=>It.k (Act.x a)) acs) (0+Int.toNat (↑i:Int)) (0:Int)) (List.getD (List.map (fun a=>It.i (Act.x a)) acs) (0+Int.toNat (↑i:Int)) (0:Int)))) Z4) (It.mk (List.getD (List.map (fun a=>It.k (Act.x a)) acs) (0+Int.toNat (↑i:Int)) (0:Int)) (List.getD (List.map (fun a=>It.i (Act.x a)) acs) (0+Int.toNat (↑i:Int)) (0:Int))))))))))),some (.inr (.inr (.inr (.inr (G9.Rt.tree (QS.gn (opsQ (insQ Z2 (timA (Act.mk Z5 (List.getD (List.map Act.t acs) (0+Int.toNat (↑i:Int)) (0:Int)) (List.getD (List.map Act.d acs) (0+Int.toNat (↑i:Int)) false) (It.mk (List.getD (List.map (fun a=>It.k (Act.x a)) acs) (0+Int.toNat (↑i:Int)) (0:Int)) (List.getD (List.map (fun a=>It.i (Act.x a)) acs) (0+Int.toNat (↑i:Int)) (0:Int)))) Z4) (It.mk (List.getD (List.map (fun a=>It.k (Act.x a)) acs) (0+Int.toNat (↑i:Int)) (0:Int)) (List.getD (List.map (fun a=>It.i (Act.x a)) acs) (0+Int.toNat (↑i:Int)) (0:Int))))))))))),some (.inr (.inl (31,iR (chI Z6 (insL Z6 (QS.cap Z2) (timA (Act.mk Z5 (List.getD (List.map Act.t acs) (0+Int.toNat (↑i:Int)) (0:Int)) (List.getD (List.map Act.d acs) (0+Int.toNat (↑i:Int)) false) (It.mk (List.getD (List.map (fun a=>It.k (Act.x a)) acs) (0+Int.toNat (↑i:Int)) (0:Int)) (List.getD (List.map (fun a=>It.i (Act.x a)) acs) (0+Int.toNat (↑i:Int)) (0:Int)))) Z4) (It.mk (List.getD (List.map (fun a=>It.k (Act.x a)) acs) (0+Int.toNat (↑i:Int)) (0:Int)) (List.getD (List.map (fun a=>It.i (Act.x a)) acs) (0+Int.toNat (↑i:Int)) (0:Int)))))))),some (.inr (.inl (31,iR (chI (insL Z6 (QS.cap Z2) (timA (Act.mk Z5 (List.getD (List.map Act.t acs) (0+Int.toNat (↑i:Int)) (0:Int)) (List.getD (List.map Act.d acs) (0+Int.toNat (↑i:Int)) false) (It.mk (List.getD (List.map (fun a=>It.k (Act.x a)) acs) (0+Int.toNat (↑i:Int)) (0:Int)) (List.getD (List.map (fun a=>It.i (Act.x a)) acs) (0+Int.toNat (↑i:Int)) (0:Int)))) Z4) (It.mk (List.getD (List.map (fun a=>It.k (Act.x a)) acs) (0+Int.toNat (↑i:Int)) (0:Int)) (List.getD (List.map (fun a=>It.i (Act.x a)) acs) (0+Int.toNat (↑i:Int)) (0:Int)))) Z6)))),some (.inr (.inl (45,oR (QS.ops (insQ Z2 (timA (Act.mk Z5 (List.getD (List.map Act.t acs) (0+Int.toNat (↑i:Int)) (0:Int)) (List.getD (List.map Act.d acs) (0+Int.toNat (↑i:Int)) false) (It.mk (List.getD (List.map (fun a=>It.k (Act.x a)) acs) (0+Int.toNat (↑i:Int)) (0:Int)) (List.getD (List.map (fun a=>It.i (Act.x a)) acs) (0+Int.toNat (↑i:Int)) (0:Int)))) Z4) (It.mk (List.getD (List.map (fun a=>It.k (Act.x a)) acs) (0+Int.toNat (↑i:Int)) (0:Int)) (List.getD (List.map (fun a=>It.i (Act.x a)) acs) (0+Int.toNat (↑i:Int)) (0:Int))))))))] 71)))/\((restI Z5 (3:Int)==(0:Int))=false->((restI Z5 (3:Int)==(1:Int))=true->Vc (QS.Ok Z2/\List.length Z6≤59)/\Vc (QS.Ok (delQ Z2 (timA (Act.mk Z5 (List.getD (List.map Act.t acs) (0+Int.toNat (↑i:Int)) (0:Int)) (List.getD (List.map Act.d acs) (0+Int.toNat (↑i:Int)) false) (It.mk (List.getD (List.map (fun a=>It.k (Act.x a)) acs) (0+Int.toNat (↑i:Int)) (0:Int)) (List.getD (List.map (fun a=>It.i (Act.x a)) acs) (0+Int.toNat (↑i:Int)) (0:Int)))) Z4)))/\Vc (fits (QS.vis (delQ Z2 (timA (Act.mk Z5 (List.getD (List.map Act.t acs) (0+Int.toNat (↑i:Int)) (0:Int)) (List.getD (List.map Act.d acs) (0+Int.toNat (↑i:Int)) false) (It.mk (List.getD (List.map (fun a=>It.k (Act.x a)) acs) (0+Int.toNat (↑i:Int)) (0:Int)) (List.getD (List.map (fun a=>It.i (Act.x a)) acs) (0+Int.toNat (↑i:Int)) (0:Int)))) Z4))-QS.vis Z2))/\Vc ((0:Int)≤(↑(List.length Z3):Int)/\(↑(List.length Z3):Int)≤(100000:Int))/\Vc Z7/\Vc Z8/\(decide (QS.vis (delQ Z2 (timA (Act.mk Z5 (List.getD (List.map Act.t acs) (0+Int.toNat (↑i:Int)) (0:Int)) (List.getD (List.map Act.d acs) (0+Int.toNat (↑i:Int)) false) (It.mk (List.getD (List.map (fun a=>It.k (Act.x a)) acs) (0+Int.toNat (↑i:Int)) (0:Int)) (List.getD (List.map (fun a=>It.i (Act.x a)) acs) (0+Int.toNat (↑i:Int)) (0:Int)))) Z4))-QS.vis Z2>(10000:Int)*((↑(Gv.hgt (Int.toNat (↑(List.length Z3):Int))):Int)+(4:Int)))=true->Post (G (Value.bool false) [some (.inr (.inr (.inl (aR acs)))),some (.inl (80,[Z18 (QS.cap (delQ Z2 (timA (Act.mk Z5 (List.getD (List.map Act.t acs) (0+Int.toNat (↑i:Int)) (0:Int)) (List.getD (List.map Act.d acs) (0+Int.toNat (↑i:Int)) false) (It.mk (List.getD (List.map (fun a=>It.k (Act.x a)) acs) (0+Int.toNat (↑i:Int)) (0:Int)) (List.getD (List.map (fun a=>It.i (Act.x a)) acs) (0+Int.toNat (↑i:Int)) (0:Int)))) Z4))),Z14,Z15,Z17])),some (.inr (.inl (45,oR Z3))),some (.inr (.inr (.inr (.inl (G8.Rt.tree (QS.mt (delQ Z2 (timA (Act.mk Z5 (List.getD (List.map Act.t acs) (0+Int.toNat (↑i:Int)) (0:Int)) (List.getD (List.map Act.d acs) (0+Int.toNat (↑i:Int)) false) (It.mk (List.getD (List.map (fun a=>It.k (Act.x a)) acs) (0+Int.toNat (↑i:Int)) (0:Int)) (List.getD (List.map (fun a=>It.i (Act.x a)) acs) (0+Int.toNat (↑i:Int)) (0:Int)))) Z4)))))))),some (.inr (.inr (.inr (.inr (G9.Rt.tree (QS.pr (delQ Z2 (timA (Act.mk Z5 (List.getD (List.map Act.t acs) (0+Int.toNat (↑i:Int)) (0:Int)) (List.getD (List.map Act.d acs) (0+Int.toNat (↑i:Int)) false) (It.mk (List.getD (List.map (fun a=>It.k (Act.x a)) acs) (0+Int.toNat (↑i:Int)) (0:Int)) (List.getD (List.map (fun a=>It.i (Act.x a)) acs) (0+Int.toNat (↑i:Int)) (0:Int)))) Z4)))))))),some (.inr (.inr (.inr (.inr (G9.Rt.tree (QS.gn (delQ Z2 (timA (Act.mk Z5 (List.getD (List.map Act.t acs) (0+Int.toNat (↑i:Int)) (0:Int)) (List.getD (List.map Act.d acs) (0+Int.toNat (↑i:Int)) false) (It.mk (List.getD (List.map (fun a=>It.k (Act.x a)) acs) (0+Int.toNat (↑i:Int)) (0:Int)) (List.getD (List.map (fun a=>It.i (Act.x a)) acs) (0+Int.toNat (↑i:Int)) (0:Int)))) Z4)))))))),some (.inr (.inl (31,iR (chI Z6 (delL Z6 (QS.cap Z2) (timA (Act.mk Z5 (List.getD (List.map Act.t acs) (0+Int.toNat (↑i:Int)) (0:Int)) (List.getD (List.map Act.d acs) (0+Int.toNat (↑i:Int)) false) (It.mk (List.getD (List.map (fun a=>It.k (Act.x a)) acs) (0+Int.toNat (↑i:Int)) (0:Int)) (List.getD (List.map (fun a=>It.i (Act.x a)) acs) (0+Int.toNat (↑i:Int)) (0:Int)))) Z4)))))),some (.inr (.inl (31,iR (chI (delL Z6 (QS.cap Z2) (timA (Act.mk Z5 (List.getD (List.map Act.t acs) (0+Int.toNat (↑i:Int)) (0:Int)) (List.getD (List.map Act.d acs) (0+Int.toNat (↑i:Int)) false) (It.mk (List.getD (List.map (fun a=>It.k (Act.x a)) acs) (0+Int.toNat (↑i:Int)) (0:Int)) (List.getD (List.map (fun a=>It.i (Act.x a)) acs) (0+Int.toNat (↑i:Int)) (0:Int)))) Z4)) Z6))))]))/\(decide (QS.vis (delQ Z2 (timA (Act.mk Z5 (List.getD (List.map Act.t acs) (0+Int.toNat (↑i:Int)) (0:Int)) (List.getD (List.map Act.d acs) (0+Int.toNat (↑i:Int)) false) (It.mk (List.getD (List.map (fun a=>It.k (Act.x a)) acs) (0+Int.toNat (↑i:Int)) (0:Int)) (List.getD (List.map (fun a=>It.i (Act.x a)) acs) (0+Int.toNat (↑i:Int)) (0:Int)))) Z4))-QS.vis Z2>(10000:Int)*((↑(Gv.hgt (Int.toNat (↑(List.length Z3):Int))):Int)+(4:Int)))=false->Vc (QS.Ok (delQ Z2 (timA (Act.mk Z5 (List.getD (List.map Act.t acs) (0+Int.toNat (↑i:Int)) (0:Int)) (List.getD (List.map Act.d acs) (0+Int.toNat (↑i:Int)) false) (It.mk (List.getD (List.map (fun a=>It.k (Act.x a)) acs) (0+Int.toNat (↑i:Int)) (0:Int)) (List.getD (List.map (fun a=>It.i (Act.x a)) acs) (0+Int.toNat (↑i:Int)) (0:Int)))) Z4)))/\Vc Z9/\Post (∃ j,j≤List.length acs/\List.length acs-j<List.length acs-i/\FitsM Rt 1 71 [0,3,4,5] [Value.slice (some (Addr.mk 0 0 (some 5000))) Z1 0,Z16,Value.slice (some (Addr.mk 2 0 (some 4000))) (List.length (opA (60:Int) acs j)) 0,Z18 (↑j:Int)] [vA acs,bQi 3 (stV acs j),oO (opA (60:Int) acs j),oM (QS.mt (stV acs j)),oS (QS.pr (stV acs j)),oS (QS.gn (stV acs j))] [some Z10,some Z11,some (Value.slice (some (Addr.mk 8 0 (some 4000))) (List.length (QS.ops (delQ Z2 (timA (Act.mk Z5 (List.getD (List.map Act.t acs) (0+Int.toNat (↑i:Int)) (0:Int)) (List.getD (List.map Act.d acs) (0+Int.toNat (↑i:Int)) false) (It.mk (List.getD (List.map (fun a=>It.k (Act.x a)) acs) (0+Int.toNat (↑i:Int)) (0:Int)) (List.getD (List.map (fun a=>It.i (Act.x a)) acs) (0+Int.toNat (↑i:Int)) (0:Int)))) Z4)))) 0),some Z12] [some (.inr (.inr (.inl (aR acs)))),some (.inl (80,[Z18 (QS.cap (opsQ (delQ Z2 (timA (Act.mk Z5 (List.getD (List.map Act.t acs) (0+Int.toNat (↑i:Int)) (0:Int)) (List.getD (List.map Act.d acs) (0+Int.toNat (↑i:Int)) false) (It.mk (List.getD (List.map (fun a=>It.k (Act.x a)) acs) (0+Int.toNat (↑i:Int)) (0:Int)) (List.getD (List.map (fun a=>It.i (Act.x a)) acs) (0+Int.toNat (↑i:Int)) (0:Int)))) Z4)))),Z14,Z15,Z17])),some (.inr (.inl (45,oR Z3))),some (.inr (.inr (.inr (.inl (G8.Rt.tree (QS.mt (opsQ (delQ Z2 (timA (Act.mk Z5 (List.getD (List.map Act.t acs) (0+Int.toNat (↑i:Int)) (0:Int)) (List.getD (List.map Act.d acs) (0+Int.toNat (↑i:Int)) false) (It.mk (List.getD (List.map (fun a=>It.k (Act.x a)) acs) (0+Int.toNat (↑i:Int)) (0:Int)) (List.getD (List.map (fun a=>It.i (Act.x a)) acs) (0+Int.toNat (↑i:Int)) (0:Int)))) Z4))))))))),some (.inr (.inr (.inr (.inr (G9.Rt.tree (QS.pr (opsQ (delQ Z2 (timA (Act.mk Z5 (List.getD (List.map Act.t acs) (0+Int.toNat (↑i:Int)) (0:Int)) (List.getD (List.map Act.d acs) (0+Int.toNat (↑i:Int)) false) (It.mk (List.getD (List.map (fun a=>It.k (Act.x a)) acs) (0+Int.toNat (↑i:Int)) (0:Int)) (List.getD (List.map (fun a=>It.i (Act.x a)) acs) (0+Int.toNat (↑i:Int)) (0:Int)))) Z4))))))))),some (.inr (.inr (.inr (.inr (G9.Rt.tree (QS.gn (opsQ (delQ Z2 (timA (Act.mk Z5 (List.getD (List.map Act.t acs) (0+Int.toNat (↑i:Int)) (0:Int)) (List.getD (List.map Act.d acs) (0+Int.toNat (↑i:Int)) false) (It.mk (List.getD (List.map (fun a=>It.k (Act.x a)) acs) (0+Int.toNat (↑i:Int)) (0:Int)) (List.getD (List.map (fun a=>It.i (Act.x a)) acs) (0+Int.toNat (↑i:Int)) (0:Int)))) Z4))))))))),some (.inr (.inl (31,iR (chI Z6 (delL Z6 (QS.cap Z2) (timA (Act.mk Z5 (List.getD (List.map Act.t acs) (0+Int.toNat (↑i:Int)) (0:Int)) (List.getD (List.map Act.d acs) (0+Int.toNat (↑i:Int)) false) (It.mk (List.getD (List.map (fun a=>It.k (Act.x a)) acs) (0+Int.toNat (↑i:Int)) (0:Int)) (List.getD (List.map (fun a=>It.i (Act.x a)) acs) (0+Int.toNat (↑i:Int)) (0:Int)))) Z4)))))),some (.inr (.inl (31,iR (chI (delL Z6 (QS.cap Z2) (timA (Act.mk Z5 (List.getD (List.map Act.t acs) (0+Int.toNat (↑i:Int)) (0:Int)) (List.getD (List.map Act.d acs) (0+Int.toNat (↑i:Int)) false) (It.mk (List.getD (List.map (fun a=>It.k (Act.x a)) acs) (0+Int.toNat (↑i:Int)) (0:Int)) (List.getD (List.map (fun a=>It.i (Act.x a)) acs) (0+Int.toNat (↑i:Int)) (0:Int)))) Z4)) Z6)))),some (.inr (.inl (45,oR (QS.ops (delQ Z2 (timA (Act.mk Z5 (List.getD (List.map Act.t acs) (0+Int.toNat (↑i:Int)) (0:Int)) (List.getD (List.map Act.d acs) (0+Int.toNat (↑i:Int)) false) (It.mk (List.getD (List.map (fun a=>It.k (Act.x a)) acs) (0+Int.toNat (↑i:Int)) (0:Int)) (List.getD (List.map (fun a=>It.i (Act.x a)) acs) (0+Int.toNat (↑i:Int)) (0:Int)))) Z4))))))] 71)))/\((restI Z5 (3:Int)==(1:Int))=false->((restI Z5 (3:Int)==(2:Int))=true->Vc (QS.Ok Z2)/\Vc (QS.Ok (rvkQ Z2 (timA (Act.mk Z5 (List.getD (List.map Act.t acs) (0+Int.toNat (↑i:Int)) (0:Int)) (List.getD (List.map Act.d acs) (0+Int.toNat (↑i:Int)) false) (It.mk (List.getD (List.map (fun a=>It.k (Act.x a)) acs) (0+Int.toNat (↑i:Int)) (0:Int)) (List.getD (List.map (fun a=>It.i (Act.x a)) acs) (0+Int.toNat (↑i:Int)) (0:Int)))) Z4)))/\Vc (fits (QS.vis (rvkQ Z2 (timA (Act.mk Z5 (List.getD (List.map Act.t acs) (0+Int.toNat (↑i:Int)) (0:Int)) (List.getD (List.map Act.d acs) (0+Int.toNat (↑i:Int)) false) (It.mk (List.getD (List.map (fun a=>It.k (Act.x a)) acs) (0+Int.toNat (↑i:Int)) (0:Int)) (List.getD (List.map (fun a=>It.i (Act.x a)) acs) (0+Int.toNat (↑i:Int)) (0:Int)))) Z4))-QS.vis Z2))/\Vc ((0:Int)≤(↑(List.length Z3):Int)/\(↑(List.length Z3):Int)≤(100000:Int))/\Vc Z7/\Vc Z8/\(decide (QS.vis (rvkQ Z2 (timA (Act.mk Z5 (List.getD (List.map Act.t acs) (0+Int.toNat (↑i:Int)) (0:Int)) (List.getD (List.map Act.d acs) (0+Int.toNat (↑i:Int)) false) (It.mk (List.getD (List.map (fun a=>It.k (Act.x a)) acs) (0+Int.toNat (↑i:Int)) (0:Int)) (List.getD (List.map (fun a=>It.i (Act.x a)) acs) (0+Int.toNat (↑i:Int)) (0:Int)))) Z4))-QS.vis Z2>(10000:Int)*((↑(Gv.hgt (Int.toNat (↑(List.length Z3):Int))):Int)+(4:Int)))=true->Post (G (Value.bool false) [some (.inr (.inr (.inl (aR acs)))),some (.inl (80,[Z18 (QS.cap (rvkQ Z2 (timA (Act.mk Z5 (List.getD (List.map Act.t acs) (0+Int.toNat (↑i:Int)) (0:Int)) (List.getD (List.map Act.d acs) (0+Int.toNat (↑i:Int)) false) (It.mk (List.getD (List.map (fun a=>It.k (Act.x a)) acs) (0+Int.toNat (↑i:Int)) (0:Int)) (List.getD (List.map (fun a=>It.i (Act.x a)) acs) (0+Int.toNat (↑i:Int)) (0:Int)))) Z4))),Z14,Z15,Z17])),some (.inr (.inl (45,oR Z3))),some (.inr (.inr (.inr (.inl (G8.Rt.tree (QS.mt (rvkQ Z2 (timA (Act.mk Z5 (List.getD (List.map Act.t acs) (0+Int.toNat (↑i:Int)) (0:Int)) (List.getD (List.map Act.d acs) (0+Int.toNat (↑i:Int)) false) (It.mk (List.getD (List.map (fun a=>It.k (Act.x a)) acs) (0+Int.toNat (↑i:Int)) (0:Int)) (List.getD (List.map (fun a=>It.i (Act.x a)) acs) (0+Int.toNat (↑i:Int)) (0:Int)))) Z4)))))))),some (.inr (.inr (.inr (.inr (G9.Rt.tree (QS.pr (rvkQ Z2 (timA (Act.mk Z5 (List.getD (List.map Act.t acs) (0+Int.toNat (↑i:Int)) (0:Int)) (List.getD (List.map Act.d acs) (0+Int.toNat (↑i:Int)) false) (It.mk (List.getD (List.map (fun a=>It.k (Act.x a)) acs) (0+Int.toNat (↑i:Int)) (0:Int)) (List.getD (List.map (fun a=>It.i (Act.x a)) acs) (0+Int.toNat (↑i:Int)) (0:Int)))) Z4)))))))),some (.inr (.inr (.inr (.inr (G9.Rt.tree (QS.gn (rvkQ Z2 (timA (Act.mk Z5 (List.getD (List.map Act.t acs) (0+Int.toNat (↑i:Int)) (0:Int)) (List.getD (List.map Act.d acs) (0+Int.toNat (↑i:Int)) false) (It.mk (List.getD (List.map (fun a=>It.k (Act.x a)) acs) (0+Int.toNat (↑i:Int)) (0:Int)) (List.getD (List.map (fun a=>It.i (Act.x a)) acs) (0+Int.toNat (↑i:Int)) (0:Int)))) Z4)))))))),some (.inr (.inl (31,iR (chI Z6 (rvkL Z6 (timA (Act.mk Z5 (List.getD (List.map Act.t acs) (0+Int.toNat (↑i:Int)) (0:Int)) (List.getD (List.map Act.d acs) (0+Int.toNat (↑i:Int)) false) (It.mk (List.getD (List.map (fun a=>It.k (Act.x a)) acs) (0+Int.toNat (↑i:Int)) (0:Int)) (List.getD (List.map (fun a=>It.i (Act.x a)) acs) (0+Int.toNat (↑i:Int)) (0:Int)))) Z4)))))),some (.inr (.inl (31,iR (chI (rvkL Z6 (timA (Act.mk Z5 (List.getD (List.map Act.t acs) (0+Int.toNat (↑i:Int)) (0:Int)) (List.getD (List.map Act.d acs) (0+Int.toNat (↑i:Int)) false) (It.mk (List.getD (List.map (fun a=>It.k (Act.x a)) acs) (0+Int.toNat (↑i:Int)) (0:Int)) (List.getD (List.map (fun a=>It.i (Act.x a)) acs) (0+Int.toNat (↑i:Int)) (0:Int)))) Z4)) Z6))))]))/\(decide (QS.vis (rvkQ Z2 (timA (Act.mk Z5 (List.getD (List.map Act.t acs) (0+Int.toNat (↑i:Int)) (0:Int)) (List.getD (List.map Act.d acs) (0+Int.toNat (↑i:Int)) false) (It.mk (List.getD (List.map (fun a=>It.k (Act.x a)) acs) (0+Int.toNat (↑i:Int)) (0:Int)) (List.getD (List.map (fun a=>It.i (Act.x a)) acs) (0+Int.toNat (↑i:Int)) (0:Int)))) Z4))-QS.vis Z2>(10000:Int)*((↑(Gv.hgt (Int.toNat (↑(List.length Z3):Int))):Int)+(4:Int)))=false->Vc (QS.Ok (rvkQ Z2 (timA (Act.mk Z5 (List.getD (List.map Act.t acs) (0+Int.toNat (↑i:Int)) (0:Int)) (List.getD (List.map Act.d acs) (0+Int.toNat (↑i:Int)) false) (It.mk (List.getD (List.map (fun a=>It.k (Act.x a)) acs) (0+Int.toNat (↑i:Int)) (0:Int)) (List.getD (List.map (fun a=>It.i (Act.x a)) acs) (0+Int.toNat (↑i:Int)) (0:Int)))) Z4)))/\Vc Z9/\Post (∃ j,j≤List.length acs/\List.length acs-j<List.length acs-i/\FitsM Rt 1 71 [0,3,4,5] [Value.slice (some (Addr.mk 0 0 (some 5000))) Z1 0,Z16,Value.slice (some (Addr.mk 2 0 (some 4000))) (List.length (opA (60:Int) acs j)) 0,Z18 (↑j:Int)] [vA acs,bQi 3 (stV acs j),oO (opA (60:Int) acs j),oM (QS.mt (stV acs j)),oS (QS.pr (stV acs j)),oS (QS.gn (stV acs j))] [some Z10,some Z11,some (Value.slice (some (Addr.mk 8 0 (some 4000))) (List.length (QS.ops (rvkQ Z2 (timA (Act.mk Z5 (List.getD (List.map Act.t acs) (0+Int.toNat (↑i:Int)) (0:Int)) (List.getD (List.map Act.d acs) (0+Int.toNat (↑i:Int)) false) (It.mk (List.getD (List.map (fun a=>It.k (Act.x a)) acs) (0+Int.toNat (↑i:Int)) (0:Int)) (List.getD (List.map (fun a=>It.i (Act.x a)) acs) (0+Int.toNat (↑i:Int)) (0:Int)))) Z4)))) 0),some Z12] [some (.inr (.inr (.inl (aR acs)))),some (.inl (80,[Z18 (QS.cap (opsQ (rvkQ Z2 (timA (Act.mk Z5 (List.getD (List.map Act.t acs) (0+Int.toNat (↑i:Int)) (0:Int)) (List.getD (List.map Act.d acs) (0+Int.toNat (↑i:Int)) false) (It.mk (List.getD (List.map (fun a=>It.k (Act.x a)) acs) (0+Int.toNat (↑i:Int)) (0:Int)) (List.getD (List.map (fun a=>It.i (Act.x a)) acs) (0+Int.toNat (↑i:Int)) (0:Int)))) Z4)))),Z14,Z15,Z17])),some (.inr (.inl (45,oR Z3))),some (.inr (.inr (.inr (.inl (G8.Rt.tree (QS.mt (opsQ (rvkQ Z2 (timA (Act.mk Z5 (List.getD (List.map Act.t acs) (0+Int.toNat (↑i:Int)) (0:Int)) (List.getD (List.map Act.d acs) (0+Int.toNat (↑i:Int)) false) (It.mk (List.getD (List.map (fun a=>It.k (Act.x a)) acs) (0+Int.toNat (↑i:Int)) (0:Int)) (List.getD (List.map (fun a=>It.i (Act.x a)) acs) (0+Int.toNat (↑i:Int)) (0:Int)))) Z4))))))))),some (.inr (.inr (.inr (.inr (G9.Rt.tree (QS.pr (opsQ (rvkQ Z2 (timA (Act.mk Z5 (List.getD (List.map Act.t acs) (0+Int.toNat (↑i:Int)) (0:Int)) (List.getD (List.map Act.d acs) (0+Int.toNat (↑i:Int)) false) (It.mk (List.getD (List.map (fun a=>It.k (Act.x a)) acs) (0+Int.toNat (↑i:Int)) (0:Int)) (List.getD (List.map (fun a=>It.i (Act.x a)) acs) (0+Int.toNat (↑i:Int)) (0:Int)))) Z4))))))))),some (.inr (.inr (.inr (.inr (G9.Rt.tree (QS.gn (opsQ (rvkQ Z2 (timA (Act.mk Z5 (List.getD (List.map Act.t acs) (0+Int.toNat (↑i:Int)) (0:Int)) (List.getD (List.map Act.d acs) (0+Int.toNat (↑i:Int)) false) (It.mk (List.getD (List.map (fun a=>It.k (Act.x a)) acs) (0+Int.toNat (↑i:Int)) (0:Int)) (List.getD (List.map (fun a=>It.i (Act.x a)) acs) (0+Int.toNat (↑i:Int)) (0:Int)))) Z4))))))))),some (.inr (.inl (31,iR (chI Z6 (rvkL Z6 (timA (Act.mk Z5 (List.getD (List.map Act.t acs) (0+Int.toNat (↑i:Int)) (0:Int)) (List.getD (List.map Act.d acs) (0+Int.toNat (↑i:Int)) false) (It.mk (List.getD (List.map (fun a=>It.k (Act.x a)) acs) (0+Int.toNat (↑i:Int)) (0:Int)) (List.getD (List.map (fun a=>It.i (Act.x a)) acs) (0+Int.toNat (↑i:Int)) (0:Int)))) Z4)))))),some (.inr (.inl (31,iR (chI (rvkL Z6 (timA (Act.mk Z5 (List.getD (List.map Act.t acs) (0+Int.toNat (↑i:Int)) (0:Int)) (List.getD (List.map Act.d acs) (0+Int.toNat (↑i:Int)) false) (It.mk (List.getD (List.map (fun a=>It.k (Act.x a)) acs) (0+Int.toNat (↑i:Int)) (0:Int)) (List.getD (List.map (fun a=>It.i (Act.x a)) acs) (0+Int.toNat (↑i:Int)) (0:Int)))) Z4)) Z6)))),some (.inr (.inl (45,oR (QS.ops (rvkQ Z2 (timA (Act.mk Z5 (List.getD (List.map Act.t acs) (0+Int.toNat (↑i:Int)) (0:Int)) (List.getD (List.map Act.d acs) (0+Int.toNat (↑i:Int)) false) (It.mk (List.getD (List.map (fun a=>It.k (Act.x a)) acs) (0+Int.toNat (↑i:Int)) (0:Int)) (List.getD (List.map (fun a=>It.i (Act.x a)) acs) (0+Int.toNat (↑i:Int)) (0:Int)))) Z4))))))] 71)))/\((restI Z5 (3:Int)==(2:Int))=false->Vc (QS.Ok Z2)/\Vc (fits (QS.vis Z2-QS.vis Z2))/\Vc ((0:Int)≤(↑(List.length Z3):Int)/\(↑(List.length Z3):Int)≤(100000:Int))/\Vc Z7/\Vc Z8/\(decide Z13=true->Post (G (Value.bool false) [some (.inr (.inr (.inl (aR acs)))),some (.inl (80,[Z18 (QS.cap Z2),Z14,Z15,Z17])),some (.inr (.inl (45,oR Z3))),some (.inr (.inr (.inr (.inl (G8.Rt.tree (QS.mt Z2)))))),some (.inr (.inr (.inr (.inr (G9.Rt.tree (QS.pr Z2)))))),some (.inr (.inr (.inr (.inr (G9.Rt.tree (QS.gn Z2))))))]))/\(decide Z13=false->Vc (QS.Ok Z2)/\Vc Z9/\Post (∃ j,j≤List.length acs/\List.length acs-j<List.length acs-i/\FitsM Rt 1 71 [0,3,4,5] [Value.slice (some (Addr.mk 0 0 (some 5000))) Z1 0,Z16,Value.slice (some (Addr.mk 2 0 (some 4000))) (List.length (opA (60:Int) acs j)) 0,Z18 (↑j:Int)] [vA acs,bQi 3 (stV acs j),oO (opA (60:Int) acs j),oM (QS.mt (stV acs j)),oS (QS.pr (stV acs j)),oS (QS.gn (stV acs j))] [some Z10,some Z11,some (Value.slice (some (Addr.mk 6 0 (some 4000))) (List.length Z6) 0),some Z12] [some (.inr (.inr (.inl (aR acs)))),some (.inl (80,[Z18 (QS.cap (opsQ Z2)),Z14,Z15,Z17])),some (.inr (.inl (45,oR Z3))),some (.inr (.inr (.inr (.inl (G8.Rt.tree (QS.mt (opsQ Z2))))))),some (.inr (.inr (.inr (.inr (G9.Rt.tree (QS.pr (opsQ Z2))))))),some (.inr (.inr (.inr (.inr (G9.Rt.tree (QS.gn (opsQ Z2))))))),some (.inr (.inl (45,oR Z6)))] 71))))))/\(decide ((↑i:Int)<(↑Z1:Int))=false->Post (G (Value.bool true) [some (.inr (.inr (.inl (aR acs)))),some (.inl (80,[Z18 (QS.cap Z2),Z14,Z15,Z17])),some (.inr (.inl (45,oR Z3))),some (.inr (.inr (.inr (.inl (G8.Rt.tree (QS.mt Z2)))))),some (.inr (.inr (.inr (.inr (G9.Rt.tree (QS.pr Z2)))))),some (.inr (.inr (.inr (.inr (G9.Rt.tree (QS.gn Z2))))))]))) ?_ (by kernel_rfl)
 intro Z14 Z15 Z16 Z17 Z18 Z1 Z2 Z3 Z4 Z5 Z6 Z7 Z8 Z9 Z10 Z11 Z12 Z13;subst Z13 Z12 Z11 Z10 Z9 Z8 Z7 Z6 Z5 Z4 Z3 Z2 Z1 Z18 Z17 Z16 Z15 Z14;have l:=opA_len 60 acs i;have hq:=stV_hq acs i (by omega)
 have hr:=rest_bounds (a:=(acs.getD i az).k) (n:=3) (by decide)
 have ea:(⟨(acs.getD i az).k,(acs.getD i az).t,(acs.getD i az).d,⟨(acs.getD i az).x.k,(acs.getD i az).x.i⟩⟩:Act)=acs.getD i az:=rfl;have ex:(⟨(acs.getD i az).x.k,(acs.getD i az).x.i⟩:It)=(acs.getD i az).x:=rfl;simp only[e_i,gA Act.k 0 rfl,gA Act.t 0 rfl,gA Act.d false rfl,gA (fun a=>a.x.k) 0 rfl,gA (fun a=>a.x.i) 0 rfl,ea,ex,hq.ops,oRx_all,oR_cut,uO_oR,Int.toNat_natCast,Nat.zero_add,eq_self]
 refine⟨fun h=>?_,fun h=>⟨hG _⟩⟩
 have hlt:i<acs.length:=by have:=of_decide_eq_true h;omega
 have hd:=do_hq (a:=acs.getD i az) hq (by omega) (by omega)
 have b1:(0:Int)≤(i:Int)/\(i:Int)<(acs.length:Int)/\0+acs.length≤acs.length:=⟨by omega,by omega,by omega⟩
 have hg:Gv.hgt (opA 60 acs i).length≤17:=Gv.hgt_mono (b:=60) (by omega)
 have ok:(stV acs i).Ok:=(hq.mono (by omega)).ok
 have vq:=hq.vok (by omega)
 have e2:opA 60 acs (i+1)=doL (opA 60 acs i) 60 (acs.getD i az):=rfl;have e3:stV acs (i+1)=opsQ (doQ (stV acs i) (acs.getD i az)):=rfl;have hd1:=hd.1;have hd2:=hd.2;generalize acs.getD i az=a at *
 rw[Nat.zero_add] at b1;refine⟨⟨ok⟩,⟨b1⟩,⟨hlt⟩,⟨⟨by omega,trivial⟩,trivial,trivial,by omega⟩,⟨b1⟩,⟨hlt⟩,⟨by decide,by decide⟩,fun h0=>?_,fun h0=>⟨fun h1=>?_,fun h1=>⟨fun h2=>?_,fun h2=>?_⟩⟩⟩
 ·skip
  have k0:kdA a=0:=eq_of_beq h0;have e:doQ (stV acs i) a=insQ (stV acs i) (timA a (stV acs i).ops) a.x:=(if_neg (by rw[k0];decide)).trans (if_pos k0)
  rw[hq.ops] at e;rw[e] at hd1 hd2 e3;have ok':=(hd1.mono (n':=90000) (by omega)).ok
  have vd:=hd1.vok (by omega)
  generalize insQ (stV acs i) (timA a (opA 60 acs i)) a.x=q' at *
  have hv:-3000000000000000≤q'.vis-(stV acs i).vis/\q'.vis-(stV acs i).vis≤3000000000000000:=by
   obtain⟨⟨a1,a2⟩,⟨a3,a4⟩,⟨a5,a6⟩⟩:=vq;obtain⟨⟨c1,c2⟩,⟨c3,c4⟩,⟨c5,c6⟩⟩:=vd;unfold QS.vis;omega
  rw[hd1.ops];refine⟨⟨b1⟩,⟨hlt⟩,⟨ok,by omega⟩,⟨ok'⟩,⟨by omega,by omega⟩,⟨by omega,by omega⟩,⟨by omega,by omega⟩,⟨by omega,by omega⟩,fun h=>?_,fun h=>⟨⟨ok'⟩,⟨by omega,by omega⟩,⟨i+1,hlt,by omega,?_⟩⟩⟩
  ·have:=of_decide_eq_true h;omega
  ·rw[e2,e3];exact⟨[0,1,8,3,4,5],rfl,⟨rfl,.inl rfl,⟨_,rfl,.inl rfl⟩,rfl,rfl,rfl,trivial⟩,rfl,rfl,rfl,rfl⟩
 ·skip
  have k1:kdA a=1:=eq_of_beq h1;have e:doQ (stV acs i) a=delQ (stV acs i) (timA a (stV acs i).ops):=(if_neg (by rw[k1];decide)).trans (if_neg (by rw[k1];decide))
  rw[hq.ops] at e;rw[e] at hd1 hd2 e3;have ok':=(hd1.mono (n':=90000) (by omega)).ok
  have vd:=hd1.vok (by omega)
  generalize delQ (stV acs i) (timA a (opA 60 acs i))=q' at *
  have hv:-3000000000000000≤q'.vis-(stV acs i).vis/\q'.vis-(stV acs i).vis≤3000000000000000:=by
   obtain⟨⟨a1,a2⟩,⟨a3,a4⟩,⟨a5,a6⟩⟩:=vq;obtain⟨⟨c1,c2⟩,⟨c3,c4⟩,⟨c5,c6⟩⟩:=vd;unfold QS.vis;omega
  rw[hd1.ops];refine⟨⟨ok,by omega⟩,⟨ok'⟩,⟨by omega,by omega⟩,⟨by omega,by omega⟩,⟨by omega,by omega⟩,⟨by omega,by omega⟩,fun h=>?_,fun h=>⟨⟨ok'⟩,⟨by omega,by omega⟩,⟨i+1,hlt,by omega,?_⟩⟩⟩
  ·have:=of_decide_eq_true h;omega
  ·rw[e2,e3];exact⟨[0,1,8,3,4,5],rfl,⟨rfl,.inl rfl,⟨_,rfl,.inl rfl⟩,rfl,rfl,rfl,trivial⟩,rfl,rfl,rfl,rfl⟩
 ·skip
  have k2:kdA a=2:=eq_of_beq h2;have e:doQ (stV acs i) a=rvkQ (stV acs i) (timA a (stV acs i).ops):=if_pos k2;rw[hq.ops] at e;rw[e] at hd1 hd2 e3;have ok':=(hd1.mono (n':=90000) (by omega)).ok
  have vd:=hd1.vok (by omega)
  generalize rvkQ (stV acs i) (timA a (opA 60 acs i))=q' at *
  have hv:-3000000000000000≤q'.vis-(stV acs i).vis/\q'.vis-(stV acs i).vis≤3000000000000000:=by
   obtain⟨⟨a1,a2⟩,⟨a3,a4⟩,⟨a5,a6⟩⟩:=vq;obtain⟨⟨c1,c2⟩,⟨c3,c4⟩,⟨c5,c6⟩⟩:=vd;unfold QS.vis;omega
  rw[hd1.ops];refine⟨⟨ok⟩,⟨ok'⟩,⟨by omega,by omega⟩,⟨by omega,by omega⟩,⟨by omega,by omega⟩,⟨by omega,by omega⟩,fun h=>?_,fun h=>⟨⟨ok'⟩,⟨by omega,by omega⟩,⟨i+1,hlt,by omega,?_⟩⟩⟩
  ·have:=of_decide_eq_true h;omega
  ·rw[e2,e3];exact⟨[0,1,8,3,4,5],rfl,⟨rfl,.inl rfl,⟨_,rfl,.inl rfl⟩,rfl,rfl,rfl,trivial⟩,rfl,rfl,rfl,rfl⟩
 ·have h0:¬ restI a.k 3=0:=fun e=>by rw[e] at h0;cases h0
  have h1:¬ restI a.k 3=1:=fun e=>by rw[e] at h1;cases h1
  have h2:¬ restI a.k 3=2:=fun e=>by rw[e] at h2;cases h2
  omega
theorem visits_law {p0:Rx.Place} {r0:Row}  {W:World} (hr0:r0.tm=tmA) (hw0:wfCols tmA r0.cols r0.n) (hv0:ViewOk W p0 r0) :
  Calls Tryz.prog 7 #[ren (viewsE [(p0,r0)]) (.slice (some ⟨0,0,some 5000⟩) r0.n 0)] W fun e W'=>e=.returned (.bool true)/\Below W.heap.size W W':=by
 obtain⟨acs,rfl⟩:=rowA_of hr0 hw0;have:=law_calls (D:=D2) (W:=W) (fn:=Tryz.f7) (root:=codeOf Tryz.f7) (args:=[.slice (some ⟨0,0,some 5000⟩) acs.length 0]) [(p0,aR acs)] Tryz.func7 (by kernel_rfl) (by simpa using hv0) rfl
  (visits_run fun _=>rfl)
 simpa [aR] using this
end Pa
end Go.Proofs.YtpjdphiopolanaaGreat
