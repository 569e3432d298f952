import Derived.Test.YtjlomlgdgpoepaaGreatZne
import Derived.Test.YtjlomlgdgpoepaaGreatZnd
import Derived.Test.YtjlomlgdgpoepaaGreatZnb
set_option linter.unusedVariables false
set_option linter.unusedSimpArgs false
namespace Go.Proofs.YtjlomlgdgpoepaaGreat
open G8 renaming Ek→Xk,Rt→TQ
open G8.Rt renaming tree→DN
open G9 renaming Ij→Xl,Rt→TR
open G9.Rt renaming tree→rQ
open Gv renaming iw→fw,lx→q7,nc→uR,om→yA,sub→mV
open Gv.TS renaming all→tG,at_→KW,drop→xU,find→n_,gj→eW,kB→Qp,kX→tO,l→eM,new→qO,put→Db,seen→dF
open Rx renaming Ends→cj,je→WG
open Sh renaming KF→SK,Nz→YG,O9→aN
open Sh.Sl renaming it→lO,kD→oZ,mk→js,time→qx
open Wv renaming vI→I6
open _root_.Array renaming mk→aJ,toList→dv
open _root_.Bool renaming and_eq_true→aM,eq_false_iff→LR,false_eq_true→fP,false→an,not_false→HO,true_and→jh,true→ao
open _root_.Go.Func renaming results→dw
open _root_.Go.IntKind renaming i64→ar
open _root_.Go.Value renaming agg→bz,bool→aC,int→bm,pointer→aB,slice→bD,tuple→cq
open _root_.Int renaming le_refl→nv,lt_tmod_of_pos→KV,tmod_lt_of_pos→Da,tmod→Ch,toNat_natCast→iJ,toNat→aG
open _root_.List renaming any_eq_true→Od,append_nil→Bd,cons_append→mw,drop_zero→se,eq_nil_of_length_eq_zero→iS,filter_cons→kg,filter_eq_nil_iff→tN,findIdx_getElem→I5,findIdx_le_length→GI,getD_eq_getElem?_getD→au,getD→aI,getElem?_eq_getElem→bd,getElem?_map→fh,length_append→bF,length_cons→cy,length_drop→jr,length_filter_le→uL,length_map→fS,length_nil→jM,length_tail→Fy,length_take→dQ,length→ae,map_append→dJ,map_drop→mJ,map_map→WE,map→ay,mem_append→b7,mem_cons→bO,mem_of_mem_drop→vG,mem_of_mem_take→ph,ne_nil_of_length_pos→DM,nil_append→pd,not_mem_nil→vE,not_of_lt_findIdx→GJ,range→n9,take_append_drop→cP,take_length→jP,take_of_length_le→jl,take_succ_eq_append_getElem→yY,take→gY
open _root_.List.Pairwise renaming nil→rI
open _root_.Nat renaming le_add_right→vJ,le_refl→a_,le_succ→ma,lt_or_ge→cr,zero_add→bU,zero_le→dh,zero_lt_succ→iK
open _root_.Option renaming getD→ik,isSome→iG,none→aj,some→aa
open _root_.Prod renaming fst→ax,snd→av
namespace Pa
open Rx Wv Br
open Sh (rN wA mC sl nI)
def LW (q:QS) (t:Int) (x:It):QS:=BV (nM q t) x
def XK (q:QS) (t:Int) (x:It):QS:=Zv (LW q t x) (kN t)
def Pn (q:QS) (t:Int) (x:It):Int:=F6 (XK q t x) (BY (LW q t x) (kN t))
def R9 (q:QS) (t:Int) (x:It):QS:=Bn (XK q t x) (BY (LW q t x) (kN t))
def L8 (q:QS) (t:Int) (x:It):QS:=⟨(R9 q t x).mt.put (SC t x),(R9 q t x).pr,(R9 q t x).gn.put (sl x),(R9 q t x).cap⟩
def Ew (q:QS) (t:Int) (x:It):Int:=if mW q t=0 then if AW (nM q t) x=ao then 2 else 0 else mW q t
def kb (q:QS) (t:Int) (x:It):QS:=if mW q t=0 then if AW (nM q t) x=ao then LW q t x else vS (L8 q t x) (Pn q t x) else nM q t
def tU (q:QS) (t:Int) (x:It):List It:=if mW q t=0 then if AW (nM q t) x=ao then[] else wO (L8 q t x) (Pn q t x) else[]
def QS.gj (q:QS):Prop:=q.mt.gj/\q.pr.gj/\q.gn.gj
def TJ (q:QS) (t:Int) (x:It):Prop:=q.gj/\(mW q t=0->AW (nM q t) x=an->(R9 q t x).mt.kX (SC t x)/\(R9 q t x).gn.kX (sl x)/\KE (L8 q t x) (Pn q t x))
def de1 (q:QS) (t:Int):QS:=Zv (nM q t) (kN t)
def Ox (q:QS) (t:Int):Int:=Km (de1 q t) (BY (nM q t) (kN t))
def Yp (q:QS) (t:Int):QS:=He (de1 q t) (BY (nM q t) (kN t))
def uh (q:QS) (t:Int):QS:=FF (Yp q t) (Ox q t)
def jA (q:QS) (t:Int):QS:=if mW q t=0 then⟨(uh q t).mt.put (kN t),(uh q t).pr,(uh q t).gn,(uh q t).cap⟩ else nM q t
def Au (q:QS) (t:Int):List It:=if mW q t=0 then A6 (Yp q t) (Ox q t) else[]
def Tj (q:QS) (t:Int):Prop:=q.gj/\(mW q t=0->JF (Yp q t) (Ox q t)/\(uh q t).mt.kX (kN t))
def F1 (q:QS) (t:Int):Bool:=(fw O8 (kN t) q.mt.l).2
def mN (q:QS) (t:Int):Mk:=(fw O8 (kN t) q.mt.l).1
def Bs (q:QS) (t:Int):QS:=⟨q.mt.find (kN t),q.pr,q.gn,q.cap⟩
def Me (q:QS) (t:Int):QS:=Zv (Bs q t) (mN q t)
def Fh (q:QS) (t:Int):Int:=BY (Bs q t) (mN q t)
def Sp (q:QS) (t:Int):QS:=⟨(Bn (Me q t) (Fh q t)).mt.drop (mN q t),(Bn (Me q t) (Fh q t)).pr,(Bn (Me q t) (Fh q t)).gn,(Bn (Me q t) (Fh q t)).cap⟩
def JY (q:QS) (t:Int):Int:=F6 (Me q t) (Fh q t)
def Yi (q:QS) (t:Int):QS:=He (Me q t) (Fh q t+1)
def PL (q:QS) (t:Int):Int:=Km (Me q t) (Fh q t+1)
def zo (q:QS) (t:Int):QS:=FF (Yi q t) (PL q t)
def KL (q:QS) (t:Int):Int:=if F1 q t=ao then 0 else 14
def gy (q:QS) (t:Int):QS:=if F1 q t=ao then if(mN q t).ins=ao then if(mN q t).here=ao then⟨(Bs q t).mt.drop (mN q t),(Bs q t).pr.drop (sl (mN q t).it),(Bs q t).gn,(Bs q t).cap⟩ else⟨(zo q t).mt.drop (mN q t),(zo q t).pr,(zo q t).gn.drop (sl (mN q t).it),(zo q t).cap⟩ else vS (Sp q t) (JY q t) else Bs q t
def wL (q:QS) (t:Int):List It:=if F1 q t=ao then if(mN q t).ins=ao then[] else wO (Sp q t) (JY q t) else[]
def w9 (q:QS) (t:Int):List It:=if F1 q t=ao then if(mN q t).ins=ao then if(mN q t).here=ao then[(mN q t).it] else A6 (Yi q t) (PL q t) else[] else[]
def Y8 (q:QS) (t:Int):Prop:=q.gj/\(F1 q t=ao->((mN q t).ins=an->KE (Sp q t) (JY q t))/\((mN q t).ins=ao->(mN q t).here=an->JF (Yi q t) (PL q t)/\(zo q t).mt.gj/\(zo q t).gn.gj))
theorem Yb {q:QS} {t:Int} (h:q.gj):(nM q t).gj:=by
 refine⟨?_,h.2.1,h.2.2⟩;unfold nM;show eW (if _ then _ else _)
 split<;>exact h.1
structure HQ (q:QS) (l:List Op) (c:Int) (n:Nat):Prop where
 mq:MQ q (jC l) (fin [] l) (gn l) c n q 0
 tm:Tm l
 nd:(gC l).Nodup
 dl:∀ o,o∈l->o.ins=an->o.it=iz
 len:(l.length:Int)≤c/\c≤65536
 FV:l.length≤60
 vb:q.mt.m.cW≤100000*n/\q.pr.m.cW≤100000*n/\q.gn.m.cW≤100000*n
theorem HQ.m0 {q:QS} {l:List Op} {c:Int} {n:Nat} (h:HQ q l c n):q.mt.l=jC l:=h.mq.m0
theorem HQ.p0 {q:QS} {l:List Op} {c:Int} {n:Nat} (h:HQ q l c n):q.pr.l=mC (fin [] l):=h.mq.p0
theorem HQ.g0 {q:QS} {l:List Op} {c:Int} {n:Nat} (h:HQ q l c n):q.gn.l=mC (gn l):=h.mq.g0
theorem acB:∀ (a:List Op) (h:List It),(fin h a).length≤h.length+a.length
 |[],h=>by rw[fin];omega
 |o::r,h=>by
  have:=acB r (nX h o);rw[fin];have e:(nX h o).length≤h.length+1:=by
   have il:∀ (x:It) (m:List It),(gZ x m).length=m.length+1:=fun x m=>by
    induction m with
    |nil=>rfl
    |cons y m ih=>unfold gZ;split<;>simp[ih]
   unfold nX;split
   ·rw[il];exact a_ _
   ·rw[Fy];omega
  rw[cy];omega
theorem IF:∀ (a:List Op) (h:List It),(tk h a).length+gI h a=(a.filter fun o=>!o.ins).length
 |[],h=>by rw[tk,gI];rfl
 |o::r,h=>by
  rcases iY o with e|e
  ·rw[oD e,oC e,IF r,kg,e];rfl
  ·rw[kg,e];cases h with
   |nil=>rw[BM e,sD e];have:=IF r [];simp only[HO,if_true,cy];omega
   |cons y h=>rw[oj e,nh e];have:=IF r h;simp only[HO,if_true,cy];omega
theorem ZW (l:List Op):(gn l).length≤l.length:=by
 have h1:=IF l [];have h2:(l.filter fun o=>!o.ins).length≤l.length:=uL ..
 rw[Ur];omega
theorem zY (l:List Op):(fin [] l).length≤l.length:=by have:=acB l [];simpa using this
theorem af5 (H:List It) (l:List Op):(wj (gq H l)).length=(l.filter fun o=>!o.ins).length:=by
 unfold wj gq;rw[List.filter_map,fS]
 rfl
section
variable {q:QS} {H:List It} {l:List Op} {P:List It} {c:Int} {n:Nat} {a:QS} {k:Int}
theorem MQ.pS (h:MQ q (gq H l) P (gn l) c n a k):q8 q=pS l:=by
 unfold q8 HZ;rw[h.m0,h.g0,af5,show(mC (gn l)).length=(gn l).length from fS ..,Ur]
 have:=IF l [];show _=(gI [] l:Int)
 omega
theorem U3 (h:MQ q (gq H l) P (gn l) c n a k) (m:Mk):BY q m=(lY m.t l:Int):=by
 unfold BY;rw[h.m0,Gv.Pb,dQ,Nat.min_eq_left,FZ];rw[FZ,mK];exact OH _ _
theorem HQ.U8 (h:HQ q l c n) (hn:n≤100000):VB q:=by
 obtain⟨h1,h2,h3⟩:=h.vb;exact⟨by omega,by omega,by omega⟩
end
theorem ahT {l:List Op} (h:(gC l).Nodup) {x:It} (hx:x∉gC l):x∉fin [] l/\x∉gn l/\x∉tk [] l:=by
 have h1:x∉tk [] l:=fun c=>(qV (lT h) x c).elim (fun h=>by cases h) hx
 exact⟨fun c=>((qU (lT h) x).1 c).1.elim (fun h=>by cases h) hx,fun c=>h1 ((tz h).1 c),h1⟩
theorem AK {l:List Op} {G:List It} (h:(gC l).Nodup) (ho:Ord G) (hm:∀ w,w∈G↔w∈tk [] l):G=gn l :=
 ze ho (qC h) fun w=>(hm w).trans (tz h).symm
theorem HQ.mk' {q:QS} {l:List Op} {c:Int} {n n':Nat} {a:QS} {k:Int} (h:MQ q (jC l) (fin [] l) (gn l) c n a k) (ha:a.mt.m.cW≤100000*n'/\a.pr.m.cW≤100000*n'/\a.gn.m.cW≤100000*n') (hk:k≤100000) (hn:n'+1≤n) (tm:Tm l) (nd:(gC l).Nodup) (dl:∀ o,o∈l->o.ins=an->o.it=iz) (len:(l.length:Int)≤c/\c≤65536) (FV:l.length≤60):HQ q l c n:=by
 obtain⟨a1,a2,a3⟩:=ha;have v1:=h.v1;have v2:=h.v2;have v3:=h.v3;exact⟨⟨h.m0,h.p0,h.g0,h.cap,h.c1,h.c2,h.c3,h.f1,h.f2,h.f3,⟨v1.1,by omega⟩,⟨v2.1,by omega⟩,⟨v3.1,by omega⟩⟩,tm,nd,dl,len,FV,⟨by omega,by omega,by omega⟩⟩
theorem HQ.ref {q:QS} {l:List Op} {c:Int} {n:Nat} (h:HQ q l c n) (t:Int) :
  ((l.length:Int)=c->mW q t=10)/\((l.length:Int)≠c->¬ Er l t->mW q t=11)/\((l.length:Int)≠c->Er l t->mW q t=0):=by
 have e:(q.mt.l.length:Int)=q.cap↔(l.length:Int)=c:=by rw[h.m0,xp,h.mq.cap]
 unfold mW;refine⟨fun h1=>by rw[if_pos (e.2 h1)],fun h1 h2=>?_,fun h1 h2=>?_⟩
 ·rw[if_neg (fun k=>h1 (e.1 k)),if_pos]
  rcases K5 l t with f|⟨k,hk,ht⟩
  ·exact absurd f h2
  ·rw[h.m0];exact(Kt (H:=fin [] l) (e:=kN t) h.tm hk ht).1
 ·rw[if_neg (fun k=>h1 (e.1 k)),if_neg]
  rw[h.m0];have:=NR (H:=fin [] l) (e:=kN t) h2;show ¬ (Gv.jx O8 (kN t) (jC l)).isSome=ao
  rw[vl,this];decide
theorem HQ.ind {q:QS} {l:List Op} {c:Int} {n:Nat} (h:HQ q l c n) (x:It):AW q x=ao↔x∈gC l:=by
 have f9:∀ {P:List It},Ord P->(fw aN (sl x) (mC P)).2=nI x P:=fun ho=>Sh.Wb x ho
 unfold AW;rw[h.p0,h.g0,f9 (zI h.nd),f9 (qC h.nd),Bool.or_eq_true,uG,uG,tz h.nd]
 constructor
 ·rintro (k|k)
  ·exact((qU (lT h.nd) x).1 k).1.elim (fun h=>by cases h) id
  ·exact(qV (lT h.nd) x k).elim (fun h=>by cases h) id
 ·intro k
  by_cases c:x∈tk [] l
  ·exact .inr c
  ·exact .inl ((qU (lT h.nd) x).2 ⟨.inr k,c⟩)
theorem K' {l:List Op} {p f:Nat} (hf:f≤p) (hp:p≤l.length) (X:List Op):(l.take p++X).drop f=(l.take p).drop f++X:=List.drop_append_of_le_length (by rw[dQ];omega)
theorem Co {b:Bool} {H:List It} {l:List Op} {w:It}:w∈lW b (gq H l)↔∃ o,o∈l/\o.ins=ao/\o.it=w/\decide (w∈H)=b:=by
 rw[tJ];unfold gq
 constructor
 ·rintro ⟨m,h1,h2,h3,h4⟩
  obtain⟨o,ho,rfl⟩:=List.mem_map.1 h1;have h2:o.ins=ao:=h2;have h4:o.it=w:=h4;have h3:(o.ins&&decide (o.it∈H))=b:=h3;rw[h2,jh,h4] at h3;exact⟨o,ho,h2,h4,h3⟩
 ·rintro ⟨o,ho,h2,h4,h3⟩
  refine⟨u9 H o,List.mem_map_of_mem ho,h2,?_,h4⟩;show(o.ins&&decide (o.it∈H))=b
  rw[h2,jh,h4];exact h3
theorem agz (H:List It) (l:List Op) (f:Nat):(gq H l).drop f=gq H (l.drop f):=by unfold gq;rw[mJ]
theorem Ic {H:List It} {l:List Op} {f:Nat} (hf:f≤l.length):uE (gq H l) (f:Int)=hi (lW an (gq H (l.drop f))):=by
 unfold uE;rw[mK,zM hf,agz]
theorem abF {l:List Op} {p:Nat} (hp:p≤l.length) (hb:¬ qz l p<0):∃ f:Nat,qz l p=f/\f≤p:=by
 have hP:=OJ (jC l) p (pS l);rw[xp,zM hp] at hP;rcases hP with⟨h1,_⟩|⟨j,h1,h2,_⟩
 ·exact absurd (show qz l p<0 by show E5 (jC l) p (pS l)<0;rw[h1];omega) hb
 ·exact⟨j,h1,h2⟩
theorem ahV {l:List Op} {p:Nat} {x:It} {t:Int} (hd:(gC l).Nodup) (hx:x∉fin [] l) (hp:p≤l.length) (hb:¬ qz l p<0) :
  uE (gq (fin [] l) (j7 l p ⟨t,ao,x⟩)) (qz l p)=up (aa x) (uE (jC l) (qz l p)):=by
 obtain⟨f,e,hf⟩:=abF hp hb;rw[e,vl,Ic (by unfold j7;rw[bF,cy,dQ,jr];omega),Ic (by omega)]
 show _=hi (x::lW an (gq (fin [] l) (l.drop f)))
 refine U6 fun w=>?_
 have e2:l.drop f=(l.take p).drop f++l.drop p:=by rw[← K' hf hp,cP]
 rw[bO,Co,Co,e2];unfold j7;rw[K' hf hp];simp only[b7,bO]
 constructor
 ·rintro ⟨o,(h1|rfl|h1),h2,h3,h4⟩
  ·exact .inr ⟨o,.inl h1,h2,h3,h4⟩
  ·exact .inl h3.symm
  ·exact .inr ⟨o,.inr h1,h2,h3,h4⟩
 ·rintro (rfl|⟨o,(h1|h1),h2,h3,h4⟩)
  ·exact⟨⟨t,ao,w⟩,.inr (.inl rfl),rfl,rfl,decide_eq_false hx⟩
  ·exact⟨o,.inl h1,h2,h3,h4⟩
  ·exact⟨o,.inr (.inr h1),h2,h3,h4⟩
theorem ai8 {l:List Op} {k:Nat} (hk:k<l.length) (kx:(og l k).ins=an) (hb:¬ qz l k<0) :
  uE (gq (fin [] l) (j5 l k)) (qz l k)=uE (jC l) (qz l k):=by
 obtain⟨f,e,hf⟩:=abF (by omega) hb
 rw[e,vl,Ic (by unfold j5;rw[bF,dQ,jr];omega),Ic (by omega)]
 refine U6 fun w=>?_
 have e2:l.drop f=(l.take k).drop f++(og l k::l.drop (k+1)):=by rw[← K' hf (by omega),← O6 hk,cP]
 rw[Co,Co,e2];unfold j5;rw[K' hf (by omega)]
 simp only[b7,bO]
 constructor
 ·rintro ⟨o,(h1|h1),h2⟩
  ·exact⟨o,.inl h1,h2⟩
  ·exact⟨o,.inr (.inr h1),h2⟩
 ·rintro ⟨o,(h1|rfl|h1),h2⟩
  ·exact⟨o,.inl h1,h2⟩
  ·exact absurd (h2.1.symm.trans kx) (by decide)
  ·exact⟨o,.inr h1,h2⟩
theorem VU (l:List Op) (p:Nat) (o:Op) (hp:p≤l.length):(j7 l p o).length=l.length+1:=by
 unfold j7;rw[bF,cy,dQ,jr];omega
theorem akn {l:List Op} {k:Nat} (hk:k<l.length):(j5 l k).length=l.length-1:=by
 unfold j5;rw[bF,dQ,jr];omega
theorem XE {l:List Op} {p:Nat} {o w:Op}:w∈j7 l p o↔w=o∨w∈l:=by
 unfold j7;rw[b7,bO]
 conv=>rhs;rw[← cP p l,b7]
 constructor
 ·rintro (h|h|h)
  ·exact .inr (.inl h)
  ·exact .inl h
  ·exact .inr (.inr h)
 ·rintro (h|h|h)
  ·exact .inr (.inl h)
  ·exact .inl h
  ·exact .inr (.inr h)
theorem af2 {l:List Op} {k:Nat} {w:Op} (h:w∈j5 l k):w∈l:=by
 unfold j5 at h;rw[b7] at h;exact h.elim ph vG
theorem ajK {q:QS} {l:List Op} {c:Int} {n:Nat} {t:Int} {x:It} (h:HQ q l c n) (uc:l.length≤59) (hn:n≤90000) (hc:(l.length:Int)≠c) (hf:Er l t) (hx:x∉gC l) :
  TJ q t x/\Ew q t x=0/\HQ (kb q t x) (j7 l (lY t l) ⟨t,ao,x⟩) c (n+10)/\(kb q t x).mt.m.cW≤q.mt.m.cW+20000/\(kb q t x).pr.m.cW≤q.pr.m.cW+20000/\(kb q t x).gn.m.cW≤q.gn.m.cW+20000 /\
   ((qz l (lY t l)<0->tU q t x=[]/\fin [] (j7 l (lY t l) ⟨t,ao,x⟩)=fin [] l)/\(¬ qz l (lY t l)<0->∃ z,z∉fin [] l/\tU q t x=[z]/\fin [] (j7 l (lY t l) ⟨t,ao,x⟩)=gZ z (fin [] l))):=by
 have hB:=h.U8 (by omega)
 have r0:=(h.ref t).2.2 hc hf;have n0:=ahT h.nd hx;have hp:=OH t l;have i0:AW (nM q t) x=an:=by
  rw[LR];intro k;have k:AW q x=ao:=k;exact hx ((h.ind x).1 k)
 have c0:Ew q t x=0:=by unfold Ew;rw[if_pos r0,if_neg (by rw[i0];decide)]
 have m1:=h.mq.ZZ hB (by omega) t
 have m2:=m1.akl hB (by omega) x
 have m3:=m2.aeb hB (by omega) (kN t)
 have eR:BY (LW q t x) (kN t)=(lY t l:Int):=U3 (H:=fin [] l) m2 (kN t);have eF:Pn q t x=qz l (lY t l):=by
  have e1:q8 (XK q t x)=pS l:=MQ.pS (H:=fin [] l) m3;have e2:(XK q t x).mt.l=jC l:=m3.m0;unfold Pn F6;rw[eR,e1,e2]
 have m4:=m3.bu_ hB (by omega) (BY (LW q t x) (kN t))
 have pe:=Rg (H:=fin [] l) (l:=l) (o:=⟨t,ao,x⟩) (m:=SC t x) hf (by unfold u9 SC;rw[decide_eq_false n0.1];rfl)
 have al:=VU l (lY t l) ⟨t,ao,x⟩ hp;have pg:(q7 O8 (SC t x) (jC l)).length≤60:=by rw[vl,pe,mK,al];omega
 have m5:=m4.ad8 hB (by omega) (by omega) (m:=SC t x) pg (.inr (by rw[xp];exact hc))
 have gl:=ZW l;have fl:=zY l;have lc:=h.len;have m6:=m5.Ax hB (by omega) (by omega) (x:=x) (qC h.nd) n0.2.1 (by omega) (by omega)
 have m6:MQ (L8 q t x) (gq (fin [] l) (j7 l (lY t l) ⟨t,ao,x⟩)) (fin [] l) (gZ x (gn l)) c (n+2) q 3000:=(m6.lst pe).up (a_ _) (by omega)
 have ok3:(R9 q t x).mt.kX (SC t x):=HD (m4.lj (by omega)).1 (by show(q7 O8 (SC t x) (Bn (XK q t x) (BY (LW q t x) (kN t))).mt.l).length≤60;rw[show(Bn (XK q t x) (BY (LW q t x) (kN t))).mt.l=jC l from m4.m0];exact pg)
 have ok4:(R9 q t x).gn.kX (sl x):=HF m4.g0 (qC h.nd) (m4.lj (by omega)).2.2 (by omega)
 have fq:=h.mq.lj (by omega)
 have Og:=aeQ (o:=⟨t,ao,x⟩) h.tm hf;have Bu:=aeJ (p:=lY t l) (o:=⟨t,ao,x⟩) h.nd (fun _=>hx)
 have VQ:∀ o,o∈j7 l (lY t l) ⟨t,ao,x⟩->o.ins=an->o.it=iz:=fun o ho kx=>by
  rcases XE.1 ho with rfl|ho
  ·cases kx
  ·exact h.dl o ho kx
 have oG:Ord (gZ x (gn l)):=pk (qC h.nd) n0.2.1;have eQ:kb q t x=vS (L8 q t x) (Pn q t x):=by unfold kb;rw[if_pos r0,if_neg (by rw[i0];decide)]
 have eI:tU q t x=wO (L8 q t x) (Pn q t x):=by unfold tU;rw[if_pos r0,if_neg (by rw[i0];decide)]
 obtain⟨E1,E2⟩:=ahJ (t:=t) h.nd hx hp;rw[eQ,eI,eF]
 by_cases hb:qz l (lY t l)<0
 ·obtain⟨g1,g2,g3⟩:=m6.aeZ (by omega) hb
  obtain⟨a1,a2,a3⟩:=E1 hb;have mq:MQ (L8 q t x) (jC (j7 l (lY t l) ⟨t,ao,x⟩)) (fin [] (j7 l (lY t l) ⟨t,ao,x⟩)) (gn (j7 l (lY t l) ⟨t,ao,x⟩)) c (n+2) q 3000:=by
   rw[vl,a1,← AK Bu oG fun w=>by rw[jY,a3,tz h.nd,or_comm]]
   exact m6
  have v1:=mq.v1;have v2:=mq.v2;have v3:=mq.v3;rw[g1,g3];refine⟨⟨fq,fun _ _=>⟨ok3,ok4,?_⟩⟩,c0,HQ.mk' (mq.up (n':=n+10) (k':=90000) (by omega) (by omega)) h.vb (by omega) (by omega) Og Bu VQ ⟨by rw[al];omega,h.len.2⟩ (by rw[al];omega),by omega,by omega,by omega,fun _=>⟨rfl,a1⟩,fun c=>absurd hb c⟩
  rw[eF];exact g2
 ·obtain⟨z,a0,a1,a2,a3,a4,a5⟩:=E2 hb;have hz:=(ahV (t:=t) h.nd n0.1 hp hb).trans a0;obtain⟨g1,g2,g3⟩:=m6.gb_ hB (by omega) (by omega) Og Bu hb hz (zI h.nd) oG a1 (by omega) (by omega)
  have mq:MQ (vS (L8 q t x) (qz l (lY t l))) (jC (j7 l (lY t l) ⟨t,ao,x⟩)) (fin [] (j7 l (lY t l) ⟨t,ao,x⟩)) (gn (j7 l (lY t l) ⟨t,ao,x⟩)) c (n+5) q 9500:=by
   rw[vl,a3,← AK Bu (zb (z:=z) oG) fun w=>by rw[po,jY,a5,tz h.nd,or_comm (a:=w∈tk [] l)],
    ← CK (H:=z::fin [] l) fun w _=>by rw[bO,jY]]
   exact g1.up (a_ _) (by omega)
  have v1:=mq.v1;have v2:=mq.v2;have v3:=mq.v3;rw[g3];refine⟨⟨fq,fun _ _=>⟨ok3,ok4,?_⟩⟩,c0,HQ.mk' (mq.up (n':=n+10) (k':=90000) (by omega) (by omega)) h.vb (by omega) (by omega) Og Bu VQ ⟨by rw[al];omega,h.len.2⟩ (by rw[al];omega),by omega,by omega,by omega,fun c=>absurd c hb,fun _=>⟨z,a1,rfl,a3⟩⟩
  rw[eF];exact g2
end Pa
namespace Pa
open Rx Wv Br
open Sh (rN wA mC sl nI)
theorem ajz {q:QS} {l:List Op} {c:Int} {n:Nat} {t:Int} (h:HQ q l c n) (uc:l.length≤59) (hn:n≤90000) (hc:(l.length:Int)≠c) (hf:Er l t) :
  Tj q t/\HQ (jA q t) (j7 l (lY t l) ⟨t,an,iz⟩) c (n+10)/\(jA q t).mt.m.cW≤q.mt.m.cW+20000/\(jA q t).pr.m.cW≤q.pr.m.cW+20000/\(jA q t).gn.m.cW≤q.gn.m.cW+20000 /\
   ((Au q t=[]/\fin [] (j7 l (lY t l) ⟨t,an,iz⟩)=fin [] l)∨∃ z,z∈fin [] l/\Au q t=[z]/\fin [] (j7 l (lY t l) ⟨t,an,iz⟩)=pU z (fin [] l)):=by
 have hB:=h.U8 (by omega)
 have r0:=(h.ref t).2.2 hc hf;have hp:=OH t l;have m1:=h.mq.ZZ hB (by omega) t
 have m2:=m1.aeb hB (by omega) (kN t)
 have eR:BY (nM q t) (kN t)=(lY t l:Int):=U3 (H:=fin [] l) m1 (kN t);have eU:Ox q t=Mm l (lY t l):=by
  have e1:q8 (de1 q t)=pS l:=MQ.pS (H:=fin [] l) m2;have e2:(de1 q t).mt.l=jC l:=m2.m0;unfold Ox Km;rw[eR,e1,e2]
 have m3:=m2.bf_ hB (by omega) (BY (nM q t) (kN t))
 have m3:MQ (Yp q t) (gq (fin [] l) l) (fin [] l) (gn l) c n q 600:=MQ.up m3 (a_ _) (by omega)
 have al:=VU l (lY t l) ⟨t,an,iz⟩ hp;have gl:=ZW l;have fl:=zY l;have lc:=h.len;have fq:=h.mq.lj (by omega)
 have Og:=aeQ (o:=⟨t,an,iz⟩) h.tm hf;have Bu:=aeJ (p:=lY t l) (o:=⟨t,an,iz⟩) h.nd (fun c=>by cases c)
 have VQ:∀ o,o∈j7 l (lY t l) ⟨t,an,iz⟩->o.ins=an->o.it=iz:=fun o ho kx=>by
  rcases XE.1 ho with rfl|ho
  ·rfl
  ·exact h.dl o ho kx
 have pe:∀ H,q7 O8 (kN t) (gq H l)=gq H (j7 l (lY t l) ⟨t,an,iz⟩):=fun H=>Rg (H:=H) (l:=l) (o:=⟨t,an,iz⟩) (m:=kN t) hf rfl
 have pg:∀ H,(q7 O8 (kN t) (gq H l)).length≤60:=fun H=>by rw[pe,mK,al];omega
 have eQ:jA q t=⟨(uh q t).mt.put (kN t),(uh q t).pr,(uh q t).gn,(uh q t).cap⟩:=by unfold jA;rw[if_pos r0]
 have eI:Au q t=A6 (Yp q t) (Ox q t):=by unfold Au;rw[if_pos r0]
 obtain⟨E1,E2⟩:=ajP (x:=iz) (t:=t) h.nd hp;rw[eQ,eI];cases hz:p6 (jC l) (Mm l (lY t l)) with
 |none =>
  have HB:p6 (gq (fin [] l) l) (Ox q t)=aj:=by rw[eU];exact hz
  obtain⟨a1,a2,a3⟩:=E1 hz;obtain⟨g1,g2,g3⟩:=m3.ae5 hB (by omega) (by omega) HB
  have g4:=MQ.ad8 (q:=uh q t) g1 hB (by omega) (by omega) (m:=kN t) (pg _) (.inr (by rw[mK];exact hc))
  have mq:MQ ⟨(uh q t).mt.put (kN t),(uh q t).pr,(uh q t).gn,(uh q t).cap⟩ (jC (j7 l (lY t l) ⟨t,an,iz⟩)) (fin [] (j7 l (lY t l) ⟨t,an,iz⟩)) (gn (j7 l (lY t l) ⟨t,an,iz⟩)) c (n+5) q 9500:=by
   rw[vl,a1,← AK Bu (qC h.nd) fun w=>by rw[a3,tz h.nd],← pe]
   exact g4.up (by omega) (by omega)
  have v1:=mq.v1;have v2:=mq.v2;have v3:=mq.v3;refine⟨⟨fq,fun _=>⟨g2,HD (MQ.lj (q:=uh q t) g1 (by omega)).1 ?_⟩⟩,HQ.mk' (mq.up (n':=n+10) (k':=90000) (by omega) (by omega)) h.vb (by omega) (by omega) Og Bu VQ ⟨by rw[al];omega,h.len.2⟩ (by rw[al];omega),by omega,by omega,by omega,.inl ⟨g3,a1⟩⟩
  rw[show(uh q t).mt.l=gq (fin [] l) l from g1.m0];exact pg _
 |some z =>
  have HB:p6 (gq (fin [] l) l) (Ox q t)=aa z:=by rw[eU];exact hz
  obtain⟨a0,a1,a2,a3⟩:=E2 z hz;have zg:z∉gn l:=fun k=>((qU (lT h.nd) z).1 a0).2 ((tz h.nd).1 k)
  obtain⟨g1,g2,g3⟩:=m3.ta_ hB (by omega) (by omega) h.tm h.nd HB (zI h.nd) (qC h.nd) zg (by omega) (by omega)
  have g4:=MQ.ad8 (q:=uh q t) g1 hB (by omega) (by omega) (m:=kN t) (pg _) (.inr (by rw[mK];exact hc))
  have mq:MQ ⟨(uh q t).mt.put (kN t),(uh q t).pr,(uh q t).gn,(uh q t).cap⟩ (jC (j7 l (lY t l) ⟨t,an,iz⟩)) (fin [] (j7 l (lY t l) ⟨t,an,iz⟩)) (gn (j7 l (lY t l) ⟨t,an,iz⟩)) c (n+5) q 9500:=by
   rw[vl,a1,← AK Bu (pk (x:=z) (qC h.nd) zg) fun w=>by rw[jY,a3,tz h.nd,or_comm],← pe]
   exact g4.up (by omega) (by omega)
  have v1:=mq.v1;have v2:=mq.v2;have v3:=mq.v3;refine⟨⟨fq,fun _=>⟨g2,HD (MQ.lj (q:=uh q t) g1 (by omega)).1 ?_⟩⟩,HQ.mk' (mq.up (n':=n+10) (k':=90000) (by omega) (by omega)) h.vb (by omega) (by omega) Og Bu VQ ⟨by rw[al];omega,h.len.2⟩ (by rw[al];omega),by omega,by omega,by omega,.inr ⟨z,a0,g3,a1⟩⟩
  rw[show(uh q t).mt.l=gq (pU z (fin [] l)) l from g1.m0];exact pg _
theorem ak6 {q:QS} {l:List Op} {c:Int} {n:Nat} {t:Int} {k:Nat} (h:HQ q l c n) (hk:k<l.length) (ht:(og l k).t=t):F1 q t=ao/\mN q t=u9 (fin [] l) (og l k):=by
 have hh:=Kt (H:=fin [] l) (e:=kN t) h.tm hk ht;have e:(gq (fin [] l) l).getD k mz=u9 (fin [] l) (og l k):=oy _ hk;have s:=Gv.afV TK (e:=kN t) (VE (H:=fin [] l) h.tm) (i:=k) (by rw[mK];exact hk) (by
  show O8.cmp (kN t) ((gq (fin [] l) l).getD k mz)=0
  rw[e,Ca];exact ht.symm)
 unfold F1 mN;rw[h.m0,vl,s];exact⟨rfl,e⟩
theorem ajO {q:QS} {l:List Op} {c:Int} {n:Nat} {t:Int} {k:Nat} (h:HQ q l c n) (hn:n≤90000) (hk:k<l.length) (ht:(og l k).t=t) :
  Y8 q t/\KL q t=0/\HQ (gy q t) (j5 l k) c (n+10)/\(gy q t).mt.m.cW≤q.mt.m.cW+20000/\(gy q t).pr.m.cW≤q.pr.m.cW+20000/\(gy q t).gn.m.cW≤q.gn.m.cW+20000 /\
   ((wL q t=[]/\w9 q t=[]/\fin [] (j5 l k)=fin [] l)∨(∃ z,z∉fin [] l/\wL q t=[z]/\w9 q t=[]/\fin [] (j5 l k)=gZ z (fin [] l))∨(∃ z,z∈fin [] l/\wL q t=[]/\w9 q t=[z]/\fin [] (j5 l k)=pU z (fin [] l))):=by
 have hB:=h.U8 (by omega)
 obtain⟨hb,hm⟩:=ak6 h hk ht;have c0:KL q t=0:=by unfold KL;rw[if_pos hb]
 have FV:=h.FV;have m1:=h.mq.ai2 hB (by omega) (kN t)
 have m1:MQ (Bs q t) (gq (fin [] l) l) (fin [] l) (gn l) c n q 40:=m1;have m2:=m1.aeb hB (by omega) (mN q t)
 have m2:MQ (Me q t) (gq (fin [] l) l) (fin [] l) (gn l) c n q 110:=m2;have eR:Fh q t=(k:Int):=by
  unfold Fh;rw[U3 (H:=fin [] l) m1 (mN q t),hm];show(lY (og l k).t l:Int)=k
  rw[aaq h.tm hk rfl]
 have eX:q8 (Me q t)=pS l:=MQ.pS (H:=fin [] l) m2;have eL:(Me q t).mt.l=jC l:=m2.m0;have wl:=akn hk;have gl:=ZW l;have fl:=zY l;have lc:=h.len;have fq:=h.mq.lj (by omega)
 have Og:=ale h.tm k;obtain⟨Bu,nm⟩:=ak8 h.nd hk;have VQ:∀ o,o∈j5 l k->o.ins=an->o.it=iz:=fun o ho kx=>h.dl o (af2 ho) kx
 have de:∀ H,Gv.na O8 (mN q t) (gq H l)=gq H (j5 l k):=fun H=>aem h.tm hk (by rw[hm];rfl)
 have AG:(mN q t).ins=(og l k).ins:=by rw[hm];rfl
 have eit:(mN q t).it=(og l k).it:=by rw[hm];rfl
 have aeY:(mN q t).here=((og l k).ins&&decide ((og l k).it∈fin [] l)):=by rw[hm];rfl
 have Vj:∀ {q':QS} {d:Nat} {e:Int},MQ q' (jC (j5 l k)) (fin [] (j5 l k)) (gn (j5 l k)) c (n+d) q e->d≤10->e≤15000->HQ q' (j5 l k) c (n+10)/\q'.mt.m.cW≤q.mt.m.cW+20000/\q'.pr.m.cW≤q.pr.m.cW+20000/\q'.gn.m.cW≤q.gn.m.cW+20000:=fun mq hd he=>by
  have v1:=mq.v1;have v2:=mq.v2;have v3:=mq.v3;exact⟨HQ.mk' (mq.up (n':=n+10) (k':=90000) (by omega) (by omega)) h.vb (by omega) (by omega) Og Bu VQ ⟨by rw[wl];omega,h.len.2⟩ (by rw[wl];omega),by omega,by omega,by omega⟩
 rcases iY (og l k) with ei|ei
 ·obtain⟨E1,E2⟩:=agL h.nd hk ei;have AG:(mN q t).ins=ao:=AG.trans ei
  by_cases j8:(og l k).it∈fin [] l
  ·have eh:(mN q t).here=ao:=by rw[aeY,ei,decide_eq_true j8];rfl
   obtain⟨a1,a2,a3⟩:=E1 j8;have m3:=m1.TN hB (by omega) (mN q t)
   have m4:=m3.Cr hB (by omega) (x:=(og l k).it) (zI h.nd)
   have eQ:gy q t=⟨(Bs q t).mt.drop (mN q t),(Bs q t).pr.drop (sl (og l k).it),(Bs q t).gn,(Bs q t).cap⟩:=by unfold gy;rw[if_pos hb,if_pos AG,if_pos eh,eit]
   have mq:MQ (gy q t) (jC (j5 l k)) (fin [] (j5 l k)) (gn (j5 l k)) c (n+2) q 9000:=by
    rw[eQ,vl,a1,← AK Bu (qC h.nd) fun w=>by rw[a3,tz h.nd],CK (H:=pU (og l k).it (fin [] l)) (H':=fin [] l) fun w hw=>by
     rw[po];exact⟨fun c=>c.1,fun c=>⟨c,fun e=>((nm w).1 hw).2 ⟨ei,e⟩⟩⟩,← de]
    exact m4.up (by omega) (by omega)
   obtain⟨f1,f2,f3,f4⟩:=Vj mq (by omega) (by omega)
   refine⟨⟨fq,fun _=>⟨fun c=>absurd (AG.symm.trans c) (by decide),fun _ c=>absurd (eh.symm.trans c) (by decide)⟩⟩,c0,f1,f2,f3,f4,.inr (.inr ⟨_,j8,?_,?_,a1⟩)⟩
   ·unfold wL;rw[if_pos hb,if_pos AG]
   ·unfold w9;rw[if_pos hb,if_pos AG,if_pos eh,eit]
  ·have eh:(mN q t).here=an:=by rw[aeY,ei,decide_eq_false j8];rfl
   obtain⟨a0,A1,A2⟩:=E2 j8;have m3:=m2.bf_ hB (by omega) (Fh q t+1)
   have m3:MQ (Yi q t) (gq (fin [] l) l) (fin [] l) (gn l) c n q 600:=MQ.up m3 (a_ _) (by omega)
   have eU:PL q t=Mm l (k+1):=by
    unfold PL Km;rw[eX,eL,eR]
    rfl
   have eQ:gy q t=⟨(zo q t).mt.drop (mN q t),(zo q t).pr,(zo q t).gn.drop (sl (og l k).it),(zo q t).cap⟩:=by unfold gy;rw[if_pos hb,if_pos AG,if_neg (by rw[eh];decide),eit]
   have eI:wL q t=[]:=by unfold wL;rw[if_pos hb,if_pos AG]
   have eO:w9 q t=A6 (Yi q t) (PL q t):=by unfold w9;rw[if_pos hb,if_pos AG,if_neg (by rw[eh];decide)]
   cases hz:p6 (jC l) (Mm l (k+1)) with
   |none =>
    have HB:p6 (gq (fin [] l) l) (PL q t)=aj:=by rw[eU];exact hz
    obtain⟨a1,a2,a3⟩:=A1 hz;obtain⟨g1,g2,g3⟩:=m3.ae5 hB (by omega) (by omega) HB
    have g4:=MQ.TN (q:=zo q t) g1 hB (by omega) (mN q t)
    have g5:=g4.aab hB (by omega) (x:=(og l k).it) (qC h.nd)
    have mq:MQ (gy q t) (jC (j5 l k)) (fin [] (j5 l k)) (gn (j5 l k)) c (n+2) q 15000:=by
     rw[eQ,vl,a1,← AK Bu (zb (z:=(og l k).it) (qC h.nd)) fun w=>by rw[po,a3,tz h.nd],← de]
     exact g5.up (by omega) (by omega)
    obtain⟨f1,f2,f3,f4⟩:=Vj mq (by omega) (by omega)
    exact⟨⟨fq,fun _=>⟨fun c=>absurd (AG.symm.trans c) (by decide),fun _ _=>⟨g2,(MQ.lj (q:=zo q t) g1 (by omega)).1,(MQ.lj (q:=zo q t) g1 (by omega)).2.2⟩⟩⟩,c0,f1,f2,f3,f4,.inl ⟨eI,eO.trans g3,a1⟩⟩
   |some z =>
    have HB:p6 (gq (fin [] l) l) (PL q t)=aa z:=by rw[eU];exact hz
    obtain⟨b0,a1,a2,a3⟩:=A2 z hz;have zg:z∉gn l:=fun k=>((qU (lT h.nd) z).1 b0).2 ((tz h.nd).1 k)
    have gi:(gn l).length≤l.length-1∨(gn l).length=l.length:=by omega
    obtain⟨g1,g2,g3⟩:=m3.ta_ hB (by omega) (by omega) h.tm h.nd HB (zI h.nd) (qC h.nd) zg (by
     have e1:=IF l [];have e2:(l.filter fun o=>!o.ins).length<l.length:=by
      rw[List.length_filter_lt_length_iff_exists];exact⟨_,PB hk,by rw[ei];decide⟩
     rw[Ur];omega) (by omega)
    have g4:=MQ.TN (q:=zo q t) g1 hB (by omega) (mN q t)
    have g5:=g4.aab hB (by omega) (x:=(og l k).it) (pk (x:=z) (qC h.nd) zg)
    have mq:MQ (gy q t) (jC (j5 l k)) (fin [] (j5 l k)) (gn (j5 l k)) c (n+5) q 15000:=by
     rw[eQ,vl,a1,← AK Bu (zb (z:=(og l k).it) (pk (x:=z) (qC h.nd) zg)) fun w=>by rw[po,jY,a3,tz h.nd,or_comm (a:=w=z)],← de]
     exact g5.up (by omega) (by omega)
    obtain⟨f1,f2,f3,f4⟩:=Vj mq (by omega) (by omega)
    exact⟨⟨fq,fun _=>⟨fun c=>absurd (AG.symm.trans c) (by decide),fun _ _=>⟨g2,(MQ.lj (q:=zo q t) g1 (by omega)).1,(MQ.lj (q:=zo q t) g1 (by omega)).2.2⟩⟩⟩,c0,f1,f2,f3,f4,.inr (.inr ⟨z,b0,eI,eO.trans g3,a1⟩)⟩
 ·have AG:(mN q t).ins=an:=AG.trans ei;have nt:¬ (mN q t).ins=ao:=by rw[AG];decide
  obtain⟨E1,E2⟩:=agE h.nd hk ei;have m3:=m2.bu_ hB (by omega) (Fh q t)
  have m4:=m3.TN hB (by omega) (mN q t)
  have m4:MQ (Sp q t) (gq (fin [] l) (j5 l k)) (fin [] l) (gn l) c (n+1) q 5000:=(m4.lst (de _)).up (a_ _) (by omega)
  have eF:JY q t=qz l k:=by
   unfold JY F6;rw[eX,eL,eR]
  have eQ:gy q t=vS (Sp q t) (JY q t):=by unfold gy;rw[if_pos hb,if_neg nt]
  have eI:wL q t=wO (Sp q t) (JY q t):=by unfold wL;rw[if_pos hb,if_neg nt]
  have eO:w9 q t=[]:=by unfold w9;rw[if_pos hb,if_neg nt]
  have nm':∀ w,w∈gC (j5 l k)↔w∈gC l:=fun w=>by rw[nm,ei];simp
  by_cases qh:qz l k<0
  ·obtain⟨g1,g2,g3⟩:=m4.aeZ (by omega) (f:=JY q t) (by rw[eF];exact qh)
   obtain⟨a1,a2,a3⟩:=E1 qh;have mq:MQ (gy q t) (jC (j5 l k)) (fin [] (j5 l k)) (gn (j5 l k)) c (n+1) q 5000:=by
    rw[eQ,g1,vl,a1,← AK Bu (qC h.nd) fun w=>by rw[a3,tz h.nd]]
    exact m4
   obtain⟨f1,f2,f3,f4⟩:=Vj mq (by omega) (by omega)
   exact⟨⟨fq,fun _=>⟨fun _=>g2,fun c=>absurd c nt⟩⟩,c0,f1,f2,f3,f4,.inl ⟨eI.trans g3,eO,a1⟩⟩
  ·obtain⟨z,a0,b1,b2,a3,a4,a5⟩:=E2 qh;have hz:=(ai8 hk ei qh).trans a0;obtain⟨g1,g2,g3⟩:=m4.gb_ hB (by omega) (by omega) (f:=JY q t) Og Bu (by rw[eF];exact qh) (by rw[eF];exact hz) (zI h.nd) (qC h.nd) b1 (by
    have e0:∀ (a:List Op) (h:List It),(fin h a).length+(a.filter fun o=>!o.ins).length≤h.length+a.length+gI h a-0:=fun a=>by
     intro h;have il:∀ (x:It) (m:List It),(gZ x m).length=m.length+1:=fun x m=>by
      induction m with
      |nil=>rfl
      |cons y m ih=>unfold gZ;split<;>simp[ih]
     induction a generalizing h with
     |nil=>rw[fin,gI];simp
     |cons o r ih =>
      rcases iY o with e|e
      ·rw[td e,oC e,kg,e];have:=ih (gZ o.it h);rw[il] at this;simp only[Bool.not_true,fP,if_false,cy];omega
      ·rw[nB e,kg,e];have:=ih h.tail;simp only[HO,if_true,cy];cases h with
       |nil=>rw[sD e];simp only[List.tail_nil,jM] at this ⊢;omega
       |cons y h=>rw[nh e];simp only[List.tail_cons,cy] at this ⊢;omega
    have e1:=IF l [];have e2:=e0 l [];have e3:0<(tk [] l).length:=List.length_pos_of_mem b2;simp only[jM] at e2;omega) (by omega)
   have mq:MQ (gy q t) (jC (j5 l k)) (fin [] (j5 l k)) (gn (j5 l k)) c (n+5) q 12000:=by
    rw[eQ,vl,a3,← AK Bu (zb (z:=z) (qC h.nd)) fun w=>by rw[po,a5,tz h.nd],
     ← CK (H:=z::fin [] l) fun w _=>by rw[bO,jY]]
    exact g1.up (by omega) (by omega)
   obtain⟨f1,f2,f3,f4⟩:=Vj mq (by omega) (by omega)
   exact⟨⟨fq,fun _=>⟨fun _=>g2,fun c=>absurd c nt⟩⟩,c0,f1,f2,f3,f4,.inr (.inl ⟨z,b1,eI.trans g3,eO,a3⟩)⟩
end Pa
namespace Pa
open Rx Wv Sh
set_option maxRecDepth 100000
set_option maxHeartbeats 8000000
abbrev oz:Op:=⟨0,an,⟨0,0⟩⟩
abbrev oR (l:List Op):Row:=⟨[.int .i64 0,.bool an,.int .i64 0,.int .i64 0],l.length,[⟨l.map Op.t,[],[]⟩,⟨[],l.map Op.ins,[]⟩,⟨l.map fun o=>o.it.k,[],[]⟩,⟨l.map fun o=>o.it.i,[],[]⟩]⟩
def tx (l:List Op) (a n:Nat):Row:=⟨[.int .i64 0,.bool an,.int .i64 0,.int .i64 0],n,[⟨cut (l.map Op.t) a n,[],[]⟩,⟨[],cut (l.map Op.ins) a n,[]⟩,⟨cut (l.map fun o=>o.it.k) a n,[],[]⟩,⟨cut (l.map fun o=>o.it.i) a n,[],[]⟩]⟩
theorem zz (l:List Op):tx l 0 l.length=oR l:=by unfold tx;simp only[cm]
theorem Py (l:List Op):(⟨[.int .i64 0,.bool an,.int .i64 0,.int .i64 0],l.length,[⟨cut (l.map Op.t) 0 l.length,[],[]⟩,⟨[],cut (l.map Op.ins) 0 l.length,[]⟩,⟨cut (l.map fun o=>o.it.k) 0 l.length,[],[]⟩,⟨cut (l.map fun o=>o.it.i) 0 l.length,[],[]⟩]⟩:Row)=oR l:=by simp only[cm]
def uO (r:Row):List Op:=match r.ez with
 |[a,b,c,d]=>(n9 r.n).map fun i=>⟨a.i.getD i 0,b.b.getD i an,⟨c.i.getD i 0,d.i.getD i 0⟩⟩
 |_=>[]
theorem IH (l:List Op):uO (oR l)=l:=by
 unfold uO;refine FJ fun i hi=>?_
 simp only[Iu _ _ hi]
theorem Hz {β:Type} {l:List Op} {i:Nat} (f:Op->β) (d:β) (h:f oz=d):(l.map f).getD i d=f (l.getD i oz):=by
 subst h;rw[au,au,fh];cases l[i]?<;>rfl
abbrev vO {R:Type} (l:List Op):Option (SB R):=aa (.inr (.inr (.inl (oR l))))
abbrev oO {R:Type} (l:List Op):Option (SB R):=aa (.inr (.inl (45,oR l)))
abbrev oK {R:Type} (x:Op):Option (SB R):=aa (.inl (45,[.int .i64 x.t,.bool x.ins,.int .i64 x.it.k,.int .i64 x.it.i]))
theorem VO (i:Nat):0+(i:Int).toNat=i:=by omega
theorem adU {α:Type} (l:List α) (k:Nat):cut l k (l.length-k)=l.drop k:=by unfold cut;rw[jl (by rw[jr];exact a_ _)]
theorem ab3 {α:Type} (l:List α) (k:Nat):cut l 0 k=l.take k:=by unfold cut;rw[se]
def lh (l:List Op) (t:Int):Int:=if l.findIdx (fun o=>o.t==t)<l.length then(l.findIdx (fun o=>o.t==t):Int) else -1
def Dl (t:Int) (l:List Op):Nat:=l.findIdx (fun o=>!decide (o.t<t))
def rJ (l:List Op) (o:Op):List Op:=l.take (Dl o.t l)++o::l.drop (Dl o.t l)
def Jk (l:List Op) (i:Nat):List Op:=l.take i++l.drop (i+1)
theorem O4 (t:Int) (l:List Op):Dl t l≤l.length:=GI
theorem ail {t:Int} {l:List Op} {j:Nat} (h:j<Dl t l):(l.getD j oz).t<t:=by
 have hl:=O4 t l;have h3:=GJ (p:=fun o:Op=>!decide (o.t<t)) h
 rw[au,bd (by omega)]
 simpa using h3
theorem aj1 {t:Int} {l:List Op} (h:Dl t l<l.length):¬ (l.getD (Dl t l) oz).t<t:=by
 have h3:=I5 (p:=fun o:Op=>!decide (o.t<t)) (xs:=l) (w:=h)
 have e:l.getD (Dl t l) oz=l[l.findIdx (fun o:Op=>!decide (o.t<t))]'h:=by rw[au,bd h];rfl
 rw[e]
 simpa using h3
theorem MK (l:List Op) (o:Op):(rJ l o).length=l.length+1:=by
 have:=O4 o.t l;unfold rJ;rw[bF,cy,dQ,jr];omega
theorem ahp {l:List Op} {i:Nat} (h:i<l.length):(Jk l i).length=l.length-1:=by
 unfold Jk;rw[bF,dQ,jr];omega
def adB {R:Type}:Prim R:=fun args hh=>match args,hh with
 |[.slice (aa ⟨0,0,aa 4000⟩) n c,.int .i64 p],[aa (.inr (.inr (.inl r)))]=>aa ⟨r=oR (uO r)/\n=(uO r).length/\(uO r).length≤100,.int .i64 (lh (uO r) p),aj,hh,[],[]⟩
 |_,_=>aj
theorem ajQ {R:Type} {D:fJ R}:b9 D Tryz.prog 54 (a9 adB):=by
 refine fu Tryz.f54 fun args hh x hx=>?_
 unfold adB at hx;split at hx
 ·rename_i n c p r;cases hx;refine q4 fun _ hv=>?_
  obtain⟨hr,rfl,hb⟩:=hv;generalize uO r=l at *;subst hr
  generalize hG:cj (R:=R) _ _=G;refine cL (T:=[]) trivial mixed 200 ?_;refine bK (q:=At D Tryz.prog (dC Tryz.f54) 1 (ia Tryz.prog (dv (dw Tryz.f54)) G) [.inl [1,0,1,0],.inr (.inl 0),.inl [1,1]] (SS.mk (aa (bD (aa ⟨0,0,aa 4000⟩) l.length c)::aa (bm ar p)::aj::aj::aa (bm ar 0)::aa (bm ar 0)::n4 (n4 (n4 (aj::aj::[])))) [] [aa (.inr (.inr (.inl (oR l))))])) ?_ (by kernel_rfl)
  refine ld (by kernel_rfl) (ι:=Nat) (fun i=>i≤l.findIdx (fun m=>m.t==p)) [0,1,5] (fun i=>[.slice (aa ⟨0,0,aa 4000⟩) l.length c,.int .i64 p,.int .i64 i]) (fun i=>[vO l]) (fun i=>l.length-i) 20 (fun i hi=>⟨rfl,rfl,by simp⟩) ⟨0,dh _,⟨[0],rfl,⟨rfl,trivial⟩,rfl,rfl,rfl,rfl⟩⟩ fun i hi=>?_
  refine cL (T:=[]) trivial mixed 200 ?_;refine bK (q:=let Z2:=bm ar;let Z1:=(aI (ay Op.t l) (0+(i:Int).toNat) (0:Int)==p);(decide ((↑i:Int)<(↑l.length:Int))=ao->Vc ((0:Int)≤(↑i:Int)/\(↑i:Int)<(↑l.length:Int)/\0+ae l≤ae l)/\Vc (0+(i:Int).toNat<ae l)/\(Z1=ao->aX (G (Z2 (↑i:Int)) [aa (.inr (.inr (.inl (oR l))))]))/\(Z1=an->Vc (fits ((↑i:Int)+(1:Int)))/\aX (∃ j,j≤List.findIdx (fun m=>Op.t m==p) l/\ae l-j<ae l-i/\km R 1 20 [0,1,5] [.slice (aa ⟨0,0,aa 4000⟩) l.length c,Z2 p,Z2 (↑j:Int)] [vO l] [aa (bD (aa ⟨0,0,aa 4000⟩) l.length c),aa (Z2 p),aa (Z2 ((↑i:Int)+(1:Int)))] [aa (.inr (.inr (.inl (oR l))))] 20)))/\(decide ((↑i:Int)<(↑l.length:Int))=an->aX (G (Z2 (-1:Int)) [aa (.inr (.inr (.inl (oR l))))]))) ?_ (by kernel_rfl)
  intro Z2 Z1;subst Z1 Z2;have hle:l.findIdx (fun m=>m.t==p)≤l.length:=GI
  refine⟨fun h=>?_,fun h=>⟨?_⟩⟩
  ·have ch:i<l.length:=by have:=of_decide_eq_true h;omega
   have b1:(0:Int)≤(i:Int)/\(i:Int)<(l.length:Int)/\0+l.length≤l.length:=⟨by omega,by omega,by omega⟩
   simp only[VO,Hz Op.t 0 rfl];have eg:l.getD i oz=l[i]:=by rw[au,bd ch];rfl
   refine⟨⟨b1⟩,⟨ch⟩,fun h2=>⟨?_⟩,fun h2=>⟨⟨by omega,by omega⟩,i+1,?_,by omega,⟨[0],rfl,⟨rfl,trivial⟩,rfl,rfl,rfl,rfl⟩⟩⟩
   ·have e:l.findIdx (fun m=>m.t==p)=i:=by
     rcases cr i (l.findIdx (fun m=>m.t==p)) with c|c
     ·rw[eg] at h2;have h3:((l[i]'ch).t==p)=an:=GJ (p:=fun m:Op=>m.t==p) c;exact Bool.noConfusion (h2.symm.trans h3)
     ·omega
    have e2:lh l p=i:=by unfold lh;rw[e,if_pos ch]
    subst hG;rw[← e2];exact⟨[0],rfl,rfl,⟨rfl,trivial⟩,rfl,rfl,rfl,rfl⟩
   ·rcases cr i (l.findIdx (fun m=>m.t==p)) with c|c
    ·exact c
    ·have e:l.findIdx (fun m=>m.t==p)=i:=by omega
     have h3:((l[l.findIdx (fun m=>m.t==p)]'(by omega)).t==p)=ao:=I5 (p:=fun m:Op=>m.t==p) (xs:=l) (w:=by omega)
     have e3:l.getD (l.findIdx (fun m=>m.t==p)) oz=l[l.findIdx (fun m=>m.t==p)]'(by omega):=by rw[au,bd (by omega)];rfl
     rw[← e3,e] at h3;rw[h3] at h2;cases h2
  ·have e:l.findIdx (fun m=>m.t==p)=l.length:=by have:=of_decide_eq_false h;omega
   have e2:lh l p = -1:=by unfold lh;rw[e,if_neg (Nat.lt_irrefl _)]
   subst hG;rw[← e2];exact⟨[0],rfl,rfl,⟨rfl,trivial⟩,rfl,rfl,rfl,rfl⟩
 ·cases hx
def ad6 {R:Type}:Prim R:=fun args hh=>match args,hh with
 |[.slice (aa ⟨0,0,aa 4000⟩) n c,.int .i64 p],[aa (.inr (.inr (.inl r)))]=>aa ⟨r=oR (uO r)/\n=(uO r).length/\(uO r).length≤100/\0≤p/\p<(uO r).length,.slice (aa ⟨1,0,aa 4000⟩) (Jk (uO r) p.toNat).length 0,aj,[aa (.inr (.inr (.inl r))),oO (Jk (uO r) p.toNat)],[],[(0,0)]⟩
 |_,_=>aj
theorem aii {R:Type} {D:fJ R}:b9 D Tryz.prog 30 (a9 ad6):=by
 refine fu Tryz.f30 fun args hh x hx=>?_
 unfold ad6 at hx;split at hx
 ·rename_i n c p r;cases hx;refine q4 fun _ hv=>?_
  obtain⟨hr,rfl,hb,hp0,hp1⟩:=hv;generalize uO r=l at *;subst hr
  generalize hG:cj (R:=R) _ _=G;refine cL (T:=[]) trivial mixed 200 ?_;refine bK (q:=let Z3:=bm ar;let Z1:=(↑l.length:Int);let Z2:=(aG (Z1-(p+(1:Int))));Vc ((0:Int)≤p/\p≤Z1/\0+ae l≤ae l)/\Vc (0≤0/\0+aG p≤ae l/\(0+aG p)*32≤140737488355328/\0+aG p≤140737488355328)/\Vc (fits (p+(1:Int)))/\Vc (0=0/\(0:Int)≤p+(1:Int)/\p+(1:Int)≤Z1/\Z1≤Z1/\0+ae l≤ae l)/\Vc (0+(0+aG p)≤0+aG p/\0+aG (p+(1:Int))+aG (Z1-(p+(1:Int)))≤ae l/\(0+aG p+aG (Z1-(p+(1:Int))))*32≤140737488355328/\0+aG p+aG (Z1-(p+(1:Int)))≤140737488355328)/\aX (G (bD (aa ⟨4,0,aa 4000⟩) (0+aG p+aG (Z1-(p+(1:Int)))) 0) [aa (.inr (.inr (.inl (oR l)))),aa (.inr (.inl (45,Row.mk [Z3 0,.bool an,Z3 0,Z3 0] 0 [aW.mk [] [] [],aW.mk [] [] [],aW.mk [] [] [],aW.mk [] [] []]))),aj,aj,aa (.inr (.inl (45,Row.mk [Z3 0,.bool an,Z3 0,Z3 0] (0+aG p+aG (Z1-(p+(1:Int)))) [aW.mk (cut ([]++cut (ay Op.t l) 0 (aG p)) 0 (0+aG p)++cut (ay Op.t l) (0+aG (p+(1:Int))) Z2) [] [],aW.mk [] (cut ([]++cut (ay Op.ins l) 0 (aG p)) 0 (0+aG p)++cut (ay Op.ins l) (0+aG (p+(1:Int))) Z2) [],aW.mk (cut ([]++cut (ay (fun o=>It.k (Op.it o)) l) 0 (aG p)) 0 (0+aG p)++cut (ay (fun o=>It.k (Op.it o)) l) (0+aG (p+(1:Int))) Z2) [] [],aW.mk (cut ([]++cut (ay (fun o=>It.i (Op.it o)) l) 0 (aG p)) 0 (0+aG p)++cut (ay (fun o=>It.i (Op.it o)) l) (0+aG (p+(1:Int))) Z2) [] []])))])) ?_ (by kernel_rfl)
  intro Z3 Z1 Z2;subst Z2 Z1 Z3;obtain⟨i,rfl⟩:∃ i:Nat,p=i:=⟨p.toNat,by omega⟩
  have ch:i<l.length:=by omega
  have e0:((l.length:Int)-((i:Int)+1)).toNat=l.length-(i+1):=by omega
  have e1:((i:Int)+1).toNat=i+1:=by omega
  have P:∀ {β:Type} (f:Op->β),cut ([]++cut (l.map f) 0 i) 0 i++cut (l.map f) (i+1) (l.length-(i+1))=(Jk l i).map f:=fun {β} f=>by
   have h1:cut (l.map f) 0 i=(l.take i).map f:=by rw[XU,ab3]
   have h2:cut (l.map f) (i+1) (l.length-(i+1))=(l.drop (i+1)).map f:=by rw[XU,adU]
   have h3:cut ((l.take i).map f) 0 i=(l.take i).map f:=fE (by rw[fS,dQ];omega)
   rw[h1,h2,pd,h3,Jk,dJ]
  have N:i+(l.length-(i+1))=(Jk l i).length:=by rw[ahp ch];omega
  simp only[e0,e1,iJ,bU,P,N];refine⟨⟨by omega,by omega,by omega⟩,⟨by omega,by omega,by omega,by omega⟩,⟨by omega,by omega⟩,⟨by trivial,by omega,by omega,by omega,by omega⟩,⟨by omega,by omega,by rw[← N];omega,by rw[← N];omega⟩,⟨?_⟩⟩
  subst hG;exact⟨[0,4],rfl,rfl,⟨rfl,⟨_,rfl,.inl rfl⟩,trivial⟩,rfl,rfl,rfl,rfl⟩
 ·cases hx
theorem U4 {R:Type} {D:fJ R} {G:Value->Hp R->Prop} {l:List Op} {x:Op} {c r:Nat} {vc:Prop} (hb:l.length≤100) (hr:Dl x.t l=r) (hG:cj [vO (R:=R) l].length ⟨vc,.slice (aa ⟨1,0,aa 4000⟩) (rJ l x).length 0,aj,[vO l,oO (rJ l x)],[],[(0,0)]⟩=G) :
  At D Tryz.prog (dC Tryz.f56) 1 (ia Tryz.prog Tryz.f56.results.toList G) [.inl [1,1,1]] ⟨frame [0,3,5] [.slice (aa ⟨0,0,aa 4000⟩) l.length c,.pointer (aa ⟨1,0,aj⟩),.int .i64 r] 0 37,[],[vO l,oK x]⟩:=by
 refine cL (T:=[]) trivial mixed 200 ?_;refine bK (q:=let Z3:=bm ar;let Z1:=(↑r:Int);let Z2:=(↑l.length:Int);Vc ((0:Int)≤Z1/\Z1≤Z2/\0+ae l≤ae l)/\Vc (0≤0/\0+aG Z1≤ae l/\(0+aG Z1)*32≤140737488355328/\0+aG Z1≤140737488355328)/\Vc (0+(0+aG Z1)≤0+aG Z1/\1≤1/\(0+aG Z1+1)*32≤140737488355328/\0+aG Z1+1≤140737488355328)/\Vc (0=0/\(0:Int)≤Z1/\Z1≤Z2/\Z2≤Z2/\0+ae l≤ae l)/\Vc (0+(0+aG Z1+1)≤0+aG Z1+1/\0+aG Z1+aG (Z2-Z1)≤ae l/\(0+aG Z1+1+aG (Z2-Z1))*32≤140737488355328/\0+aG Z1+1+aG (Z2-Z1)≤140737488355328)/\aX (G (bD (aa ⟨6,0,aa 4000⟩) (0+aG Z1+1+aG (Z2-Z1)) 0) [aa (.inr (.inr (.inl (oR l)))),aa (.inl (45,[Z3 (Op.t x),.bool (Op.ins x),Z3 (It.k (Op.it x)),Z3 (It.i (Op.it x))])),aj,aj,aa (.inr (.inl (45,Row.mk [Z3 0,.bool an,Z3 0,Z3 0] 1 [aW.mk [Op.t x] [] [],aW.mk [] [Op.ins x] [],aW.mk [It.k (Op.it x)] [] [],aW.mk [It.i (Op.it x)] [] []]))),aj,aa (.inr (.inl (45,Row.mk [Z3 0,.bool an,Z3 0,Z3 0] (0+aG Z1+1+aG (Z2-Z1)) [aW.mk (cut (cut ([]++cut (ay Op.t l) 0 (aG Z1)) 0 (0+aG Z1)++cut [Op.t x] 0 1) 0 (0+aG Z1+1)++cut (ay Op.t l) (0+aG Z1) (aG (Z2-Z1))) [] [],aW.mk [] (cut (cut ([]++cut (ay Op.ins l) 0 (aG Z1)) 0 (0+aG Z1)++cut [Op.ins x] 0 1) 0 (0+aG Z1+1)++cut (ay Op.ins l) (0+aG Z1) (aG (Z2-Z1))) [],aW.mk (cut (cut ([]++cut (ay (fun o=>It.k (Op.it o)) l) 0 (aG Z1)) 0 (0+aG Z1)++cut [It.k (Op.it x)] 0 1) 0 (0+aG Z1+1)++cut (ay (fun o=>It.k (Op.it o)) l) (0+aG Z1) (aG (Z2-Z1))) [] [],aW.mk (cut (cut ([]++cut (ay (fun o=>It.i (Op.it o)) l) 0 (aG Z1)) 0 (0+aG Z1)++cut [It.i (Op.it x)] 0 1) 0 (0+aG Z1+1)++cut (ay (fun o=>It.i (Op.it o)) l) (0+aG Z1) (aG (Z2-Z1))) [] []])))])) ?_ (by kernel_rfl)
 intro Z3 Z1 Z2;subst Z2 Z1 Z3;have hle:r≤l.length:=by rw[← hr];exact O4 _ _
 have P:∀ {β:Type} (f:Op->β),(l.map f).take r++f x::(l.map f).drop r=(rJ l x).map f:=fun {β} f=>by
  rw[rJ,hr];simp[List.map_take,mJ]
 have A0:∀ {β:Type} (f:Op->β) (v:β),cut (cut ([]++cut (l.map f) 0 r) 0 r++cut [v] 0 1) 0 (r+1)++cut (l.map f) r ((l.length:Int)-(r:Int)).toNat=(l.map f).take r++v::(l.map f).drop r:=fun f v=>ER (fS ..) hle
 have hwl:=MK l x;have N:r+1+((l.length:Int)-(r:Int)).toNat=(rJ l x).length:=by omega
 simp only[iJ,bU,A0,N,P Op.t,P Op.ins,P (fun o=>o.it.k),P (fun o=>o.it.i)]
 refine⟨⟨by omega,by omega,by omega⟩,⟨by omega,by omega,by omega,by omega⟩,⟨by omega,by omega,by omega,by omega⟩,⟨by trivial,by omega,by omega,by omega,by omega⟩,⟨by omega,by omega,by omega,by omega⟩,⟨?_⟩⟩
 subst hG;exact⟨[0,6],rfl,rfl,⟨rfl,⟨_,rfl,.inl rfl⟩,trivial⟩,rfl,rfl,rfl,rfl⟩
def rk {R:Type}:Prim R:=fun args hh=>match args,hh with
 |[.slice (aa ⟨0,0,aa 4000⟩) n c,.agg ⟨[.int .i64 k0,.bool k1,.int .i64 k2,.int .i64 k3]⟩],[aa (.inr (.inr (.inl r)))]=>aa ⟨r=oR (uO r)/\n=(uO r).length/\(uO r).length≤100,.slice (aa ⟨1,0,aa 4000⟩) (rJ (uO r) (⟨k0,k1,⟨k2,k3⟩⟩:Op)).length 0,aj,[aa (.inr (.inr (.inl r))),oO (rJ (uO r) (⟨k0,k1,⟨k2,k3⟩⟩:Op))],[],[(0,0)]⟩
 |_,_=>aj
theorem aiN {R:Type} {D:fJ R}:b9 D Tryz.prog 56 (a9 rk):=by
 refine fu Tryz.f56 fun args hh x hx=>?_
 unfold rk at hx;split at hx
 ·rename_i n c k0 k1 k2 k3 r;cases hx;refine q4 fun _ hv=>?_
  obtain⟨hr,rfl,hb⟩:=hv;generalize uO r=l at *;subst hr
  generalize hG:cj (R:=R) _ _=G;refine cL (T:=[]) trivial mixed 200 ?_;refine bK (q:=let Z1:=bm ar;At D Tryz.prog (dC Tryz.f56) 1 (ia Tryz.prog (dv (dw Tryz.f56)) G) [.inl [1,1,0,0],.inr (.inl 0),.inl [1,1,1]] (SS.mk (aa (bD (aa ⟨0,0,aa 4000⟩) l.length c)::aa (bz (aJ [Z1 k0,.bool k1,Z1 k2,Z1 k3]))::aj::aa (aB (aa ⟨1,0,aj⟩))::aa (bD (aa ⟨2,0,aa 4000⟩) 0 0)::aa (Z1 0)::nH (n4 (n4 (n4 (aj::aj::aj::[]))))) [] [aa (.inr (.inr (.inl (oR l)))),aa (.inl (45,[Z1 k0,.bool k1,Z1 k2,Z1 k3])),aa (.inr (.inl (45,Row.mk [Z1 0,.bool an,Z1 0,Z1 0] 0 [aW.mk [] [] [],aW.mk [] [] [],aW.mk [] [] [],aW.mk [] [] []])))])) ?_ (by kernel_rfl)
  intro Z1;subst Z1;generalize hx:(⟨k0,k1,⟨k2,k3⟩⟩:Op)=x at *
  refine ld (by kernel_rfl) (ι:=Nat) (fun k=>k≤Dl x.t l) [0,3,5] (fun k=>[.slice (aa ⟨0,0,aa 4000⟩) l.length c,.pointer (aa ⟨1,0,aj⟩),.int .i64 k]) (fun k=>[vO l,oK x]) (fun k=>l.length-k) 37 (fun i hi=>⟨rfl,rfl,by simp⟩) ⟨0,dh _,⟨[0,1],rfl,⟨rfl,.inl (by subst hx;rfl),trivial⟩,rfl,rfl,rfl,rfl⟩⟩ fun k hk=>?_
  refine mg (T:=[]) [[1,1,1]] trivial mixed 200 ?_;refine bK (q:=let Z8:=bm ar;let Z1:=(decide ((↑k:Int)<(↑l.length:Int)));let Z2:=(aI (ay Op.t l) (0+(k:Int).toNat) (0:Int)<Op.t x);let Z3:=(bD (aa ⟨0,0,aa 4000⟩) l.length c);let Z4:=(aB (aa ⟨1,0,aj⟩));let Z5:=(Z8 (↑k:Int));let Z6:=(aB (aa (Addr.mk 0 (0+(k:Int).toNat) (aa 4000))));let Z7:=(cq (aJ []));(decide ((↑k:Int)<(↑l.length:Int))=ao->Vc (aC Z1=aC ao)/\Vc ((0:Int)≤(↑k:Int)/\(↑k:Int)<(↑l.length:Int)/\0+ae l≤ae l)/\Vc (0+(k:Int).toNat<ae l)/\(decide Z2=ao->Vc (fits ((↑k:Int)+(1:Int)))/\aX (∃ j,j≤Dl (Op.t x) l/\ae l-j<ae l-k/\km R 1 37 [0,3,5] [.slice (aa ⟨0,0,aa 4000⟩) l.length c,.pointer (aa ⟨1,0,aj⟩),Z8 (↑j:Int)] [vO l,oK x] [aa Z3,aa Z4,aa (Z8 ((↑k:Int)+(1:Int)))] [aa (.inr (.inr (.inl (oR l)))),aa (.inl (45,[Z8 (Op.t x),.bool (Op.ins x),Z8 (It.k (Op.it x)),Z8 (It.i (Op.it x))]))] 37))/\(decide Z2=an->At D Tryz.prog (dC Tryz.f56) 1 (ia Tryz.prog (dv (dw Tryz.f56)) G) [.inl [1,1,1]] (SS.mk (aa Z3::aj::aj::aa Z4::aj::aa Z5::aj::aa Z5::aa Z3::aa (Z8 (↑l.length:Int))::aa (aC Z1)::aa (aC ao)::aa Z3::aa Z5::aa Z6::aa Z6::aa (Z8 (aI (ay Op.t l) (0+(k:Int).toNat) (0:Int)))::aa Z4::aa (Z8 (Op.t x))::aa (aC (decide Z2))::aa (aC an)::nH ([])) [(20,an),(11,ao)] [aa (.inr (.inr (.inl (oR l)))),aa (.inl (45,[Z8 (Op.t x),.bool (Op.ins x),Z8 (It.k (Op.it x)),Z8 (It.i (Op.it x))]))])))/\(decide ((↑k:Int)<(↑l.length:Int))=an->Vc (aC Z1=aC an)/\At D Tryz.prog (dC Tryz.f56) 1 (ia Tryz.prog (dv (dw Tryz.f56)) G) [.inl [1,1,1]] (SS.mk (aa Z3::aj::aj::aa Z4::aj::aa Z5::aj::aa Z5::aa Z3::aa (Z8 (↑l.length:Int))::aa (aC Z1)::aa (aC an)::aa Z7::aa Z7::aa Z7::aa Z7::aa Z7::aa Z7::aa Z7::aa Z7::aa (aC an)::nH ([])) [(11,an),(20,an)] [aa (.inr (.inr (.inl (oR l)))),aa (.inl (45,[Z8 (Op.t x),.bool (Op.ins x),Z8 (It.k (Op.it x)),Z8 (It.i (Op.it x))]))]))) ?_ (by kernel_rfl)
  intro Z8 Z1 Z2 Z3 Z4 Z5 Z6 Z7;subst Z7 Z6 Z5 Z4 Z3 Z2 Z1 Z8;have hle:Dl x.t l≤l.length:=O4 _ _;refine⟨fun h=>?_,fun h=>?_⟩
  ·have ch:k<l.length:=by have:=of_decide_eq_true h;omega
   simp only[VO,Hz Op.t 0 rfl];refine⟨⟨congrArg aC h⟩,⟨by omega,by omega,by omega⟩,⟨ch⟩,fun h2=>⟨⟨by omega,by omega⟩,⟨k+1,?_,by omega,⟨[0,1],rfl,⟨rfl,.inl rfl,trivial⟩,rfl,rfl,rfl,rfl⟩⟩⟩,fun h2=>?_⟩
   ·have h3:=of_decide_eq_true h2;rcases cr k (Dl x.t l) with c|c
    ·exact c
    ·obtain rfl:k=Dl x.t l:=by omega
     exact absurd h3 (aj1 ch)
   ·have h3:=of_decide_eq_false h2;have hr:Dl x.t l=k:=by
     rcases cr k (Dl x.t l) with c|c
     ·exact absurd (ail c) h3
     ·omega
    exact At.fit [0,3,5] [.slice (aa ⟨0,0,aa 4000⟩) l.length c,.pointer (aa ⟨1,0,aj⟩),.int .i64 k] [vO l,oK x] 37 ⟨rfl,rfl,by simp⟩ ⟨[0,1],rfl,⟨rfl,.inl rfl,trivial⟩,rfl,rfl,rfl,rfl⟩ (U4 hb hr hG)
  ·have h3:=of_decide_eq_false h;have hr:Dl x.t l=k:=by omega
   exact⟨⟨congrArg aC h⟩,At.fit [0,3,5] [.slice (aa ⟨0,0,aa 4000⟩) l.length c,.pointer (aa ⟨1,0,aj⟩),.int .i64 k] [vO l,oK x] 37 ⟨rfl,rfl,by simp⟩ ⟨[0,1],rfl,⟨rfl,.inl rfl,trivial⟩,rfl,rfl,rfl,rfl⟩ (U4 hb hr hG)⟩
 ·cases hx
def kG (h:List It):List Op->List (Option It)
 |[]=>[]
 |o::r=>if o.ins=ao then aj::kG (gZ o.it h) r else h.head?::kG h.tail r
theorem HH:∀ (a b:List Op) (h:List It),kG h (a++b)=kG h a++kG (fin h a) b
 |[],b,h=>rfl
 |o::a,b,h=>by
  rcases iY o with e|e
  ·rw[mw,kG,if_pos e,kG,if_pos e,td e,HH a b];rfl
  ·rw[mw,kG,if_neg (by rw[e];decide),kG,if_neg (by rw[e];decide),nB e,HH a b];rfl
theorem Xz:∀ (a:List Op) (h:List It),(kG h a).length=a.length
 |[],h=>rfl
 |o::a,h=>by rw[kG];split<;>rw[cy,Xz a,cy]
theorem Rb:∀ (a:List Op) (h:List It),(fin h a).length≤h.length+a.length
 |[],h=>a_ _
 |o::a,h=>by
  rcases iY o with e|e
  ·have:=Rb a (gZ o.it h);have hi:(gZ o.it h).length=h.length+1:=by
    have:∀ (x:It) (l:List It),(gZ x l).length=l.length+1:=fun x l=>by
     induction l with
     |nil=>rfl
     |cons y l ih=>rw[gZ];split<;>simp[ih]
    exact this _ _
   rw[td e,cy];omega
  ·have:=Rb a h.tail;rw[nB e,cy];rw[Fy] at this;omega
theorem PV:∀ (a:List Op) (h:List It),(tk h a).length+gI h a≤a.length
 |[],h=>a_ _
 |o::a,h=>by
  rcases iY o with e|e
  ·rw[oD e,oC e];have:=PV a (gZ o.it h);rw[cy];omega
  ·cases h with
   |nil=>rw[BM e,sD e,cy];have:=PV a [];omega
   |cons y h=>rw[oj e,nh e,cy,cy];have:=PV a h;omega
theorem take_one {l:List Op} {i:Nat} (h:i<l.length):l.take (i+1)=l.take i++[l.getD i oz]:=by
 rw[yY h,au,bd h];rfl
theorem Rd (h:List It) (o:Op):fin h [o]=nX h o:=rfl
theorem ahA {l:List Op} {i:Nat} (h:i<l.length) (e:(l.getD i oz).ins=ao):fin [] (l.take (i+1))=gZ (l.getD i oz).it (fin [] (l.take i))/\tk [] (l.take (i+1))=tk [] (l.take i)/\gI [] (l.take (i+1))=gI [] (l.take i)/\kG [] (l.take (i+1))=kG [] (l.take i)++[aj]:=by
 rw[take_one h,p8,vW,uz,HH,Rd,QI e,oD e,oC e];refine⟨rfl,?_,rfl,?_⟩
 ·show _++[]=_;rw[Bd]
 ·rw[kG,if_pos e];rfl
theorem adK {l:List Op} {i:Nat} (h:i<l.length) (e:(l.getD i oz).ins=an) (h0:fin [] (l.take i)=[]):fin [] (l.take (i+1))=[]/\tk [] (l.take (i+1))=tk [] (l.take i)/\gI [] (l.take (i+1))=gI [] (l.take i)+1/\kG [] (l.take (i+1))=kG [] (l.take i)++[aj]:=by
 rw[take_one h,p8,vW,uz,HH,Rd,KY e,h0,BM e,sD e];refine⟨rfl,?_,rfl,?_⟩
 ·show _++[]=_;rw[Bd]
 ·rw[kG,if_neg (by rw[e];decide)];rfl
theorem af0 {l:List Op} {i:Nat} (h:i<l.length) (e:(l.getD i oz).ins=an) (h0:fin [] (l.take i)≠[]):fin [] (l.take (i+1))=(fin [] (l.take i)).tail/\tk [] (l.take (i+1))=tk [] (l.take i)++[(fin [] (l.take i)).getD 0 iz]/\gI [] (l.take (i+1))=gI [] (l.take i)/\kG [] (l.take (i+1))=kG [] (l.take i)++[aa ((fin [] (l.take i)).getD 0 iz)]:=by
 obtain⟨y,r,hy⟩:∃ y r,fin [] (l.take i)=y::r:=by
  cases hc:fin [] (l.take i) with
  |nil=>exact absurd hc h0
  |cons y r=>exact⟨y,r,rfl⟩
 rw[take_one h,p8,vW,uz,HH,Rd,KY e,hy,oj e,nh e];refine⟨rfl,rfl,rfl,?_⟩;rw[kG,if_neg (by rw[e];decide)];rfl
abbrev kR (l:List (Option It)):Row:=⟨[.bool an,.int .i64 0,.int .i64 0],l.length,[⟨[],l.map iG,[]⟩,⟨l.map fun x=>(x.getD ⟨0,0⟩).k,[],[]⟩,⟨l.map fun x=>(x.getD ⟨0,0⟩).i,[],[]⟩]⟩
abbrev oT' {R:Type} (l:List (Option It)):Option (SB R):=aa (.inr (.inl (47,kR l)))
theorem aei {x:It} {l:List It} (ho:Ord l) (hn:x∉l):oB (l++[x])=gZ x l:=by
 have j8:nI x l=an:=by
  refine decide_eq_false fun c=>hn ?_
  have:=yF (d:=iz) c
  rwa [w_ c] at this
 rw[af4 ho j8];refine ze (XA ho) (pk ho hn) fun z=>?_
 unfold rN;rw[j8];simp only[fP,if_false];rw[jY,b7,bO];have:=cP (so x l) l
 constructor
 ·rintro (m|m|m)
  ·exact .inr (ph m)
  ·exact .inl m
  ·exact .inr (vG m)
 ·rintro (m|m)
  ·exact .inr (.inl m)
  ·rw[← this] at m;rcases b7.1 m with m|m
   ·exact .inl m
   ·exact .inr (.inr m)
theorem Fb {β:Type} (f:It->β) (h:List It) (y:It):cut (cut ([]++cut (h.map f) 0 h.length) 0 (0+h.length)++cut [f y] 0 1) 0 (0+h.length+1)=(h++[y]).map f:=by
 have e1:cut (h.map f) 0 h.length=h.map f:=fE (by simp)
 have e2:cut [f y] 0 1=[f y]:=rfl;rw[pd,e1,bU,e1,e2,fE (by simp),dJ]
 rfl
theorem yS {α β:Type} (f:α->β) (k:List α) (y:α) (v:β) (hv:v=f y):cut (k.map f) 0 k.length++[v]=(k++[y]).map f:=by
 subst hv;rw[fE (by simp),dJ]
 rfl
theorem aiE {β:Type} (f:It->β) (h:List It):[]++cut (h.map f) 1 (h.length-1)=h.tail.map f:=by
 rw[pd];unfold cut;rw[jl (by simp),List.drop_one,List.map_tail]
def TRu {R:Type}:eJ R:=[(59,ve z0 2 (a9 Zz))]
theorem abX {R:Type} {D:fJ R}:cN D Tryz.prog (TRu:eJ R):=⟨o4 _ _ agy,trivial⟩
def aen {R:Type}:Prim R:=fun args hh=>match args,hh with
 |[.slice (aa ⟨0,0,aa 4000⟩) n c],[aa (.inr (.inr (.inl r)))]=>aa ⟨r=oR (uO r)/\n=(uO r).length/\(uO r).length≤100/\(gC (uO r)).Nodup,.tuple ⟨[.slice (aa ⟨1,0,aa 2000⟩) (fin [] (uO r)).length 0,.slice (aa ⟨2,0,aa 2000⟩) (oB (tk [] (uO r))).length 0,.int .i64 (gI [] (uO r)),.slice (aa ⟨3,0,aa 3000⟩) (kG [] (uO r)).length 0]⟩,aj,[aa (.inr (.inr (.inl r))),oI (fin [] (uO r)),oI (oB (tk [] (uO r))),oT' (kG [] (uO r))],[],[(0,0)]⟩
 |_,_=>aj
theorem ahY {R:Type} {D:fJ R}:b9 D Tryz.prog 19 (a9 aen):=by
 refine fu Tryz.f19 fun args hh x hx=>?_
 unfold aen at hx;split at hx
 ·rename_i n c r;cases hx;refine q4 fun _ hv=>?_
  obtain⟨hr,rfl,hb,hnd⟩:=hv;generalize uO r=l at *;subst hr
  generalize hG:cj (R:=R) _ _=G;refine cL (T:=TRu) abX mixed 200 ?_;refine bK (q:=let Z1:=bm ar;At D Tryz.prog (dC Tryz.f19) 1 (ia Tryz.prog (dv (dw Tryz.f19)) G) [.inl [1,1,1,1,0,1,0],.inr (.inl 0),.inl [1,1,1,1,1]] (SS.mk (aa (bD (aa ⟨0,0,aa 4000⟩) l.length c)::aj::aa (bD (aa ⟨1,0,aa 2000⟩) 0 0)::aa (bD (aa ⟨2,0,aa 2000⟩) 0 0)::aa (Z1 0)::aa (bD (aa ⟨3,0,aa 3000⟩) 0 0)::aa (bD (aa ⟨4,0,aa 2000⟩) 0 0)::aa (bD (aa ⟨5,0,aa 2000⟩) 0 0)::aa (bD (aa ⟨6,0,aa 3000⟩) 0 0)::aa (Z1 0)::aa (Z1 0)::nH (nH (nH (n4 ([]))))) [] [aa (.inr (.inr (.inl (oR l)))),aa (.inr (.inl (31,Row.mk [Z1 0,Z1 0] 0 [aW.mk [] [] [],aW.mk [] [] []]))),aa (.inr (.inl (31,Row.mk [Z1 0,Z1 0] 0 [aW.mk [] [] [],aW.mk [] [] []]))),aa (.inr (.inl (47,Row.mk [.bool an,Z1 0,Z1 0] 0 [aW.mk [] [] [],aW.mk [] [] [],aW.mk [] [] []]))),aa (.inr (.inl (31,Row.mk [Z1 0,Z1 0] 0 [aW.mk [] [] [],aW.mk [] [] []]))),aa (.inr (.inl (31,Row.mk [Z1 0,Z1 0] 0 [aW.mk [] [] [],aW.mk [] [] []]))),aa (.inr (.inl (47,Row.mk [.bool an,Z1 0,Z1 0] 0 [aW.mk [] [] [],aW.mk [] [] [],aW.mk [] [] []])))])) ?_ (by kernel_rfl)
  intro Z1;subst Z1;refine ld (by kernel_rfl) (ι:=Nat) (fun i=>i≤l.length) [0,6,7,8,9,10] (fun i=>[.slice (aa ⟨0,0,aa 4000⟩) l.length c,.slice (aa ⟨1,0,aa 2000⟩) (fin [] (l.take i)).length 0,.slice (aa ⟨2,0,aa 2000⟩) (tk [] (l.take i)).length 0,.slice (aa ⟨3,0,aa 3000⟩) (kG [] (l.take i)).length 0,.int .i64 (gI [] (l.take i)),.int .i64 i]) (fun i=>[vO l,oI (fin [] (l.take i)),oI (tk [] (l.take i)),oT' (kG [] (l.take i))]) (fun i=>l.length-i) 63 (fun i hi=>⟨rfl,rfl,by simp⟩) ⟨0,dh _,⟨[0,4,5,6],rfl,⟨rfl,⟨_,rfl,.inl rfl⟩,⟨_,rfl,.inl rfl⟩,⟨_,rfl,.inl rfl⟩,trivial⟩,rfl,rfl,rfl,rfl⟩⟩ fun i hi=>?_
  generalize hh:fin [] (l.take i)=h at *
  generalize hk:tk [] (l.take i)=k at *
  generalize hs:kG [] (l.take i)=s at *
  generalize hf:gI [] (l.take i)=f at *
  refine cL (T:=TRu) abX mixed 200 ?_;refine bK (q:=let b6:=bm ar;let Z1:=(0:Int);let Z2:=(ay It.k h);let Z3:=(ay It.i h);let Z4:=(ae s+1);let Z5:=(bD (aa ⟨0,0,aa 4000⟩) l.length c);let Z6:=(bD (aa ⟨2,0,aa 2000⟩) k.length 0);let Z7:=(b6 ((↑i:Int)+(1:Int)));let Z8:=s.length;let Z9:=(↑h.length:Int);let dO:=(fo (kM k 0 k.length));(decide ((↑i:Int)<(↑l.length:Int))=ao->Vc (Z1≤(↑i:Int)/\(↑i:Int)<(↑l.length:Int)/\0+ae l≤ae l)/\Vc (0+(i:Int).toNat<ae l)/\(aI (ay Op.ins l) (0+(i:Int).toNat) an=ao->Vc (0≤0/\0+ae h≤ae h/\(0+ae h)*16≤140737488355328/\0+ae h≤140737488355328)/\Vc (Z1≤(↑i:Int)/\(↑i:Int)<(↑l.length:Int)/\0+ae l≤ae l)/\Vc (0+(i:Int).toNat<ae l)/\Vc (0+(0+ae h)≤0+ae h/\1≤1/\(0+ae h+1)*16≤140737488355328/\0+ae h+1≤140737488355328)/\Vc ((0+(0+ae h+1)≤0+ae h+1/\True)/\Row.mk [b6 0,b6 0] (0+ae h+1) [aW.mk (cut (cut ([]++cut Z2 0 h.length) 0 (0+ae h)++cut [aI (ay (fun o=>It.k (Op.it o)) l) (0+(i:Int).toNat) Z1] 0 1) 0 (0+ae h+1)) [] [],aW.mk (cut (cut ([]++cut Z3 0 h.length) 0 (0+ae h)++cut [aI (ay (fun o=>It.i (Op.it o)) l) (0+(i:Int).toNat) Z1] 0 1) 0 (0+ae h+1)) [] []]=iR (fo (Row.mk [b6 0,b6 0] (0+ae h+1) [aW.mk (cut (cut ([]++cut Z2 0 h.length) 0 (0+ae h)++cut [aI (ay (fun o=>It.k (Op.it o)) l) (0+(i:Int).toNat) Z1] 0 1) 0 (0+ae h+1)) [] [],aW.mk (cut (cut ([]++cut Z3 0 h.length) 0 (0+ae h)++cut [aI (ay (fun o=>It.i (Op.it o)) l) (0+(i:Int).toNat) Z1] 0 1) 0 (0+ae h+1)) [] []]))/\0+ae h+1=ae (fo (Row.mk [b6 0,b6 0] (0+ae h+1) [aW.mk (cut (cut ([]++cut Z2 0 h.length) 0 (0+ae h)++cut [aI (ay (fun o=>It.k (Op.it o)) l) (0+(i:Int).toNat) Z1] 0 1) 0 (0+ae h+1)) [] [],aW.mk (cut (cut ([]++cut Z3 0 h.length) 0 (0+ae h)++cut [aI (ay (fun o=>It.i (Op.it o)) l) (0+(i:Int).toNat) Z1] 0 1) 0 (0+ae h+1)) [] []]))/\ae (fo (Row.mk [b6 0,b6 0] (0+ae h+1) [aW.mk (cut (cut ([]++cut Z2 0 h.length) 0 (0+ae h)++cut [aI (ay (fun o=>It.k (Op.it o)) l) (0+(i:Int).toNat) Z1] 0 1) 0 (0+ae h+1)) [] [],aW.mk (cut (cut ([]++cut Z3 0 h.length) 0 (0+ae h)++cut [aI (ay (fun o=>It.i (Op.it o)) l) (0+(i:Int).toNat) Z1] 0 1) 0 (0+ae h+1)) [] []]))≤100000)/\Vc (0+ae s≤ae s/\1≤1/\Z4*24≤140737488355328/\ae s+1≤140737488355328)/\Vc (fits ((↑i:Int)+(1:Int)))/\aX (∃ j,j≤ae l/\ae l-j<ae l-i/\km R 1 63 [0,6,7,8,9,10] [.slice (aa ⟨0,0,aa 4000⟩) l.length c,.slice (aa ⟨1,0,aa 2000⟩) (ae (fin [] (gY j l))) 0,.slice (aa ⟨2,0,aa 2000⟩) (ae (tk [] (gY j l))) 0,.slice (aa ⟨3,0,aa 3000⟩) (ae (kG [] (gY j l))) 0,b6 (↑(gI [] (gY j l)):Int),b6 (↑j:Int)] [vO l,oI (fin [] (gY j l)),oI (tk [] (gY j l)),oT' (kG [] (gY j l))] [aa Z5,aa (bD (aa ⟨10,0,aa 2000⟩) (ae (oB (fo (Row.mk [b6 0,b6 0] (0+ae h+1) [aW.mk (cut (cut ([]++cut Z2 0 h.length) 0 (0+ae h)++cut [aI (ay (fun o=>It.k (Op.it o)) l) (0+(i:Int).toNat) Z1] 0 1) 0 (0+ae h+1)) [] [],aW.mk (cut (cut ([]++cut Z3 0 h.length) 0 (0+ae h)++cut [aI (ay (fun o=>It.i (Op.it o)) l) (0+(i:Int).toNat) Z1] 0 1) 0 (0+ae h+1)) [] []])))) 0),aa Z6,aa (bD (aa ⟨12,0,aa 3000⟩) Z4 0),aa (b6 (↑f:Int)),aa Z7] [aa (.inr (.inr (.inl (oR l)))),aa (.inr (.inl (31,iR h))),aa (.inr (.inl (31,iR k))),aj,aa (.inl (47,[.bool an,b6 0,b6 0])),aj,aj,aa (.inr (.inl (31,Row.mk [b6 0,b6 0] 1 [aW.mk [aI (ay (fun o=>It.k (Op.it o)) l) (0+(i:Int).toNat) Z1] [] [],aW.mk [aI (ay (fun o=>It.i (Op.it o)) l) (0+(i:Int).toNat) Z1] [] []]))),aa (.inr (.inl (31,Row.mk [b6 0,b6 0] (0+ae h+1) [aW.mk (cut ([]++cut Z2 0 h.length) 0 (0+ae h)++cut [aI (ay (fun o=>It.k (Op.it o)) l) (0+(i:Int).toNat) Z1] 0 1) [] [],aW.mk (cut ([]++cut Z3 0 h.length) 0 (0+ae h)++cut [aI (ay (fun o=>It.i (Op.it o)) l) (0+(i:Int).toNat) Z1] 0 1) [] []]))),aj,aa (.inr (.inl (31,iR (oB (fo (Row.mk [b6 0,b6 0] (0+ae h+1) [aW.mk (cut (cut ([]++cut Z2 0 h.length) 0 (0+ae h)++cut [aI (ay (fun o=>It.k (Op.it o)) l) (0+(i:Int).toNat) Z1] 0 1) 0 (0+ae h+1)) [] [],aW.mk (cut (cut ([]++cut Z3 0 h.length) 0 (0+ae h)++cut [aI (ay (fun o=>It.i (Op.it o)) l) (0+(i:Int).toNat) Z1] 0 1) 0 (0+ae h+1)) [] []])))))),aa (.inr (.inl (47,Row.mk [.bool an,b6 0,b6 0] 1 [aW.mk [] [an] [],aW.mk [Z1] [] [],aW.mk [Z1] [] []]))),aa (.inr (.inl (47,Row.mk [.bool an,b6 0,b6 0] Z4 [aW.mk [] (cut (ay iG s) 0 Z8++[an]) [],aW.mk (cut (ay (fun x=>It.k (ik x (It.mk Z1 Z1))) s) 0 Z8++[Z1]) [] [],aW.mk (cut (ay (fun x=>It.i (ik x (It.mk Z1 Z1))) s) 0 Z8++[Z1]) [] []])))] 63))/\(aI (ay Op.ins l) (0+(i:Int).toNat) an=an->(decide (Z9>Z1)=ao->Vc (Z1≤Z1/\Z1<Z9/\0+ae h≤ae h)/\Vc (0<ae h)/\Vc (Z1≤Z1/\Z1<Z9/\0+ae h≤ae h)/\Vc (0<ae h)/\Vc (0+ae k≤ae k/\1≤1/\(ae k+1)*16≤140737488355328/\ae k+1≤140737488355328)/\Vc (0=0/\Z1≤(1:Int)/\(1:Int)≤Z9/\Z9≤Z9/\0+ae h≤ae h)/\Vc (0≤0/\1+aG (Z9-(1:Int))≤ae h/\(0+aG (Z9-(1:Int)))*16≤140737488355328/\0+aG (Z9-(1:Int))≤140737488355328)/\Vc (0+ae s≤ae s/\1≤1/\Z4*24≤140737488355328/\ae s+1≤140737488355328)/\Vc (fits ((↑i:Int)+(1:Int)))/\aX (∃ j,j≤ae l/\ae l-j<ae l-i/\km R 1 63 [0,6,7,8,9,10] [.slice (aa ⟨0,0,aa 4000⟩) l.length c,.slice (aa ⟨1,0,aa 2000⟩) (ae (fin [] (gY j l))) 0,.slice (aa ⟨2,0,aa 2000⟩) (ae (tk [] (gY j l))) 0,.slice (aa ⟨3,0,aa 3000⟩) (ae (kG [] (gY j l))) 0,b6 (↑(gI [] (gY j l)):Int),b6 (↑j:Int)] [vO l,oI (fin [] (gY j l)),oI (tk [] (gY j l)),oT' (kG [] (gY j l))] [aa Z5,aa (bD (aa ⟨8,0,aa 2000⟩) (0+aG (Z9-(1:Int))) 0),aa (bD (aa ⟨6,0,aa 2000⟩) (ae k+1) 0),aa (bD (aa ⟨10,0,aa 3000⟩) Z4 0),aa (b6 (↑f:Int)),aa Z7] [aa (.inr (.inr (.inl (oR l)))),aa (.inr (.inl (31,iR h))),aj,aj,aa (.inl (47,[.bool ao,b6 (aI Z2 0 Z1),b6 (aI Z3 0 Z1)])),aa (.inr (.inl (31,Row.mk [b6 0,b6 0] 1 [aW.mk [aI Z2 0 Z1] [] [],aW.mk [aI Z3 0 Z1] [] []]))),aa (.inr (.inl (31,Row.mk [b6 0,b6 0] (ae k+1) [aW.mk (cut (ay It.k k) 0 k.length++cut [aI Z2 0 Z1] 0 1) [] [],aW.mk (cut (ay It.i k) 0 k.length++cut [aI Z3 0 Z1] 0 1) [] []]))),aj,aa (.inr (.inl (31,Row.mk [b6 0,b6 0] (0+aG (Z9-(1:Int))) [aW.mk ([]++cut Z2 1 (aG (Z9-(1:Int)))) [] [],aW.mk ([]++cut Z3 1 (aG (Z9-(1:Int)))) [] []]))),aa (.inr (.inl (47,Row.mk [.bool an,b6 0,b6 0] 1 [aW.mk [] [ao] [],aW.mk [aI Z2 0 Z1] [] [],aW.mk [aI Z3 0 Z1] [] []]))),aa (.inr (.inl (47,Row.mk [.bool an,b6 0,b6 0] Z4 [aW.mk [] (cut (ay iG s) 0 Z8++[ao]) [],aW.mk (cut (ay (fun x=>It.k (ik x (It.mk Z1 Z1))) s) 0 Z8++cut [aI Z2 0 Z1] 0 1) [] [],aW.mk (cut (ay (fun x=>It.i (ik x (It.mk Z1 Z1))) s) 0 Z8++cut [aI Z3 0 Z1] 0 1) [] []])))] 63))/\(decide (Z9>Z1)=an->Vc (fits ((↑f:Int)+(1:Int)))/\Vc (0+ae s≤ae s/\1≤1/\Z4*24≤140737488355328/\ae s+1≤140737488355328)/\Vc (fits ((↑i:Int)+(1:Int)))/\aX (∃ j,j≤ae l/\ae l-j<ae l-i/\km R 1 63 [0,6,7,8,9,10] [.slice (aa ⟨0,0,aa 4000⟩) l.length c,.slice (aa ⟨1,0,aa 2000⟩) (ae (fin [] (gY j l))) 0,.slice (aa ⟨2,0,aa 2000⟩) (ae (tk [] (gY j l))) 0,.slice (aa ⟨3,0,aa 3000⟩) (ae (kG [] (gY j l))) 0,b6 (↑(gI [] (gY j l)):Int),b6 (↑j:Int)] [vO l,oI (fin [] (gY j l)),oI (tk [] (gY j l)),oT' (kG [] (gY j l))] [aa Z5,aa (bD (aa ⟨1,0,aa 2000⟩) h.length 0),aa Z6,aa (bD (aa ⟨6,0,aa 3000⟩) Z4 0),aa (b6 ((↑f:Int)+(1:Int))),aa Z7] [aa (.inr (.inr (.inl (oR l)))),aa (.inr (.inl (31,iR h))),aa (.inr (.inl (31,iR k))),aj,aa (.inl (47,[.bool an,b6 0,b6 0])),aa (.inr (.inl (47,Row.mk [.bool an,b6 0,b6 0] 1 [aW.mk [] [an] [],aW.mk [Z1] [] [],aW.mk [Z1] [] []]))),aa (.inr (.inl (47,Row.mk [.bool an,b6 0,b6 0] Z4 [aW.mk [] (cut (ay iG s) 0 Z8++[an]) [],aW.mk (cut (ay (fun x=>It.k (ik x (It.mk Z1 Z1))) s) 0 Z8++[Z1]) [] [],aW.mk (cut (ay (fun x=>It.i (ik x (It.mk Z1 Z1))) s) 0 Z8++[Z1]) [] []])))] 63))))/\(decide ((↑i:Int)<(↑l.length:Int))=an->Vc ((0+ae k≤ae k/\True)/\kM k 0 k.length=iR dO/\ae k=ae dO/\ae dO≤100000)/\aX (G (cq (aJ [.slice (aa ⟨1,0,aa 2000⟩) h.length 0,.slice (aa ⟨5,0,aa 2000⟩) (ae (oB dO)) 0,b6 (↑f:Int),.slice (aa ⟨3,0,aa 3000⟩) Z8 0])) [aa (.inr (.inr (.inl (oR l)))),aa (.inr (.inl (31,iR h))),aa (.inr (.inl (31,iR k))),aa (.inr (.inl (47,Row.mk [.bool an,b6 0,b6 0] Z8 [aW.mk [] (ay iG s) [],aW.mk (ay (fun x=>It.k (ik x (It.mk Z1 Z1))) s) [] [],aW.mk (ay (fun x=>It.i (ik x (It.mk Z1 Z1))) s) [] []]))),aj,aa (.inr (.inl (31,iR (oB dO))))]))) ?_ (by kernel_rfl)
  intro b6 Z1 Z2 Z3 Z4 Z5 Z6 Z7 Z8 Z9 dO;subst dO Z9 Z8 Z7 Z6 Z5 Z4 Z3 Z2 Z1 b6;have hhl:h.length≤i:=by rw[← hh];have:=Rb (l.take i) [];rw[dQ] at this;simp only[jM] at this;omega
  have Vy:k.length+f≤i:=by rw[← hk,← hf];have:=PV (l.take i) [];rw[dQ] at this;omega
  have FE:s.length≤i:=by rw[← hs,Xz,dQ];omega
  simp only[VO,Hz Op.ins an rfl,Hz (fun o=>o.it.k) 0 rfl,Hz (fun o=>o.it.i) 0 rfl,Mu It.k 0 rfl,Mu It.i 0 rfl,zO,Ar]
  refine⟨fun hc=>?_,fun hc=>?_⟩
  ·have ch:i<l.length:=by have:=of_decide_eq_true hc;omega
   have b1:(0:Int)≤(i:Int)/\(i:Int)<(l.length:Int)/\0+l.length≤l.length:=⟨by omega,by omega,by omega⟩
   have hd:l.drop i=l.getD i oz::l.drop (i+1):=by
    rw[List.drop_eq_getElem_cons ch,au,bd ch];rfl
   have ap:Ap (fin [] (l.take i)) (l.drop i):=El (by rw[cP];exact lT hnd)
   rw[hh] at ap;have S0:∀ y:Option It,s.length+1=(s++[y]).length:=fun y=>by simp
   refine⟨⟨b1⟩,⟨ch⟩,fun e=>?_,fun e=>⟨fun h0=>?_,fun h0=>?_⟩⟩
   ·obtain⟨r1,r2,r3,r4⟩:=ahA ch e;rw[hh] at r1;rw[hk] at r2;rw[hf] at r3;rw[hs] at r4;rw[hd] at ap;have hn:=(ap.ins e).2.1;have hsi:=aei ap.ord hn;have N:0+h.length+1=(h++[(l.getD i oz).it]).length:=by simp
    have K1:=yS iG s aj an rfl;have K2:=yS (fun x:Option It=>(x.getD ⟨0,0⟩).k) s aj 0 rfl
    have K3:=yS (fun x:Option It=>(x.getD ⟨0,0⟩).i) s aj 0 rfl
    have S1:=S0 aj;simp only[Fb It.k h (l.getD i oz).it,Fb It.i h (l.getD i oz).it,K1,K2,K3,S0 aj];simp only[N,Ar,hsi];refine⟨⟨by omega,by omega,by omega,by omega⟩,⟨b1⟩,⟨ch⟩,⟨by omega,by omega,by omega,by omega⟩,⟨⟨Nat.le_of_eq (bU _),trivial⟩,by trivial,by trivial,by simp;omega⟩,⟨by omega,by omega,by omega,by omega⟩,⟨by omega,by omega⟩,⟨i+1,ch,by omega,?_⟩⟩
    rw[r1,r2,r3,r4];exact⟨[0,10,2,12],rfl,⟨rfl,⟨_,rfl,.inl rfl⟩,⟨_,rfl,.inl rfl⟩,⟨_,rfl,.inl rfl⟩,trivial⟩,rfl,rfl,rfl,rfl⟩
   ·have h1:0<h.length:=by have:=of_decide_eq_true h0;omega
    obtain⟨r1,r2,r3,r4⟩:=af0 ch e (by rw[hh];exact DM h1)
    rw[hh] at r1 r2 r4;rw[hk] at r2;rw[hf] at r3;rw[hs] at r4;have N:0+(h.length-1)=h.tail.length:=by rw[Fy];omega
    have N2:((h.length:Int)-1).toNat=h.length-1:=by omega
    have NK:k.length+1=(k++[h.getD 0 iz]).length:=by simp
    have c1:∀ v:Int,cut [v] 0 1=[v]:=fun _=>rfl
    have G1:=yS It.k k (h.getD 0 iz) _ rfl;have G2:=yS It.i k (h.getD 0 iz) _ rfl;have K1:=yS iG s (aa (h.getD 0 iz)) ao rfl;have K2:=yS (fun x:Option It=>(x.getD ⟨0,0⟩).k) s (aa (h.getD 0 iz)) (h.getD 0 iz).k rfl
    have K3:=yS (fun x:Option It=>(x.getD ⟨0,0⟩).i) s (aa (h.getD 0 iz)) (h.getD 0 iz).i rfl
    have T1:=aiE It.k h;have T2:=aiE It.i h;refine⟨⟨by omega,by omega,by omega⟩,⟨h1⟩,⟨by omega,by omega,by omega⟩,⟨h1⟩,⟨by omega,by omega,by omega,by omega⟩,⟨by trivial,by omega,by omega,by omega,by omega⟩,⟨by omega,by omega,by omega,by omega⟩,⟨by omega,by omega,by omega,by omega⟩,⟨by omega,by omega⟩,⟨i+1,ch,by omega,?_⟩⟩
    rw[r1,r2,r3,r4];simp only[N,N2,NK,c1,G1,G2,K1,K2,K3,T1,T2,S0 (aa (h.getD 0 iz))];exact⟨[0,8,6,10],rfl,⟨rfl,⟨_,rfl,.inl rfl⟩,⟨_,rfl,.inl rfl⟩,⟨_,rfl,.inl rfl⟩,trivial⟩,rfl,rfl,rfl,rfl⟩
   ·have h1:h=[]:=iS (by have:=of_decide_eq_false h0;omega)
    obtain⟨r1,r2,r3,r4⟩:=adK ch e (by rw[hh];exact h1)
    rw[hk] at r2;rw[hf] at r3;rw[hs] at r4;have K1:=yS iG s aj an rfl;have K2:=yS (fun x:Option It=>(x.getD ⟨0,0⟩).k) s aj 0 rfl
    have K3:=yS (fun x:Option It=>(x.getD ⟨0,0⟩).i) s aj 0 rfl
    have S1:=S0 aj;simp only[K1,K2,K3,S0 aj];subst h1;refine⟨⟨by omega,by omega⟩,⟨by omega,by omega,by omega,by omega⟩,⟨by omega,by omega⟩,⟨i+1,ch,by omega,?_⟩⟩
    rw[r1,r2,r3,r4];exact⟨[0,1,2,6],rfl,⟨rfl,⟨_,rfl,.inl rfl⟩,⟨_,rfl,.inl rfl⟩,⟨_,rfl,.inl rfl⟩,trivial⟩,rfl,rfl,rfl,rfl⟩
  ·obtain rfl:i=l.length:=by have:=of_decide_eq_false hc;omega
   rw[jP] at hh hk hs hf;refine⟨⟨⟨by omega,trivial⟩,by trivial,by trivial,by omega⟩,⟨?_⟩⟩
   subst hh hk hs hf;subst hG;exact⟨[0,1,5,3],rfl,rfl,⟨rfl,⟨_,rfl,.inl rfl⟩,⟨_,rfl,.inl rfl⟩,⟨_,rfl,.inl rfl⟩,trivial⟩,rfl,rfl,rfl,rfl⟩
 ·cases hx
def hasB (l:List Op) (x:It):Bool:=l.any fun o=>o.ins&&decide (o.it=x)
theorem ahb {l:List Op} {i:Nat} (h:i<l.length) (x:It):hasB (l.take (i+1)) x=(hasB (l.take i) x||((l.getD i oz).ins&&decide ((l.getD i oz).it=x))):=by
 rw[take_one h];unfold hasB;rw[List.any_append];simp
theorem Yr {l:List Op} {x:It}:hasB l x=ao↔x∈gC l:=by
 rw[D3];unfold hasB;rw[Od]
 constructor
 ·rintro ⟨o,h1,h2⟩
  rw[aM,decide_eq_true_eq] at h2;exact⟨o,h1,h2.1,h2.2⟩
 ·rintro ⟨o,h1,h2,h3⟩
  exact⟨o,h1,by rw[h2,decide_eq_true h3];rfl⟩
abbrev bX {R:Type} (x:It):Option (SB R):=aa (.inl (31,[.int .i64 x.k,.int .i64 x.i]))
theorem Op.Q0 {a b:Op} (h:a.t=b.t) (h1:a.ins=b.ins) (h2:a.it=b.it):a=b:=by cases a;cases b;cases h;cases h1;cases h2;rfl
instance:DecidableEq Op:=fun a b=>decidable_of_iff (a.t=b.t/\a.ins=b.ins/\a.it=b.it) ⟨fun h=>Op.Q0 h.1 h.2.1 h.2.2,fun h=>by subst h;exact⟨rfl,rfl,rfl⟩⟩
theorem alb {a b:Op}:(a.t==b.t&&(a.ins==b.ins&&(a.it.k==b.it.k&&(a.it.i==b.it.i&&ao)&&ao)))=decide (a=b):=by
 rw[Bool.and_true,Tz,Bool.eq_iff_iff];simp only[aM,beq_iff_eq,decide_eq_true_eq];exact⟨fun h=>Op.Q0 h.1 h.2.1 h.2.2,fun h=>by subst h;exact⟨rfl,rfl,rfl⟩⟩
def adt {R:Type}:Prim R:=fun args hh=>match args,hh with
 |[.slice (aa ⟨0,0,aa 4000⟩) n c,.agg ⟨[.int .i64 a,.int .i64 b]⟩],[aa (.inr (.inr (.inl r)))]=>aa ⟨r=oR (uO r)/\n=(uO r).length/\(uO r).length≤100,.bool (hasB (uO r) ⟨a,b⟩),aj,hh,[],[]⟩
 |_,_=>aj
theorem ai9 {R:Type} {D:fJ R}:b9 D Tryz.prog 55 (a9 adt):=by
 refine fu Tryz.f55 fun args hh x hx=>?_
 unfold adt at hx;split at hx
 ·rename_i n c a b r;cases hx;refine q4 fun _ hv=>?_
  obtain⟨hr,rfl,hb⟩:=hv;generalize uO r=l at *;subst hr
  generalize hG:cj (R:=R) _ _=G;refine cL (T:=[]) trivial mixed 200 ?_;refine bK (q:=let Z1:=bm ar;At D Tryz.prog (dC Tryz.f55) 1 (ia Tryz.prog (dv (dw Tryz.f55)) G) [.inl [1,0,1,0],.inr (.inl 0),.inl [1,1]] (SS.mk (aa (bD (aa ⟨0,0,aa 4000⟩) l.length c)::aa (bz (aJ [Z1 a,Z1 b]))::aj::aa (aB (aa ⟨1,0,aj⟩))::aa (aC an)::aa (Z1 0)::nH (n4 ([]))) [(4,an)] [aa (.inr (.inr (.inl (oR l)))),aa (.inl (31,[Z1 a,Z1 b]))])) ?_ (by kernel_rfl)
  intro Z1;subst Z1;refine ld (by kernel_rfl) (ι:=Nat) (fun i=>i≤l.length/\hasB (l.take i) ⟨a,b⟩=an) [0,3,5] (fun i=>[.slice (aa ⟨0,0,aa 4000⟩) l.length c,.pointer (aa ⟨1,0,aj⟩),.int .i64 i]) (fun i=>[vO l,bX ⟨a,b⟩]) (fun i=>l.length-i) 26 (fun i hi=>⟨rfl,rfl,by simp⟩) ⟨0,⟨dh _,rfl⟩,⟨[0,1],rfl,⟨rfl,.inl rfl,trivial⟩,rfl,rfl,rfl,rfl⟩⟩ fun i hi=>?_
  obtain⟨hi,hn⟩:=hi;refine cL (T:=[]) trivial mixed 200 ?_;refine bK (q:=let Z2:=aB (aa ⟨1,0,aj⟩);let Z3:=bm ar;let Z1:=(aI (ay Op.ins l) (0+(i:Int).toNat) an);(decide ((↑i:Int)<(↑l.length:Int))=ao->Vc ((0:Int)≤(↑i:Int)/\(↑i:Int)<(↑l.length:Int)/\0+ae l≤ae l)/\Vc (0+(i:Int).toNat<ae l)/\(aI (ay Op.ins l) (0+(i:Int).toNat) an=ao->Vc ((0:Int)≤(↑i:Int)/\(↑i:Int)<(↑l.length:Int)/\0+ae l≤ae l)/\Vc (0+(i:Int).toNat<ae l)/\Vc (aC Z1=aC ao)/\Vc ((0:Int)≤(↑i:Int)/\(↑i:Int)<(↑l.length:Int)/\0+ae l≤ae l)/\Vc (0+(i:Int).toNat<ae l)/\((if an=ao then !(aI (ay (fun o=>It.k (Op.it o)) l) (0+(i:Int).toNat) (0:Int)==a&&(aI (ay (fun o=>It.i (Op.it o)) l) (0+(i:Int).toNat) (0:Int)==b&&ao)) else aI (ay (fun o=>It.k (Op.it o)) l) (0+(i:Int).toNat) (0:Int)==a&&(aI (ay (fun o=>It.i (Op.it o)) l) (0+(i:Int).toNat) (0:Int)==b&&ao))=ao->aX (G (aC ao) [aa (.inr (.inr (.inl (oR l)))),aa (.inl (31,[Z3 a,Z3 b]))]))/\((if an=ao then !(aI (ay (fun o=>It.k (Op.it o)) l) (0+(i:Int).toNat) (0:Int)==a&&(aI (ay (fun o=>It.i (Op.it o)) l) (0+(i:Int).toNat) (0:Int)==b&&ao)) else aI (ay (fun o=>It.k (Op.it o)) l) (0+(i:Int).toNat) (0:Int)==a&&(aI (ay (fun o=>It.i (Op.it o)) l) (0+(i:Int).toNat) (0:Int)==b&&ao))=an->Vc (fits ((↑i:Int)+(1:Int)))/\aX (∃ j,(j≤ae l/\hasB (gY j l) (It.mk a b)=an)/\ae l-j<ae l-i/\km R 1 26 [0,3,5] [.slice (aa ⟨0,0,aa 4000⟩) l.length c,Z2,Z3 (↑j:Int)] [vO l,bX (It.mk a b)] [aa (bD (aa ⟨0,0,aa 4000⟩) l.length c),aa (Z2),aa (Z3 ((↑i:Int)+(1:Int)))] [aa (.inr (.inr (.inl (oR l)))),aa (.inl (31,[Z3 a,Z3 b]))] 26)))/\(aI (ay Op.ins l) (0+(i:Int).toNat) an=an->Vc ((0:Int)≤(↑i:Int)/\(↑i:Int)<(↑l.length:Int)/\0+ae l≤ae l)/\Vc (0+(i:Int).toNat<ae l)/\Vc (aC Z1=aC an)/\Vc (fits ((↑i:Int)+(1:Int)))/\aX (∃ j,(j≤ae l/\hasB (gY j l) (It.mk a b)=an)/\ae l-j<ae l-i/\km R 1 26 [0,3,5] [.slice (aa ⟨0,0,aa 4000⟩) l.length c,Z2,Z3 (↑j:Int)] [vO l,bX (It.mk a b)] [aa (bD (aa ⟨0,0,aa 4000⟩) l.length c),aa (Z2),aa (Z3 ((↑i:Int)+(1:Int)))] [aa (.inr (.inr (.inl (oR l)))),aa (.inl (31,[Z3 a,Z3 b]))] 26)))/\(decide ((↑i:Int)<(↑l.length:Int))=an->aX (G (aC an) [aa (.inr (.inr (.inl (oR l)))),aa (.inl (31,[Z3 a,Z3 b]))]))) ?_ (by kernel_rfl)
  intro Z2 Z3 Z1;subst Z1 Z3 Z2;have hx:=Tz (a:=(l.getD i oz).it) (b:=⟨a,b⟩);simp only at hx;simp only[VO,Hz Op.ins an rfl,Hz (fun o=>o.it.k) 0 rfl,Hz (fun o=>o.it.i) 0 rfl,fP,if_false,hx]
  refine⟨fun h=>?_,fun h=>⟨?_⟩⟩
  ·have ch:i<l.length:=by have:=of_decide_eq_true h;omega
   have b1:(0:Int)≤(i:Int)/\(i:Int)<(l.length:Int)/\0+l.length≤l.length:=⟨by omega,by omega,by omega⟩
   have h1:=ahb ch ⟨a,b⟩;rw[hn,Bool.false_or] at h1;refine⟨⟨b1⟩,⟨ch⟩,fun h2=>⟨⟨b1⟩,⟨ch⟩,⟨congrArg aC h2⟩,⟨b1⟩,⟨ch⟩,fun h3=>⟨?_⟩,fun h3=>⟨⟨by omega,by omega⟩,⟨i+1,⟨ch,by rw[h1,h2,h3];rfl⟩,by omega,⟨[0,1],rfl,⟨rfl,.inl rfl,trivial⟩,rfl,rfl,rfl,rfl⟩⟩⟩⟩,fun h2=>⟨⟨b1⟩,⟨ch⟩,⟨congrArg aC h2⟩,⟨by omega,by omega⟩,⟨i+1,⟨ch,by rw[h1,h2];rfl⟩,by omega,⟨[0,1],rfl,⟨rfl,.inl rfl,trivial⟩,rfl,rfl,rfl,rfl⟩⟩⟩⟩
   have e:hasB l ⟨a,b⟩=ao:=by
    have:hasB (l.take (i+1)) ⟨a,b⟩=ao:=by rw[h1,h2,h3];rfl
    unfold hasB at this ⊢;rw[Od] at this ⊢;obtain⟨o,g1,g2⟩:=this;exact⟨o,ph g1,g2⟩
   subst hG;rw[e];exact⟨[0],rfl,rfl,⟨rfl,trivial⟩,rfl,rfl,rfl,rfl⟩
  ·obtain rfl:i=l.length:=by have:=of_decide_eq_false h;omega
   rw[jP] at hn;subst hG;rw[hn];exact⟨[0],rfl,rfl,⟨rfl,trivial⟩,rfl,rfl,rfl,rfl⟩
 ·cases hx
def adQ {R:Type}:Prim R:=fun args hh=>match args,hh with
 |[.slice (aa ⟨0,0,aa 4000⟩) n c,.slice (aa ⟨1,0,aa 4000⟩) n' c'],[aa (.inr (.inr (.inl r))),aa (.inr (.inr (.inl r')))]=>aa ⟨r=oR (uO r)/\n=(uO r).length/\r'=oR (uO r')/\n'=(uO r').length/\(uO r).length≤100000,.bool (decide (uO r=uO r')),aj,hh,[],[]⟩
 |_,_=>aj
theorem ajp {R:Type} {D:fJ R}:b9 D Tryz.prog 28 (a9 adQ):=by
 refine fu Tryz.f28 fun args hh x hx=>?_
 unfold adQ at hx;split at hx
 ·rename_i n c n' c' r r';cases hx;refine q4 fun _ hv=>?_
  obtain⟨hr,rfl,tP,rfl,hb⟩:=hv;generalize uO r=l at *;generalize uO r'=l' at *;subst hr;subst tP
  generalize hG:cj (R:=R) _ _=G;refine cL (T:=[]) trivial mixed 200 ?_;refine bK (q:=let Z1:=(bD (aa ⟨0,0,aa 4000⟩) l.length c);let Z2:=(bD (aa ⟨1,0,aa 4000⟩) (ae l') c');(((↑l.length:Int) != (↑(ae l'):Int))=ao->aX (G (aC an) [aa (.inr (.inr (.inl (oR l)))),aa (.inr (.inr (.inl (oR l'))))]))/\(((↑l.length:Int) != (↑(ae l'):Int))=an->At D Tryz.prog (dC Tryz.f28) 2 (ia Tryz.prog (dv (dw Tryz.f28)) G) [.inl [1,1,0,1,0],.inr (.inl 0),.inl [1,1,1]] (SS.mk (aa Z1::aa Z2::aj::aj::aa (aC an)::aa (bm ar 0)::aa Z1::aa (bm ar (↑l.length:Int))::aa Z2::aa (bm ar (↑(ae l'):Int))::aa (aC an)::n4 (n4 (n4 (aj::aj::aj::[])))) [(10,an),(4,an)] [aa (.inr (.inr (.inl (oR l)))),aa (.inr (.inr (.inl (oR l'))))]))) ?_ (by kernel_rfl)
  intro Z1 Z2;subst Z2 Z1;refine⟨fun h=>⟨?_⟩,fun h=>?_⟩
  ·have h2:¬ l=l':=fun e=>by rw[e,bne_self_eq_false] at h;cases h
   subst hG;rw[decide_eq_false h2];exact⟨[0,1],rfl,rfl,⟨rfl,rfl,trivial⟩,rfl,rfl,rfl,rfl⟩
  have hl:l.length=l'.length:=by have:=(bne_eq_false_iff_eq).1 h;omega
  clear h;refine ld (by kernel_rfl) (ι:=Nat) (fun i=>i≤l.length/\∀ j,j<i->l.getD j oz=l'.getD j oz) [0,1,5] (fun i=>[.slice (aa ⟨0,0,aa 4000⟩) l.length c,.slice (aa ⟨1,0,aa 4000⟩) l'.length c',.int .i64 i]) (fun i=>[vO l,vO l']) (fun i=>l.length-i) 26 (fun i hi=>⟨rfl,rfl,by simp⟩) ⟨0,⟨dh _,fun j hj=>by omega⟩,⟨[0,1],rfl,⟨rfl,rfl,trivial⟩,rfl,rfl,rfl,rfl⟩⟩ fun i hi=>?_
  obtain⟨hi,hn⟩:=hi;refine cL (T:=[]) trivial mixed 200 ?_;refine bK (q:=(decide ((↑i:Int)<(↑l.length:Int))=ao->Vc ((0:Int)≤(↑i:Int)/\(↑i:Int)<(↑l.length:Int)/\0+ae l≤ae l)/\Vc (0+(i:Int).toNat<ae l)/\Vc ((0:Int)≤(↑i:Int)/\(↑i:Int)<(↑(ae l'):Int)/\0+ae l'≤ae l')/\Vc (0+(i:Int).toNat<ae l')/\((if ao=ao then !(aI (ay Op.t l) (0+(i:Int).toNat) (0:Int)==aI (ay Op.t l') (0+(i:Int).toNat) (0:Int)&&(aI (ay Op.ins l) (0+(i:Int).toNat) an==aI (ay Op.ins l') (0+(i:Int).toNat) an&&(aI (ay (fun o=>It.k (Op.it o)) l) (0+(i:Int).toNat) (0:Int)==aI (ay (fun o=>It.k (Op.it o)) l') (0+(i:Int).toNat) (0:Int)&&(aI (ay (fun o=>It.i (Op.it o)) l) (0+(i:Int).toNat) (0:Int)==aI (ay (fun o=>It.i (Op.it o)) l') (0+(i:Int).toNat) (0:Int)&&ao)&&ao))) else aI (ay Op.t l) (0+(i:Int).toNat) (0:Int)==aI (ay Op.t l') (0+(i:Int).toNat) (0:Int)&&(aI (ay Op.ins l) (0+(i:Int).toNat) an==aI (ay Op.ins l') (0+(i:Int).toNat) an&&(aI (ay (fun o=>It.k (Op.it o)) l) (0+(i:Int).toNat) (0:Int)==aI (ay (fun o=>It.k (Op.it o)) l') (0+(i:Int).toNat) (0:Int)&&(aI (ay (fun o=>It.i (Op.it o)) l) (0+(i:Int).toNat) (0:Int)==aI (ay (fun o=>It.i (Op.it o)) l') (0+(i:Int).toNat) (0:Int)&&ao)&&ao)))=ao->aX (G (aC an) [aa (.inr (.inr (.inl (oR l)))),aa (.inr (.inr (.inl (oR l'))))]))/\((if ao=ao then !(aI (ay Op.t l) (0+(i:Int).toNat) (0:Int)==aI (ay Op.t l') (0+(i:Int).toNat) (0:Int)&&(aI (ay Op.ins l) (0+(i:Int).toNat) an==aI (ay Op.ins l') (0+(i:Int).toNat) an&&(aI (ay (fun o=>It.k (Op.it o)) l) (0+(i:Int).toNat) (0:Int)==aI (ay (fun o=>It.k (Op.it o)) l') (0+(i:Int).toNat) (0:Int)&&(aI (ay (fun o=>It.i (Op.it o)) l) (0+(i:Int).toNat) (0:Int)==aI (ay (fun o=>It.i (Op.it o)) l') (0+(i:Int).toNat) (0:Int)&&ao)&&ao))) else aI (ay Op.t l) (0+(i:Int).toNat) (0:Int)==aI (ay Op.t l') (0+(i:Int).toNat) (0:Int)&&(aI (ay Op.ins l) (0+(i:Int).toNat) an==aI (ay Op.ins l') (0+(i:Int).toNat) an&&(aI (ay (fun o=>It.k (Op.it o)) l) (0+(i:Int).toNat) (0:Int)==aI (ay (fun o=>It.k (Op.it o)) l') (0+(i:Int).toNat) (0:Int)&&(aI (ay (fun o=>It.i (Op.it o)) l) (0+(i:Int).toNat) (0:Int)==aI (ay (fun o=>It.i (Op.it o)) l') (0+(i:Int).toNat) (0:Int)&&ao)&&ao)))=an->Vc (fits ((↑i:Int)+(1:Int)))/\aX (∃ j,(j≤ae l/\∀ (Ma:Nat),Ma<j->aI l Ma oz=aI l' Ma oz)/\ae l-j<ae l-i/\km R 2 26 [0,1,5] [.slice (aa ⟨0,0,aa 4000⟩) l.length c,.slice (aa ⟨1,0,aa 4000⟩) (ae l') c',.int ar (↑j:Int)] [vO l,vO l'] [aa (bD (aa ⟨0,0,aa 4000⟩) l.length c),aa (bD (aa ⟨1,0,aa 4000⟩) (ae l') c'),aa (bm ar ((↑i:Int)+(1:Int)))] [aa (.inr (.inr (.inl (oR l)))),aa (.inr (.inr (.inl (oR l'))))] 26)))/\(decide ((↑i:Int)<(↑l.length:Int))=an->aX (G (aC ao) [aa (.inr (.inr (.inl (oR l)))),aa (.inr (.inr (.inl (oR l'))))]))) ?_ (by kernel_rfl)
  have hx:=alb (a:=l.getD i oz) (b:=l'.getD i oz);simp only[VO,Hz Op.t 0 rfl,Hz Op.ins an rfl,Hz (fun o=>o.it.k) 0 rfl,Hz (fun o=>o.it.i) 0 rfl,if_true,hx]
  refine⟨fun h=>?_,fun h=>?_⟩
  ·have ch:i<l.length:=by have:=of_decide_eq_true h;omega
   have VR:i<l'.length:=by omega
   refine⟨⟨by omega,by omega,by omega⟩,⟨ch⟩,⟨by omega,by omega,by omega⟩,⟨VR⟩,fun h2=>⟨?_⟩,fun h2=>⟨⟨by omega,by omega⟩,⟨i+1,⟨ch,fun j hj=>?_⟩,by omega,⟨[0,1],rfl,⟨rfl,rfl,trivial⟩,rfl,rfl,rfl,rfl⟩⟩⟩⟩
   ·have h3:¬ l.getD i oz=l'.getD i oz:=by simpa using h2
    have h4:¬ l=l':=fun e=>h3 (by rw[e])
    subst hG;rw[decide_eq_false h4];exact⟨[0,1],rfl,rfl,⟨rfl,rfl,trivial⟩,rfl,rfl,rfl,rfl⟩
   ·have h3:l.getD i oz=l'.getD i oz:=by simpa using h2
    rcases cr j i with c|c
    ·exact hn j c
    ·rw[show j=i by omega];exact h3
  ·obtain rfl:i=l.length:=by have:=of_decide_eq_false h;omega
   have e:l=l':=List.ext_getElem hl fun j h1 h2=>by
    have:=hn j h1
    rwa [au,bd h1,au,bd h2] at this
   refine⟨?_⟩;subst hG;rw[decide_eq_true e];exact⟨[0,1],rfl,rfl,⟨rfl,rfl,trivial⟩,rfl,rfl,rfl,rfl⟩
 ·cases hx
def kh (old now:List It) (i:Nat):List It:=(now.take i).filter fun x=>!nI x old
abbrev qg (old now:List It):List It:=kh old now now.length
theorem Oe {old now:List It} {i:Nat} (h:i<now.length):kh old now (i+1)=if nI (now.getD i iz) old=ao then kh old now i else kh old now i++[now.getD i iz]:=by
 unfold kh;rw[yY h,List.filter_append,au,bd h];simp only[Option.getD_some,kg,List.filter_nil];cases nI now[i] old<;>simp
theorem Pt (old now:List It) (i:Nat):(kh old now i).length≤now.length:=by
 unfold kh;have h1:=uL (fun x=>!nI x old) (now.take i)
 rw[dQ] at h1;omega
theorem J7 {l:List It} {x:It}:Pu l x<0↔nI x l=an:=by
 unfold Pu;cases nI x l
 ·simp
 ·simp
abbrev bC {R:Type} (a b:Value):Option (SB R):=aa (.inl (59,[a,b]))
def TCh {R:Type}:eJ R:=[(50,ve z0 2 (a9 atP))]
theorem Vb {R:Type} {D:fJ R}:cN D Tryz.prog (TCh:eJ R):=⟨o4 _ _ alB,trivial⟩
def ad4 {R:Type}:Prim R:=fun args hh=>match args,hh with
 |[.slice (aa ⟨0,0,aa 2000⟩) n c,.slice (aa ⟨1,0,aa 2000⟩) n' c'],[aa (.inr (.inr (.inl r))),aa (.inr (.inr (.inl r')))]=>aa ⟨r=iR (fo r)/\n=(fo r).length/\r'=iR (fo r')/\n'=(fo r').length/\(fo r).length≤100/\(fo r').length≤100,.agg ⟨[.slice (aa ⟨2,0,aa 2000⟩) (qg (fo r) (fo r')).length 0,.slice (aa ⟨3,0,aa 2000⟩) (qg (fo r') (fo r)).length 0]⟩,aj,[aa (.inr (.inr (.inl r))),aa (.inr (.inr (.inl r'))),oI (qg (fo r) (fo r')),oI (qg (fo r') (fo r))],[],[(0,0)]⟩
 |_,_=>aj
theorem ajN {R:Type} {D:fJ R}:b9 D Tryz.prog 58 (a9 ad4):=by
 refine fu Tryz.f58 fun args hh x hx=>?_
 unfold ad4 at hx;split at hx
 ·rename_i n c n' c' r r';cases hx;refine q4 fun _ hv=>?_
  obtain⟨hr,rfl,tP,rfl,hb,qh⟩:=hv;generalize fo r=l at *;generalize fo r'=l' at *;subst hr;subst tP
  generalize hG:cj (R:=R) _ _=G;refine cL (T:=TCh) Vb mixed 200 ?_;refine bK (q:=At D Tryz.prog (dC Tryz.f58) 2 (ia Tryz.prog (dv (dw Tryz.f58)) G) [.inl [1,1,0,1,0],.inr (.inl 0),.inl [1,1,1]] (SS.mk (aa (bD (aa ⟨0,0,aa 2000⟩) l.length c)::aa (bD (aa ⟨1,0,aa 2000⟩) (ae l') c')::aj::aj::aa (aB (aa ⟨2,0,aj⟩))::aa (aB (aa ⟨3,0,aj⟩))::aa (bm ar 0)::nH (nH (n4 (n4 (n4 (aj::aj::[])))))) [] [aa (.inr (.inr (.inl (iR l)))),aa (.inr (.inr (.inl (iR l')))),aa (.inl (59,[.slice aj 0 0,.slice aj 0 0])),aa (.inl (59,[.slice aj 0 0,.slice aj 0 0]))])) ?_ (by kernel_rfl)
  refine ld (by kernel_rfl) (ι:=Nat) (fun i=>i≤l'.length) [0,1,4,5,6] (fun i=>[.slice (aa ⟨0,0,aa 2000⟩) l.length c,.slice (aa ⟨1,0,aa 2000⟩) l'.length c',.pointer (aa ⟨2,0,aj⟩),.pointer (aa ⟨3,0,aj⟩),.int .i64 i]) (fun i=>[vI l,vI l',bC (.slice aj 0 0) (.slice aj 0 0),bC (.slice (aa ⟨4,0,aa 2000⟩) (kh l l' i).length 0) (.slice aj 0 0),oI (kh l l' i)]) (fun i=>l'.length-i) 53 (fun i hi=>⟨rfl,rfl,by simp⟩) ⟨0,dh _,⟨[0,1,2,3,99],rfl,⟨rfl,rfl,.inl rfl,.inl rfl,⟨rfl,iK _,rfl⟩,trivial⟩,rfl,rfl,rfl,rfl⟩⟩ fun i hi=>?_
  refine cL (T:=TCh) Vb mixed 200 ?_;refine bK (q:=let Z8:=aB (aa ⟨3,0,aj⟩);let Z9:=aB (aa ⟨2,0,aj⟩);let dO:=bm ar;let Z1:=(fo (kM l 0 l.length));let Z2:=(Pu Z1 (It.mk (aI (ay It.k l') (0+(i:Int).toNat) (0:Int)) (aI (ay It.i l') (0+(i:Int).toNat) (0:Int)))<(0:Int));let Z3:=(bD aj 0 0);let Z4:=(bD (aa ⟨0,0,aa 2000⟩) l.length c);let Z5:=(bD (aa ⟨1,0,aa 2000⟩) (ae l') c');let Z6:=(Z9);let Z7:=(Z8);(decide ((↑i:Int)<(↑(ae l'):Int))=ao->Vc ((0:Int)≤(↑i:Int)/\(↑i:Int)<(↑(ae l'):Int)/\0+ae l'≤ae l')/\Vc (0+(i:Int).toNat<ae l')/\Vc ((0+ae l≤ae l/\True)/\kM l 0 l.length=iR Z1/\ae l=ae Z1/\ae Z1≤100000)/\(decide Z2=ao->Vc ((0:Int)≤(↑i:Int)/\(↑i:Int)<(↑(ae l'):Int)/\0+ae l'≤ae l')/\Vc (0+(i:Int).toNat<ae l')/\Vc (0+ae (kh l l' i)≤ae (kh l l' i)/\1≤1/\(ae (kh l l' i)+1)*16≤140737488355328/\ae (kh l l' i)+1≤140737488355328)/\Vc (fits ((↑i:Int)+(1:Int)))/\aX (∃ j,j≤ae l'/\ae l'-j<ae l'-i/\km R 2 53 [0,1,4,5,6] [.slice (aa ⟨0,0,aa 2000⟩) l.length c,.slice (aa ⟨1,0,aa 2000⟩) (ae l') c',Z9,Z8,dO (↑j:Int)] [I6 l,I6 l',bC Z3 Z3,bC (bD (aa ⟨4,0,aa 2000⟩) (ae (kh l l' j)) 0) Z3,oI (kh l l' j)] [aa Z4,aa Z5,aa Z6,aa Z7,aa (dO ((↑i:Int)+(1:Int)))] [aa (.inr (.inr (.inl (iR l)))),aa (.inr (.inr (.inl (iR l')))),aa (.inl (59,[.slice aj 0 0,.slice aj 0 0])),aa (.inl (59,[.slice (aa ⟨6,0,aa 2000⟩) (ae (kh l l' i)+1) 0,.slice aj 0 0])),aj,aa (.inr (.inl (31,Row.mk [dO 0,dO 0] 1 [aW.mk [aI (ay It.k l') (0+(i:Int).toNat) (0:Int)] [] [],aW.mk [aI (ay It.i l') (0+(i:Int).toNat) (0:Int)] [] []]))),aa (.inr (.inl (31,Row.mk [dO 0,dO 0] (ae (kh l l' i)+1) [aW.mk (cut (ay It.k (kh l l' i)) 0 (ae (kh l l' i))++cut [aI (ay It.k l') (0+(i:Int).toNat) (0:Int)] 0 1) [] [],aW.mk (cut (ay It.i (kh l l' i)) 0 (ae (kh l l' i))++cut [aI (ay It.i l') (0+(i:Int).toNat) (0:Int)] 0 1) [] []])))] 53))/\(decide Z2=an->Vc (fits ((↑i:Int)+(1:Int)))/\aX (∃ j,j≤ae l'/\ae l'-j<ae l'-i/\km R 2 53 [0,1,4,5,6] [.slice (aa ⟨0,0,aa 2000⟩) l.length c,.slice (aa ⟨1,0,aa 2000⟩) (ae l') c',Z9,Z8,dO (↑j:Int)] [I6 l,I6 l',bC Z3 Z3,bC (bD (aa ⟨4,0,aa 2000⟩) (ae (kh l l' j)) 0) Z3,oI (kh l l' j)] [aa Z4,aa Z5,aa Z6,aa Z7,aa (dO ((↑i:Int)+(1:Int)))] [aa (.inr (.inr (.inl (iR l)))),aa (.inr (.inr (.inl (iR l')))),aa (.inl (59,[.slice aj 0 0,.slice aj 0 0])),aa (.inl (59,[.slice (aa ⟨4,0,aa 2000⟩) (ae (kh l l' i)) 0,.slice aj 0 0])),aa (.inr (.inl (31,iR (kh l l' i))))] 53)))/\(decide ((↑i:Int)<(↑(ae l'):Int))=an->At D Tryz.prog (dC Tryz.f58) 2 (ia Tryz.prog (dv (dw Tryz.f58)) G) [.inl [1,1,1,0,1,0],.inr (.inl 2),.inl [1,1,1,1]] (SS.mk (aa Z4::aa Z5::aj::aj::aa Z6::aa Z7::aa (dO (↑i:Int))::aa (dO 0)::aa (dO (↑i:Int))::aa Z5::aa (dO (↑(ae l'):Int))::aa (aC an)::nH (nH (n4 (n4 (aj::[]))))) [(11,an)] [aa (.inr (.inr (.inl (iR l)))),aa (.inr (.inr (.inl (iR l')))),aa (.inl (59,[.slice aj 0 0,.slice aj 0 0])),aa (.inl (59,[.slice (aa ⟨4,0,aa 2000⟩) (ae (kh l l' i)) 0,.slice aj 0 0])),aa (.inr (.inl (31,iR (kh l l' i))))]))) ?_ (by kernel_rfl)
  intro Z8 Z9 dO Z1 Z2 Z3 Z4 Z5 Z6 Z7;subst Z7 Z6 Z5 Z4 Z3 Z2 Z1 dO Z9 Z8;have ce:∀ v:Int,cut [v] 0 1=[v]:=fun _=>rfl
  have RW:=Pt l l' i;simp only[VV,Mu It.k 0 rfl,Mu It.i 0 rfl,ag2,zO,Ar,ce];refine⟨fun h=>?_,fun h=>?_⟩
  ·skip
   have ch:i<l'.length:=by have:=of_decide_eq_true h;omega
   have b1:(0:Int)≤(i:Int)/\(i:Int)<(l'.length:Int)/\0+l'.length≤l'.length:=⟨by omega,by omega,by omega⟩
   refine⟨⟨b1⟩,⟨ch⟩,⟨⟨by omega,trivial⟩,by trivial,by trivial,by omega⟩,fun h2=>⟨⟨b1⟩,⟨ch⟩,⟨by omega,by omega,by omega,by omega⟩,⟨by omega,by omega⟩,⟨i+1,ch,by omega,?_⟩⟩,fun h2=>⟨⟨by omega,by omega⟩,⟨i+1,ch,by omega,?_⟩⟩⟩
   ·have j8:=J7.1 (of_decide_eq_true h2);have e:kh l l' (i+1)=kh l l' i++[l'.getD i iz]:=by rw[Oe ch,if_neg (by rw[j8];decide)]
    have G1:=yS It.k (kh l l' i) (l'.getD i iz) _ rfl;have G2:=yS It.i (kh l l' i) (l'.getD i iz) _ rfl;have NK:(kh l l' i).length+1=(kh l l' i++[l'.getD i iz]).length:=by simp
    rw[e];simp only[G1,G2,NK];exact⟨[0,1,2,3,6],rfl,⟨rfl,rfl,.inl rfl,.inl rfl,⟨_,rfl,.inl rfl⟩,trivial⟩,rfl,rfl,rfl,rfl⟩
   ·have j8:nI (l'.getD i iz) l=ao:=by
     cases c:nI (l'.getD i iz) l
     ·exact absurd (J7.2 c) (of_decide_eq_false h2)
     ·rfl
    rw[Oe ch,if_pos j8];exact⟨[0,1,2,3,4],rfl,⟨rfl,rfl,.inl rfl,.inl rfl,⟨_,rfl,.inl rfl⟩,trivial⟩,rfl,rfl,rfl,rfl⟩
  obtain rfl:i=l'.length:=by have:=of_decide_eq_false h;omega
  refine ld (by kernel_rfl) (ι:=Nat) (fun i=>i≤l.length) [0,1,4,5,7] (fun i=>[.slice (aa ⟨0,0,aa 2000⟩) l.length c,.slice (aa ⟨1,0,aa 2000⟩) l'.length c',.pointer (aa ⟨2,0,aj⟩),.pointer (aa ⟨3,0,aj⟩),.int .i64 i]) (fun i=>[vI l,vI l',bC (.slice aj 0 0) (.slice aj 0 0),bC (.slice (aa ⟨4,0,aa 2000⟩) (kh l l' l'.length).length 0) (.slice (aa ⟨5,0,aa 2000⟩) (kh l' l i).length 0),oI (kh l l' l'.length),oI (kh l' l i)]) (fun i=>l.length-i) 53 (fun i hi=>⟨rfl,rfl,by simp⟩) ⟨0,dh _,⟨[0,1,2,3,4,99],rfl,⟨rfl,rfl,.inl rfl,.inl rfl,⟨_,rfl,.inl rfl⟩,⟨rfl,iK _,rfl⟩,trivial⟩,rfl,rfl,rfl,rfl⟩⟩ fun i hi=>?_
  refine cL (T:=TCh) Vb mixed 200 ?_;refine bK (q:=let Z6:=aB (aa ⟨3,0,aj⟩);let Z7:=aB (aa ⟨2,0,aj⟩);let Z8:=bm ar;let Z1:=(ae l');let Z2:=(Pu (fo (kM l' 0 Z1)) (It.mk (aI (ay It.k l) (0+(i:Int).toNat) (0:Int)) (aI (ay It.i l) (0+(i:Int).toNat) (0:Int)))<(0:Int));let Z3:=(ae (kh l l' Z1));let Z4:=(bD (aa ⟨0,0,aa 2000⟩) l.length c);let Z5:=(ae (kh l' l i));(decide ((↑i:Int)<(↑l.length:Int))=ao->Vc ((0:Int)≤(↑i:Int)/\(↑i:Int)<(↑l.length:Int)/\0+ae l≤ae l)/\Vc (0+(i:Int).toNat<ae l)/\Vc ((0+ae l'≤ae l'/\True)/\kM l' 0 Z1=iR (fo (kM l' 0 Z1))/\ae l'=ae (fo (kM l' 0 Z1))/\ae (fo (kM l' 0 Z1))≤100000)/\(decide Z2=ao->Vc ((0:Int)≤(↑i:Int)/\(↑i:Int)<(↑l.length:Int)/\0+ae l≤ae l)/\Vc (0+(i:Int).toNat<ae l)/\Vc (0+ae (kh l' l i)≤ae (kh l' l i)/\1≤1/\(ae (kh l' l i)+1)*16≤140737488355328/\ae (kh l' l i)+1≤140737488355328)/\Vc (fits ((↑i:Int)+(1:Int)))/\aX (∃ j,j≤ae l/\ae l-j<ae l-i/\km R 2 53 [0,1,4,5,7] [.slice (aa ⟨0,0,aa 2000⟩) l.length c,.slice (aa ⟨1,0,aa 2000⟩) Z1 c',Z7,Z6,Z8 (↑j:Int)] [I6 l,I6 l',bC (bD aj 0 0) (bD aj 0 0),bC (bD (aa ⟨4,0,aa 2000⟩) Z3 0) (bD (aa ⟨5,0,aa 2000⟩) (ae (kh l' l j)) 0),oI (kh l l' Z1),oI (kh l' l j)] [aa Z4,aa (bD (aa ⟨1,0,aa 2000⟩) Z1 c'),aa (Z7),aa (Z6),aa (Z8 ((↑i:Int)+(1:Int)))] [aa (.inr (.inr (.inl (iR l)))),aa (.inr (.inr (.inl (iR l')))),aa (.inl (59,[.slice aj 0 0,.slice aj 0 0])),aa (.inl (59,[.slice (aa ⟨4,0,aa 2000⟩) Z3 0,.slice (aa ⟨7,0,aa 2000⟩) (ae (kh l' l i)+1) 0])),aa (.inr (.inl (31,iR (kh l l' Z1)))),aj,aa (.inr (.inl (31,Row.mk [Z8 0,Z8 0] 1 [aW.mk [aI (ay It.k l) (0+(i:Int).toNat) (0:Int)] [] [],aW.mk [aI (ay It.i l) (0+(i:Int).toNat) (0:Int)] [] []]))),aa (.inr (.inl (31,Row.mk [Z8 0,Z8 0] (ae (kh l' l i)+1) [aW.mk (cut (ay It.k (kh l' l i)) 0 Z5++cut [aI (ay It.k l) (0+(i:Int).toNat) (0:Int)] 0 1) [] [],aW.mk (cut (ay It.i (kh l' l i)) 0 Z5++cut [aI (ay It.i l) (0+(i:Int).toNat) (0:Int)] 0 1) [] []])))] 53))/\(decide Z2=an->Vc (fits ((↑i:Int)+(1:Int)))/\aX (∃ j,j≤ae l/\ae l-j<ae l-i/\km R 2 53 [0,1,4,5,7] [.slice (aa ⟨0,0,aa 2000⟩) l.length c,.slice (aa ⟨1,0,aa 2000⟩) Z1 c',Z7,Z6,Z8 (↑j:Int)] [I6 l,I6 l',bC (bD aj 0 0) (bD aj 0 0),bC (bD (aa ⟨4,0,aa 2000⟩) Z3 0) (bD (aa ⟨5,0,aa 2000⟩) (ae (kh l' l j)) 0),oI (kh l l' Z1),oI (kh l' l j)] [aa Z4,aa (bD (aa ⟨1,0,aa 2000⟩) Z1 c'),aa (Z7),aa (Z6),aa (Z8 ((↑i:Int)+(1:Int)))] [aa (.inr (.inr (.inl (iR l)))),aa (.inr (.inr (.inl (iR l')))),aa (.inl (59,[.slice aj 0 0,.slice aj 0 0])),aa (.inl (59,[.slice (aa ⟨4,0,aa 2000⟩) Z3 0,.slice (aa ⟨5,0,aa 2000⟩) Z5 0])),aa (.inr (.inl (31,iR (kh l l' Z1)))),aa (.inr (.inl (31,iR (kh l' l i))))] 53)))/\(decide ((↑i:Int)<(↑l.length:Int))=an->aX (G (bz (aJ [.slice (aa ⟨4,0,aa 2000⟩) Z3 0,.slice (aa ⟨5,0,aa 2000⟩) Z5 0])) [aa (.inr (.inr (.inl (iR l)))),aa (.inr (.inr (.inl (iR l')))),aa (.inl (59,[.slice (aa ⟨4,0,aa 2000⟩) Z3 0,.slice (aa ⟨5,0,aa 2000⟩) Z5 0])),aa (.inl (59,[.slice (aa ⟨4,0,aa 2000⟩) Z3 0,.slice (aa ⟨5,0,aa 2000⟩) Z5 0])),aa (.inr (.inl (31,iR (kh l l' Z1)))),aa (.inr (.inl (31,iR (kh l' l i))))]))) ?_ (by kernel_rfl)
  intro Z6 Z7 Z8 Z1 Z2 Z3 Z4 Z5;subst Z5 Z4 Z3 Z2 Z1 Z8 Z7 Z6;have RW:=Pt l' l i;simp only[VV,Mu It.k 0 rfl,Mu It.i 0 rfl,zO,Ar,ce];refine⟨fun h=>?_,fun h=>⟨?_⟩⟩
  ·have ch:i<l.length:=by have:=of_decide_eq_true h;omega
   have b1:(0:Int)≤(i:Int)/\(i:Int)<(l.length:Int)/\0+l.length≤l.length:=⟨by omega,by omega,by omega⟩
   refine⟨⟨b1⟩,⟨ch⟩,⟨⟨by omega,trivial⟩,by trivial,by trivial,by omega⟩,fun h2=>⟨⟨b1⟩,⟨ch⟩,⟨by omega,by omega,by omega,by omega⟩,⟨by omega,by omega⟩,⟨i+1,ch,by omega,?_⟩⟩,fun h2=>⟨⟨by omega,by omega⟩,⟨i+1,ch,by omega,?_⟩⟩⟩
   ·have j8:=J7.1 (of_decide_eq_true h2);have e:kh l' l (i+1)=kh l' l i++[l.getD i iz]:=by rw[Oe ch,if_neg (by rw[j8];decide)]
    have G1:=yS It.k (kh l' l i) (l.getD i iz) _ rfl;have G2:=yS It.i (kh l' l i) (l.getD i iz) _ rfl;have NK:(kh l' l i).length+1=(kh l' l i++[l.getD i iz]).length:=by simp
    rw[e];simp only[G1,G2,NK];exact⟨[0,1,2,3,4,7],rfl,⟨rfl,rfl,.inl rfl,.inl rfl,⟨_,rfl,.inl rfl⟩,⟨_,rfl,.inl rfl⟩,trivial⟩,rfl,rfl,rfl,rfl⟩
   ·have j8:nI (l.getD i iz) l'=ao:=by
     cases c:nI (l.getD i iz) l'
     ·exact absurd (J7.2 c) (of_decide_eq_false h2)
     ·rfl
    rw[Oe ch,if_pos j8];exact⟨[0,1,2,3,4,5],rfl,⟨rfl,rfl,.inl rfl,.inl rfl,⟨_,rfl,.inl rfl⟩,⟨_,rfl,.inl rfl⟩,trivial⟩,rfl,rfl,rfl,rfl⟩
  ·obtain rfl:i=l.length:=by have:=of_decide_eq_false h;omega
   subst hG;exact⟨[0,1,4,5],rfl,rfl,⟨rfl,rfl,⟨_,rfl,.inl rfl⟩,⟨_,rfl,.inl rfl⟩,trivial⟩,rfl,rfl,rfl,rfl⟩
 ·cases hx
end Pa
namespace Rx
set_option maxRecDepth 100000
def wB (a n:Int):Int:=((a.tmod n)+n).tmod n
theorem L5 {a n:Int} (h:0<n):0≤wB a n/\wB a n<n:=by
 have h1:0≤a.tmod n+n:=by have:=Da a h;have:=KV a h;omega
 exact⟨Int.tmod_nonneg _ h1,Da _ h⟩
def Th {R:Type}:Prim R:=fun args hh=>match args,hh with
 |[.int .i64 a,.int .i64 n],[]=>aa ⟨0<n/\n<1000000,.int .i64 (wB a n),aj,hh,[],[]⟩
 |_,_=>aj
theorem XO {R:Type} {D:fJ R}:b9 D Tryz.prog 33 (a9 Th):=by
 refine fu Tryz.f33 fun args hh x hx=>?_
 unfold Th at hx;split at hx
 ·rename_i a n;cases hx;refine q4 fun _ hv=>?_
  generalize hG:cj (R:=R) _ _=G;refine cL (T:=[]) trivial mixed 200 ?_;refine bK (q:=Vc (n≠(0:Int))/\Vc (fits (Ch a n+n))/\Vc (n≠(0:Int))/\aX (G (bm ar (Ch (Ch a n+n) n)) [])) ?_ (by kernel_rfl)
  subst hG;have h1:=Da a hv.1;have h2:=KV a hv.1;refine⟨⟨by omega⟩,⟨⟨by omega,by omega⟩⟩,⟨by omega⟩,⟨⟨[],rfl,rfl,trivial,rfl,rfl,rfl,rfl⟩⟩⟩
 ·cases hx
end Rx
namespace Pa
open Rx Wv Sh
set_option maxRecDepth 100000
set_option maxHeartbeats 8000000
def z01:Nat->Bool:=fun i=>match i with|0=>ao|1=>ao|_=>an
def TSm {R:Type}:eJ R:=[(26,ve z01 2 (a9 TG))]
theorem ajw {R:Type} {D:fJ R}:cN D Tryz.prog (TSm:eJ R):=⟨o4 _ _ XL,trivial⟩
def ZD {R:Type}:Prim R:=fun args hh=>match args,hh with
 |[.agg ⟨[.slice (aa ⟨0,0,aa 2000⟩) a y0,.slice (aa ⟨1,0,aa 2000⟩) b y1]⟩,.agg ⟨[.slice (aa ⟨2,0,aa 2000⟩) c y2,.slice (aa ⟨3,0,aa 2000⟩) d y3]⟩],[aa (.inr (.inl (q0,r0))),aa (.inr (.inl (q1,r1))),aa (.inr (.inl (q2,r2))),aa (.inr (.inl (q3,r3)))]=>aa ⟨(q0=31/\q1=31/\q2=31/\q3=31)/\(r0=iR (fo r0)/\a=(fo r0).length/\(fo r0).length≤1000)/\(r1=iR (fo r1)/\b=(fo r1).length/\(fo r1).length≤1000)/\(r2=iR (fo r2)/\c=(fo r2).length/\(fo r2).length≤1000)/\(r3=iR (fo r3)/\d=(fo r3).length/\(fo r3).length≤1000),.bool (decide (fo r0=fo r2)&&decide (fo r1=fo r3)),aj,hh,[],[]⟩
 |_,_=>aj
theorem ahz {R:Type} {D:fJ R}:b9 D Tryz.prog 57 (a9 ZD):=by
 refine fu Tryz.f57 fun args hh x hx=>?_
 unfold ZD at hx;split at hx
 ·rename_i a y0 b y1 c y2 d y3 q0 r0 q1 r1 q2 r2 q3 r3;cases hx;refine q4 fun _ hv=>?_
  obtain⟨⟨rfl,rfl,rfl,rfl⟩,⟨e0,rfl,h0⟩,⟨e1,rfl,h1⟩,⟨e2,rfl,h2⟩,⟨e3,rfl,h3⟩⟩:=hv;generalize fo r0=w0 at *;subst e0;generalize fo r1=w1 at *;subst e1;generalize fo r2=w2 at *;subst e2;generalize fo r3=w3 at *;subst e3
  generalize hG:cj (R:=R) _ _=G;refine cL (T:=TSm) ajw mixed 200 ?_;refine bK (q:=let Z1:=(fo (kM w0 0 w0.length));let Z2:=(fo (kM w0 0 w0.length)=fo (kM w2 0 w2.length));let Z3:=(fo (kM w1 0 w1.length));Vc ((0+ae w0≤ae w0/\0+ae w2≤ae w2/\True)/\kM w0 0 w0.length=iR Z1/\ae w0=ae Z1/\kM w2 0 w2.length=iR (fo (kM w2 0 w2.length))/\ae w2=ae (fo (kM w2 0 w2.length))/\ae Z1≤100000)/\(decide Z2=ao->Vc ((0+ae w1≤ae w1/\0+ae w3≤ae w3/\True)/\kM w1 0 w1.length=iR Z3/\ae w1=ae Z3/\kM w3 0 w3.length=iR (fo (kM w3 0 w3.length))/\ae w3=ae (fo (kM w3 0 w3.length))/\ae Z3≤100000)/\aX (G (aC (decide (fo (kM w1 0 w1.length)=fo (kM w3 0 w3.length)))) [aa (.inr (.inl (31,iR w0))),aa (.inr (.inl (31,iR w1))),aa (.inr (.inl (31,iR w2))),aa (.inr (.inl (31,iR w3))),aa (.inl (59,[.slice (aa ⟨0,0,aa 2000⟩) w0.length y0,.slice (aa ⟨1,0,aa 2000⟩) w1.length y1])),aa (.inl (59,[.slice (aa ⟨2,0,aa 2000⟩) w2.length y2,.slice (aa ⟨3,0,aa 2000⟩) w3.length y3]))]))/\(decide Z2=an->aX (G (aC an) [aa (.inr (.inl (31,iR w0))),aa (.inr (.inl (31,iR w1))),aa (.inr (.inl (31,iR w2))),aa (.inr (.inl (31,iR w3))),aa (.inl (59,[.slice (aa ⟨0,0,aa 2000⟩) w0.length y0,.slice (aa ⟨1,0,aa 2000⟩) w1.length y1])),aa (.inl (59,[.slice (aa ⟨2,0,aa 2000⟩) w2.length y2,.slice (aa ⟨3,0,aa 2000⟩) w3.length y3]))]))) ?_ (by kernel_rfl)
  intro Z1 Z2 Z3;subst Z3 Z2 Z1;simp only[zO,Ar];have done:∀ (v:Bool) (rest:Hp R),v=(decide (w0=w2)&&decide (w1=w3))->G (.bool v) (oI w0::oI w1::oI w2::oI w3::rest):=by
   intro v rest e;subst e;subst hG;exact⟨[0,1,2,3],rfl,rfl,⟨⟨_,rfl,.inl rfl⟩,⟨_,rfl,.inl rfl⟩,⟨_,rfl,.inl rfl⟩,⟨_,rfl,.inl rfl⟩,trivial⟩,rfl,rfl,rfl,rfl⟩
  clear hG;refine⟨⟨⟨by omega,by omega,trivial⟩,by trivial,by trivial,by trivial,by trivial,by omega⟩,fun h=>⟨⟨⟨by omega,by omega,trivial⟩,by trivial,by trivial,by trivial,by trivial,by omega⟩,⟨done _ _ (by rw[h];rfl)⟩⟩,fun h=>⟨done _ _ (by rw[h];rfl)⟩⟩
 ·cases hx
structure Act where
 k:Int
 t:Int
 d:Bool
 x:It
def fm (a:Act) (l:List Op):Int:=if a.d=ao/\l≠[] then(l.getD (wB a.t l.length).toNat oz).t else a.t
def TTm {R:Type}:eJ R:=[(33,bJ zN 2 (a9 Th))]
theorem aiZ {R:Type} {D:fJ R}:cN D Tryz.prog (TTm:eJ R):=⟨aU _ _ XO,trivial⟩
def aeq {R:Type}:Prim R:=fun args hh=>match args,hh with
 |[.agg ⟨[.int .i64 k0,.int .i64 k1,.bool k2,.int .i64 k3,.int .i64 k4]⟩,.slice (aa ⟨0,0,aa 4000⟩) n c],[aa (.inr (.inr (.inl r)))]=>aa ⟨r=oR (uO r)/\n=(uO r).length/\(uO r).length≤100,.int .i64 (fm ⟨k0,k1,k2,⟨k3,k4⟩⟩ (uO r)),aj,hh,[],[]⟩
 |_,_=>aj
theorem aiz {R:Type} {D:fJ R}:b9 D Tryz.prog 32 (a9 aeq):=by
 refine fu Tryz.f32 fun args hh x hx=>?_
 unfold aeq at hx;split at hx
 ·rename_i k0 k1 k2 k3 k4 n c r;cases hx;refine q4 fun _ hv=>?_
  obtain⟨hr,rfl,hb⟩:=hv;generalize uO r=l at *;subst hr
  generalize hG:cj (R:=R) _ _=G;refine cL (T:=TTm) aiZ mixed 200 ?_;refine bK (q:=let Z2:=bm ar;let Z1:=(↑l.length:Int);((!k2)=an->((Z1==(0:Int))=ao->aX (G (Z2 k1) [aa (.inr (.inr (.inl (oR l)))),aa (.inl (33,[Z2 k0,Z2 k1,.bool k2,Z2 k3,Z2 k4]))]))/\((Z1==(0:Int))=an->Vc ((0:Int)<Z1/\Z1<(1000000:Int))/\Vc ((0:Int)≤wB k1 Z1/\wB k1 Z1<Z1/\0+ae l≤ae l)/\Vc (0+aG (wB k1 Z1)<ae l)/\aX (G (Z2 (aI (ay Op.t l) (0+aG (wB k1 Z1)) (0:Int))) [aa (.inr (.inr (.inl (oR l)))),aa (.inl (33,[Z2 k0,Z2 k1,.bool k2,Z2 k3,Z2 k4]))])))/\((!k2)=ao->aX (G (Z2 k1) [aa (.inr (.inr (.inl (oR l)))),aa (.inl (33,[Z2 k0,Z2 k1,.bool k2,Z2 k3,Z2 k4]))]))) ?_ (by kernel_rfl)
  intro Z2 Z1;subst Z1 Z2;have done:∀ (v:Int) (rest:Hp R),v=fm ⟨k0,k1,k2,⟨k3,k4⟩⟩ l->G (.int .i64 v) (vO l::rest):=by
   intro v rest e;subst e;subst hG;exact⟨[0],rfl,rfl,⟨rfl,trivial⟩,rfl,rfl,rfl,rfl⟩
  clear hG;refine⟨fun h=>⟨fun h2=>⟨?_⟩,fun h2=>?_⟩,fun h=>⟨?_⟩⟩
  ·have h3:l=[]:=iS (by have:=eq_of_beq h2;omega)
   exact done _ _ (by unfold fm;rw[if_neg (fun c=>c.2 h3)])
  ·have h3:0<l.length:=by have:=ne_of_beq_false h2;omega
   have hr:=L5 (a:=k1) (n:=l.length) (by omega)
   have hk:k2=ao:=by simpa using h
   refine⟨⟨by omega,by omega⟩,⟨hr.1,hr.2,by omega⟩,⟨by omega⟩,⟨done _ _ ?_⟩⟩
   unfold fm;rw[if_pos ⟨hk,DM h3⟩,Hz Op.t 0 rfl,bU]
  ·have hk:k2=an:=by simpa using h
   exact done _ _ (by unfold fm;rw[if_neg (fun c=>by rw[hk] at c;cases c.1)])
 ·cases hx
end Pa
namespace Pa
open Rx Wv Br
open Sh (rN wA mC sl nI)
def opM (m:Mk):Op:=⟨m.t,m.ins,m.it⟩
def QS.ops (q:QS):List Op:=q.mt.l.map opM
theorem ajM (H:List It) (l:List Op):(gq H l).map opM=l:=by
 unfold gq;rw[WE];exact List.map_id'' (fun o=>rfl) l
theorem HQ.ops {q:QS} {l:List Op} {c:Int} {n:Nat} (h:HQ q l c n):q.ops=l:=by
 unfold QS.ops;rw[h.m0,vl,ajM]
theorem HQ.mono {q:QS} {l:List Op} {c:Int} {n n':Nat} (h:HQ q l c n) (hn:n≤n'):HQ q l c n':=by
 obtain⟨v1,v2,v3⟩:=h.vb;exact⟨h.mq.up hn (nv _),h.tm,h.nd,h.dl,h.len,h.FV,by omega,by omega,by omega⟩
theorem HQ.cap {q:QS} {l:List Op} {c:Int} {n:Nat} (h:HQ q l c n):q.cap=c:=h.mq.cap
abbrev QS.Ok (q:QS):Prop:=HQ q q.ops q.cap 90000
theorem HQ.ok {q:QS} {l:List Op} {c:Int} (h:HQ q l c 90000):q.Ok:=by
 unfold QS.Ok;rw[h.ops,h.cap];exact h
theorem HQ.lj {q:QS} {l:List Op} {c:Int} {n:Nat} (h:HQ q l c n) (hn:n≤90000):q.gj:=h.mq.lj (by omega)
theorem HQ.pS {q:QS} {l:List Op} {c:Int} {n:Nat} (h:HQ q l c n):q8 q=pS l:=MQ.pS (H:=fin [] l) h.mq
def QS.qA (q:QS):Int:=q.mt.m.cW+q.pr.m.cW+q.gn.m.cW
def mF (l:List Op) (c t:Int) (x:It):Int:=if(l.length:Int)=c then 10 else if 0≤lh l t then 11 else if hasB l x=ao then 2 else 0
def nC (l:List Op) (c t:Int):Int:=if(l.length:Int)=c then 10 else if 0≤lh l t then 11 else 0
def re (l:List Op) (t:Int):Int:=if lh l t<0 then 14 else 0
def im (l:List Op) (c t:Int) (x:It):List Op:=if mF l c t x=0 then rJ l ⟨t,ao,x⟩ else l
def iB (l:List Op) (c t:Int):List Op:=if nC l c t=0 then rJ l ⟨t,an,iz⟩ else l
def kn (l:List Op) (t:Int):List Op:=if re l t=0 then Jk l (lh l t).toNat else l
abbrev c_ (l l':List Op):List It:=qg (fin [] l) (fin [] l')
theorem Lo {l:List Op} {t:Int} (h:Er l t):lh l t = -1:=by
 unfold lh;rw[if_neg];intro k;rw[List.findIdx_lt_length] at k;obtain⟨o,ho,e⟩:=k;exact h o ho (by simpa using e)
theorem TB {l:List Op} {t:Int} {k:Nat} (h:Tm l) (hk:k<l.length) (ht:(og l k).t=t):lh l t=k:=by
 unfold lh;have e:l.findIdx (fun o=>o.t==t)=k:=by
  rw[List.findIdx_eq hk];have eg:∀ j (hj:j<l.length),l[j]=og l j:=fun j hj=>by rw[og,au,bd hj];rfl
  refine⟨by rw[eg,ht];simp,fun j hj=>?_⟩
  have h2:=List.pairwise_iff_getElem.1 h j k (by omega) hk hj
  rw[eg,eg,ht] at h2;rw[eg];simp only[beq_eq_false_iff_ne];omega
 rw[e,if_pos hk]
theorem pn (a:List It):qg a a=[]:=by
 unfold qg kh;rw[jP,tN];intro x hx;rw[uG.2 hx];decide
theorem Lb {a b:List It} (h:∀ x,x∈b->x∈a):qg a b=[]:=by
 unfold qg kh;rw[jP,tN];intro x hx;rw[uG.2 (h x hx)];decide
theorem nin {x:It} {a:List It} (h:x∉a):nI x a=an:=by
 rw[LR];exact fun c=>h (uG.1 c)
theorem acz {z:It} {a:List It} (h:z∉a):qg a (gZ z a)=[z]:=by
 have key:∀ r:List It,(∀ x,x∈r->x∈a)->(gZ z r).filter (fun x=>!nI x a)=[z]:=fun r=>by
  induction r with
  |nil=>intro _;unfold gZ;rw[kg,nin h];rfl
  |cons y r ih =>
   intro hr;have h0:(y::r).filter (fun x=>!nI x a)=[]:=by
    rw[tN];intro x hx;rw[uG.2 (hr x hx)];decide
   unfold gZ;split
   ·rw[kg,nin h,h0];rfl
   ·rw[kg,uG.2 (hr y List.mem_cons_self),ih fun x hx=>hr x (List.mem_cons_of_mem _ hx)];rfl
 unfold qg kh;rw[jP];exact key a fun x hx=>hx
theorem aan {z:It} {a:List It} (ho:Ord a) (h:z∈a):qg (pU z a) a=[z]:=by
 have e:a.filter (fun x=>!nI x (pU z a))=a.filter (fun x=>decide (x=z)):=List.filter_congr fun x hx=>by
  by_cases c:x=z
  ·rw[nin (fun k=>(po.1 k).2 c),decide_eq_true c];rfl
  ·rw[uG.2 (po.2 ⟨hx,c⟩),decide_eq_false c];rfl
 have key:∀ r:List It,Ord r->z∈r->r.filter (fun x=>decide (x=z))=[z]:=fun r=>by
  induction r with
  |nil=>intro _ h;cases h
  |cons y r ih =>
   intro ho h;rw[kg]
   by_cases c:y=z
   ·subst c;rw[decide_eq_true rfl,if_pos rfl]
    congr 1
    rw[tN];intro x hx;rw[decide_eq_false];· decide
    intro e;subst e;exact yg ho hx
   ·rw[decide_eq_false c,if_neg (by decide)]
    exact ih (ES ho) ((bO.1 h).resolve_left fun e=>c e.symm)
 unfold qg kh;rw[jP,e];exact key a ho h
theorem ON {q q':QS} {k:Int} (h:q'.mt.m.cW≤q.mt.m.cW+k/\q'.pr.m.cW≤q.pr.m.cW+k/\q'.gn.m.cW≤q.gn.m.cW+k) (hk:k≤20000) (l:List Op):q'.qA≤q.qA+10000*(uR l.length+4:Nat):=by
 have:2≤uR l.length:=by unfold uR;omega
 unfold QS.qA;omega
theorem HQ.look {q q':QS} {l:List Op} {c:Int} {n:Nat} {k:Int} (h:HQ q l c n) (m:MQ q' (jC l) (fin [] l) (gn l) c n q k) (hk:k≤20000) :
  HQ q' l c (n+1)/\q'.qA≤q.qA+10000*(uR l.length+4:Nat):=by
 have v1:=m.v1;have v2:=m.v2;have v3:=m.v3;exact⟨HQ.mk' (m.up (n':=n+1) (k':=90000) (by omega) (by omega)) h.vb (by omega) (by omega) h.tm h.nd h.dl h.len h.FV,ON ⟨v1.2,v2.2,v3.2⟩ hk l⟩
theorem B9 {q:QS} {l:List Op} {c:Int} {n:Nat} {t:Int} {x:It} (h:HQ q l c n) (uc:l.length≤59) (hn:n≤90000) :
  TJ q t x/\Ew q t x=mF l c t x/\HQ (kb q t x) (im l c t x) c (n+10)/\(kb q t x).qA≤q.qA+10000*(uR l.length+4:Nat)/\tU q t x=c_ l (im l c t x)/\c_ (im l c t x) l=[]:=by
 have hB:=h.U8 (by omega)
 have fq:=h.lj hn;obtain⟨r1,r2,r3⟩:=h.ref t;have m1:=h.mq.ZZ hB (by omega) t
 have no:∀ {e:Int},mW q t=e->e≠0->mF l c t x=e->TJ q t x/\Ew q t x=mF l c t x/\HQ (kb q t x) (im l c t x) c (n+10)/\(kb q t x).qA≤q.qA+10000*(uR l.length+4:Nat)/\tU q t x=c_ l (im l c t x)/\c_ (im l c t x) l=[]:=fun {e} h1 h2 h3=>by
  have h0:¬ mW q t=0:=by rw[h1];exact h2
  have eL:im l c t x=l:=by unfold im;rw[h3,if_neg h2]
  have eQ:kb q t x=nM q t:=by unfold kb;rw[if_neg h0]
  have L:=h.look m1 (by omega)
  rw[eL,eQ];refine⟨⟨fq,fun c=>absurd c h0⟩,?_,L.1.mono (by omega),L.2,?_,pn _⟩
  ·unfold Ew;rw[if_neg h0,h1,h3]
  ·unfold tU c_;rw[if_neg h0,pn]
 by_cases c1:(l.length:Int)=c
 ·exact no (r1 c1) (by decide) (by unfold mF;rw[if_pos c1])
 ·rcases K5 l t with c2|⟨k,hk,ht⟩
  ·by_cases c3:x∈gC l
   ·have h0:=r3 c1 c2;have kx:AW (nM q t) x=ao:=(h.ind x).2 c3;have eE:mF l c t x=2:=by unfold mF;rw[if_neg c1,Lo c2,if_neg (by decide),if_pos (Yr.2 c3)]
    have eL:im l c t x=l:=by unfold im;rw[eE,if_neg (by decide)]
    have eQ:kb q t x=LW q t x:=by unfold kb;rw[if_pos h0,if_pos kx]
    have m2:=m1.akl hB (by omega) x
    have L:=h.look m2 (by omega)
    rw[eL,eQ,eE];refine⟨⟨fq,fun _ k=>absurd (kx.symm.trans k) (by decide)⟩,?_,L.1.mono (by omega),L.2,?_,pn _⟩
    ·unfold Ew;rw[if_pos h0,if_pos kx]
    ·unfold tU c_;rw[if_pos h0,if_pos kx,pn]
   ·obtain⟨g1,g2,g3,v1,v2,v3,g4,g5⟩:=ajK h uc hn c1 c2 c3;have eE:mF l c t x=0:=by unfold mF;rw[if_neg c1,Lo c2,if_neg (by decide),if_neg (fun k=>c3 (Yr.1 k))]
    have eL:im l c t x=j7 l (lY t l) ⟨t,ao,x⟩:=by unfold im;rw[eE,if_pos rfl];rfl
    rw[eL,eE];refine⟨g1,g2,g3,ON ⟨v1,v2,v3⟩ (by omega) l,?_,?_⟩
    ·unfold c_
     by_cases hb:qz l (lY t l)<0
     ·rw[(g4 hb).1,(g4 hb).2,pn]
     ·obtain⟨z,a1,a2,a3⟩:=g5 hb;rw[a2,a3,acz a1]
    ·unfold c_
     by_cases hb:qz l (lY t l)<0
     ·rw[(g4 hb).2,pn]
     ·obtain⟨z,a1,a2,a3⟩:=g5 hb;rw[a3];exact Lb fun w hw=>jY.2 (.inr hw)
  ·have nf:¬ Er l t:=fun f=>f _ (PB hk) ht
   exact no (r2 c1 nf) (by decide) (by unfold mF;rw[if_neg c1,TB h.tm hk ht,if_pos (by omega)])
theorem BK {q:QS} {l:List Op} {c:Int} {n:Nat} {t:Int} (h:HQ q l c n) (uc:l.length≤59) (hn:n≤90000) :
  Tj q t/\mW q t=nC l c t/\HQ (jA q t) (iB l c t) c (n+10)/\(jA q t).qA≤q.qA+10000*(uR l.length+4:Nat)/\c_ l (iB l c t)=[]/\Au q t=c_ (iB l c t) l:=by
 have hB:=h.U8 (by omega)
 have fq:=h.lj hn;obtain⟨r1,r2,r3⟩:=h.ref t;have m1:=h.mq.ZZ hB (by omega) t
 have no:∀ {e:Int},mW q t=e->e≠0->nC l c t=e->Tj q t/\mW q t=nC l c t/\HQ (jA q t) (iB l c t) c (n+10)/\(jA q t).qA≤q.qA+10000*(uR l.length+4:Nat)/\c_ l (iB l c t)=[]/\Au q t=c_ (iB l c t) l:=fun {e} h1 h2 h3=>by
  have h0:¬ mW q t=0:=by rw[h1];exact h2
  have eL:iB l c t=l:=by unfold iB;rw[h3,if_neg h2]
  have eQ:jA q t=nM q t:=by unfold jA;rw[if_neg h0]
  have L:=h.look m1 (by omega)
  rw[eL,eQ];refine⟨⟨fq,fun c=>absurd c h0⟩,by rw[h1,h3],L.1.mono (by omega),L.2,pn _,?_⟩
  unfold Au c_;rw[if_neg h0,pn]
 by_cases c1:(l.length:Int)=c
 ·exact no (r1 c1) (by decide) (by unfold nC;rw[if_pos c1])
 ·rcases K5 l t with c2|⟨k,hk,ht⟩
  ·obtain⟨g1,g3,v1,v2,v3,g4⟩:=ajz h uc hn c1 c2;have eE:nC l c t=0:=by unfold nC;rw[if_neg c1,Lo c2,if_neg (by decide)]
   have eL:iB l c t=j7 l (lY t l) ⟨t,an,iz⟩:=by unfold iB;rw[eE,if_pos rfl];rfl
   rw[eL,eE];refine⟨g1,r3 c1 c2,g3,ON ⟨v1,v2,v3⟩ (by omega) l,?_,?_⟩
   ·unfold c_;rcases g4 with⟨a1,a2⟩|⟨z,a1,a2,a3⟩
    ·rw[a2,pn]
    ·rw[a3];exact Lb fun w hw=>(po.1 hw).1
   ·unfold c_;rcases g4 with⟨a1,a2⟩|⟨z,a1,a2,a3⟩
    ·rw[a1,a2,pn]
    ·rw[a2,a3,aan (zI h.nd) a1]
  ·have nf:¬ Er l t:=fun f=>f _ (PB hk) ht
   exact no (r2 c1 nf) (by decide) (by unfold nC;rw[if_neg c1,TB h.tm hk ht,if_pos (by omega)])
theorem Hc {q:QS} {l:List Op} {c:Int} {n:Nat} {t:Int} (h:HQ q l c n) (hn:n≤90000) :
  Y8 q t/\KL q t=re l t/\HQ (gy q t) (kn l t) c (n+10)/\(gy q t).qA≤q.qA+10000*(uR l.length+4:Nat)/\wL q t=c_ l (kn l t)/\w9 q t=c_ (kn l t) l:=by
 have hB:=h.U8 (by omega)
 have fq:=h.lj hn;rcases K5 l t with c2|⟨k,hk,ht⟩
 ·have hb:F1 q t=an:=by
   unfold F1;rw[h.m0];exact NR (H:=fin [] l) (e:=kN t) c2
  have nb:¬ F1 q t=ao:=by rw[hb];decide
  have eE:re l t=14:=by unfold re;rw[Lo c2,if_pos (by decide)]
  have eL:kn l t=l:=by unfold kn;rw[eE,if_neg (by decide)]
  have eQ:gy q t=Bs q t:=by unfold gy;rw[if_neg nb]
  have L:=h.look (h.mq.ai2 hB (by omega) (kN t)) (by omega)
  rw[eL,eQ,eE];refine⟨⟨fq,fun k=>absurd k nb⟩,?_,L.1.mono (by omega),L.2,?_,?_⟩
  ·unfold KL;rw[if_neg nb]
  ·unfold wL c_;rw[if_neg nb,pn]
  ·unfold w9 c_;rw[if_neg nb,pn]
 ·obtain⟨g1,g2,g3,v1,v2,v3,g4⟩:=ajO h hn hk ht;have eA:=TB h.tm hk ht;have eE:re l t=0:=by unfold re;rw[eA,if_neg (by omega)]
  have eL:kn l t=j5 l k:=by unfold kn;rw[eE,if_pos rfl,eA,iJ];rfl
  rw[eL,eE];refine⟨g1,g2,g3,ON ⟨v1,v2,v3⟩ (by omega) l,?_,?_⟩
  ·unfold c_;rcases g4 with⟨a1,a2,a3⟩|⟨z,a0,a1,a2,a3⟩|⟨z,a0,a1,a2,a3⟩
   ·rw[a1,a3,pn]
   ·rw[a1,a3,acz a0]
   ·rw[a1,a3];exact(Lb fun w hw=>(po.1 hw).1).symm
  ·unfold c_;rcases g4 with⟨a1,a2,a3⟩|⟨z,a0,a1,a2,a3⟩|⟨z,a0,a1,a2,a3⟩
   ·rw[a2,a3,pn]
   ·rw[a2,a3];exact(Lb fun w hw=>jY.2 (.inr hw)).symm
   ·rw[a2,a3,aan (zI h.nd) a0]
end Pa
namespace Pa
open Rx Wv Br
open Sh (rN wA mC sl nI)
set_option maxRecDepth 100000
set_option maxHeartbeats 8000000
abbrev Rt:=TQ ⊕ TR
abbrev D2:fJ Rt:=V9 G8.D2 G9.D2
abbrev E8:HC TQ Rt:=ai4 TQ TR
abbrev E9:HC TR Rt:=ake TQ TR
abbrev c8 (c:WG TQ):WG Rt:=eC E8 c
abbrev c9 (c:WG TR):WG Rt:=eC E9 c
abbrev oM (s:T8):Option (SB Rt):=aa (.inr (.inr (.inr (.inl (.tree s)))))
abbrev oS (s:T9):Option (SB Rt):=aa (.inr (.inr (.inr (.inr (.tree s)))))
abbrev bQ (q:QS):Option (SB Rt):=aa (.inl (98,[.int .i64 q.cap,.pointer (aa ⟨1,0,aj⟩),.pointer (aa ⟨2,0,aj⟩),.pointer (aa ⟨3,0,aj⟩)]))
theorem JV {R:Type} {D:fJ R} {P:Program} {f:FuncId} {p q:Prim R} (h:b9 D P f (a9 p))
  (H:∀ args hh x,q args hh=aa x->∃ y,p args hh=aa y/\hh.length≤x.hp.length/\(∀ b,x.lit=aa b->x.v=.bool b)/\(x.wr=[]->x.hp=hh)/\(x.vc->y.vc/\y.v=x.v/\y.hp=x.hp)):b9 D P f (a9 q):=by
 refine pZ ⟨(h ao).known,fun args hh x _ hx C ρ ft w hm hv hi=>?_,fun args hh x hx=>?_,fun args hh x hx=>?_,fun args hh x hx=>?_⟩
 ·obtain⟨y,h1,_,_,_,h5⟩:=H args hh x hx;obtain⟨a1,a2,a3⟩:=h5 hv;rw[← a2,← a3];exact(h ao).run args hh y (.inl ⟨rfl,rfl⟩) h1 C ρ ft w hm a1 hi
 ·obtain⟨y,_,h2,_⟩:=H args hh x hx;exact h2
 ·obtain⟨y,_,_,h3,_⟩:=H args hh x hx;exact h3
 ·obtain⟨y,_,_,_,h4,_⟩:=H args hh x hx;exact h4
def TQn:eJ Rt:=[(52,bJ zN 2 (c8 (a9 NU))),(53,bJ zN 2 (c9 (a9 G9.NU)))]
theorem akP:cN D2 Tryz.prog TQn:=⟨aU _ _ (nU Wh),aU _ _ (wb G9.Wh),trivial⟩
def Ak (c:Int):Int:=min (max c 0) 65536
def wh (c:Int):QS:=⟨qO G8.k8 (Ak c),qO G9.k9 (Ak c),qO G9.k9 (Ak c),Ak c⟩
def TH:Prim Rt:=fun args hh=>match args,hh with
 |[.int .i64 c],[]=>aa ⟨True,.pointer (aa ⟨0,0,aj⟩),aj,[bQ (wh c),oM (wh c).mt,oS (wh c).pr,oS (wh c).gn],[],[(0,0)]⟩
 |_,_=>aj
theorem Yh:b9 D2 Tryz.prog 15 (a9 TH):=by
 refine fu Tryz.f15 fun args hh x hx=>?_
 unfold TH at hx;split at hx
 ·rename_i c;cases hx;refine q4 fun _ hv=>?_
  generalize hG:cj (R:=Rt) _ _=G;refine cL (T:=TQn) akP mixed 200 ?_;refine bK (q:=let Z1:=(if(65536:Int)<if(0:Int)>c then(0:Int) else c then(65536:Int) else if(0:Int)>c then(0:Int) else c);Vc True/\Vc True/\Vc True/\aX (G (aB (aa ⟨3,0,aj⟩)) [aa (.inr (.inr (.inr (.inl (DN (qO G8.k8 Z1)))))),aa (.inr (.inr (.inr (.inr (rQ (qO G9.k9 Z1)))))),aa (.inr (.inr (.inr (.inr (rQ (qO G9.k9 Z1)))))),aa (.inl (98,[.int ar Z1,.pointer (aa ⟨0,0,aj⟩),.pointer (aa ⟨1,0,aj⟩),.pointer (aa ⟨2,0,aj⟩)]))])) ?_ (by kernel_rfl)
  intro Z1;subst Z1;have e:(if 65536<if 0>c then 0 else c then(65536:Int) else if 0>c then 0 else c)=Ak c:=by unfold Ak;split<;>split at *<;>omega
  rw[e];subst hG;exact⟨⟨trivial⟩,⟨trivial⟩,⟨trivial⟩,⟨⟨[3,0,1,2],rfl,rfl,⟨.inl rfl,rfl,rfl,rfl,trivial⟩,rfl,rfl,rfl,rfl⟩⟩⟩
 ·cases hx
def TQm:eJ Rt:=[(40,bJ zN 2 (c8 (a9 G8.Ay))),(78,bJ zN 2 (c8 (a9 G8.PH))),(21,bJ zN 2 (c8 (a9 G8.Iy))),(76,bJ zN 2 (c8 (a9 G8.H3))),(77,bJ zN 2 (c9 (a9 G9.H3))),(38,bJ zN 2 (c9 (a9 G9.Ay)))]
theorem PD:cN D2 Tryz.prog TQm:=⟨aU _ _ (nU G8.BD),aU _ _ (nU G8.Q6),aU _ _ (nU G8.RE),aU _ _ (nU G8.QK),aU _ _ (wb G9.QK),aU _ _ (wb G9.BD),trivial⟩
def OM:Prim Rt:=fun args hh=>match args,hh with
 |[.pointer (aa ⟨0,0,aj⟩)],[aa (.inl (98,[.int .i64 c,.pointer (aa ⟨1,0,aj⟩),.pointer (aa ⟨2,0,aj⟩),.pointer (aa ⟨3,0,aj⟩)])),aa (.inr (.inr (.inr (.inl (.tree s))))),aa (.inr (.inr (.inr (.inr (.tree g))))),aa (.inr (.inr (.inr (.inr (.tree h)))))]=>aa ⟨s.gj,.int .i64 s.l.length,aj,[bQ (Rl (⟨s,g,h,c⟩:QS)),oM (Rl (⟨s,g,h,c⟩:QS)).mt,oS (Rl (⟨s,g,h,c⟩:QS)).pr,oS (Rl (⟨s,g,h,c⟩:QS)).gn],[],[(0,0)]⟩
 |_,_=>aj
theorem ahi:b9 D2 Tryz.prog 35 (a9 OM):=by
 refine fu Tryz.f35 fun args hh x hx=>?_
 unfold OM at hx;split at hx
 ·rename_i c s g h;cases hx;refine q4 fun _ hv=>?_
  generalize hG:cj (R:=Rt) _ _=G;refine cL (T:=TQm) PD mixed 200 ?_;refine bK (q:=Vc (eW s)/\aX (G (bm ar (↑(ae (eM s)):Int)) [aa (.inl (98,[.int ar c,.pointer (aa ⟨1,0,aj⟩),.pointer (aa ⟨2,0,aj⟩),.pointer (aa ⟨3,0,aj⟩)])),aa (.inr (.inr (.inr (.inl (DN (dF s)))))),aa (.inr (.inr (.inr (.inr (rQ g))))),aa (.inr (.inr (.inr (.inr (rQ h)))))])) ?_ (by kernel_rfl)
  subst hG;exact⟨⟨hv⟩,⟨⟨[0,1,2,3],rfl,rfl,⟨.inl rfl,rfl,rfl,rfl,trivial⟩,rfl,rfl,rfl,rfl⟩⟩⟩
 ·cases hx
theorem aaU:Ll [0,2,3] (a9 OM):=by
 intro b args h x hx i hi hl;cases b with
 |false=>cases hx
 |true =>
  simp only[a9,je.go,OM] at hx;split at hx
  ·injection hx with hx
   subst hx;simp only[bO,vE,or_false] at hi;rcases hi with rfl|rfl|rfl<;>rfl
  ·cases hx
def PY:Prim Rt:=fun args hh=>match args,hh with
 |[.pointer (aa ⟨0,0,aj⟩)],[aa (.inl (98,[.int .i64 c,.pointer (aa ⟨1,0,aj⟩),.pointer (aa ⟨2,0,aj⟩),.pointer (aa ⟨3,0,aj⟩)])),aa (.inr (.inr (.inr (.inl (.tree s))))),aa (.inr (.inr (.inr (.inr (.tree g))))),aa (.inr (.inr (.inr (.inr (.tree h)))))]=>aa ⟨s.gj,.int .i64 (HZ (⟨s,g,h,c⟩:QS)),aj,[bQ (Nq (⟨s,g,h,c⟩:QS)),oM (Nq (⟨s,g,h,c⟩:QS)).mt,oS (Nq (⟨s,g,h,c⟩:QS)).pr,oS (Nq (⟨s,g,h,c⟩:QS)).gn],[],[(0,0)]⟩
 |_,_=>aj
theorem ahm:b9 D2 Tryz.prog 36 (a9 PY):=by
 refine fu Tryz.f36 fun args hh x hx=>?_
 unfold PY at hx;split at hx
 ·rename_i c s g h;cases hx;refine q4 fun _ hv=>?_
  generalize hG:cj (R:=Rt) _ _=G;refine cL (T:=TQm) PD mixed 200 ?_;refine bK (q:=Vc (eW s)/\Vc (eW (dF s))/\aX (G (bm ar (Sw.d (S8 (mV (eM (dF s)) 0 (aG (↑(ae (eM s)):Int)))))) [aa (.inl (98,[.int ar c,.pointer (aa ⟨1,0,aj⟩),.pointer (aa ⟨2,0,aj⟩),.pointer (aa ⟨3,0,aj⟩)])),aa (.inr (.inr (.inr (.inl (DN (Gv.TS.FY (dF s) (0:Int) (↑(ae (eM s)):Int))))))),aa (.inr (.inr (.inr (.inr (rQ g))))),aa (.inr (.inr (.inr (.inr (rQ h)))))])) ?_ (by kernel_rfl)
  have e:(S8 (mV s.seen.l 0 (s.l.length:Int).toNat)).d=HZ (⟨s,g,h,c⟩:QS):=by
   show(S8 (mV s.l 0 (s.l.length:Int).toNat)).d=((wj s.l).length:Int)
   rw[iJ];show(S8 ((s.l.drop 0).take (s.l.length-0))).d=_
   rw[se,Nat.sub_zero,jP]
   rfl
  rw[e];subst hG;exact⟨⟨hv⟩,⟨yT hv⟩,⟨⟨[0,1,2,3],rfl,rfl,⟨.inl rfl,rfl,rfl,rfl,trivial⟩,rfl,rfl,rfl,rfl⟩⟩⟩
 ·cases hx
def ZJ:Prim Rt:=fun args hh=>match args,hh with
 |[.pointer (aa ⟨0,0,aj⟩)],[aa (.inl (98,[.int .i64 c,.pointer (aa ⟨1,0,aj⟩),.pointer (aa ⟨2,0,aj⟩),.pointer (aa ⟨3,0,aj⟩)])),aa (.inr (.inr (.inr (.inl (.tree s))))),aa (.inr (.inr (.inr (.inr (.tree g))))),aa (.inr (.inr (.inr (.inr (.tree h)))))]=>aa ⟨True,.pointer (aa ⟨2,0,aj⟩),aj,hh,[],[]⟩
 |_,_=>aj
theorem ag9:b9 D2 Tryz.prog 23 (a9 ZJ):=by
 refine fu Tryz.f23 fun args hh x hx=>?_
 unfold ZJ at hx;split at hx
 ·rename_i c s g h;cases hx;refine q4 fun _ hv=>?_
  generalize hG:cj (R:=Rt) _ _=G;refine cL (T:=[]) trivial mixed 200 ?_;refine bK (q:=aX (G (aB (aa ⟨2,0,aj⟩)) [aa (.inl (98,[.int ar c,.pointer (aa ⟨1,0,aj⟩),.pointer (aa ⟨2,0,aj⟩),.pointer (aa ⟨3,0,aj⟩)])),aa (.inr (.inr (.inr (.inl (DN s))))),aa (.inr (.inr (.inr (.inr (rQ g))))),aa (.inr (.inr (.inr (.inr (rQ h)))))])) ?_ (by kernel_rfl)
  subst hG;exact⟨⟨[0,1,2,3],rfl,rfl,⟨.inl rfl,rfl,rfl,rfl,trivial⟩,rfl,rfl,rfl,rfl⟩⟩
 ·cases hx
theorem aaT:Ll [0,2,3] (a9 PY):=by
 intro b args h x hx i hi hl;cases b with
 |false=>cases hx
 |true =>
  simp only[a9,je.go,PY] at hx;split at hx
  ·injection hx with hx
   subst hx;simp only[bO,vE,or_false] at hi;rcases hi with rfl|rfl|rfl<;>rfl
  ·cases hx
def TQe:eJ Rt:=[(36,C4 [0,2,3] 2 (a9 PY)),(38,bJ zN 2 (c9 (a9 G9.Ay)))]
theorem aj7:cN D2 Tryz.prog TQe:=⟨C2 _ _ ahm aaT,aU _ _ (wb G9.BD),trivial⟩
def OL:Prim Rt:=fun args hh=>match args,hh with
 |[.pointer (aa ⟨0,0,aj⟩)],[aa (.inl (98,[.int .i64 c,.pointer (aa ⟨1,0,aj⟩),.pointer (aa ⟨2,0,aj⟩),.pointer (aa ⟨3,0,aj⟩)])),aa (.inr (.inr (.inr (.inl (.tree s))))),aa (.inr (.inr (.inr (.inr (.tree g))))),aa (.inr (.inr (.inr (.inr (.tree h)))))]=>aa ⟨(⟨s,g,h,c⟩:QS).gj,.int .i64 (q8 (⟨s,g,h,c⟩:QS)),aj,[bQ (o7 (⟨s,g,h,c⟩:QS)),oM (o7 (⟨s,g,h,c⟩:QS)).mt,oS (o7 (⟨s,g,h,c⟩:QS)).pr,oS (o7 (⟨s,g,h,c⟩:QS)).gn],[],[(0,0)]⟩
 |_,_=>aj
theorem Xw:b9 D2 Tryz.prog 39 (a9 OL):=by
 refine fu Tryz.f39 fun args hh x hx=>?_
 unfold OL at hx;split at hx
 ·rename_i c s g h;cases hx;refine q4 fun _ hv=>?_
  generalize hG:cj (R:=Rt) _ _=G;refine cL (T:=TQe) aj7 mixed 200 ?_;refine bK (q:=Vc (eW s)/\Vc (eW h)/\Vc (fits (HZ (QS.mk s g h c)-(↑(ae (eM h)):Int)))/\aX (G (bm ar (HZ (QS.mk s g h c)-(↑(ae (eM h)):Int))) [aa (.inl (98,[.int ar c,.pointer (aa ⟨1,0,aj⟩),.pointer (aa ⟨2,0,aj⟩),.pointer (aa ⟨3,0,aj⟩)])),aa (.inr (.inr (.inr (.inl (DN (QS.mt (Nq (QS.mk s g h c)))))))),aa (.inr (.inr (.inr (.inr (rQ g))))),aa (.inr (.inr (.inr (.inr (rQ (dF h))))))])) ?_ (by kernel_rfl)
  subst hG;obtain⟨f1,f2,f3⟩:=hv;have hb:-1099511627776≤HZ (⟨s,g,h,c⟩:QS)-(h.l.length:Int)/\HZ (⟨s,g,h,c⟩:QS)-(h.l.length:Int)≤1099511627776:=OZ (⟨s,g,h,c⟩:QS);exact⟨⟨f1⟩,⟨f3⟩,⟨by omega,by omega⟩,⟨⟨[0,1,2,3],rfl,rfl,⟨.inl rfl,rfl,rfl,rfl,trivial⟩,rfl,rfl,rfl,rfl⟩⟩⟩
 ·cases hx
theorem aar:Ll [0,2] (a9 OL):=by
 intro b args h x hx i hi hl;cases b with
 |false=>cases hx
 |true =>
  simp only[a9,je.go,OL] at hx;split at hx
  ·injection hx with hx
   subst hx;simp only[bO,vE,or_false] at hi;rcases hi with rfl|rfl<;>rfl
  ·cases hx
end Pa
namespace Pa
open Rx Wv Br
open Sh (rN wA mC sl nI)
set_option maxRecDepth 100000
set_option maxHeartbeats 8000000
def TQr:eJ Rt:=[(35,C4 [0,2,3] 2 (a9 OM)),(73,bJ zN 2 (c8 (a9 G8.Av))),(66,bJ zN 2 (a9 Z_))]
theorem akc:cN D2 Tryz.prog TQr:=⟨C2 _ _ ahi aaU,aU _ _ (nU Xk),aU _ _ abL,trivial⟩
def ZL:Prim Rt:=fun args hh=>match args,hh with
 |[.pointer (aa ⟨0,0,aj⟩),.int .i64 t],[aa (.inl (98,[.int .i64 c,.pointer (aa ⟨1,0,aj⟩),.pointer (aa ⟨2,0,aj⟩),.pointer (aa ⟨3,0,aj⟩)])),aa (.inr (.inr (.inr (.inl (.tree s))))),aa (.inr (.inr (.inr (.inr (.tree g))))),aa (.inr (.inr (.inr (.inr (.tree h)))))]=>aa ⟨s.gj,.int .i64 (mW (⟨s,g,h,c⟩:QS) t),aj,[bQ (nM (⟨s,g,h,c⟩:QS) t),oM (nM (⟨s,g,h,c⟩:QS) t).mt,oS (nM (⟨s,g,h,c⟩:QS) t).pr,oS (nM (⟨s,g,h,c⟩:QS) t).gn],[],[(0,0)]⟩
 |_,_=>aj
theorem agB:b9 D2 Tryz.prog 62 (a9 ZL):=by
 refine fu Tryz.f62 fun args hh x hx=>?_
 unfold ZL at hx;split at hx
 ·rename_i t c s g h;cases hx;refine q4 fun _ hv=>?_
  generalize hG:cj (R:=Rt) _ _=G;refine cL (T:=TQr) akc mixed 200 ?_;refine bK (q:=let Z4:=aB (aa ⟨2,0,aj⟩);let Z5:=aB (aa ⟨1,0,aj⟩);let Z6:=aB (aa ⟨3,0,aj⟩);let Z7:=bm ar;let Z1:=(QS.mt (Rl (QS.mk s g h c)));let Z2:=(Mk.mk t an (It.mk (0:Int) (0:Int)) an an (It.mk (0:Int) (0:Int)));let Z3:=(ax (fw O8 Z2 (eM Z1)));Vc (eW s)/\(((↑(ae (eM s)):Int)==c)=ao->aX (G (Z7 10) [aa (.inl (98,[Z7 c,Z5,Z4,Z6])),oM Z1,oS g,oS h]))/\(((↑(ae (eM s)):Int)==c)=an->Vc True/\Vc (eW Z1)/\(av (fw O8 Z2 (eM Z1))=ao->aX (G (Z7 11) [aa (.inl (98,[Z7 c,Z5,Z4,Z6])),oM (n_ Z1 Z2),oS g,oS h,aa (.inl (49,[Z7 (Mk.t Z3),.bool (Mk.ins Z3),Z7 (It.k (Mk.it Z3)),Z7 (It.i (Mk.it Z3)),.bool (Mk.here Z3),.bool (Mk.tf Z3),Z7 (It.k (Mk.tk Z3)),Z7 (It.i (Mk.tk Z3))]))]))/\(av (fw O8 Z2 (eM Z1))=an->aX (G (Z7 0) [aa (.inl (98,[Z7 c,Z5,Z4,Z6])),oM (n_ Z1 Z2),oS g,oS h,aa (.inl (49,[Z7 (Mk.t Z3),.bool (Mk.ins Z3),Z7 (It.k (Mk.it Z3)),Z7 (It.i (Mk.it Z3)),.bool (Mk.here Z3),.bool (Mk.tf Z3),Z7 (It.k (Mk.tk Z3)),Z7 (It.i (Mk.tk Z3))]))])))) ?_ (by kernel_rfl)
  intro Z4 Z5 Z6 Z7 Z1 Z2 Z3;subst Z3 Z2 Z1 Z7 Z6 Z5 Z4;have done:∀ (x:Int) (s':T8) (g' h':T9) (rest:Hp Rt),x=mW (⟨s,g,h,c⟩:QS) t->s'=(nM (⟨s,g,h,c⟩:QS) t).mt->g'=g->h'=h->G (.int .i64 x) (aa (.inl (98,[.int .i64 c,.pointer (aa ⟨1,0,aj⟩),.pointer (aa ⟨2,0,aj⟩),.pointer (aa ⟨3,0,aj⟩)]))::oM s'::oS g'::oS h'::rest):=by
   intro x s' g' h' rest e1 e2 e3 e4;subst e1 e2 e3 e4;subst hG;exact⟨[0,1,2,3],rfl,rfl,⟨.inl rfl,rfl,rfl,rfl,trivial⟩,rfl,rfl,rfl,rfl⟩
  clear hG;refine⟨⟨hv⟩,fun h1=>⟨?_⟩,fun h1=>⟨⟨trivial⟩,⟨hv⟩,fun h2=>⟨?_⟩,fun h2=>⟨?_⟩⟩⟩
  ·have h1:(s.l.length:Int)=c:=eq_of_beq h1;exact done _ _ _ _ _ (by unfold mW;rw[if_pos (show(s.l.length:Int)=c from h1)]) (by unfold nM;exact(if_pos (show(s.l.length:Int)=c from h1)).symm) rfl rfl
  all_goals
   have h1:¬ (s.l.length:Int)=c:=fun e=>by rw[beq_eq_false_iff_ne] at h1;exact h1 e
  ·exact done _ _ _ _ _ (by unfold mW;rw[if_neg (show ¬ (s.l.length:Int)=c from h1),if_pos (show(fw O8 (kN t) s.l).2=ao from h2)]) (by unfold nM;exact(if_neg (show ¬ (s.l.length:Int)=c from h1)).symm) rfl rfl
  ·exact done _ _ _ _ _ (by unfold mW;rw[if_neg (show ¬ (s.l.length:Int)=c from h1),if_neg (show ¬ (fw O8 (kN t) s.l).2=ao from by rw[show(fw O8 (kN t) s.l).2=an from h2];decide)]) (by unfold nM;exact(if_neg (show ¬ (s.l.length:Int)=c from h1)).symm) rfl rfl
 ·cases hx
def TQi:eJ Rt:=[(94,bJ zN 2 (c9 (a9 G9.Av))),(69,bJ zN 2 (a9 YG))]
theorem aj8:cN D2 Tryz.prog TQi:=⟨aU _ _ (wb G9.Ek),aU _ _ SK,trivial⟩
def Zy:Prim Rt:=fun args hh=>match args,hh with
 |[.pointer (aa ⟨0,0,aj⟩),.agg ⟨[.int .i64 a,.int .i64 b]⟩],[aa (.inl (98,[.int .i64 c,.pointer (aa ⟨1,0,aj⟩),.pointer (aa ⟨2,0,aj⟩),.pointer (aa ⟨3,0,aj⟩)])),aa (.inr (.inr (.inr (.inl (.tree s))))),aa (.inr (.inr (.inr (.inr (.tree g))))),aa (.inr (.inr (.inr (.inr (.tree h)))))]=>aa ⟨(⟨s,g,h,c⟩:QS).gj,.bool (AW (⟨s,g,h,c⟩:QS) ⟨a,b⟩),aj,[bQ (BV (⟨s,g,h,c⟩:QS) ⟨a,b⟩),oM (BV (⟨s,g,h,c⟩:QS) ⟨a,b⟩).mt,oS (BV (⟨s,g,h,c⟩:QS) ⟨a,b⟩).pr,oS (BV (⟨s,g,h,c⟩:QS) ⟨a,b⟩).gn],[],[(0,0)]⟩
 |_,_=>aj
theorem ahx:b9 D2 Tryz.prog 63 (a9 Zy):=by
 refine fu Tryz.f63 fun args hh x hx=>?_
 unfold Zy at hx;split at hx
 ·rename_i a b c s g h;cases hx;refine q4 fun _ hv=>?_
  generalize hG:cj (R:=Rt) _ _=G;refine cL (T:=TQi) aj8 mixed 200 ?_;refine bK (q:=let Z4:=bm ar;let Z1:=(js (It.mk a b) an (0:Int));let Z2:=(ax (fw aN Z1 (eM g)));let Z3:=(ax (fw aN Z1 (eM h)));Vc True/\Vc (eW g)/\Vc True/\Vc (eW h)/\(av (fw aN Z1 (eM g))=an->aX (G (aC (av (fw aN Z1 (eM h)))) [aa (.inl (98,[Z4 c,.pointer (aa ⟨1,0,aj⟩),.pointer (aa ⟨2,0,aj⟩),.pointer (aa ⟨3,0,aj⟩)])),oM s,oS (n_ g Z1),oS (n_ h Z1),aa (.inl (31,[Z4 a,Z4 b])),aa (.inl (75,[Z4 (It.k (lO Z2)),Z4 (It.i (lO Z2)),.bool (oZ Z2),Z4 (qx Z2)])),aa (.inl (75,[Z4 (It.k (lO Z3)),Z4 (It.i (lO Z3)),.bool (oZ Z3),Z4 (qx Z3)]))]))/\(av (fw aN Z1 (eM g))=ao->aX (G (aC ao) [aa (.inl (98,[Z4 c,.pointer (aa ⟨1,0,aj⟩),.pointer (aa ⟨2,0,aj⟩),.pointer (aa ⟨3,0,aj⟩)])),oM s,oS (n_ g Z1),oS (n_ h Z1),aa (.inl (31,[Z4 a,Z4 b])),aa (.inl (75,[Z4 (It.k (lO Z2)),Z4 (It.i (lO Z2)),.bool (oZ Z2),Z4 (qx Z2)])),aa (.inl (75,[Z4 (It.k (lO Z3)),Z4 (It.i (lO Z3)),.bool (oZ Z3),Z4 (qx Z3)]))]))) ?_ (by kernel_rfl)
  intro Z4 Z1 Z2 Z3;subst Z3 Z2 Z1 Z4;have done:∀ (x:Bool) (s':T8) (g' h':T9) (rest:Hp Rt),x=AW (⟨s,g,h,c⟩:QS) ⟨a,b⟩->s'=s->g'=g.find (sl ⟨a,b⟩)->h'=h.find (sl ⟨a,b⟩)->G (.bool x) (aa (.inl (98,[.int .i64 c,.pointer (aa ⟨1,0,aj⟩),.pointer (aa ⟨2,0,aj⟩),.pointer (aa ⟨3,0,aj⟩)]))::oM s'::oS g'::oS h'::rest):=by
   intro x s' g' h' rest e1 e2 e3 e4;subst e1 e2 e3 e4;subst hG;exact⟨[0,1,2,3],rfl,rfl,⟨.inl rfl,rfl,rfl,rfl,trivial⟩,rfl,rfl,rfl,rfl⟩
  clear hG;obtain⟨f1,f2,f3⟩:=hv;refine⟨⟨trivial⟩,⟨f2⟩,⟨trivial⟩,⟨f3⟩,fun h1=>⟨done _ _ _ _ _ ?_ rfl rfl rfl⟩,fun h1=>⟨done _ _ _ _ _ ?_ rfl rfl rfl⟩⟩
  ·show _=((fw aN (sl ⟨a,b⟩) g.l).2||_)
   rw[show(fw aN (sl ⟨a,b⟩) g.l).2=an from h1];rfl
  ·show _=((fw aN (sl ⟨a,b⟩) g.l).2||_)
   rw[show(fw aN (sl ⟨a,b⟩) g.l).2=ao from h1];rfl
 ·cases hx
def TQb:eJ Rt:=[(39,C4 [0,2] 2 (a9 OL)),(95,bJ zN 2 (c8 (a9 ac3))),(112,bJ zN 2 (c8 (a9 adG)))]
theorem ab5:cN D2 Tryz.prog TQb:=⟨C2 _ _ Xw aar,aU _ _ (nU akE),aU _ _ (nU ajc),trivial⟩
def acY:Prim Rt:=fun args hh=>match args,hh with
 |[.pointer (aa ⟨0,0,aj⟩),.int .i64 p],[aa (.inl (98,[.int .i64 c,.pointer (aa ⟨1,0,aj⟩),.pointer (aa ⟨2,0,aj⟩),.pointer (aa ⟨3,0,aj⟩)])),aa (.inr (.inr (.inr (.inl (.tree s))))),aa (.inr (.inr (.inr (.inr (.tree g))))),aa (.inr (.inr (.inr (.inr (.tree h)))))]=>aa ⟨(⟨s,g,h,c⟩:QS).gj,.int .i64 (F6 (⟨s,g,h,c⟩:QS) p),aj,[bQ (Bn (⟨s,g,h,c⟩:QS) p),oM (Bn (⟨s,g,h,c⟩:QS) p).mt,oS (Bn (⟨s,g,h,c⟩:QS) p).pr,oS (Bn (⟨s,g,h,c⟩:QS) p).gn],[],[(0,0)]⟩
 |_,_=>aj
theorem akH:b9 D2 Tryz.prog 64 (a9 acY):=by
 refine fu Tryz.f64 fun args hh x hx=>?_
 unfold acY at hx;split at hx
 ·rename_i p c s g h;cases hx;refine q4 fun _ hv=>?_
  generalize hG:cj (R:=Rt) _ _=G;refine cL (T:=TQb) ab5 mixed 200 ?_;refine bK (q:=Vc (QS.gj (QS.mk s g h c))/\Vc (eW (QS.mt (o7 (QS.mk s g h c)))/\(-1099511627776:Int)≤q8 (QS.mk s g h c)/\q8 (QS.mk s g h c)≤(1099511627776:Int))/\aX (G (bm ar (E5 (eM (QS.mt (o7 (QS.mk s g h c)))) p (q8 (QS.mk s g h c)))) [aa (.inl (98,[.int ar c,.pointer (aa ⟨1,0,aj⟩),.pointer (aa ⟨2,0,aj⟩),.pointer (aa ⟨3,0,aj⟩)])),oM (VL (QS.mt (o7 (QS.mk s g h c))) p (q8 (QS.mk s g h c))),oS g,oS (QS.gn (o7 (QS.mk s g h c)))])) ?_ (by kernel_rfl)
  subst hG;have hb:=OZ (⟨s,g,h,c⟩:QS);exact⟨⟨hv⟩,⟨hv.1,hb.1,hb.2⟩,⟨⟨[0,1,2,3],rfl,rfl,⟨.inl rfl,rfl,rfl,rfl,trivial⟩,rfl,rfl,rfl,rfl⟩⟩⟩
 ·cases hx
def adV:Prim Rt:=fun args hh=>match args,hh with
 |[.pointer (aa ⟨0,0,aj⟩),.int .i64 p],[aa (.inl (98,[.int .i64 c,.pointer (aa ⟨1,0,aj⟩),.pointer (aa ⟨2,0,aj⟩),.pointer (aa ⟨3,0,aj⟩)])),aa (.inr (.inr (.inr (.inl (.tree s))))),aa (.inr (.inr (.inr (.inr (.tree g))))),aa (.inr (.inr (.inr (.inr (.tree h)))))]=>aa ⟨(⟨s,g,h,c⟩:QS).gj,.int .i64 (Km (⟨s,g,h,c⟩:QS) p),aj,[bQ (He (⟨s,g,h,c⟩:QS) p),oM (He (⟨s,g,h,c⟩:QS) p).mt,oS (He (⟨s,g,h,c⟩:QS) p).pr,oS (He (⟨s,g,h,c⟩:QS) p).gn],[],[(0,0)]⟩
 |_,_=>aj
theorem aim:b9 D2 Tryz.prog 72 (a9 adV):=by
 refine fu Tryz.f72 fun args hh x hx=>?_
 unfold adV at hx;split at hx
 ·rename_i p c s g h;cases hx;refine q4 fun _ hv=>?_
  generalize hG:cj (R:=Rt) _ _=G;refine cL (T:=TQb) ab5 mixed 200 ?_;refine bK (q:=Vc (QS.gj (QS.mk s g h c))/\Vc (eW (QS.mt (o7 (QS.mk s g h c)))/\(-1099511627776:Int)≤q8 (QS.mk s g h c)/\q8 (QS.mk s g h c)≤(1099511627776:Int))/\aX (G (bm ar (OI (eM (QS.mt (o7 (QS.mk s g h c)))) p (q8 (QS.mk s g h c)))) [aa (.inl (98,[.int ar c,.pointer (aa ⟨1,0,aj⟩),.pointer (aa ⟨2,0,aj⟩),.pointer (aa ⟨3,0,aj⟩)])),oM (EW (QS.mt (o7 (QS.mk s g h c))) p (q8 (QS.mk s g h c))),oS g,oS (QS.gn (o7 (QS.mk s g h c)))])) ?_ (by kernel_rfl)
  subst hG;have hb:=OZ (⟨s,g,h,c⟩:QS);exact⟨⟨hv⟩,⟨hv.1,hb.1,hb.2⟩,⟨⟨[0,1,2,3],rfl,rfl,⟨.inl rfl,rfl,rfl,rfl,trivial⟩,rfl,rfl,rfl,rfl⟩⟩⟩
 ·cases hx
def TQt:eJ Rt:=[(141,bJ zN 2 (c8 (a9 G8.Rq))),(67,bJ zN 2 (c8 (a9 G8.Dt)))]
theorem ajm:cN D2 Tryz.prog TQt:=⟨aU _ _ (nU G8.acI),aU _ _ (nU G8.Ht),trivial⟩
def Zm:Prim Rt:=fun args hh=>match args,hh with
 |[.pointer (aa ⟨0,0,aj⟩),.int .i64 i,.bool b],[aa (.inl (98,[.int .i64 c,.pointer (aa ⟨1,0,aj⟩),.pointer (aa ⟨2,0,aj⟩),.pointer (aa ⟨3,0,aj⟩)])),aa (.inr (.inr (.inr (.inl (.tree s))))),aa (.inr (.inr (.inr (.inr (.tree g))))),aa (.inr (.inr (.inr (.inr (.tree h)))))]=>aa ⟨s.gj/\(s.at_ i).kX (E7 s i b),.tuple #[],aj,[bQ (⟨Al s i b,g,h,c⟩:QS),oM (⟨Al s i b,g,h,c⟩:QS).mt,oS (⟨Al s i b,g,h,c⟩:QS).pr,oS (⟨Al s i b,g,h,c⟩:QS).gn],[],[(0,0)]⟩
 |_,_=>aj
theorem agP:b9 D2 Tryz.prog 107 (a9 Zm):=by
 refine fu Tryz.f107 fun args hh x hx=>?_
 unfold Zm at hx;split at hx
 ·rename_i i b c s g h;cases hx;refine q4 fun _ hv=>?_
  generalize hG:cj (R:=Rt) _ _=G;refine cL (T:=TQt) ajm mixed 200 ?_;refine bK (q:=let Z3:=bm ar;let Z1:=(ax (Gv.pX O8 i (eM s)));let Z2:=(Mk.mk (Mk.t Z1) (Mk.ins Z1) (Mk.it Z1) b (Mk.tf Z1) (Mk.tk Z1));Vc (eW s)/\Vc (tO (KW s i) Z2)/\aX (G (cq (aJ [])) [aa (.inl (98,[Z3 c,.pointer (aa ⟨1,0,aj⟩),.pointer (aa ⟨2,0,aj⟩),.pointer (aa ⟨3,0,aj⟩)])),oM (Db (KW s i) Z2),oS g,oS h,aa (.inl (49,[Z3 (Mk.t Z1),.bool (Mk.ins Z1),Z3 (It.k (Mk.it Z1)),Z3 (It.i (Mk.it Z1)),.bool b,.bool (Mk.tf Z1),Z3 (It.k (Mk.tk Z1)),Z3 (It.i (Mk.tk Z1))]))])) ?_ (by kernel_rfl)
  intro Z3 Z1 Z2;subst Z2 Z1 Z3;subst hG;exact⟨⟨hv.1⟩,⟨hv.2⟩,⟨⟨[0,1,2,3],rfl,rfl,⟨.inl rfl,rfl,rfl,rfl,trivial⟩,rfl,rfl,rfl,rfl⟩⟩⟩
 ·cases hx
end Pa
namespace Pa
open Rx Wv Br
open Sh (rN wA mC sl nI)
set_option maxRecDepth 100000
set_option maxHeartbeats 8000000
def TQg:eJ Rt:=[(104,bJ zN 2 (c8 (a9 adD))),(109,bJ zN 2 (c8 (a9 ac_))),(69,bJ zN 2 (a9 YG)),(108,bJ zN 2 (c8 (a9 G8.Nm))),(111,bJ zN 2 (c8 (a9 G8.Rv))),(107,bJ zN 2 (a9 Zm)),(75,bJ zN 2 (c9 (a9 G9.CX))),(68,bJ zN 2 (c9 (a9 G9.Dt)))]
theorem aca:cN D2 Tryz.prog TQg:=⟨aU _ _ (nU ajq),aU _ _ (nU akB),aU _ _ SK,aU _ _ (nU G8.YP),aU _ _ (nU G8.aap),aU _ _ agP,aU _ _ (wb Xl),aU _ _ (wb G9.Ht),trivial⟩
def adC:Prim Rt:=fun args hh=>match args,hh with
 |[.pointer (aa ⟨0,0,aj⟩),.int .i64 f],[aa (.inl (98,[.int .i64 c,.pointer (aa ⟨1,0,aj⟩),.pointer (aa ⟨2,0,aj⟩),.pointer (aa ⟨3,0,aj⟩)])),aa (.inr (.inr (.inr (.inl (.tree s))))),aa (.inr (.inr (.inr (.inr (.tree g))))),aa (.inr (.inr (.inr (.inr (.tree h)))))]=>aa ⟨KE (⟨s,g,h,c⟩:QS) f,.agg ⟨[.slice (aa ⟨4,0,aa 2000⟩) (wO (⟨s,g,h,c⟩:QS) f).length (wO (⟨s,g,h,c⟩:QS) f).length,.slice (aa ⟨5,0,aa 2000⟩) ([]:List It).length ([]:List It).length]⟩,aj,[bQ (vS (⟨s,g,h,c⟩:QS) f),oM (vS (⟨s,g,h,c⟩:QS) f).mt,oS (vS (⟨s,g,h,c⟩:QS) f).pr,oS (vS (⟨s,g,h,c⟩:QS) f).gn,oI (wO (⟨s,g,h,c⟩:QS) f),oI []],[],[(0,0)]⟩
 |_,_=>aj
theorem aj2:b9 D2 Tryz.prog 70 (a9 adC):=by
 refine fu Tryz.f70 fun args hh x hx=>?_
 unfold adC at hx;split at hx
 ·rename_i f c s g h;cases hx;refine q4 fun _ hv=>?_
  generalize hG:cj (R:=Rt) _ _=G;refine cL (T:=TQg) aca mixed 200 ?_;refine bK (q:=let Z4:=bm ar;let Z1:=(ik (uE (eM s) f) iz);let Z2:=(Gv.TS.first (pY Z1) (Hd s f) f);let Z3:=(Gv.TS.ur (pY Z1) (Hd s f) f);(decide (f<(0:Int))=ao->aX (G (bz (aJ [.slice aj 0 0,.slice aj 0 0])) [aa (.inl (98,[Z4 c,.pointer (aa ⟨1,0,aj⟩),.pointer (aa ⟨2,0,aj⟩),.pointer (aa ⟨3,0,aj⟩)])),oM s,oS g,oS h,aa (.inl (59,[.slice aj 0 0,.slice aj 0 0]))]))/\(decide (f<(0:Int))=an->Vc (eW s)/\Vc True/\Vc True/\Vc (eW (Hd s f))/\Vc (eW Z2/\tO (KW Z2 Z3) (E7 Z2 Z3 ao))/\Vc (eW h)/\Vc (tO g (js Z1 an (0:Int)))/\aX (G (bz (aJ [.slice (aa ⟨7,0,aa 2000⟩) 1 1,.slice aj 0 0])) [aa (.inl (98,[Z4 c,.pointer (aa ⟨1,0,aj⟩),.pointer (aa ⟨2,0,aj⟩),.pointer (aa ⟨3,0,aj⟩)])),oM (Al Z2 Z3 ao),oS (Db g (js Z1 an (0:Int))),oS (xU h (js Z1 an (0:Int))),aa (.inl (59,[.slice (aa ⟨7,0,aa 2000⟩) 1 1,.slice aj 0 0])),aa (.inl (47,[.bool (iG (uE (eM s) f)),Z4 (It.k Z1),Z4 (It.i Z1)])),aa (.inl (75,[Z4 (It.k Z1),Z4 (It.i Z1),.bool an,Z4 0])),aa (.inr (.inl (31,Row.mk [Z4 0,Z4 0] 1 [aW.mk [It.k Z1] [] [],aW.mk [It.i Z1] [] []])))]))) ?_ (by kernel_rfl)
  intro Z4 Z1 Z2 Z3;subst Z3 Z2 Z1 Z4;obtain⟨f1,f2,f3,f4⟩:=hv;refine⟨fun h1=>?_,fun h1=>?_⟩
  ·have h1:f<0:=of_decide_eq_true h1;subst hG;rw[show vS (⟨s,g,h,c⟩:QS) f=(⟨s,g,h,c⟩:QS) from if_pos h1,show wO (⟨s,g,h,c⟩:QS) f=[] from if_pos h1]
   exact⟨⟨[0,1,2,3,90,91],rfl,rfl,⟨.inl rfl,rfl,rfl,rfl,⟨rfl,iK _,rfl⟩,⟨rfl,iK _,rfl⟩,trivial⟩,rfl,rfl,rfl,rfl⟩⟩
  ·have h1:¬ f<0:=of_decide_eq_false h1;obtain⟨g1,g2⟩:=f4 h1;subst hG;rw[show vS (⟨s,g,h,c⟩:QS) f=⟨Al (SG (⟨s,g,h,c⟩:QS) f) (VA (⟨s,g,h,c⟩:QS) f) ao,g.put (sl (Jn (⟨s,g,h,c⟩:QS) f)),h.drop (sl (Jn (⟨s,g,h,c⟩:QS) f)),c⟩ from if_neg h1,show wO (⟨s,g,h,c⟩:QS) f=[Jn (⟨s,g,h,c⟩:QS) f] from if_neg h1]
   exact⟨⟨f1⟩,⟨trivial⟩,⟨trivial⟩,⟨f1⟩,⟨f1,g1⟩,⟨f3⟩,⟨g2⟩,⟨⟨[0,1,2,3,7,91],rfl,rfl,⟨.inl rfl,rfl,rfl,rfl,⟨_,rfl,.inl rfl⟩,⟨rfl,iK _,rfl⟩,trivial⟩,rfl,rfl,rfl,rfl⟩⟩⟩
 ·cases hx
def ade:Prim Rt:=fun args hh=>match args,hh with
 |[.pointer (aa ⟨0,0,aj⟩),.int .i64 u],[aa (.inl (98,[.int .i64 c,.pointer (aa ⟨1,0,aj⟩),.pointer (aa ⟨2,0,aj⟩),.pointer (aa ⟨3,0,aj⟩)])),aa (.inr (.inr (.inr (.inl (.tree s))))),aa (.inr (.inr (.inr (.inr (.tree g))))),aa (.inr (.inr (.inr (.inr (.tree h)))))]=>aa ⟨JF (⟨s,g,h,c⟩:QS) u,.agg ⟨[.slice (aa ⟨4,0,aa 2000⟩) ([]:List It).length ([]:List It).length,.slice (aa ⟨5,0,aa 2000⟩) (A6 (⟨s,g,h,c⟩:QS) u).length (A6 (⟨s,g,h,c⟩:QS) u).length]⟩,aj,[bQ (FF (⟨s,g,h,c⟩:QS) u),oM (FF (⟨s,g,h,c⟩:QS) u).mt,oS (FF (⟨s,g,h,c⟩:QS) u).pr,oS (FF (⟨s,g,h,c⟩:QS) u).gn,oI [],oI (A6 (⟨s,g,h,c⟩:QS) u)],[],[(0,0)]⟩
 |_,_=>aj
theorem aix:b9 D2 Tryz.prog 71 (a9 ade):=by
 refine fu Tryz.f71 fun args hh x hx=>?_
 unfold ade at hx;split at hx
 ·rename_i u c s g h;cases hx;refine q4 fun _ hv=>?_
  generalize hG:cj (R:=Rt) _ _=G;refine cL (T:=TQg) aca mixed 200 ?_;refine bK (q:=let Z4:=bm ar;let Z1:=(ik (p6 (eM s) u) iz);let Z2:=(Gv.TS.last (p9 Z1) (CH s u) u);let Z3:=(Gv.TS.AT (p9 Z1) (CH s u) u);Vc (eW s)/\((!iG (p6 (eM s) u))=ao->aX (G (bz (aJ [.slice aj 0 0,.slice aj 0 0])) [aa (.inl (98,[Z4 c,.pointer (aa ⟨1,0,aj⟩),.pointer (aa ⟨2,0,aj⟩),.pointer (aa ⟨3,0,aj⟩)])),oM (CH s u),oS g,oS h,aa (.inl (59,[.slice aj 0 0,.slice aj 0 0])),aa (.inl (47,[.bool (iG (p6 (eM s) u)),Z4 (It.k Z1),Z4 (It.i Z1)]))]))/\((!iG (p6 (eM s) u))=an->Vc True/\Vc True/\Vc (eW (CH s u))/\Vc (eW Z2/\tO (KW Z2 Z3) (E7 Z2 Z3 an))/\Vc (eW g)/\Vc (tO h (js Z1 an (0:Int)))/\aX (G (bz (aJ [.slice aj 0 0,.slice (aa ⟨7,0,aa 2000⟩) 1 1])) [aa (.inl (98,[Z4 c,.pointer (aa ⟨1,0,aj⟩),.pointer (aa ⟨2,0,aj⟩),.pointer (aa ⟨3,0,aj⟩)])),oM (Al Z2 Z3 an),oS (xU g (js Z1 an (0:Int))),oS (Db h (js Z1 an (0:Int))),aa (.inl (59,[.slice aj 0 0,.slice (aa ⟨7,0,aa 2000⟩) 1 1])),aa (.inl (47,[.bool (iG (p6 (eM s) u)),Z4 (It.k Z1),Z4 (It.i Z1)])),aa (.inl (75,[Z4 (It.k Z1),Z4 (It.i Z1),.bool an,Z4 0])),aa (.inr (.inl (31,Row.mk [Z4 0,Z4 0] 1 [aW.mk [It.k Z1] [] [],aW.mk [It.i Z1] [] []])))]))) ?_ (by kernel_rfl)
  intro Z4 Z1 Z2 Z3;subst Z3 Z2 Z1 Z4;obtain⟨f1,f2,f3,f4⟩:=hv;refine⟨⟨f1⟩,fun h1=>?_,fun h1=>?_⟩
  ·have h1:¬ Oy (⟨s,g,h,c⟩:QS) u=ao:=by
    intro e;rw[show(p6 s.l u).isSome=ao from e] at h1;cases h1
   subst hG;rw[show FF (⟨s,g,h,c⟩:QS) u=⟨CH s u,g,h,c⟩ from if_neg h1,show A6 (⟨s,g,h,c⟩:QS) u=[] from if_neg h1]
   exact⟨⟨[0,1,2,3,90,91],rfl,rfl,⟨.inl rfl,rfl,rfl,rfl,⟨rfl,iK _,rfl⟩,⟨rfl,iK _,rfl⟩,trivial⟩,rfl,rfl,rfl,rfl⟩⟩
  ·have h1:Oy (⟨s,g,h,c⟩:QS) u=ao:=by
    show(p6 s.l u).isSome=ao
    cases e:(p6 s.l u).isSome
    ·rw[e] at h1;cases h1
    ·rfl
   obtain⟨g1,g2⟩:=f4 h1;subst hG;rw[show FF (⟨s,g,h,c⟩:QS) u=⟨Al (R_ (⟨s,g,h,c⟩:QS) u) (Ua (⟨s,g,h,c⟩:QS) u) an,g.drop (sl (Jf (⟨s,g,h,c⟩:QS) u)),h.put (sl (Jf (⟨s,g,h,c⟩:QS) u)),c⟩ from if_pos h1,show A6 (⟨s,g,h,c⟩:QS) u=[Jf (⟨s,g,h,c⟩:QS) u] from if_pos h1]
   exact⟨⟨trivial⟩,⟨trivial⟩,⟨f1⟩,⟨f1,g1⟩,⟨f2⟩,⟨g2⟩,⟨⟨[0,1,2,3,90,7],rfl,rfl,⟨.inl rfl,rfl,rfl,rfl,⟨rfl,iK _,rfl⟩,⟨_,rfl,.inl rfl⟩,trivial⟩,rfl,rfl,rfl,rfl⟩⟩⟩
 ·cases hx
end Pa
namespace Pa
open Rx Wv Br
open Sh (rN wA mC sl nI)
set_option maxRecDepth 100000
set_option maxHeartbeats 8000000
def TQI:eJ Rt:=[(62,bJ zN 2 (a9 ZL)),(63,bJ zN 2 (a9 Zy)),(64,bJ zN 2 (a9 acY)),(72,bJ zN 2 (a9 adV)),(70,bJ zN 2 (a9 adC)),(71,bJ zN 2 (a9 ade)),(65,bJ zN 2 (c8 (a9 G8.Hh))),(67,bJ zN 2 (c8 (a9 G8.Dt))),(74,bJ zN 2 (c8 (a9 G8.CX))),(73,bJ zN 2 (c8 (a9 G8.Av))),(68,bJ zN 2 (c9 (a9 G9.Dt))),(75,bJ zN 2 (c9 (a9 G9.CX))),(66,bJ zN 2 (a9 Z_)),(69,bJ zN 2 (a9 YG))]
theorem VM:cN D2 Tryz.prog TQI:=⟨aU _ _ agB,aU _ _ ahx,aU _ _ akH,aU _ _ aim,aU _ _ aj2,aU _ _ aix,aU _ _ (nU G8.VC),aU _ _ (nU G8.Ht),aU _ _ (nU G8.Ij),aU _ _ (nU Xk),aU _ _ (wb G9.Ht),aU _ _ (wb Xl),aU _ _ abL,aU _ _ SK,trivial⟩
def afg:Prim Rt:=fun args hh=>match args,hh with
 |[.pointer (aa ⟨0,0,aj⟩),.int .i64 t,.agg ⟨[.int .i64 a,.int .i64 b]⟩],[aa (.inl (98,[.int .i64 c,.pointer (aa ⟨1,0,aj⟩),.pointer (aa ⟨2,0,aj⟩),.pointer (aa ⟨3,0,aj⟩)])),aa (.inr (.inr (.inr (.inl (.tree s))))),aa (.inr (.inr (.inr (.inr (.tree g))))),aa (.inr (.inr (.inr (.inr (.tree h)))))]=>aa ⟨TJ (⟨s,g,h,c⟩:QS) t ⟨a,b⟩,.tuple #[.agg ⟨[.slice (aa ⟨4,0,aa 2000⟩) (tU (⟨s,g,h,c⟩:QS) t ⟨a,b⟩).length (tU (⟨s,g,h,c⟩:QS) t ⟨a,b⟩).length,.slice (aa ⟨5,0,aa 2000⟩) ([]:List It).length ([]:List It).length]⟩,.int .i64 (Ew (⟨s,g,h,c⟩:QS) t ⟨a,b⟩)],aj,[bQ (kb (⟨s,g,h,c⟩:QS) t ⟨a,b⟩),oM (kb (⟨s,g,h,c⟩:QS) t ⟨a,b⟩).mt,oS (kb (⟨s,g,h,c⟩:QS) t ⟨a,b⟩).pr,oS (kb (⟨s,g,h,c⟩:QS) t ⟨a,b⟩).gn,oI (tU (⟨s,g,h,c⟩:QS) t ⟨a,b⟩),oI []],[],[(0,0)]⟩
 |_,_=>aj
theorem agm:b9 D2 Tryz.prog 24 (a9 afg):=by
 refine fu Tryz.f24 fun args hh x hx=>?_
 unfold afg at hx;split at hx
 ·rename_i t a b c s g h;cases hx;refine q4 fun _ hv=>?_
  generalize hG:cj (R:=Rt) _ _=G;refine cL (T:=TQI) VM mixed 200 ?_;refine bK (q:=let dO:=aB (aa ⟨3,0,aj⟩);let b6:=aB (aa ⟨2,0,aj⟩);let dx:=aB (aa ⟨1,0,aj⟩);let e_:=bm ar;let Z1:=(nM (QS.mk s g h c) t);let Z2:=(QS.mt (BV Z1 (It.mk a b)));let Z3:=(Mk.mk t an (It.mk (0:Int) (0:Int)) an an (It.mk (0:Int) (0:Int)));let Z4:=(QS.mk (Qp Z2 Z3) (QS.pr (BV Z1 (It.mk a b))) (QS.gn (BV Z1 (It.mk a b))) (QS.cap (BV Z1 (It.mk a b))));let Z5:=(Bn Z4 (↑(ae (yA O8 Z3 (eM Z2))):Int));let Z6:=(Mk.mk t ao (It.mk a b) an an (It.mk (0:Int) (0:Int)));let Z7:=(QS.mk (Db (QS.mt Z5) Z6) (QS.pr Z5) (Db (QS.gn Z5) (js (It.mk a b) an (0:Int))) (QS.cap Z5));let Z8:=(F6 Z4 (↑(ae (yA O8 Z3 (eM Z2))):Int));let Z9:=(ae (wO Z7 Z8));Vc (eW s)/\((mW (QS.mk s g h c) t != (0:Int))=ao->aX (G (cq (aJ [.agg (aJ [.slice aj 0 0,.slice aj 0 0]),e_ (mW (QS.mk s g h c) t)])) [aa (.inl (98,[e_ (QS.cap Z1),dx,b6,dO])),oM (QS.mt Z1),oS (QS.pr Z1),oS (QS.gn Z1),aa (.inl (31,[e_ a,e_ b])),aa (.inl (59,[.slice aj 0 0,.slice aj 0 0]))]))/\((mW (QS.mk s g h c) t != (0:Int))=an->Vc (QS.gj Z1)/\(AW Z1 (It.mk a b)=ao->aX (G (cq (aJ [.agg (aJ [.slice aj 0 0,.slice aj 0 0]),e_ 2])) [aa (.inl (98,[e_ (QS.cap (BV Z1 (It.mk a b))),dx,b6,dO])),oM Z2,oS (QS.pr (BV Z1 (It.mk a b))),oS (QS.gn (BV Z1 (It.mk a b))),aa (.inl (31,[e_ a,e_ b])),aa (.inl (59,[.slice aj 0 0,.slice aj 0 0]))]))/\(AW Z1 (It.mk a b)=an->Vc True/\Vc (eW Z2)/\Vc (QS.gj Z4)/\Vc (tO (QS.mt Z5) Z6)/\Vc True/\Vc (tO (QS.gn Z5) (js (It.mk a b) an (0:Int)))/\Vc (KE Z7 Z8)/\aX (G (cq (aJ [.agg (aJ [.slice (aa ⟨6,0,aa 2000⟩) Z9 Z9,.slice (aa ⟨7,0,aa 2000⟩) 0 0]),e_ 0])) [aa (.inl (98,[e_ (QS.cap (vS Z7 Z8)),dx,b6,dO])),oM (QS.mt (vS Z7 Z8)),oS (QS.pr (vS Z7 Z8)),oS (QS.gn (vS Z7 Z8)),aa (.inl (31,[e_ a,e_ b])),aa (.inl (59,[.slice (aa ⟨6,0,aa 2000⟩) Z9 Z9,.slice (aa ⟨7,0,aa 2000⟩) 0 0])),aa (.inr (.inl (31,Row.mk [e_ 0,e_ 0] Z9 [aW.mk (ay It.k (wO Z7 Z8)) [] [],aW.mk (ay It.i (wO Z7 Z8)) [] []]))),aa (.inr (.inl (31,Row.mk [e_ 0,e_ 0] 0 [aW.mk [] [] [],aW.mk [] [] []])))])))) ?_ (by kernel_rfl)
  intro dO b6 dx e_ Z1 Z2 Z3 Z4 Z5 Z6 Z7 Z8 Z9;subst Z9 Z8 Z7 Z6 Z5 Z4 Z3 Z2 Z1 e_ dx b6 dO;obtain⟨⟨f1,f2,f3⟩,ok⟩:=hv;have fr:=Yb (t:=t) (q:=(⟨s,g,h,c⟩:QS)) ⟨f1,f2,f3⟩;refine⟨⟨f1⟩,fun h1=>?_,fun h1=>⟨⟨fr⟩,fun h2=>?_,fun h2=>?_⟩⟩
  ·have h1:¬ mW (⟨s,g,h,c⟩:QS) t=0:=fun e=>by rw[e] at h1;cases h1
   subst hG;rw[show kb (⟨s,g,h,c⟩:QS) t ⟨a,b⟩=nM (⟨s,g,h,c⟩:QS) t from if_neg h1,show tU (⟨s,g,h,c⟩:QS) t ⟨a,b⟩=[] from if_neg h1,show Ew (⟨s,g,h,c⟩:QS) t ⟨a,b⟩=mW (⟨s,g,h,c⟩:QS) t from if_neg h1]
   exact⟨⟨[0,1,2,3,90,91],rfl,rfl,⟨.inl rfl,rfl,rfl,rfl,⟨rfl,iK _,rfl⟩,⟨rfl,iK _,rfl⟩,trivial⟩,rfl,rfl,rfl,rfl⟩⟩
  ·have h1:mW (⟨s,g,h,c⟩:QS) t=0:=by simpa using h1
   subst hG;rw[show kb (⟨s,g,h,c⟩:QS) t ⟨a,b⟩=LW (⟨s,g,h,c⟩:QS) t ⟨a,b⟩ from(if_pos h1).trans (if_pos h2),show tU (⟨s,g,h,c⟩:QS) t ⟨a,b⟩=[] from(if_pos h1).trans (if_pos h2),show Ew (⟨s,g,h,c⟩:QS) t ⟨a,b⟩=2 from(if_pos h1).trans (if_pos h2)]
   exact⟨⟨[0,1,2,3,90,91],rfl,rfl,⟨.inl rfl,rfl,rfl,rfl,⟨rfl,iK _,rfl⟩,⟨rfl,iK _,rfl⟩,trivial⟩,rfl,rfl,rfl,rfl⟩⟩
  ·have h1:mW (⟨s,g,h,c⟩:QS) t=0:=by simpa using h1
   have h3:¬ AW (nM (⟨s,g,h,c⟩:QS) t) ⟨a,b⟩=ao:=by rw[h2];decide
   obtain⟨g1,g2,g3⟩:=ok h1 h2;subst hG;rw[show kb (⟨s,g,h,c⟩:QS) t ⟨a,b⟩=vS (L8 (⟨s,g,h,c⟩:QS) t ⟨a,b⟩) (Pn (⟨s,g,h,c⟩:QS) t ⟨a,b⟩) from(if_pos h1).trans (if_neg h3),show tU (⟨s,g,h,c⟩:QS) t ⟨a,b⟩=wO (L8 (⟨s,g,h,c⟩:QS) t ⟨a,b⟩) (Pn (⟨s,g,h,c⟩:QS) t ⟨a,b⟩) from(if_pos h1).trans (if_neg h3),show Ew (⟨s,g,h,c⟩:QS) t ⟨a,b⟩=0 from(if_pos h1).trans (if_neg h3)]
   exact⟨⟨trivial⟩,⟨fr.1⟩,⟨fr⟩,⟨g1⟩,⟨trivial⟩,⟨g2⟩,⟨g3⟩,⟨⟨[0,1,2,3,6,7],rfl,rfl,⟨.inl rfl,rfl,rfl,rfl,⟨_,rfl,.inl rfl⟩,⟨_,rfl,.inl rfl⟩,trivial⟩,rfl,rfl,rfl,rfl⟩⟩⟩
 ·cases hx
def ae8:Prim Rt:=fun args hh=>match args,hh with
 |[.pointer (aa ⟨0,0,aj⟩),.int .i64 t],[aa (.inl (98,[.int .i64 c,.pointer (aa ⟨1,0,aj⟩),.pointer (aa ⟨2,0,aj⟩),.pointer (aa ⟨3,0,aj⟩)])),aa (.inr (.inr (.inr (.inl (.tree s))))),aa (.inr (.inr (.inr (.inr (.tree g))))),aa (.inr (.inr (.inr (.inr (.tree h)))))]=>aa ⟨Tj (⟨s,g,h,c⟩:QS) t,.tuple #[.agg ⟨[.slice (aa ⟨4,0,aa 2000⟩) ([]:List It).length ([]:List It).length,.slice (aa ⟨5,0,aa 2000⟩) (Au (⟨s,g,h,c⟩:QS) t).length (Au (⟨s,g,h,c⟩:QS) t).length]⟩,.int .i64 (mW (⟨s,g,h,c⟩:QS) t)],aj,[bQ (jA (⟨s,g,h,c⟩:QS) t),oM (jA (⟨s,g,h,c⟩:QS) t).mt,oS (jA (⟨s,g,h,c⟩:QS) t).pr,oS (jA (⟨s,g,h,c⟩:QS) t).gn,oI [],oI (Au (⟨s,g,h,c⟩:QS) t)],[],[(0,0)]⟩
 |_,_=>aj
theorem ahj:b9 D2 Tryz.prog 25 (a9 ae8):=by
 refine fu Tryz.f25 fun args hh x hx=>?_
 unfold ae8 at hx;split at hx
 ·rename_i t c s g h;cases hx;refine q4 fun _ hv=>?_
  generalize hG:cj (R:=Rt) _ _=G;refine cL (T:=TQI) VM mixed 200 ?_;refine bK (q:=let Z7:=bm ar;let Z1:=(nM (QS.mk s g h c) t);let Z2:=(Mk.mk t an (It.mk (0:Int) (0:Int)) an an (It.mk (0:Int) (0:Int)));let Z3:=(QS.mk (Qp (QS.mt Z1) Z2) (QS.pr Z1) (QS.gn Z1) (QS.cap Z1));let Z4:=(↑(ae (yA O8 Z2 (eM (QS.mt Z1)))):Int);let Z5:=(FF (He Z3 Z4) (Km Z3 Z4));let Z6:=(A6 (He Z3 Z4) (Km Z3 Z4));Vc (eW s)/\((mW (QS.mk s g h c) t != (0:Int))=ao->aX (G (cq (aJ [.agg (aJ [.slice aj 0 0,.slice aj 0 0]),Z7 (mW (QS.mk s g h c) t)])) [aa (.inl (98,[Z7 (QS.cap Z1),.pointer (aa ⟨1,0,aj⟩),.pointer (aa ⟨2,0,aj⟩),.pointer (aa ⟨3,0,aj⟩)])),oM (QS.mt Z1),oS (QS.pr Z1),oS (QS.gn Z1),aa (.inl (59,[.slice aj 0 0,.slice aj 0 0]))]))/\((mW (QS.mk s g h c) t != (0:Int))=an->Vc True/\Vc (eW (QS.mt Z1))/\Vc (QS.gj Z3)/\Vc (JF (He Z3 Z4) (Km Z3 Z4))/\Vc (tO (QS.mt Z5) Z2)/\aX (G (cq (aJ [.agg (aJ [.slice (aa ⟨6,0,aa 2000⟩) 0 0,.slice (aa ⟨7,0,aa 2000⟩) (ae Z6) (ae Z6)]),Z7 0])) [aa (.inl (98,[Z7 (QS.cap Z5),.pointer (aa ⟨1,0,aj⟩),.pointer (aa ⟨2,0,aj⟩),.pointer (aa ⟨3,0,aj⟩)])),oM (Db (QS.mt Z5) Z2),oS (QS.pr Z5),oS (QS.gn Z5),aa (.inl (59,[.slice (aa ⟨6,0,aa 2000⟩) 0 0,.slice (aa ⟨7,0,aa 2000⟩) (ae Z6) (ae Z6)])),aa (.inl (49,[Z7 t,.bool an,Z7 0,Z7 0,.bool an,.bool an,Z7 0,Z7 0])),aa (.inr (.inl (31,Row.mk [Z7 0,Z7 0] 0 [aW.mk [] [] [],aW.mk [] [] []]))),aa (.inr (.inl (31,Row.mk [Z7 0,Z7 0] (ae Z6) [aW.mk (ay It.k Z6) [] [],aW.mk (ay It.i Z6) [] []]))),aa (.inl (59,[.slice (aa ⟨6,0,aa 2000⟩) 0 0,.slice (aa ⟨7,0,aa 2000⟩) (ae Z6) (ae Z6)]))]))) ?_ (by kernel_rfl)
  intro Z7 Z1 Z2 Z3 Z4 Z5 Z6;subst Z6 Z5 Z4 Z3 Z2 Z1 Z7;obtain⟨⟨f1,f2,f3⟩,ok⟩:=hv;have fr:=Yb (t:=t) (q:=(⟨s,g,h,c⟩:QS)) ⟨f1,f2,f3⟩;refine⟨⟨f1⟩,fun h1=>?_,fun h1=>?_⟩
  ·have h1:¬ mW (⟨s,g,h,c⟩:QS) t=0:=fun e=>by rw[e] at h1;cases h1
   subst hG;rw[show jA (⟨s,g,h,c⟩:QS) t=nM (⟨s,g,h,c⟩:QS) t from if_neg h1,show Au (⟨s,g,h,c⟩:QS) t=[] from if_neg h1]
   exact⟨⟨[0,1,2,3,90,91],rfl,rfl,⟨.inl rfl,rfl,rfl,rfl,⟨rfl,iK _,rfl⟩,⟨rfl,iK _,rfl⟩,trivial⟩,rfl,rfl,rfl,rfl⟩⟩
  ·have h1:mW (⟨s,g,h,c⟩:QS) t=0:=by simpa using h1
   obtain⟨g1,g2⟩:=ok h1;subst hG;rw[show jA (⟨s,g,h,c⟩:QS) t=⟨(uh (⟨s,g,h,c⟩:QS) t).mt.put (kN t),(uh (⟨s,g,h,c⟩:QS) t).pr,(uh (⟨s,g,h,c⟩:QS) t).gn,(uh (⟨s,g,h,c⟩:QS) t).cap⟩ from if_pos h1,show Au (⟨s,g,h,c⟩:QS) t=A6 (Yp (⟨s,g,h,c⟩:QS) t) (Ox (⟨s,g,h,c⟩:QS) t) from if_pos h1,h1]
   exact⟨⟨trivial⟩,⟨fr.1⟩,⟨fr⟩,⟨g1⟩,⟨g2⟩,⟨⟨[0,1,2,3,6,7],rfl,rfl,⟨.inl rfl,rfl,rfl,rfl,⟨_,rfl,.inl rfl⟩,⟨_,rfl,.inl rfl⟩,trivial⟩,rfl,rfl,rfl,rfl⟩⟩⟩
 ·cases hx
def afm:Prim Rt:=fun args hh=>match args,hh with
 |[.pointer (aa ⟨0,0,aj⟩),.int .i64 t],[aa (.inl (98,[.int .i64 c,.pointer (aa ⟨1,0,aj⟩),.pointer (aa ⟨2,0,aj⟩),.pointer (aa ⟨3,0,aj⟩)])),aa (.inr (.inr (.inr (.inl (.tree s))))),aa (.inr (.inr (.inr (.inr (.tree g))))),aa (.inr (.inr (.inr (.inr (.tree h)))))]=>aa ⟨Y8 (⟨s,g,h,c⟩:QS) t,.tuple #[.agg ⟨[.slice (aa ⟨4,0,aa 2000⟩) (wL (⟨s,g,h,c⟩:QS) t).length (wL (⟨s,g,h,c⟩:QS) t).length,.slice (aa ⟨5,0,aa 2000⟩) (w9 (⟨s,g,h,c⟩:QS) t).length (w9 (⟨s,g,h,c⟩:QS) t).length]⟩,.int .i64 (KL (⟨s,g,h,c⟩:QS) t)],aj,[bQ (gy (⟨s,g,h,c⟩:QS) t),oM (gy (⟨s,g,h,c⟩:QS) t).mt,oS (gy (⟨s,g,h,c⟩:QS) t).pr,oS (gy (⟨s,g,h,c⟩:QS) t).gn,oI (wL (⟨s,g,h,c⟩:QS) t),oI (w9 (⟨s,g,h,c⟩:QS) t)],[],[(0,0)]⟩
 |_,_=>aj
theorem agc:b9 D2 Tryz.prog 27 (a9 afm):=by
 refine fu Tryz.f27 fun args hh x hx=>?_
 unfold afm at hx;split at hx
 ·rename_i t c s g h;cases hx;refine q4 fun _ hv=>?_
  generalize hG:cj (R:=Rt) _ _=G;refine cL (T:=TQI) VM mixed 200 ?_;refine bK (q:=let Z9:=aB (aa ⟨3,0,aj⟩);let dO:=aB (aa ⟨2,0,aj⟩);let b6:=aB (aa ⟨1,0,aj⟩);let dx:=bm ar;let Z1:=(Mk.mk t an (It.mk (0:Int) (0:Int)) an an (It.mk (0:Int) (0:Int)));let Z2:=(ax (fw O8 Z1 (eM s)));let Z3:=(QS.mk (Qp (n_ s Z1) Z2) g h c);let Z4:=(↑(ae (yA O8 Z2 (eM (n_ s Z1)))):Int);let Z5:=(QS.mk (xU (QS.mt (Bn Z3 Z4)) Z2) (QS.pr (Bn Z3 Z4)) (QS.gn (Bn Z3 Z4)) (QS.cap (Bn Z3 Z4)));let Z6:=(ae (wO Z5 (F6 Z3 Z4)));let Z7:=(FF (He Z3 (Z4+(1:Int))) (Km Z3 (Z4+(1:Int))));let Z8:=(A6 (He Z3 (Z4+(1:Int))) (Km Z3 (Z4+(1:Int))));Vc True/\Vc (eW s)/\((!av (fw O8 Z1 (eM s)))=ao->aX (G (cq (aJ [.agg (aJ [.slice aj 0 0,.slice aj 0 0]),dx 14])) [aa (.inl (98,[dx c,b6,dO,Z9])),oM (n_ s Z1),oS g,oS h,aa (.inl (59,[.slice aj 0 0,.slice aj 0 0])),aa (.inl (49,[dx (Mk.t Z2),.bool (Mk.ins Z2),dx (It.k (Mk.it Z2)),dx (It.i (Mk.it Z2)),.bool (Mk.here Z2),.bool (Mk.tf Z2),dx (It.k (Mk.tk Z2)),dx (It.i (Mk.tk Z2))]))]))/\((!av (fw O8 Z1 (eM s)))=an->((!Mk.ins Z2)=ao->Vc (eW (n_ s Z1))/\Vc (QS.gj Z3)/\Vc (eW (QS.mt (Bn Z3 Z4)))/\Vc (KE Z5 (F6 Z3 Z4))/\aX (G (cq (aJ [.agg (aJ [.slice (aa ⟨6,0,aa 2000⟩) Z6 Z6,.slice (aa ⟨7,0,aa 2000⟩) 0 0]),dx 0])) [aa (.inl (98,[dx (QS.cap (vS Z5 (F6 Z3 Z4))),b6,dO,Z9])),oM (QS.mt (vS Z5 (F6 Z3 Z4))),oS (QS.pr (vS Z5 (F6 Z3 Z4))),oS (QS.gn (vS Z5 (F6 Z3 Z4))),aa (.inl (59,[.slice (aa ⟨6,0,aa 2000⟩) Z6 Z6,.slice (aa ⟨7,0,aa 2000⟩) 0 0])),aa (.inl (49,[dx (Mk.t Z2),.bool (Mk.ins Z2),dx (It.k (Mk.it Z2)),dx (It.i (Mk.it Z2)),.bool (Mk.here Z2),.bool (Mk.tf Z2),dx (It.k (Mk.tk Z2)),dx (It.i (Mk.tk Z2))])),aa (.inr (.inl (31,Row.mk [dx 0,dx 0] Z6 [aW.mk (ay It.k (wO Z5 (F6 Z3 Z4))) [] [],aW.mk (ay It.i (wO Z5 (F6 Z3 Z4))) [] []]))),aa (.inr (.inl (31,Row.mk [dx 0,dx 0] 0 [aW.mk [] [] [],aW.mk [] [] []])))]))/\((!Mk.ins Z2)=an->(Mk.here Z2=ao->Vc (eW (n_ s Z1))/\Vc True/\Vc (eW g)/\aX (G (cq (aJ [.agg (aJ [.slice aj 0 0,.slice (aa ⟨6,0,aa 2000⟩) 1 1]),dx 0])) [aa (.inl (98,[dx c,b6,dO,Z9])),oM (xU (n_ s Z1) Z2),oS (xU g (js (Mk.it Z2) an (0:Int))),oS h,aa (.inl (59,[.slice aj 0 0,.slice (aa ⟨6,0,aa 2000⟩) 1 1])),aa (.inl (49,[dx (Mk.t Z2),.bool (Mk.ins Z2),dx (It.k (Mk.it Z2)),dx (It.i (Mk.it Z2)),.bool (Mk.here Z2),.bool (Mk.tf Z2),dx (It.k (Mk.tk Z2)),dx (It.i (Mk.tk Z2))])),aa (.inr (.inl (31,Row.mk [dx 0,dx 0] 1 [aW.mk [It.k (Mk.it Z2)] [] [],aW.mk [It.i (Mk.it Z2)] [] []])))]))/\(Mk.here Z2=an->Vc (eW (n_ s Z1))/\Vc (fits (Z4+(1:Int)))/\Vc (QS.gj Z3)/\Vc (JF (He Z3 (Z4+(1:Int))) (Km Z3 (Z4+(1:Int))))/\Vc (eW (QS.mt Z7))/\Vc True/\Vc (eW (QS.gn Z7))/\aX (G (cq (aJ [.agg (aJ [.slice (aa ⟨6,0,aa 2000⟩) 0 0,.slice (aa ⟨7,0,aa 2000⟩) (ae Z8) (ae Z8)]),dx 0])) [aa (.inl (98,[dx (QS.cap Z7),b6,dO,Z9])),oM (xU (QS.mt Z7) Z2),oS (QS.pr Z7),oS (xU (QS.gn Z7) (js (Mk.it Z2) an (0:Int))),aa (.inl (59,[.slice (aa ⟨6,0,aa 2000⟩) 0 0,.slice (aa ⟨7,0,aa 2000⟩) (ae Z8) (ae Z8)])),aa (.inl (49,[dx (Mk.t Z2),.bool (Mk.ins Z2),dx (It.k (Mk.it Z2)),dx (It.i (Mk.it Z2)),.bool (Mk.here Z2),.bool (Mk.tf Z2),dx (It.k (Mk.tk Z2)),dx (It.i (Mk.tk Z2))])),aa (.inr (.inl (31,Row.mk [dx 0,dx 0] 0 [aW.mk [] [] [],aW.mk [] [] []]))),aa (.inr (.inl (31,Row.mk [dx 0,dx 0] (ae Z8) [aW.mk (ay It.k Z8) [] [],aW.mk (ay It.i Z8) [] []]))),aa (.inl (59,[.slice (aa ⟨6,0,aa 2000⟩) 0 0,.slice (aa ⟨7,0,aa 2000⟩) (ae Z8) (ae Z8)]))]))))) ?_ (by kernel_rfl)
  intro Z9 dO b6 dx Z1 Z2 Z3 Z4 Z5 Z6 Z7 Z8;subst Z8 Z7 Z6 Z5 Z4 Z3 Z2 Z1 dx b6 dO Z9;obtain⟨⟨f1,f2,f3⟩,ok⟩:=hv;have bp:0≤Fh (⟨s,g,h,c⟩:QS) t/\Fh (⟨s,g,h,c⟩:QS) t≤60:=by
   have h1:=Sr s;have h2:(yA O8 (mN (⟨s,g,h,c⟩:QS) t) s.l).length≤s.l.length:=by rw[Gv.Pb,dQ];omega
   exact⟨Int.natCast_nonneg _,by show((yA O8 (mN (⟨s,g,h,c⟩:QS) t) s.l).length:Int)≤60;omega⟩
  refine⟨⟨trivial⟩,⟨f1⟩,fun h1=>?_,fun h1=>⟨fun h2=>?_,fun h2=>⟨fun h3=>?_,fun h3=>?_⟩⟩⟩
  ·have h1:(!F1 (⟨s,g,h,c⟩:QS) t)=ao:=h1;have h1:¬ F1 (⟨s,g,h,c⟩:QS) t=ao:=by simpa using h1
   subst hG;rw[show gy (⟨s,g,h,c⟩:QS) t=Bs (⟨s,g,h,c⟩:QS) t from if_neg h1,show wL (⟨s,g,h,c⟩:QS) t=[] from if_neg h1,show w9 (⟨s,g,h,c⟩:QS) t=[] from if_neg h1,show KL (⟨s,g,h,c⟩:QS) t=14 from if_neg h1]
   exact⟨⟨[0,1,2,3,90,91],rfl,rfl,⟨.inl rfl,rfl,rfl,rfl,⟨rfl,iK _,rfl⟩,⟨rfl,iK _,rfl⟩,trivial⟩,rfl,rfl,rfl,rfl⟩⟩
  all_goals
   have h1:(!F1 (⟨s,g,h,c⟩:QS) t)=an:=h1;have h1:F1 (⟨s,g,h,c⟩:QS) t=ao:=by simpa using h1
   have hc:KL (⟨s,g,h,c⟩:QS) t=0:=if_pos h1
  ·have h2:(!(mN (⟨s,g,h,c⟩:QS) t).ins)=ao:=h2;have h2:(mN (⟨s,g,h,c⟩:QS) t).ins=an:=by simpa using h2
   have h3:¬ (mN (⟨s,g,h,c⟩:QS) t).ins=ao:=by rw[h2];decide
   have g1:=(ok h1).1 h2;subst hG;rw[show gy (⟨s,g,h,c⟩:QS) t=vS (Sp (⟨s,g,h,c⟩:QS) t) (JY (⟨s,g,h,c⟩:QS) t) from(if_pos h1).trans (if_neg h3),show wL (⟨s,g,h,c⟩:QS) t=wO (Sp (⟨s,g,h,c⟩:QS) t) (JY (⟨s,g,h,c⟩:QS) t) from(if_pos h1).trans (if_neg h3),show w9 (⟨s,g,h,c⟩:QS) t=[] from(if_pos h1).trans (if_neg h3),hc]
   exact⟨⟨f1⟩,⟨f1,f2,f3⟩,⟨f1⟩,⟨g1⟩,⟨⟨[0,1,2,3,6,7],rfl,rfl,⟨.inl rfl,rfl,rfl,rfl,⟨_,rfl,.inl rfl⟩,⟨_,rfl,.inl rfl⟩,trivial⟩,rfl,rfl,rfl,rfl⟩⟩⟩
  all_goals
   have h2:(!(mN (⟨s,g,h,c⟩:QS) t).ins)=an:=h2;have h2:(mN (⟨s,g,h,c⟩:QS) t).ins=ao:=by simpa using h2
  ·have h3:(mN (⟨s,g,h,c⟩:QS) t).here=ao:=h3;subst hG;rw[show gy (⟨s,g,h,c⟩:QS) t=⟨(Bs (⟨s,g,h,c⟩:QS) t).mt.drop (mN (⟨s,g,h,c⟩:QS) t),(Bs (⟨s,g,h,c⟩:QS) t).pr.drop (sl (mN (⟨s,g,h,c⟩:QS) t).it),(Bs (⟨s,g,h,c⟩:QS) t).gn,(Bs (⟨s,g,h,c⟩:QS) t).cap⟩ from(if_pos h1).trans ((if_pos h2).trans (if_pos h3)),show wL (⟨s,g,h,c⟩:QS) t=[] from(if_pos h1).trans (if_pos h2),show w9 (⟨s,g,h,c⟩:QS) t=[(mN (⟨s,g,h,c⟩:QS) t).it] from(if_pos h1).trans ((if_pos h2).trans (if_pos h3)),hc]
   exact⟨⟨f1⟩,⟨trivial⟩,⟨f2⟩,⟨⟨[0,1,2,3,90,6],rfl,rfl,⟨.inl rfl,rfl,rfl,rfl,⟨rfl,iK _,rfl⟩,⟨_,rfl,.inl rfl⟩,trivial⟩,rfl,rfl,rfl,rfl⟩⟩⟩
  ·have h3:(mN (⟨s,g,h,c⟩:QS) t).here=an:=h3;have h4:¬ (mN (⟨s,g,h,c⟩:QS) t).here=ao:=by rw[h3];decide
   obtain⟨g1,g2,g3⟩:=(ok h1).2 h2 h3;subst hG;rw[show gy (⟨s,g,h,c⟩:QS) t=⟨(zo (⟨s,g,h,c⟩:QS) t).mt.drop (mN (⟨s,g,h,c⟩:QS) t),(zo (⟨s,g,h,c⟩:QS) t).pr,(zo (⟨s,g,h,c⟩:QS) t).gn.drop (sl (mN (⟨s,g,h,c⟩:QS) t).it),(zo (⟨s,g,h,c⟩:QS) t).cap⟩ from(if_pos h1).trans ((if_pos h2).trans (if_neg h4)),show wL (⟨s,g,h,c⟩:QS) t=[] from(if_pos h1).trans (if_pos h2),show w9 (⟨s,g,h,c⟩:QS) t=A6 (Yi (⟨s,g,h,c⟩:QS) t) (PL (⟨s,g,h,c⟩:QS) t) from(if_pos h1).trans ((if_pos h2).trans (if_neg h4)),hc]
   exact⟨⟨f1⟩,⟨by show -9223372036854775808≤Fh (⟨s,g,h,c⟩:QS) t+1;omega,by show Fh (⟨s,g,h,c⟩:QS) t+1≤9223372036854775807;omega⟩,⟨f1,f2,f3⟩,⟨g1⟩,⟨g2⟩,⟨trivial⟩,⟨g3⟩,⟨⟨[0,1,2,3,6,7],rfl,rfl,⟨.inl rfl,rfl,rfl,rfl,⟨_,rfl,.inl rfl⟩,⟨_,rfl,.inl rfl⟩,trivial⟩,rfl,rfl,rfl,rfl⟩⟩⟩
 ·cases hx
end Pa
namespace Pa
open Rx Wv Br
open Sh (rN wA mC sl nI)
set_option maxRecDepth 100000
set_option maxRecDepth 100000
set_option maxHeartbeats 8000000
abbrev ano (l:List Mk):Row:=⟨[.int .i64 0,.bool an,.int .i64 0,.int .i64 0,.bool an,.bool an,.int .i64 0,.int .i64 0],l.length,[⟨l.map fun e=>e.t,[],[]⟩,⟨[],l.map fun e=>e.ins,[]⟩,⟨l.map fun e=>e.it.k,[],[]⟩,⟨l.map fun e=>e.it.i,[],[]⟩,⟨[],l.map fun e=>e.here,[]⟩,⟨[],l.map fun e=>e.tf,[]⟩,⟨l.map fun e=>e.tk.k,[],[]⟩,⟨l.map fun e=>e.tk.i,[],[]⟩]⟩
theorem ajy {α:Type} (v:α):cut [v] 0 1=[v]:=rfl
abbrev oMk (l:List Mk):Option (SB Rt):=aa (.inr (.inl (49,ano l)))
def ae2:Prim Rt:=fun args hh=>match args,hh with
 |[.pointer (aa ⟨0,0,aj⟩)],[aa (.inl (98,[.int .i64 c,.pointer (aa ⟨1,0,aj⟩),.pointer (aa ⟨2,0,aj⟩),.pointer (aa ⟨3,0,aj⟩)])),aa (.inr (.inr (.inr (.inl (.tree s))))),aa (.inr (.inr (.inr (.inr (.tree g))))),aa (.inr (.inr (.inr (.inr (.tree h)))))]=>aa ⟨s.gj,.slice (aa ⟨4,0,aa 4000⟩) (⟨s,g,h,c⟩:QS).ops.length 0,aj,[bQ (H0 (⟨s,g,h,c⟩:QS)),oM (H0 (⟨s,g,h,c⟩:QS)).mt,oS (H0 (⟨s,g,h,c⟩:QS)).pr,oS (H0 (⟨s,g,h,c⟩:QS)).gn,oO (⟨s,g,h,c⟩:QS).ops],[],[(0,0)]⟩
 |_,_=>aj
theorem agq:b9 D2 Tryz.prog 29 (a9 ae2):=by
 refine fu Tryz.f29 fun args hh x hx=>?_
 unfold ae2 at hx;split at hx
 ·rename_i c s g h;cases hx;refine q4 fun _ hv=>?_
  generalize hG:cj (R:=Rt) _ _=G;refine cL (T:=TQm) PD mixed 200 ?_;refine bK (q:=let Z5:=aB (aa ⟨1,0,aj⟩);let Z6:=bm ar;let Z1:=(↑(ae (eM s)):Int);let Z2:=(aB (aa ⟨0,0,aj⟩));let Z3:=(bD (aa ⟨5,0,aa 4000⟩) 0 (aG Z1));let Z4:=(eM (dF s));Vc (eW s)/\Vc ((0:Int)≤(0:Int)/\(0:Int)≤Z1/\Z1*(32:Int)≤(140737488355328:Int)/\Z1≤(140737488355328:Int))/\Vc (eW (dF s))/\At D2 Tryz.prog (dC Tryz.f29) 4 (ia Tryz.prog (dv (dw Tryz.f29)) G) [.inl [1,1,0,1,0],.inr (.inl 0),.inl [1,1,1]] (SS.mk (aa Z2::aj::aa (bD (aa ⟨4,0,aa 4000⟩) 0 0)::aa Z3::aj::aj::aa Z2::aa Z2::aa (aB (aa ⟨0,1,aj⟩))::aa (Z5)::aa (Z6 Z1)::aa Z3::aa Z2::aa Z2::aa (aB (aa ⟨0,1,aj⟩))::aa (Z5)::aa (bD (aa ⟨6,0,aa 8000⟩) (ae Z4) 0)::aa (Z6 (↑(ae Z4):Int))::aa (Z6 0)::n4 (n4 (aj::aj::[]))) [] [aa (.inl (98,[Z6 c,Z5,.pointer (aa ⟨2,0,aj⟩),.pointer (aa ⟨3,0,aj⟩)])),oM (tG (dF s)),oS g,oS h,aa (.inr (.inl (45,Row.mk [Z6 0,.bool an,Z6 0,Z6 0] 0 [aW.mk [] [] [],aW.mk [] [] [],aW.mk [] [] [],aW.mk [] [] []]))),aa (.inr (.inl (45,Row.mk [Z6 0,.bool an,Z6 0,Z6 0] 0 [aW.mk [] [] [],aW.mk [] [] [],aW.mk [] [] [],aW.mk [] [] []]))),aa (.inr (.inl (49,Row.mk [Z6 0,.bool an,Z6 0,Z6 0,.bool an,.bool an,Z6 0,Z6 0] (ae Z4) [aW.mk (ay (fun e=>Mk.t e) Z4) [] [],aW.mk [] (ay (fun e=>Mk.ins e) Z4) [],aW.mk (ay (fun e=>It.k (Mk.it e)) Z4) [] [],aW.mk (ay (fun e=>It.i (Mk.it e)) Z4) [] [],aW.mk [] (ay (fun e=>Mk.here e) Z4) [],aW.mk [] (ay (fun e=>Mk.tf e) Z4) [],aW.mk (ay (fun e=>It.k (Mk.tk e)) Z4) [] [],aW.mk (ay (fun e=>It.i (Mk.tk e)) Z4) [] []])))])) ?_ (by kernel_rfl)
  intro Z5 Z6 Z1 Z2 Z3 Z4;subst Z4 Z3 Z2 Z1 Z6 Z5;have hb:=s.Hk;refine⟨⟨hv⟩,⟨⟨by omega,by omega,by omega,by omega⟩⟩,⟨hv⟩,?_⟩
  have hL:(⟨s,g,h,c⟩:QS).ops.length=s.l.length:=fS ..;refine ld (by kernel_rfl) (ι:=Nat×Nat) (fun x=>x.1≤s.l.length/\(x.1=s.l.length->x.2=0)) [3,16,17,18] (fun x=>[.slice (aa ⟨4,0,aa 4000⟩) ((⟨s,g,h,c⟩:QS).ops.take x.1).length x.2,.slice (aa ⟨5,0,aa 8000⟩) s.l.length 0,.int .i64 s.l.length,.int .i64 x.1]) (fun x=>[bQ (⟨s,g,h,c⟩:QS),oM s.seen.all,oS g,oS h,oO ((⟨s,g,h,c⟩:QS).ops.take x.1),oMk s.l]) (fun x=>s.l.length-x.1) 29 (fun i hi=>⟨rfl,rfl,by simp⟩) ⟨(0,(s.l.length:Int).toNat),⟨dh _,fun h=>by rw[← h];rfl⟩,⟨[0,1,2,3,5,6],rfl,⟨.inl rfl,rfl,rfl,rfl,⟨_,rfl,.inl rfl⟩,⟨_,rfl,.inl rfl⟩,trivial⟩,rfl,rfl,rfl,rfl⟩⟩ fun x hx=>?_
  obtain⟨i,cp⟩:=x;obtain⟨hi,Vi⟩:=hx;simp only at hi Vi ⊢;refine cL (T:=TQm) PD mixed 200 ?_;refine bK (q:=let Z4:=bm ar;let Z1:=(eM s);let Z2:=(↑(ae Z1):Int);let Z3:=(gY i (QS.ops (QS.mk s g h c)));(decide ((↑i:Int)<Z2)=ao->Vc ((0:Int)≤(↑i:Int)/\(↑i:Int)<Z2/\0+ae Z1≤ae Z1)/\Vc (0+(i:Int).toNat<ae Z1)/\Vc (0+ae Z3≤ae Z3/\1≤1/\(ae Z3+1)*32≤140737488355328/\ae Z3+1≤140737488355328)/\Vc (fits ((↑i:Int)+(1:Int)))/\aX (∃ j,(ax j≤ae Z1/\(ax j=ae Z1->av j=0))/\ae Z1-ax j<ae Z1-i/\km Rt 4 29 [3,16,17,18] [.slice (aa ⟨4,0,aa 4000⟩) (ae (gY (ax j) (QS.ops (QS.mk s g h c)))) (av j),.slice (aa ⟨5,0,aa 8000⟩) (ae Z1) 0,Z4 Z2,Z4 (↑(ax j):Int)] [bQ (QS.mk s g h c),oM (tG (dF s)),oS g,oS h,oO (gY (ax j) (QS.ops (QS.mk s g h c))),oMk Z1] [aa (bD (aa ⟨8,0,aa 4000⟩) (ae Z3+1) 0),aa (bD (aa ⟨5,0,aa 8000⟩) (ae Z1) 0),aa (Z4 Z2),aa (Z4 ((↑i:Int)+(1:Int)))] [aa (.inl (98,[Z4 c,.pointer (aa ⟨1,0,aj⟩),.pointer (aa ⟨2,0,aj⟩),.pointer (aa ⟨3,0,aj⟩)])),oM (tG (dF s)),oS g,oS h,aj,aa (.inr (.inl (49,Row.mk [Z4 0,.bool an,Z4 0,Z4 0,.bool an,.bool an,Z4 0,Z4 0] (ae Z1) [aW.mk (ay (fun e=>Mk.t e) Z1) [] [],aW.mk [] (ay (fun e=>Mk.ins e) Z1) [],aW.mk (ay (fun e=>It.k (Mk.it e)) Z1) [] [],aW.mk (ay (fun e=>It.i (Mk.it e)) Z1) [] [],aW.mk [] (ay (fun e=>Mk.here e) Z1) [],aW.mk [] (ay (fun e=>Mk.tf e) Z1) [],aW.mk (ay (fun e=>It.k (Mk.tk e)) Z1) [] [],aW.mk (ay (fun e=>It.i (Mk.tk e)) Z1) [] []]))),aa (.inl (49,[Z4 (aI (ay (fun e=>Mk.t e) Z1) (0+(i:Int).toNat) (0:Int)),.bool (aI (ay (fun e=>Mk.ins e) Z1) (0+(i:Int).toNat) an),Z4 (aI (ay (fun e=>It.k (Mk.it e)) Z1) (0+(i:Int).toNat) (0:Int)),Z4 (aI (ay (fun e=>It.i (Mk.it e)) Z1) (0+(i:Int).toNat) (0:Int)),.bool (aI (ay (fun e=>Mk.here e) Z1) (0+(i:Int).toNat) an),.bool (aI (ay (fun e=>Mk.tf e) Z1) (0+(i:Int).toNat) an),Z4 (aI (ay (fun e=>It.k (Mk.tk e)) Z1) (0+(i:Int).toNat) (0:Int)),Z4 (aI (ay (fun e=>It.i (Mk.tk e)) Z1) (0+(i:Int).toNat) (0:Int))])),aa (.inr (.inl (45,Row.mk [Z4 0,.bool an,Z4 0,Z4 0] 1 [aW.mk [aI (ay (fun e=>Mk.t e) Z1) (0+(i:Int).toNat) (0:Int)] [] [],aW.mk [] [aI (ay (fun e=>Mk.ins e) Z1) (0+(i:Int).toNat) an] [],aW.mk [aI (ay (fun e=>It.k (Mk.it e)) Z1) (0+(i:Int).toNat) (0:Int)] [] [],aW.mk [aI (ay (fun e=>It.i (Mk.it e)) Z1) (0+(i:Int).toNat) (0:Int)] [] []]))),aa (.inr (.inl (45,Row.mk [Z4 0,.bool an,Z4 0,Z4 0] (ae Z3+1) [aW.mk (cut (ay Op.t Z3) 0 (ae Z3)++cut [aI (ay (fun e=>Mk.t e) Z1) (0+(i:Int).toNat) (0:Int)] 0 1) [] [],aW.mk [] (cut (ay Op.ins Z3) 0 (ae Z3)++cut [aI (ay (fun e=>Mk.ins e) Z1) (0+(i:Int).toNat) an] 0 1) [],aW.mk (cut (ay (fun o=>It.k (Op.it o)) Z3) 0 (ae Z3)++cut [aI (ay (fun e=>It.k (Mk.it e)) Z1) (0+(i:Int).toNat) (0:Int)] 0 1) [] [],aW.mk (cut (ay (fun o=>It.i (Op.it o)) Z3) 0 (ae Z3)++cut [aI (ay (fun e=>It.i (Mk.it e)) Z1) (0+(i:Int).toNat) (0:Int)] 0 1) [] []])))] 29))/\(decide ((↑i:Int)<Z2)=an->aX (G (bD (aa ⟨4,0,aa 4000⟩) (ae Z3) cp) [aa (.inl (98,[Z4 c,.pointer (aa ⟨1,0,aj⟩),.pointer (aa ⟨2,0,aj⟩),.pointer (aa ⟨3,0,aj⟩)])),oM (tG (dF s)),oS g,oS h,aa (.inr (.inl (45,oR Z3))),aa (.inr (.inl (49,Row.mk [Z4 0,.bool an,Z4 0,Z4 0,.bool an,.bool an,Z4 0,Z4 0] (ae Z1) [aW.mk (ay (fun e=>Mk.t e) Z1) [] [],aW.mk [] (ay (fun e=>Mk.ins e) Z1) [],aW.mk (ay (fun e=>It.k (Mk.it e)) Z1) [] [],aW.mk (ay (fun e=>It.i (Mk.it e)) Z1) [] [],aW.mk [] (ay (fun e=>Mk.here e) Z1) [],aW.mk [] (ay (fun e=>Mk.tf e) Z1) [],aW.mk (ay (fun e=>It.k (Mk.tk e)) Z1) [] [],aW.mk (ay (fun e=>It.i (Mk.tk e)) Z1) [] []])))]))) ?_ (by kernel_rfl)
  intro Z4 Z1 Z2 Z3;subst Z3 Z2 Z1 Z4;have gS:∀ {β:Type} (f:Mk->β) (d:β),f mz=d->(s.l.map f).getD i d=f (s.l.getD i mz):=fun f d h=>by
   subst h;rw[au,au,fh];cases s.l[i]?<;>rfl
  have hS:i<s.l.length->(⟨s,g,h,c⟩:QS).ops.take (i+1)=(⟨s,g,h,c⟩:QS).ops.take i++[opM (s.l.getD i mz)]:=fun h=>by
   rw[take_one (by rw[hL];exact h)]
   unfold QS.ops;rw[au,fh,au,bd h];rfl
  have FR:=List.length_take_le i (⟨s,g,h,c⟩:QS).ops;simp only[gS (fun e=>e.t) 0 rfl,gS (fun e=>e.ins) an rfl,gS (fun e=>e.it.k) 0 rfl,gS (fun e=>e.it.i) 0 rfl,gS (fun e=>e.here) an rfl,gS (fun e=>e.tf) an rfl,gS (fun e=>e.tk.k) 0 rfl,gS (fun e=>e.tk.i) 0 rfl,cm,ajy,VO]
  refine⟨fun h=>?_,fun h=>?_⟩
  ·have ch:i<s.l.length:=by have:=of_decide_eq_true h;omega
   refine⟨⟨by omega,by omega,by omega⟩,⟨by omega⟩,⟨by omega,by omega,by omega,by omega⟩,⟨by omega,by omega⟩,⟨(i+1,0),⟨ch,fun _=>rfl⟩,by simp only;omega,?_⟩⟩
   rw[hS ch];simp only[oO,oR,bF,cy,jM,dJ,List.map_cons,List.map_nil,bU];exact⟨[0,1,2,3,8,5],rfl,⟨.inl rfl,rfl,rfl,rfl,⟨_,rfl,.inl rfl⟩,⟨_,rfl,.inl rfl⟩,trivial⟩,rfl,rfl,rfl,rfl⟩
  ·obtain rfl:i=s.l.length:=by have:=of_decide_eq_false h;omega
   obtain rfl:=Vi rfl;refine⟨?_⟩;subst hG;rw[← hL,jP];exact⟨[0,1,2,3,4],rfl,rfl,⟨.inl rfl,rfl,rfl,rfl,⟨_,rfl,.inl rfl⟩,trivial⟩,rfl,rfl,rfl,rfl⟩
 ·cases hx
def Za:Prim Rt:=fun args hh=>match args,hh with
 |[.pointer (aa ⟨0,0,aj⟩)],[aa (.inl (98,[.int .i64 c,.pointer (aa ⟨1,0,aj⟩),.pointer (aa ⟨2,0,aj⟩),.pointer (aa ⟨3,0,aj⟩)])),aa (.inr (.inr (.inr (.inl (.tree s))))),aa (.inr (.inr (.inr (.inr (.tree g))))),aa (.inr (.inr (.inr (.inr (.tree h)))))]=>aa ⟨(⟨s,g,h,c⟩:QS).Ok,.int .i64 (pS (⟨s,g,h,c⟩:QS).ops),aj,[bQ (o7 (⟨s,g,h,c⟩:QS)),oM (o7 (⟨s,g,h,c⟩:QS)).mt,oS (o7 (⟨s,g,h,c⟩:QS)).pr,oS (o7 (⟨s,g,h,c⟩:QS)).gn],[],[(0,0)]⟩
 |_,_=>aj
theorem ahg:b9 D2 Tryz.prog 39 (a9 Za):=by
 refine JV Xw fun args hh x hx=>?_
 unfold Za at hx;split at hx
 ·rename_i c s g h;cases hx;refine⟨_,rfl,by first|exact a_ _|exact ma _|exact vJ _ 2|exact(by decide:(4:Nat)≤6),l_ rfl,(fun hw=>by first|rfl|cases hw),fun hv=>?_⟩
  have hq:HQ (⟨s,g,h,c⟩:QS) (⟨s,g,h,c⟩:QS).ops (⟨s,g,h,c⟩:QS).cap 90000:=hv;exact⟨hq.lj (by omega),by show bm ar (q8 (⟨s,g,h,c⟩:QS))=_;rw[hq.pS],rfl⟩
 ·cases hx
def ZP:Prim Rt:=fun args hh=>match args,hh with
 |[.pointer (aa ⟨0,0,aj⟩)],[aa (.inl (98,[.int .i64 c,.pointer (aa ⟨1,0,aj⟩),.pointer (aa ⟨2,0,aj⟩),.pointer (aa ⟨3,0,aj⟩)])),aa (.inr (.inr (.inr (.inl (.tree s))))),aa (.inr (.inr (.inr (.inr (.tree g))))),aa (.inr (.inr (.inr (.inr (.tree h)))))]=>aa ⟨(⟨s,g,h,c⟩:QS).Ok,.slice (aa ⟨4,0,aa 4000⟩) (⟨s,g,h,c⟩:QS).ops.length 0,aj,[bQ (H0 (⟨s,g,h,c⟩:QS)),oM (H0 (⟨s,g,h,c⟩:QS)).mt,oS (H0 (⟨s,g,h,c⟩:QS)).pr,oS (H0 (⟨s,g,h,c⟩:QS)).gn,oO (⟨s,g,h,c⟩:QS).ops],[],[(0,0)]⟩
 |_,_=>aj
theorem agu:b9 D2 Tryz.prog 29 (a9 ZP):=by
 refine JV agq fun args hh x hx=>?_
 unfold ZP at hx;split at hx
 ·rename_i c s g h;cases hx;refine⟨_,rfl,by first|exact a_ _|exact ma _|exact vJ _ 2|exact(by decide:(4:Nat)≤6),l_ rfl,(fun hw=>by first|rfl|cases hw),fun hv=>?_⟩
  have hq:HQ (⟨s,g,h,c⟩:QS) (⟨s,g,h,c⟩:QS).ops (⟨s,g,h,c⟩:QS).cap 90000:=hv;exact⟨(hq.lj (by omega)).1,rfl,rfl⟩
 ·cases hx
def P7:Prim Rt:=fun args hh=>match args,hh with
 |[.pointer (aa ⟨0,0,aj⟩),.int .i64 t,.agg ⟨[.int .i64 a,.int .i64 b]⟩],[aa (.inl (98,[.int .i64 c,.pointer (aa ⟨1,0,aj⟩),.pointer (aa ⟨2,0,aj⟩),.pointer (aa ⟨3,0,aj⟩)])),aa (.inr (.inr (.inr (.inl (.tree s))))),aa (.inr (.inr (.inr (.inr (.tree g))))),aa (.inr (.inr (.inr (.inr (.tree h)))))]=>aa ⟨(⟨s,g,h,c⟩:QS).Ok/\(⟨s,g,h,c⟩:QS).ops.length≤59,.tuple #[.agg ⟨[.slice (aa ⟨4,0,aa 2000⟩) (c_ (⟨s,g,h,c⟩:QS).ops (im (⟨s,g,h,c⟩:QS).ops (⟨s,g,h,c⟩:QS).cap t ⟨a,b⟩)).length (c_ (⟨s,g,h,c⟩:QS).ops (im (⟨s,g,h,c⟩:QS).ops (⟨s,g,h,c⟩:QS).cap t ⟨a,b⟩)).length,.slice (aa ⟨5,0,aa 2000⟩) (c_ (im (⟨s,g,h,c⟩:QS).ops (⟨s,g,h,c⟩:QS).cap t ⟨a,b⟩) (⟨s,g,h,c⟩:QS).ops).length (c_ (im (⟨s,g,h,c⟩:QS).ops (⟨s,g,h,c⟩:QS).cap t ⟨a,b⟩) (⟨s,g,h,c⟩:QS).ops).length]⟩,.int .i64 (mF (⟨s,g,h,c⟩:QS).ops (⟨s,g,h,c⟩:QS).cap t ⟨a,b⟩)],aj,[bQ (kb (⟨s,g,h,c⟩:QS) t ⟨a,b⟩),oM (kb (⟨s,g,h,c⟩:QS) t ⟨a,b⟩).mt,oS (kb (⟨s,g,h,c⟩:QS) t ⟨a,b⟩).pr,oS (kb (⟨s,g,h,c⟩:QS) t ⟨a,b⟩).gn,oI (c_ (⟨s,g,h,c⟩:QS).ops (im (⟨s,g,h,c⟩:QS).ops (⟨s,g,h,c⟩:QS).cap t ⟨a,b⟩)),oI (c_ (im (⟨s,g,h,c⟩:QS).ops (⟨s,g,h,c⟩:QS).cap t ⟨a,b⟩) (⟨s,g,h,c⟩:QS).ops)],[],[(0,0)]⟩
 |_,_=>aj
theorem Rc:b9 D2 Tryz.prog 24 (a9 P7):=by
 refine JV agm fun args hh x hx=>?_
 unfold P7 at hx;split at hx
 ·rename_i t a b c s g h;cases hx;refine⟨_,rfl,by first|exact a_ _|exact ma _|exact vJ _ 2|exact(by decide:(4:Nat)≤6),l_ rfl,(fun hw=>by first|rfl|cases hw),fun hv=>?_⟩
  have hq:HQ (⟨s,g,h,c⟩:QS) (⟨s,g,h,c⟩:QS).ops (⟨s,g,h,c⟩:QS).cap 90000:=hv.1;obtain⟨g1,g2,g3,g4,g5,g6⟩:=B9 (t:=t) (x:=⟨a,b⟩) hq hv.2 (a_ _);refine⟨g1,?_,?_⟩
  ·rw[← g5,g6,← g2]
  ·rw[← g5,g6]
 ·cases hx
def Pp:Prim Rt:=fun args hh=>match args,hh with
 |[.pointer (aa ⟨0,0,aj⟩),.int .i64 t],[aa (.inl (98,[.int .i64 c,.pointer (aa ⟨1,0,aj⟩),.pointer (aa ⟨2,0,aj⟩),.pointer (aa ⟨3,0,aj⟩)])),aa (.inr (.inr (.inr (.inl (.tree s))))),aa (.inr (.inr (.inr (.inr (.tree g))))),aa (.inr (.inr (.inr (.inr (.tree h)))))]=>aa ⟨(⟨s,g,h,c⟩:QS).Ok/\(⟨s,g,h,c⟩:QS).ops.length≤59,.tuple #[.agg ⟨[.slice (aa ⟨4,0,aa 2000⟩) (c_ (⟨s,g,h,c⟩:QS).ops (iB (⟨s,g,h,c⟩:QS).ops (⟨s,g,h,c⟩:QS).cap t)).length (c_ (⟨s,g,h,c⟩:QS).ops (iB (⟨s,g,h,c⟩:QS).ops (⟨s,g,h,c⟩:QS).cap t)).length,.slice (aa ⟨5,0,aa 2000⟩) (c_ (iB (⟨s,g,h,c⟩:QS).ops (⟨s,g,h,c⟩:QS).cap t) (⟨s,g,h,c⟩:QS).ops).length (c_ (iB (⟨s,g,h,c⟩:QS).ops (⟨s,g,h,c⟩:QS).cap t) (⟨s,g,h,c⟩:QS).ops).length]⟩,.int .i64 (nC (⟨s,g,h,c⟩:QS).ops (⟨s,g,h,c⟩:QS).cap t)],aj,[bQ (jA (⟨s,g,h,c⟩:QS) t),oM (jA (⟨s,g,h,c⟩:QS) t).mt,oS (jA (⟨s,g,h,c⟩:QS) t).pr,oS (jA (⟨s,g,h,c⟩:QS) t).gn,oI (c_ (⟨s,g,h,c⟩:QS).ops (iB (⟨s,g,h,c⟩:QS).ops (⟨s,g,h,c⟩:QS).cap t)),oI (c_ (iB (⟨s,g,h,c⟩:QS).ops (⟨s,g,h,c⟩:QS).cap t) (⟨s,g,h,c⟩:QS).ops)],[],[(0,0)]⟩
 |_,_=>aj
theorem QO:b9 D2 Tryz.prog 25 (a9 Pp):=by
 refine JV ahj fun args hh x hx=>?_
 unfold Pp at hx;split at hx
 ·rename_i t c s g h;cases hx;refine⟨_,rfl,by first|exact a_ _|exact ma _|exact vJ _ 2|exact(by decide:(4:Nat)≤6),l_ rfl,(fun hw=>by first|rfl|cases hw),fun hv=>?_⟩
  have hq:HQ (⟨s,g,h,c⟩:QS) (⟨s,g,h,c⟩:QS).ops (⟨s,g,h,c⟩:QS).cap 90000:=hv.1;obtain⟨g1,g2,g3,g4,g5,g6⟩:=BK (t:=t) hq hv.2 (a_ _);refine⟨g1,?_,?_⟩
  ·rw[← g6,g5,← g2]
  ·rw[← g6,g5]
 ·cases hx
def OU:Prim Rt:=fun args hh=>match args,hh with
 |[.pointer (aa ⟨0,0,aj⟩),.int .i64 t],[aa (.inl (98,[.int .i64 c,.pointer (aa ⟨1,0,aj⟩),.pointer (aa ⟨2,0,aj⟩),.pointer (aa ⟨3,0,aj⟩)])),aa (.inr (.inr (.inr (.inl (.tree s))))),aa (.inr (.inr (.inr (.inr (.tree g))))),aa (.inr (.inr (.inr (.inr (.tree h)))))]=>aa ⟨(⟨s,g,h,c⟩:QS).Ok,.tuple #[.agg ⟨[.slice (aa ⟨4,0,aa 2000⟩) (c_ (⟨s,g,h,c⟩:QS).ops (kn (⟨s,g,h,c⟩:QS).ops t)).length (c_ (⟨s,g,h,c⟩:QS).ops (kn (⟨s,g,h,c⟩:QS).ops t)).length,.slice (aa ⟨5,0,aa 2000⟩) (c_ (kn (⟨s,g,h,c⟩:QS).ops t) (⟨s,g,h,c⟩:QS).ops).length (c_ (kn (⟨s,g,h,c⟩:QS).ops t) (⟨s,g,h,c⟩:QS).ops).length]⟩,.int .i64 (re (⟨s,g,h,c⟩:QS).ops t)],aj,[bQ (gy (⟨s,g,h,c⟩:QS) t),oM (gy (⟨s,g,h,c⟩:QS) t).mt,oS (gy (⟨s,g,h,c⟩:QS) t).pr,oS (gy (⟨s,g,h,c⟩:QS) t).gn,oI (c_ (⟨s,g,h,c⟩:QS).ops (kn (⟨s,g,h,c⟩:QS).ops t)),oI (c_ (kn (⟨s,g,h,c⟩:QS).ops t) (⟨s,g,h,c⟩:QS).ops)],[],[(0,0)]⟩
 |_,_=>aj
theorem QD:b9 D2 Tryz.prog 27 (a9 OU):=by
 refine JV agc fun args hh x hx=>?_
 unfold OU at hx;split at hx
 ·rename_i t c s g h;cases hx;refine⟨_,rfl,by first|exact a_ _|exact ma _|exact vJ _ 2|exact(by decide:(4:Nat)≤6),l_ rfl,(fun hw=>by first|rfl|cases hw),fun hv=>?_⟩
  have hq:HQ (⟨s,g,h,c⟩:QS) (⟨s,g,h,c⟩:QS).ops (⟨s,g,h,c⟩:QS).cap 90000:=hv;obtain⟨g1,g2,g3,g4,g5,g6⟩:=Hc (t:=t) hq (a_ _);refine⟨g1,?_,?_⟩
  ·rw[← g5,← g6,← g2]
  ·rw[← g5,← g6]
 ·cases hx
end Pa
namespace Pa
open Rx Wv Br Sh
set_option maxRecDepth 100000
set_option maxHeartbeats 8000000
def z1:Nat->Bool:=fun j=>Nat.beq j 1
abbrev sv (q:QS):Option (SB Rt):=aa (.inl (98,[.int .i64 q.cap,.pointer (aa ⟨2,0,aj⟩),.pointer (aa ⟨3,0,aj⟩),.pointer (aa ⟨4,0,aj⟩)]))
def Qc (a:Act):Int:=wB a.k 3
def yk (l:List Op) (c:Int) (a:Act):Int:=if Qc a=2 then re l (fm a l) else if Qc a=0 then mF l c (fm a l) a.x else nC l c (fm a l)
def ui (l:List Op) (c:Int) (a:Act):List Op:=if Qc a=2 then kn l (fm a l) else if Qc a=0 then im l c (fm a l) a.x else iB l c (fm a l)
def lH (q:QS) (a:Act):QS:=if Qc a=2 then gy q (fm a q.ops) else if Qc a=0 then kb q (fm a q.ops) a.x else jA q (fm a q.ops)
theorem alh {q:QS} {l:List Op} {c:Int} {n:Nat} {a:Act} (h:HQ q l c n) (uc:l.length≤59) (hn:n≤90000):HQ (lH q a) (ui l c a) c (n+10)/\(lH q a).qA≤q.qA+10000*(uR l.length+4:Nat):=by
 unfold lH ui;rw[h.ops];split
 ·have:=Hc (t:=fm a l) h hn;exact⟨this.2.2.1,this.2.2.2.1⟩
 ·split
  ·have:=B9 (t:=fm a l) (x:=a.x) h uc hn;exact⟨this.2.2.1,this.2.2.2.1⟩
  ·have:=BK (t:=fm a l) h uc hn;exact⟨this.2.2.1,this.2.2.2.1⟩
theorem aba {l:List Op} {c:Int} {a:Act} (h:yk l c a≠0):ui l c a=l:=by
 unfold yk at h;unfold ui;split
 ·rename_i k;rw[if_pos k] at h;unfold kn;rw[if_neg h]
 ·rename_i k;rw[if_neg k] at h;split
  ·rename_i k2;rw[if_pos k2] at h;unfold im;rw[if_neg h]
  ·rename_i k2;rw[if_neg k2] at h;unfold iB;rw[if_neg h]
theorem aiu {l:List Op} {c:Int} {a:Act}:(ui l c a).length≤l.length+1:=by
 unfold ui;split
 ·unfold kn;split
  ·unfold Jk;rw[bF,dQ,jr];omega
  ·omega
 ·split
  ·unfold im;split
   ·rw[MK];exact a_ _
   ·omega
  ·unfold iB;split
   ·rw[MK];exact a_ _
   ·omega
def sC (q:QS):QS:={ q with pr:=q.pr.seen.all }
theorem acw {q:QS} {l:List Op} {c:Int} {n:Nat} (h:HQ q l c n) (hn:n≤100000):HQ (sC q) l c (n+1) :=
 (h.look (k:=2100) ((h.mq.pr' (h.U8 hn) (by omega) (s:=q.pr.seen.all) (e:=2100) (d:=0) h.p0 rfl (a_ _) (q.pr.sy.trans q.pr.seen.agQ) (by have:=q.pr.seen.Hk;omega)).up (a_ _) (by omega)) (by omega)).1
abbrev QS.Ym (q:QS):Prop:=HQ q q.ops q.cap 80000
end Pa
namespace Pa
open Go.RowKit Rx Wv Br Sh
set_option maxRecDepth 100000
set_option maxHeartbeats 16000000
theorem abH (c:Int):HQ (wh c) [] (Ak c) 0:=by
 have hc:0≤Ak c/\Ak c≤65536:=by unfold Ak;omega
 have e:min (max (Ak c) 0) 16777216=Ak c:=by omega
 exact⟨⟨rfl,rfl,rfl,rfl,e,e,e,a_ _,a_ _,a_ _,⟨nv _,nv _⟩,⟨nv _,nv _⟩,⟨nv _,nv _⟩⟩,rI,List.nodup_nil,(fun o h=>by cases h),⟨hc.1,hc.2⟩,dh _,nv _,nv _,nv _⟩
def SD:eJ Rt:=[(15,bJ zN 2 (a9 TH)),(24,bJ zN 2 (a9 P7)),(25,bJ zN 2 (a9 Pp)),(27,bJ zN 2 (a9 OU)),(39,bJ zN 2 (a9 Za))]
theorem Eb:cN D2 Tryz.prog SD:=⟨aU _ _ Yh,aU _ _ Rc,aU _ _ QO,aU _ _ QD,aU _ _ ahg,trivial⟩
abbrev Ya (a b i j:Nat):Option (SB Rt):=aa (.inl (59,[.slice (aa ⟨i,0,aa 2000⟩) a a,.slice (aa ⟨j,0,aa 2000⟩) b b]))
theorem ahn {G:Value->Hp Rt->Prop} (hG:∀ rest,G (.bool ao) rest):At D2 Tryz.prog (dC Tryz.f14) 0 (ia Tryz.prog Tryz.f14.results.toList G) [.inl []] ⟨vd []++List.replicate (Tryz.f14.ntmps-0) aj,[],[]⟩:=by
 refine mg (T:=SD) [[1,1,1]] Eb mixed 200 ?_;refine bK (q:=let Z1:=(aB (aa ⟨0,0,aj⟩));Vc True/\At D2 Tryz.prog (dC Tryz.f14) 0 (ia Tryz.prog (dv (dw Tryz.f14)) G) [.inl [1,1,1]] (SS.mk (aa (aC an)::aa Z1::n4 (aa Z1::aa Z1::aa (aC an)::nH (nH (nH (n4 (aj::[])))))) [(8,an),(0,an)] [aa (.inl (98,[.int ar 9,.pointer (aa ⟨1,0,aj⟩),.pointer (aa ⟨2,0,aj⟩),.pointer (aa ⟨3,0,aj⟩)])),oM (QS.mt (wh (9:Int))),oS (QS.pr (wh (9:Int))),oS (QS.gn (wh (9:Int)))])) ?_ (by kernel_rfl)
 intro Z1;subst Z1;refine⟨⟨trivial⟩,At.fit [1] [.pointer (aa ⟨0,0,aj⟩)] [bQ (wh 9),oM (wh 9).mt,oS (wh 9).pr,oS (wh 9).gn] 62 ⟨rfl,rfl,by simp⟩ ⟨[0,1,2,3],rfl,⟨.inl rfl,rfl,rfl,rfl,trivial⟩,rfl,rfl,rfl,rfl⟩ ?_⟩
 have h0:HQ (wh 9) [] 9 0:=abH 9;generalize wh 9=q at h0 ⊢;refine mg (T:=SD) [[1,1,1,1]] Eb mixed 200 ?_;refine bK (q:=let Z1:=(im (QS.ops q) (QS.cap q) (1:Int) (It.mk (5:Int) (0:Int)));let Z2:=(kb q (1:Int) (It.mk (5:Int) (0:Int)));Vc (QS.Ok q/\ae (QS.ops q)≤59)/\At D2 Tryz.prog (dC Tryz.f14) 0 (ia Tryz.prog (dv (dw Tryz.f14)) G) [.inl [1,1,1,1]] (SS.mk (aj::aa (aB (aa ⟨0,0,aj⟩))::n4 (aj::aj::aj::aa (aB (aa ⟨0,0,aj⟩))::aa (bz (aJ [.int ar 5,.int ar 0]))::aa (cq (aJ [.agg (aJ [.slice (aa ⟨4,0,aa 2000⟩) (ae (c_ (QS.ops q) Z1)) (ae (c_ (QS.ops q) Z1)),.slice (aa ⟨5,0,aa 2000⟩) (ae (c_ Z1 (QS.ops q))) (ae (c_ Z1 (QS.ops q)))]),.int ar (mF (QS.ops q) (QS.cap q) (1:Int) (It.mk (5:Int) (0:Int)))]))::nH (nH (nH (aj::aj::[]))))) [] [aa (.inl (98,[.int ar (QS.cap Z2),.pointer (aa ⟨1,0,aj⟩),.pointer (aa ⟨2,0,aj⟩),.pointer (aa ⟨3,0,aj⟩)])),oM (QS.mt Z2),oS (QS.pr Z2),oS (QS.gn Z2),aa (.inr (.inl (31,iR (c_ (QS.ops q) Z1)))),aa (.inr (.inl (31,iR (c_ Z1 (QS.ops q)))))])) ?_ (by kernel_rfl)
 intro Z1 Z2;subst Z2 Z1;refine⟨⟨(h0.mono (by decide)).ok,by rw[h0.ops];decide⟩,At.fit [1] [.pointer (aa ⟨0,0,aj⟩)] [bQ (kb q 1 ⟨5,0⟩),oM (kb q 1 ⟨5,0⟩).mt,oS (kb q 1 ⟨5,0⟩).pr,oS (kb q 1 ⟨5,0⟩).gn] 62 ⟨rfl,rfl,by simp⟩ ⟨[0,1,2,3],rfl,⟨.inl rfl,rfl,rfl,rfl,trivial⟩,rfl,rfl,rfl,rfl⟩ ?_⟩
 have h1:HQ (kb q 1 ⟨5,0⟩) ([⟨1,ao,⟨5,0⟩⟩]:List Op) 9 10:=(B9 (t:=1) (x:=⟨5,0⟩) h0 (by decide) (by decide)).2.2.1
 generalize(kb q 1 ⟨5,0⟩)=q1 at h1 ⊢;refine mg (T:=SD) [[1,1,1,1,1]] Eb mixed 200 ?_;refine bK (q:=let Z1:=(im (QS.ops q1) (QS.cap q1) (2:Int) (It.mk (3:Int) (0:Int)));let Z2:=(kb q1 (2:Int) (It.mk (3:Int) (0:Int)));Vc (QS.Ok q1/\ae (QS.ops q1)≤59)/\At D2 Tryz.prog (dC Tryz.f14) 0 (ia Tryz.prog (dv (dw Tryz.f14)) G) [.inl [1,1,1,1,1]] (SS.mk (aj::aa (aB (aa ⟨0,0,aj⟩))::n4 (n4 (aj::aj::aa (aB (aa ⟨0,0,aj⟩))::aa (bz (aJ [.int ar 3,.int ar 0]))::aa (cq (aJ [.agg (aJ [.slice (aa ⟨4,0,aa 2000⟩) (ae (c_ (QS.ops q1) Z1)) (ae (c_ (QS.ops q1) Z1)),.slice (aa ⟨5,0,aa 2000⟩) (ae (c_ Z1 (QS.ops q1))) (ae (c_ Z1 (QS.ops q1)))]),.int ar (mF (QS.ops q1) (QS.cap q1) (2:Int) (It.mk (3:Int) (0:Int)))]))::nH (nH (n4 (n4 (n4 (aj::aj::aj::[])))))))) [] [aa (.inl (98,[.int ar (QS.cap Z2),.pointer (aa ⟨1,0,aj⟩),.pointer (aa ⟨2,0,aj⟩),.pointer (aa ⟨3,0,aj⟩)])),oM (QS.mt Z2),oS (QS.pr Z2),oS (QS.gn Z2),aa (.inr (.inl (31,iR (c_ (QS.ops q1) Z1)))),aa (.inr (.inl (31,iR (c_ Z1 (QS.ops q1)))))])) ?_ (by kernel_rfl)
 intro Z1 Z2;subst Z2 Z1;refine⟨⟨(h1.mono (by decide)).ok,by rw[h1.ops];decide⟩,At.fit [1] [.pointer (aa ⟨0,0,aj⟩)] [bQ (kb q1 2 ⟨3,0⟩),oM (kb q1 2 ⟨3,0⟩).mt,oS (kb q1 2 ⟨3,0⟩).pr,oS (kb q1 2 ⟨3,0⟩).gn] 62 ⟨rfl,rfl,by simp⟩ ⟨[0,1,2,3],rfl,⟨.inl rfl,rfl,rfl,rfl,trivial⟩,rfl,rfl,rfl,rfl⟩ ?_⟩
 have h2:HQ (kb q1 2 ⟨3,0⟩) ([⟨1,ao,⟨5,0⟩⟩,⟨2,ao,⟨3,0⟩⟩]:List Op) 9 20:=(B9 (t:=2) (x:=⟨3,0⟩) h1 (by decide) (by decide)).2.2.1
 generalize(kb q1 2 ⟨3,0⟩)=q2 at h2 ⊢;refine mg (T:=SD) [[1,1,1,1,1,1]] Eb mixed 200 ?_;refine bK (q:=let Z1:=(ae (c_ (QS.ops q2) (iB (QS.ops q2) (QS.cap q2) (3:Int))));let Z2:=(ae (c_ (iB (QS.ops q2) (QS.cap q2) (3:Int)) (QS.ops q2)));Vc (QS.Ok q2/\ae (QS.ops q2)≤59)/\At D2 Tryz.prog (dC Tryz.f14) 0 (ia Tryz.prog (dv (dw Tryz.f14)) G) [.inl [1,1,1,1,1,1]] (SS.mk (aj::aa (aB (aa ⟨0,0,aj⟩))::n4 (n4 (n4 (aj::aa (aB (aa ⟨0,0,aj⟩))::aa (cq (aJ [.agg (aJ [.slice (aa ⟨4,0,aa 2000⟩) Z1 Z1,.slice (aa ⟨5,0,aa 2000⟩) Z2 Z2]),.int ar (nC (QS.ops q2) (QS.cap q2) (3:Int))]))::nH (nH (n4 (n4 (n4 (aj::[]))))))))) [] [aa (.inl (98,[.int ar (QS.cap (jA q2 (3:Int))),.pointer (aa ⟨1,0,aj⟩),.pointer (aa ⟨2,0,aj⟩),.pointer (aa ⟨3,0,aj⟩)])),oM (QS.mt (jA q2 (3:Int))),oS (QS.pr (jA q2 (3:Int))),oS (QS.gn (jA q2 (3:Int))),aa (.inr (.inl (31,iR (c_ (QS.ops q2) (iB (QS.ops q2) (QS.cap q2) (3:Int)))))),aa (.inr (.inl (31,iR (c_ (iB (QS.ops q2) (QS.cap q2) (3:Int)) (QS.ops q2)))))])) ?_ (by kernel_rfl)
 intro Z1 Z2;subst Z2 Z1;refine⟨⟨(h2.mono (by decide)).ok,by rw[h2.ops];decide⟩,At.fit [1] [.pointer (aa ⟨0,0,aj⟩)] [bQ (jA q2 3),oM (jA q2 3).mt,oS (jA q2 3).pr,oS (jA q2 3).gn] 62 ⟨rfl,rfl,by simp⟩ ⟨[0,1,2,3],rfl,⟨.inl rfl,rfl,rfl,rfl,trivial⟩,rfl,rfl,rfl,rfl⟩ ?_⟩
 have h3:HQ (jA q2 3) ([⟨1,ao,⟨5,0⟩⟩,⟨2,ao,⟨3,0⟩⟩,⟨3,an,⟨0,0⟩⟩]:List Op) 9 30:=(BK (t:=3) h2 (by decide) (by decide)).2.2.1
 generalize(jA q2 3)=q3 at h3 ⊢;refine mg (T:=SD) [[1,1,1,1,1,1,1]] Eb mixed 200 ?_;refine bK (q:=let Z1:=(ae (c_ (QS.ops q3) (kn (QS.ops q3) (2:Int))));let Z2:=(ae (c_ (kn (QS.ops q3) (2:Int)) (QS.ops q3)));let Z3:=(cq (aJ [.agg (aJ [.slice (aa ⟨4,0,aa 2000⟩) Z1 Z1,.slice (aa ⟨5,0,aa 2000⟩) Z2 Z2]),.int ar (re (QS.ops q3) (2:Int))]));Vc (QS.Ok q3)/\At D2 Tryz.prog (dC Tryz.f14) 0 (ia Tryz.prog (dv (dw Tryz.f14)) G) [.inl [1,1,1,1,1,1,1]] (SS.mk (aj::aa (aB (aa ⟨0,0,aj⟩))::aa (aB (aa ⟨6,0,aj⟩))::aa (bm ar (re (QS.ops q3) (2:Int)))::n4 (n4 (n4 (aj::aa Z3::aa (aB (aa ⟨0,0,aj⟩))::aa Z3::aa (bz (aJ [.slice (aa ⟨4,0,aa 2000⟩) Z1 Z1,.slice (aa ⟨5,0,aa 2000⟩) Z2 Z2]))::aa (bm ar (re (QS.ops q3) (2:Int)))::nH (nH (n4 (n4 ([])))))))) [] [aa (.inl (98,[.int ar (QS.cap (gy q3 (2:Int))),.pointer (aa ⟨1,0,aj⟩),.pointer (aa ⟨2,0,aj⟩),.pointer (aa ⟨3,0,aj⟩)])),oM (QS.mt (gy q3 (2:Int))),oS (QS.pr (gy q3 (2:Int))),oS (QS.gn (gy q3 (2:Int))),aa (.inr (.inl (31,iR (c_ (QS.ops q3) (kn (QS.ops q3) (2:Int)))))),aa (.inr (.inl (31,iR (c_ (kn (QS.ops q3) (2:Int)) (QS.ops q3))))),aa (.inl (59,[.slice (aa ⟨4,0,aa 2000⟩) Z1 Z1,.slice (aa ⟨5,0,aa 2000⟩) Z2 Z2]))])) ?_ (by kernel_rfl)
 intro Z1 Z2 Z3;subst Z3 Z2 Z1;simp only[h3.ops,show re ([⟨1,ao,⟨5,0⟩⟩,⟨2,ao,⟨3,0⟩⟩,⟨3,an,⟨0,0⟩⟩]:List Op) 2=0 by decide,show c_ ([⟨1,ao,⟨5,0⟩⟩,⟨2,ao,⟨3,0⟩⟩,⟨3,an,⟨0,0⟩⟩]:List Op) (kn ([⟨1,ao,⟨5,0⟩⟩,⟨2,ao,⟨3,0⟩⟩,⟨3,an,⟨0,0⟩⟩]:List Op) 2)=[] by decide,show c_ (kn ([⟨1,ao,⟨5,0⟩⟩,⟨2,ao,⟨3,0⟩⟩,⟨3,an,⟨0,0⟩⟩]:List Op) 2) ([⟨1,ao,⟨5,0⟩⟩,⟨2,ao,⟨3,0⟩⟩,⟨3,an,⟨0,0⟩⟩]:List Op)=[⟨5,0⟩] by decide]
 refine⟨⟨(h3.mono (by decide)).ok⟩,At.fit [1,2,3] [.pointer (aa ⟨0,0,aj⟩),.pointer (aa ⟨4,0,aj⟩),.int .i64 0] [bQ (gy q3 2),oM (gy q3 2).mt,oS (gy q3 2).pr,oS (gy q3 2).gn,Ya 0 1 5 6,oI [],oI [⟨5,0⟩]] 62 ⟨rfl,rfl,by simp⟩ ⟨[0,1,2,3,6,4,5],rfl,⟨.inl rfl,rfl,rfl,rfl,.inl rfl,⟨_,rfl,.inl rfl⟩,⟨_,rfl,.inl rfl⟩,trivial⟩,rfl,rfl,rfl,rfl⟩ ?_⟩
 have h4:HQ (gy q3 2) ([⟨1,ao,⟨5,0⟩⟩,⟨3,an,⟨0,0⟩⟩]:List Op) 9 40:=(Hc (t:=2) h3 (by decide)).2.2.1
 generalize gy q3 2=q4 at h4 ⊢;refine mg (T:=SD) [[1,1,1,1,1,1,1,1]] Eb mixed 200 ?_;refine bK (q:=let Z5:=bm ar;let Z1:=(Z5 (nC (QS.ops q4) (QS.cap q4) (0:Int)));let Z2:=(ae (c_ (QS.ops q4) (iB (QS.ops q4) (QS.cap q4) (0:Int))));let Z3:=(ae (c_ (iB (QS.ops q4) (QS.cap q4) (0:Int)) (QS.ops q4)));let Z4:=(cq (aJ [.agg (aJ [.slice (aa ⟨7,0,aa 2000⟩) Z2 Z2,.slice (aa ⟨8,0,aa 2000⟩) Z3 Z3]),Z5 (nC (QS.ops q4) (QS.cap q4) (0:Int))]));Vc (QS.Ok q4/\ae (QS.ops q4)≤59)/\At D2 Tryz.prog (dC Tryz.f14) 0 (ia Tryz.prog (dv (dw Tryz.f14)) G) [.inl [1,1,1,1,1,1,1,1]] (SS.mk (aj::aa (aB (aa ⟨0,0,aj⟩))::aa (aB (aa ⟨4,0,aj⟩))::aa (Z5 0)::aa (aB (aa ⟨9,0,aj⟩))::aa Z1::nH (aa Z4::aa (aB (aa ⟨0,0,aj⟩))::aa Z4::aa (bz (aJ [.slice (aa ⟨7,0,aa 2000⟩) Z2 Z2,.slice (aa ⟨8,0,aa 2000⟩) Z3 Z3]))::aa Z1::nH (nH (aj::aj::aj::[])))) [] [aa (.inl (98,[Z5 (QS.cap (jA q4 (0:Int))),.pointer (aa ⟨1,0,aj⟩),.pointer (aa ⟨2,0,aj⟩),.pointer (aa ⟨3,0,aj⟩)])),oM (QS.mt (jA q4 (0:Int))),oS (QS.pr (jA q4 (0:Int))),oS (QS.gn (jA q4 (0:Int))),aa (.inl (59,[.slice (aa ⟨5,0,aa 2000⟩) 0 0,.slice (aa ⟨6,0,aa 2000⟩) 1 1])),aa (.inr (.inl (31,Row.mk [Z5 0,Z5 0] 0 [aW.mk [] [] [],aW.mk [] [] []]))),aa (.inr (.inl (31,Row.mk [Z5 0,Z5 0] 1 [aW.mk [(5:Int)] [] [],aW.mk [(0:Int)] [] []]))),aa (.inr (.inl (31,iR (c_ (QS.ops q4) (iB (QS.ops q4) (QS.cap q4) (0:Int)))))),aa (.inr (.inl (31,iR (c_ (iB (QS.ops q4) (QS.cap q4) (0:Int)) (QS.ops q4))))),aa (.inl (59,[.slice (aa ⟨7,0,aa 2000⟩) Z2 Z2,.slice (aa ⟨8,0,aa 2000⟩) Z3 Z3]))])) ?_ (by kernel_rfl)
 intro Z5 Z1 Z2 Z3 Z4;subst Z4 Z3 Z2 Z1 Z5;simp only[h4.ops,h4.cap,show nC ([⟨1,ao,⟨5,0⟩⟩,⟨3,an,⟨0,0⟩⟩]:List Op) 9 0=0 by decide,show c_ ([⟨1,ao,⟨5,0⟩⟩,⟨3,an,⟨0,0⟩⟩]:List Op) (iB ([⟨1,ao,⟨5,0⟩⟩,⟨3,an,⟨0,0⟩⟩]:List Op) 9 0)=[] by decide,show c_ (iB ([⟨1,ao,⟨5,0⟩⟩,⟨3,an,⟨0,0⟩⟩]:List Op) 9 0) ([⟨1,ao,⟨5,0⟩⟩,⟨3,an,⟨0,0⟩⟩]:List Op)=[] by decide]
 refine⟨⟨(h4.mono (by decide)).ok,by decide⟩,At.fit [1,2,3,4,5] [.pointer (aa ⟨0,0,aj⟩),.pointer (aa ⟨4,0,aj⟩),.int .i64 0,.pointer (aa ⟨7,0,aj⟩),.int .i64 0] [bQ (jA q4 0),oM (jA q4 0).mt,oS (jA q4 0).pr,oS (jA q4 0).gn,Ya 0 1 5 6,oI [],oI [⟨5,0⟩],Ya 0 0 8 9,oI [],oI []] 62 ⟨rfl,rfl,by simp⟩ ⟨[0,1,2,3,4,5,6,9,7,8],rfl,⟨.inl rfl,rfl,rfl,rfl,.inl rfl,⟨_,rfl,.inl rfl⟩,⟨_,rfl,.inl rfl⟩,.inl rfl,⟨_,rfl,.inl rfl⟩,⟨_,rfl,.inl rfl⟩,trivial⟩,rfl,rfl,rfl,rfl⟩ ?_⟩
 have h5:HQ (jA q4 0) ([⟨0,an,⟨0,0⟩⟩,⟨1,ao,⟨5,0⟩⟩,⟨3,an,⟨0,0⟩⟩]:List Op) 9 50:=(BK (t:=0) h4 (by decide) (by decide)).2.2.1
 generalize jA q4 0=q5 at h5 ⊢;refine cL (T:=SD) Eb mixed 200 ?_;refine bK (q:=let Z1:=aB (aa ⟨2,0,aj⟩);let Z2:=aB (aa ⟨1,0,aj⟩);let Z3:=aB (aa ⟨3,0,aj⟩);let Z4:=bm ar;(ao=ao->(ao=ao->(ao=ao->Vc ((0:Int)≤(0:Int)/\(0:Int)<(1:Int)/\1≤1)/\Vc (0<1)/\(ao=ao->Vc (fits (0:Int))/\(ao=ao->Vc (QS.Ok q5)/\aX (G (aC (pS (QS.ops q5)==(1:Int))) [aa (.inl (98,[Z4 (QS.cap (o7 q5)),Z2,Z1,Z3])),oM (QS.mt (o7 q5)),oS (QS.pr (o7 q5)),oS (QS.gn (o7 q5)),aa (.inl (59,[.slice (aa ⟨5,0,aa 2000⟩) 0 0,.slice (aa ⟨6,0,aa 2000⟩) 1 1])),aa (.inr (.inl (31,Row.mk [Z4 0,Z4 0] 0 [aW.mk [] [] [],aW.mk [] [] []]))),aa (.inr (.inl (31,Row.mk [Z4 0,Z4 0] 1 [aW.mk [(5:Int)] [] [],aW.mk [(0:Int)] [] []]))),aa (.inl (59,[.slice (aa ⟨8,0,aa 2000⟩) 0 0,.slice (aa ⟨9,0,aa 2000⟩) 0 0])),aa (.inr (.inl (31,Row.mk [Z4 0,Z4 0] 0 [aW.mk [] [] [],aW.mk [] [] []]))),aa (.inr (.inl (31,Row.mk [Z4 0,Z4 0] 0 [aW.mk [] [] [],aW.mk [] [] []])))]))/\(ao=an->aX (G (aC an) [aa (.inl (98,[Z4 (QS.cap q5),Z2,Z1,Z3])),oM (QS.mt q5),oS (QS.pr q5),oS (QS.gn q5),aa (.inl (59,[.slice (aa ⟨5,0,aa 2000⟩) 0 0,.slice (aa ⟨6,0,aa 2000⟩) 1 1])),aa (.inr (.inl (31,Row.mk [Z4 0,Z4 0] 0 [aW.mk [] [] [],aW.mk [] [] []]))),aa (.inr (.inl (31,Row.mk [Z4 0,Z4 0] 1 [aW.mk [(5:Int)] [] [],aW.mk [(0:Int)] [] []]))),aa (.inl (59,[.slice (aa ⟨8,0,aa 2000⟩) 0 0,.slice (aa ⟨9,0,aa 2000⟩) 0 0])),aa (.inr (.inl (31,Row.mk [Z4 0,Z4 0] 0 [aW.mk [] [] [],aW.mk [] [] []]))),aa (.inr (.inl (31,Row.mk [Z4 0,Z4 0] 0 [aW.mk [] [] [],aW.mk [] [] []])))])))/\(ao=an->aX (G (aC an) [aa (.inl (98,[Z4 (QS.cap q5),Z2,Z1,Z3])),oM (QS.mt q5),oS (QS.pr q5),oS (QS.gn q5),aa (.inl (59,[.slice (aa ⟨5,0,aa 2000⟩) 0 0,.slice (aa ⟨6,0,aa 2000⟩) 1 1])),aa (.inr (.inl (31,Row.mk [Z4 0,Z4 0] 0 [aW.mk [] [] [],aW.mk [] [] []]))),aa (.inr (.inl (31,Row.mk [Z4 0,Z4 0] 1 [aW.mk [(5:Int)] [] [],aW.mk [(0:Int)] [] []]))),aa (.inl (59,[.slice (aa ⟨8,0,aa 2000⟩) 0 0,.slice (aa ⟨9,0,aa 2000⟩) 0 0])),aa (.inr (.inl (31,Row.mk [Z4 0,Z4 0] 0 [aW.mk [] [] [],aW.mk [] [] []]))),aa (.inr (.inl (31,Row.mk [Z4 0,Z4 0] 0 [aW.mk [] [] [],aW.mk [] [] []])))])))/\(ao=an->aX (G (aC an) [aa (.inl (98,[Z4 (QS.cap q5),Z2,Z1,Z3])),oM (QS.mt q5),oS (QS.pr q5),oS (QS.gn q5),aa (.inl (59,[.slice (aa ⟨5,0,aa 2000⟩) 0 0,.slice (aa ⟨6,0,aa 2000⟩) 1 1])),aa (.inr (.inl (31,Row.mk [Z4 0,Z4 0] 0 [aW.mk [] [] [],aW.mk [] [] []]))),aa (.inr (.inl (31,Row.mk [Z4 0,Z4 0] 1 [aW.mk [(5:Int)] [] [],aW.mk [(0:Int)] [] []]))),aa (.inl (59,[.slice (aa ⟨8,0,aa 2000⟩) 0 0,.slice (aa ⟨9,0,aa 2000⟩) 0 0])),aa (.inr (.inl (31,Row.mk [Z4 0,Z4 0] 0 [aW.mk [] [] [],aW.mk [] [] []]))),aa (.inr (.inl (31,Row.mk [Z4 0,Z4 0] 0 [aW.mk [] [] [],aW.mk [] [] []])))])))/\(ao=an->aX (G (aC an) [aa (.inl (98,[Z4 (QS.cap q5),Z2,Z1,Z3])),oM (QS.mt q5),oS (QS.pr q5),oS (QS.gn q5),aa (.inl (59,[.slice (aa ⟨5,0,aa 2000⟩) 0 0,.slice (aa ⟨6,0,aa 2000⟩) 1 1])),aa (.inr (.inl (31,Row.mk [Z4 0,Z4 0] 0 [aW.mk [] [] [],aW.mk [] [] []]))),aa (.inr (.inl (31,Row.mk [Z4 0,Z4 0] 1 [aW.mk [(5:Int)] [] [],aW.mk [(0:Int)] [] []]))),aa (.inl (59,[.slice (aa ⟨8,0,aa 2000⟩) 0 0,.slice (aa ⟨9,0,aa 2000⟩) 0 0])),aa (.inr (.inl (31,Row.mk [Z4 0,Z4 0] 0 [aW.mk [] [] [],aW.mk [] [] []]))),aa (.inr (.inl (31,Row.mk [Z4 0,Z4 0] 0 [aW.mk [] [] [],aW.mk [] [] []])))])))/\(ao=an->aX (G (aC an) [aa (.inl (98,[Z4 (QS.cap q5),Z2,Z1,Z3])),oM (QS.mt q5),oS (QS.pr q5),oS (QS.gn q5),aa (.inl (59,[.slice (aa ⟨5,0,aa 2000⟩) 0 0,.slice (aa ⟨6,0,aa 2000⟩) 1 1])),aa (.inr (.inl (31,Row.mk [Z4 0,Z4 0] 0 [aW.mk [] [] [],aW.mk [] [] []]))),aa (.inr (.inl (31,Row.mk [Z4 0,Z4 0] 1 [aW.mk [(5:Int)] [] [],aW.mk [(0:Int)] [] []]))),aa (.inl (59,[.slice (aa ⟨8,0,aa 2000⟩) 0 0,.slice (aa ⟨9,0,aa 2000⟩) 0 0])),aa (.inr (.inl (31,Row.mk [Z4 0,Z4 0] 0 [aW.mk [] [] [],aW.mk [] [] []]))),aa (.inr (.inl (31,Row.mk [Z4 0,Z4 0] 0 [aW.mk [] [] [],aW.mk [] [] []])))]))) ?_ (by kernel_rfl)
 intro Z1 Z2 Z3 Z4;subst Z4 Z3 Z2 Z1;simp only[h5.ops];refine⟨fun _=>?_,fun h=>by cases h⟩
 refine⟨fun _=>?_,fun h=>by cases h⟩
 refine⟨fun _=>⟨⟨by decide,by decide,by decide⟩,⟨by decide⟩,?_⟩,fun h=>by cases h⟩
 refine⟨fun _=>⟨⟨by decide,by decide⟩,?_⟩,fun h=>by cases h⟩
 refine⟨fun _=>⟨⟨(h5.mono (by decide)).ok⟩,⟨?_⟩⟩,fun h=>by cases h⟩
 rw[show(pS ([⟨0,an,⟨0,0⟩⟩,⟨1,ao,⟨5,0⟩⟩,⟨3,an,⟨0,0⟩⟩]:List Op)==1)=ao by decide]
 exact hG _
def aej:Prim Rt:=fun args hh=>match args,hh with
 |[],[]=>aa ⟨True,.bool ao,aj,hh,[],[]⟩
 |_,_=>aj
theorem akK:b9 D2 Tryz.prog 14 (a9 aej):=by
 refine fu Tryz.f14 fun args hh x hx=>?_
 unfold aej at hx;split at hx
 ·injection hx with hx
  subst hx;refine⟨a_ _,l_ rfl,(fun hw=>rfl),fun _ hv=>?_⟩
  exact ahn fun rest=>⟨[],rfl,rfl,trivial,rfl,rfl,rfl,rfl⟩
 ·cases hx
abbrev az:Act:=⟨0,0,an,⟨0,0⟩⟩
abbrev aR (l:List Act):Row:=⟨[.int .i64 0,.int .i64 0,.bool an,.int .i64 0,.int .i64 0],l.length,[⟨l.map Act.k,[],[]⟩,⟨l.map Act.t,[],[]⟩,⟨[],l.map Act.d,[]⟩,⟨l.map fun a=>a.x.k,[],[]⟩,⟨l.map fun a=>a.x.i,[],[]⟩]⟩
abbrev vA (l:List Act):Option (SB Rt):=aa (.inr (.inr (.inl (aR l))))
theorem gA {β:Type} {l:List Act} {i:Nat} (f:Act->β) (d:β) (h:f az=d):(l.map f).getD i d=f (l.getD i az):=by
 subst h;rw[au,au,fh];cases l[i]?<;>rfl
abbrev tmA:List Value:=[.int .i64 0,.int .i64 0,.bool an,.int .i64 0,.int .i64 0]
theorem Tv {c:aW} {n:Nat} (h:c=yP c.i) (l:c.i.length=n):c=⟨(n9 n).map fun i=>c.i.getD i 0,[],[]⟩:=by
 have e:(n9 n).map (fun i=>c.i.getD i 0)=c.i:=by
  subst l;exact FJ fun i hi=>by rw[au,bd hi];rfl
 rw[e];exact h
theorem alK {c:aW} {n:Nat} (h:c=AF c.b) (l:c.b.length=n):c=⟨[],(n9 n).map fun i=>c.b.getD i an,[]⟩:=by
 have e:(n9 n).map (fun i=>c.b.getD i an)=c.b:=by
  subst l;exact FJ fun i hi=>by rw[au,bd hi];rfl
 rw[e];exact h
theorem ag6 {r:Row} (hr:r.tm=tmA) (hw:G3 tmA r.ez r.n):∃ l,r=aR l:=by
 obtain⟨tm,n,ez⟩:=r;simp only at hr hw;subst hr
 match ez,hw with
 |[a,b,c,d,e],hw =>
  simp only[G3] at hw;obtain⟨h1,h2,h3,h4,h5⟩:=hw;refine⟨(n9 n).map fun i=>⟨a.i.getD i 0,b.i.getD i 0,c.b.getD i an,⟨d.i.getD i 0,e.i.getD i 0⟩⟩,?_⟩
  unfold aR;simp only[WE,Function.comp_def,fS,List.length_range];rw[← Tv h1.1 h1.2.1,← Tv h2.1 h2.2.1,← alK h3.1 h3.2,← Tv h4.1 h4.2.1,← Tv h5.1.1 h5.1.2.1]
abbrev SA (i:Nat) (q:QS):Option (SB Rt):=aa (.inl (98,[.int .i64 q.cap,.pointer (aa ⟨i,0,aj⟩),.pointer (aa ⟨i+1,0,aj⟩),.pointer (aa ⟨i+2,0,aj⟩)]))
def yw (c:Int) (dL:List Act):Nat->List Op
 |0=>[]
 |i+1=>ui (yw c dL i) (Ak c) (dL.getD i az)
def yo (c:Int) (dL:List Act):Nat->QS
 |0=>wh c
 |i+1=>lH (yo c dL i) (dL.getD i az)
theorem RB (c:Int) (dL:List Act):∀ i,(yw c dL i).length≤i
 |0=>a_ _
 |i+1=>Nat.le_trans aiu (Nat.succ_le_succ (RB c dL i))
theorem ab4 (c:Int) (dL:List Act):∀ i,i≤60->HQ (yo c dL i) (yw c dL i) (Ak c) (10*i)
 |0,_=>abH c
 |i+1,h=>by
  have l:=RB c dL i;exact(alh (a:=dL.getD i az) (ab4 c dL i (by omega)) (by omega) (by omega)).1
end Pa
end Go.Proofs.YtjlomlgdgpoepaaGreat
