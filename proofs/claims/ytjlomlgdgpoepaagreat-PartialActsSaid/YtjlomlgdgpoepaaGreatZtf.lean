import Derived.Test.YtjlomlgdgpoepaaGreatZte
import Derived.Test.YtjlomlgdgpoepaaGreatZtd
import Derived.Test.YtjlomlgdgpoepaaGreatZtb
set_option linter.unusedVariables false
set_option linter.unusedSimpArgs false
namespace Go.Proofs.YtjlomlgdgpoepaaGreat
open G8 renaming EH→Xd,Rt→TI
open G8.Rt renaming tree→Bf
open G9 renaming Io→Xe,Rt→TJ
open G9.Rt renaming tree→pk
open Gv renaming ir→fv,lu→rk,ns→uU,ox→yF,sub→mX
open Gv.TS renaming all→sg,at_→KX,drop→xX,find→oj,gk→eW,kV→tV,ky→Qk,l→eK,new→qU,put→C9,seen→dz
open Rx renaming Ends→ch,jb→Wx
open Sh renaming Kp→Su,M5→YE,O9→aM
open Sh.Sl renaming it→lK,kA→o8,mk→ju,time→qC
open Wv renaming vI→I3
open _root_.Array renaming mk→aO,toList→dA
open _root_.Bool renaming and_eq_true→aL,eq_false_iff→LS,false_eq_true→fO,false→an,not_false→HN,true_and→je,true→ao
open _root_.Go.Func renaming results→dC
open _root_.Go.IntKind renaming i64→ar
open _root_.Go.Value renaming agg→bE,bool→aD,int→bk,pointer→aC,slice→bx,tuple→cq
open _root_.Int renaming le_refl→ny,lt_tmod_of_pos→KW,tmod_lt_of_pos→C8,tmod→Wu,toNat_natCast→iF,toNat→aH
open _root_.List renaming any_eq_true→Oe,append_nil→Bb,cons_append→mw,drop_zero→so,eq_nil_of_length_eq_zero→iN,filter_append→mh,filter_cons→jS,filter_eq_nil_iff→tU,filter→Xf,findIdx_getElem→I2,findIdx_le_length→GH,getD_eq_getElem?_getD→av,getD→ax,getElem?_eq_getElem→bd,getElem?_map→fh,length_append→bA,length_cons→cy,length_drop→jt,length_filter_le→rj,length_map→fR,length_nil→jN,length_tail→Fy,length_take→dZ,length→ae,map_append→dG,map_drop→mH,map_map→Ww,map→au,mem_append→b5,mem_cons→bP,mem_of_mem_drop→vK,mem_of_mem_take→ph,ne_nil_of_length_pos→DL,nil_append→pd,not_mem_nil→vH,not_of_lt_findIdx→GI,range→oi,take_append_drop→cQ,take_length→js,take_of_length_le→jj,take_succ_eq_append_getElem→zf,take→gY
open _root_.List.Pairwise renaming nil→rP
open _root_.Nat renaming beq→fb,le_add_right→qj,le_refl→a_,le_succ→kO,lt_or_ge→cr,zero_add→bV,zero_le→du,zero_lt_succ→iG
open _root_.Option renaming getD→gK,isSome→ij,none→aj,some→aa
open _root_.Prod renaming fst→aA,snd→aw
namespace Pa
open Rx Wv Br
open Sh (rV wB mC sl nK)
def Mu (q:QS) (t:Int) (x:It):QS:=B5 (nO q t) x
def Yw (q:QS) (t:Int) (x:It):QS:=ZH (Mu q t x) (kN t)
def Pe (q:QS) (t:Int) (x:It):Int:=FE (Yw q t x) (BA (Mu q t x) (kN t))
def Sd (q:QS) (t:Int) (x:It):QS:=Bj (Yw q t x) (BA (Mu q t x) (kN t))
def LW (q:QS) (t:Int) (x:It):QS:=⟨(Sd q t x).mt.put (Sr t x),(Sd q t x).pr,(Sd q t x).gn.put (sl x),(Sd q t x).cap⟩
def Ec (q:QS) (t:Int) (x:It):Int:=if mZ q t=0 then if Al (nO q t) x=ao then 2 else 0 else mZ q t
def kL (q:QS) (t:Int) (x:It):QS:=if mZ q t=0 then if Al (nO q t) x=ao then Mu q t x else vZ (LW q t x) (Pe q t x) else nO q t
def wA (q:QS) (t:Int) (x:It):List It:=if mZ q t=0 then if Al (nO q t) x=ao then[] else yu (LW q t x) (Pe q t x) else[]
def QS.gk (q:QS):Prop:=q.mt.gk/\q.pr.gk/\q.gn.gk
def Tx (q:QS) (t:Int) (x:It):Prop:=q.gk/\(mZ q t=0->Al (nO q t) x=an->(Sd q t x).mt.kV (Sr t x)/\(Sd q t x).gn.kV (sl x)/\J5 (LW q t x) (Pe q t x))
def de1 (q:QS) (t:Int):QS:=ZH (nO q t) (kN t)
def Pr (q:QS) (t:Int):Int:=Kx (de1 q t) (BA (nO q t) (kN t))
def YB (q:QS) (t:Int):QS:=Ht (de1 q t) (BA (nO q t) (kN t))
def uv (q:QS) (t:Int):QS:=Gc (YB q t) (Pr q t)
def ks (q:QS) (t:Int):QS:=if mZ q t=0 then⟨(uv q t).mt.put (kN t),(uv q t).pr,(uv q t).gn,(uv q t).cap⟩ else nO q t
def Dc (q:QS) (t:Int):List It:=if mZ q t=0 then C6 (YB q t) (Pr q t) else[]
def TG (q:QS) (t:Int):Prop:=q.gk/\(mZ q t=0->Kv (YB q t) (Pr q t)/\(uv q t).mt.kV (kN t))
def FR (q:QS) (t:Int):Bool:=(fv O8 (kN t) q.mt.l).2
def mM (q:QS) (t:Int):Mk:=(fv O8 (kN t) q.mt.l).1
def Bl (q:QS) (t:Int):QS:=⟨q.mt.find (kN t),q.pr,q.gn,q.cap⟩
def L9 (q:QS) (t:Int):QS:=ZH (Bl q t) (mM q t)
def Ef (q:QS) (t:Int):Int:=BA (Bl q t) (mM q t)
def RX (q:QS) (t:Int):QS:=⟨(Bj (L9 q t) (Ef q t)).mt.drop (mM q t),(Bj (L9 q t) (Ef q t)).pr,(Bj (L9 q t) (Ef q t)).gn,(Bj (L9 q t) (Ef q t)).cap⟩
def JW (q:QS) (t:Int):Int:=FE (L9 q t) (Ef q t)
def XV (q:QS) (t:Int):QS:=Ht (L9 q t) (Ef q t+1)
def PG (q:QS) (t:Int):Int:=Kx (L9 q t) (Ef q t+1)
def zX (q:QS) (t:Int):QS:=Gc (XV q t) (PG q t)
def Kt (q:QS) (t:Int):Int:=if FR q t=ao then 0 else 14
def jW (q:QS) (t:Int):QS:=if FR q t=ao then if(mM q t).ins=ao then if(mM q t).here=ao then⟨(Bl q t).mt.drop (mM q t),(Bl q t).pr.drop (sl (mM q t).it),(Bl q t).gn,(Bl q t).cap⟩ else⟨(zX q t).mt.drop (mM q t),(zX q t).pr,(zX q t).gn.drop (sl (mM q t).it),(zX q t).cap⟩ else vZ (RX q t) (JW q t) else Bl q t
def wN (q:QS) (t:Int):List It:=if FR q t=ao then if(mM q t).ins=ao then[] else yu (RX q t) (JW q t) else[]
def w9 (q:QS) (t:Int):List It:=if FR q t=ao then if(mM q t).ins=ao then if(mM q t).here=ao then[(mM q t).it] else C6 (XV q t) (PG q t) else[] else[]
def Zl (q:QS) (t:Int):Prop:=q.gk/\(FR q t=ao->((mM q t).ins=an->J5 (RX q t) (JW q t))/\((mM q t).ins=ao->(mM q t).here=an->Kv (XV q t) (PG q t)/\(zX q t).mt.gk/\(zX q t).gn.gk))
theorem X9 {q:QS} {t:Int} (h:q.gk):(nO q t).gk:=by
 refine⟨?_,h.2.1,h.2.2⟩;unfold nO;show eW (if _ then _ else _)
 split<;>exact h.1
structure HQ (q:QS) (l:List Op) (c:Int) (n:Nat):Prop where
 mq:MQ q (jC l) (fin [] l) (gn l) c n q 0
 tm:Tm l
 nd:(gx l).Nodup
 dl:∀ o,o∈l->o.ins=an->o.it=iz
 len:(l.length:Int)≤c/\c≤65536
 FH:l.length≤60
 vb:q.mt.m.cX≤100000*n/\q.pr.m.cX≤100000*n/\q.gn.m.cX≤100000*n
theorem HQ.m0 {q:QS} {l:List Op} {c:Int} {n:Nat} (h:HQ q l c n):q.mt.l=jC l:=h.mq.m0
theorem HQ.p0 {q:QS} {l:List Op} {c:Int} {n:Nat} (h:HQ q l c n):q.pr.l=mC (fin [] l):=h.mq.p0
theorem HQ.g0 {q:QS} {l:List Op} {c:Int} {n:Nat} (h:HQ q l c n):q.gn.l=mC (gn l):=h.mq.g0
theorem aaI:∀ (a:List Op) (h:List It),(fin h a).length≤h.length+a.length
 |[],h=>by rw[fin];omega
 |o::r,h=>by
  have:=aaI r (n6 h o);rw[fin];have e:(n6 h o).length≤h.length+1:=by
   have il:∀ (x:It) (m:List It),(gZ x m).length=m.length+1:=fun x m=>by
    induction m with
    |nil=>rfl
    |cons y m ih=>unfold gZ;split<;>simp[ih]
   unfold n6;split
   ·rw[il];exact a_ _
   ·rw[Fy];omega
  rw[cy];omega
theorem Iy:∀ (a:List Op) (h:List It),(tk h a).length+gw h a=(a.filter fun o=>!o.ins).length
 |[],h=>by rw[tk,gw];rfl
 |o::r,h=>by
  rcases iU o with e|e
  ·rw[oB e,ov e,Iy r,jS,e];rfl
  ·rw[jS,e];cases h with
   |nil=>rw[BH e,sJ e];have:=Iy r [];simp only[HN,if_true,cy];omega
   |cons y h=>rw[oF e,np e];have:=Iy r h;simp only[HN,if_true,cy];omega
theorem Tq (l:List Op):(gn l).length≤l.length:=by
 have h1:=Iy l [];have h2:(l.filter fun o=>!o.ins).length≤l.length:=rj ..
 rw[V0];omega
theorem Bw (l:List Op):(fin [] l).length≤l.length:=by have:=aaI l [];simpa using this
theorem YA (H:List It) (l:List Op):(vg (gj H l)).length=(l.filter fun o=>!o.ins).length:=by
 unfold vg gj;rw[List.filter_map,fR]
 rfl
section
variable {q:QS} {H:List It} {l:List Op} {P:List It} {c:Int} {n:Nat} {a:QS} {k:Int}
theorem MQ.o6 (h:MQ q (gj H l) P (gn l) c n a k):rv q=o6 l:=by
 unfold rv H4;rw[h.m0,h.g0,YA,show(mC (gn l)).length=(gn l).length from fR ..,V0]
 have:=Iy l [];show _=(gw [] l:Int)
 omega
theorem UR (h:MQ q (gj H l) P (gn l) c n a k) (m:Mk):BA q m=(nq m.t l:Int):=by
 unfold BA;rw[h.m0,Gv.OJ,dZ,Nat.min_eq_left,FY];rw[FY,mI];exact We _ _
theorem HQ.Jb (h:HQ q l c n) (hn:n≤100000):VB q:=by
 obtain⟨h1,h2,h3⟩:=h.vb;exact⟨by omega,by omega,by omega⟩
end
theorem aia {l:List Op} (h:(gx l).Nodup) {x:It} (hx:x∉gx l):x∉fin [] l/\x∉gn l/\x∉tk [] l:=by
 have h1:x∉tk [] l:=fun c=>(q_ (lQ h) x c).elim (fun h=>by cases h) hx
 exact⟨fun c=>((q7 (lQ h) x).1 c).1.elim (fun h=>by cases h) hx,fun c=>h1 ((tz h).1 c),h1⟩
theorem AG {l:List Op} {G:List It} (h:(gx l).Nodup) (ho:Ord G) (hm:∀ w,w∈G↔w∈tk [] l):G=gn l :=
 zY ho (qO h) fun w=>(hm w).trans (tz h).symm
theorem HQ.mk' {q:QS} {l:List Op} {c:Int} {n n':Nat} {a:QS} {k:Int} (h:MQ q (jC l) (fin [] l) (gn l) c n a k) (ha:a.mt.m.cX≤100000*n'/\a.pr.m.cX≤100000*n'/\a.gn.m.cX≤100000*n') (hk:k≤100000) (hn:n'+1≤n) (tm:Tm l) (nd:(gx l).Nodup) (dl:∀ o,o∈l->o.ins=an->o.it=iz) (len:(l.length:Int)≤c/\c≤65536) (FH:l.length≤60):HQ q l c n:=by
 obtain⟨a1,a2,a3⟩:=ha;have v1:=h.v1;have v2:=h.v2;have v3:=h.v3;exact⟨⟨h.m0,h.p0,h.g0,h.cap,h.c1,h.c2,h.c3,h.f1,h.f2,h.f3,⟨v1.1,by omega⟩,⟨v2.1,by omega⟩,⟨v3.1,by omega⟩⟩,tm,nd,dl,len,FH,⟨by omega,by omega,by omega⟩⟩
theorem HQ.ref {q:QS} {l:List Op} {c:Int} {n:Nat} (h:HQ q l c n) (t:Int) :
  ((l.length:Int)=c->mZ q t=10)/\((l.length:Int)≠c->¬ Et l t->mZ q t=11)/\((l.length:Int)≠c->Et l t->mZ q t=0):=by
 have e:(q.mt.l.length:Int)=q.cap↔(l.length:Int)=c:=by rw[h.m0,xE,h.mq.cap]
 unfold mZ;refine⟨fun h1=>by rw[if_pos (e.2 h1)],fun h1 h2=>?_,fun h1 h2=>?_⟩
 ·rw[if_neg (fun k=>h1 (e.1 k)),if_pos]
  rcases Lx l t with f|⟨k,hk,ht⟩
  ·exact absurd f h2
  ·rw[h.m0];exact(Ka (H:=fin [] l) (e:=kN t) h.tm hk ht).1
 ·rw[if_neg (fun k=>h1 (e.1 k)),if_neg]
  rw[h.m0];have:=NR (H:=fin [] l) (e:=kN t) h2;show ¬ (Gv.jw O8 (kN t) (jC l)).isSome=ao
  rw[vf,this];decide
theorem HQ.ind {q:QS} {l:List Op} {c:Int} {n:Nat} (h:HQ q l c n) (x:It):Al q x=ao↔x∈gx l:=by
 have f9:∀ {P:List It},Ord P->(fv aM (sl x) (mC P)).2=nK x P:=fun ho=>Sh.UJ x ho
 unfold Al;rw[h.p0,h.g0,f9 (zE h.nd),f9 (qO h.nd),Bool.or_eq_true,uj,uj,tz h.nd]
 constructor
 ·rintro (k|k)
  ·exact((q7 (lQ h.nd) x).1 k).1.elim (fun h=>by cases h) id
  ·exact(q_ (lQ h.nd) x k).elim (fun h=>by cases h) id
 ·intro k
  by_cases c:x∈tk [] l
  ·exact .inr c
  ·exact .inl ((q7 (lQ h.nd) x).2 ⟨.inr k,c⟩)
theorem K5 {l:List Op} {p f:Nat} (hf:f≤p) (hp:p≤l.length) (X:List Op):(l.take p++X).drop f=(l.take p).drop f++X:=List.drop_append_of_le_length (by rw[dZ];omega)
theorem Cg {b:Bool} {H:List It} {l:List Op} {w:It}:w∈lY b (gj H l)↔∃ o,o∈l/\o.ins=ao/\o.it=w/\decide (w∈H)=b:=by
 rw[tN];unfold gj
 constructor
 ·rintro ⟨m,h1,h2,h3,h4⟩
  obtain⟨o,ho,rfl⟩:=List.mem_map.1 h1;have h2:o.ins=ao:=h2;have h4:o.it=w:=h4;have h3:(o.ins&&decide (o.it∈H))=b:=h3;rw[h2,je,h4] at h3;exact⟨o,ho,h2,h4,h3⟩
 ·rintro ⟨o,ho,h2,h4,h3⟩
  refine⟨u6 H o,List.mem_map_of_mem ho,h2,?_,h4⟩;show(o.ins&&decide (o.it∈H))=b
  rw[h2,je,h4];exact h3
theorem ahF (H:List It) (l:List Op) (f:Nat):(gj H l).drop f=gj H (l.drop f):=by unfold gj;rw[mH]
theorem If {H:List It} {l:List Op} {f:Nat} (hf:f≤l.length):uK (gj H l) (f:Int)=hi (lY an (gj H (l.drop f))):=by
 unfold uK;rw[mI,zl hf,ahF]
theorem acP {l:List Op} {p:Nat} (hp:p≤l.length) (hb:¬ qH l p<0):∃ f:Nat,qH l p=f/\f≤p:=by
 have hP:=O' (jC l) p (o6 l);rw[xE,zl hp] at hP;rcases hP with⟨h1,_⟩|⟨j,h1,h2,_⟩
 ·exact absurd (show qH l p<0 by show E7 (jC l) p (o6 l)<0;rw[h1];omega) hb
 ·exact⟨j,h1,h2⟩
theorem akM {l:List Op} {p:Nat} {x:It} {t:Int} (hd:(gx l).Nodup) (hx:x∉fin [] l) (hp:p≤l.length) (hb:¬ qH l p<0) :
  uK (gj (fin [] l) (ld l p ⟨t,ao,x⟩)) (qH l p)=up (aa x) (uK (jC l) (qH l p)):=by
 obtain⟨f,e,hf⟩:=acP hp hb;rw[e,vf,If (by unfold ld;rw[bA,cy,dZ,jt];omega),If (by omega)]
 show _=hi (x::lY an (gj (fin [] l) (l.drop f)))
 refine Vv fun w=>?_
 have e2:l.drop f=(l.take p).drop f++l.drop p:=by rw[← K5 hf hp,cQ]
 rw[bP,Cg,Cg,e2];unfold ld;rw[K5 hf hp];simp only[b5,bP]
 constructor
 ·rintro ⟨o,(h1|rfl|h1),h2,h3,h4⟩
  ·exact .inr ⟨o,.inl h1,h2,h3,h4⟩
  ·exact .inl h3.symm
  ·exact .inr ⟨o,.inr h1,h2,h3,h4⟩
 ·rintro (rfl|⟨o,(h1|h1),h2,h3,h4⟩)
  ·exact⟨⟨t,ao,w⟩,.inr (.inl rfl),rfl,rfl,decide_eq_false hx⟩
  ·exact⟨o,.inl h1,h2,h3,h4⟩
  ·exact⟨o,.inr (.inr h1),h2,h3,h4⟩
theorem aiD {l:List Op} {k:Nat} (hk:k<l.length) (lP:(og l k).ins=an) (hb:¬ qH l k<0) :
  uK (gj (fin [] l) (j_ l k)) (qH l k)=uK (jC l) (qH l k):=by
 obtain⟨f,e,hf⟩:=acP (by omega) hb
 rw[e,vf,If (by unfold j_;rw[bA,dZ,jt];omega),If (by omega)]
 refine Vv fun w=>?_
 have e2:l.drop f=(l.take k).drop f++(og l k::l.drop (k+1)):=by rw[← K5 hf (by omega),← Oy hk,cQ]
 rw[Cg,Cg,e2];unfold j_;rw[K5 hf (by omega)]
 simp only[b5,bP]
 constructor
 ·rintro ⟨o,(h1|h1),h2⟩
  ·exact⟨o,.inl h1,h2⟩
  ·exact⟨o,.inr (.inr h1),h2⟩
 ·rintro ⟨o,(h1|rfl|h1),h2⟩
  ·exact⟨o,.inl h1,h2⟩
  ·exact absurd (h2.1.symm.trans lP) (by decide)
  ·exact⟨o,.inr h1,h2⟩
theorem abq (l:List Op) (p:Nat) (o:Op) (hp:p≤l.length):(ld l p o).length=l.length+1:=by
 unfold ld;rw[bA,cy,dZ,jt];omega
theorem aiP {l:List Op} {k:Nat} (hk:k<l.length):(j_ l k).length=l.length-1:=by
 unfold j_;rw[bA,dZ,jt];omega
theorem XA {l:List Op} {p:Nat} {o w:Op}:w∈ld l p o↔w=o∨w∈l:=by
 unfold ld;rw[b5,bP]
 conv=>rhs;rw[← cQ p l,b5]
 constructor
 ·rintro (h|h|h)
  ·exact .inr (.inl h)
  ·exact .inl h
  ·exact .inr (.inr h)
 ·rintro (h|h|h)
  ·exact .inr (.inl h)
  ·exact .inl h
  ·exact .inr (.inr h)
theorem agv {l:List Op} {k:Nat} {w:Op} (h:w∈j_ l k):w∈l:=by
 unfold j_ at h;rw[b5] at h;exact h.elim ph vK
theorem ajY {q:QS} {l:List Op} {c:Int} {n:Nat} {t:Int} {x:It} (h:HQ q l c n) (wZ:l.length≤59) (hn:n≤90000) (hc:(l.length:Int)≠c) (hf:Et l t) (hx:x∉gx l) :
  Tx q t x/\Ec q t x=0/\HQ (kL q t x) (ld l (nq t l) ⟨t,ao,x⟩) c (n+10)/\(kL q t x).mt.m.cX≤q.mt.m.cX+20000/\(kL q t x).pr.m.cX≤q.pr.m.cX+20000/\(kL q t x).gn.m.cX≤q.gn.m.cX+20000 /\
   ((qH l (nq t l)<0->wA q t x=[]/\fin [] (ld l (nq t l) ⟨t,ao,x⟩)=fin [] l)/\(¬ qH l (nq t l)<0->∃ z,z∉fin [] l/\wA q t x=[z]/\fin [] (ld l (nq t l) ⟨t,ao,x⟩)=gZ z (fin [] l))):=by
 have hB:=h.Jb (by omega)
 have r0:=(h.ref t).2.2 hc hf;have n0:=aia h.nd hx;have hp:=We t l;have i0:Al (nO q t) x=an:=by
  rw[LS];intro k;have k:Al q x=ao:=k;exact hx ((h.ind x).1 k)
 have c0:Ec q t x=0:=by unfold Ec;rw[if_pos r0,if_neg (by rw[i0];decide)]
 have m1:=h.mq.ZT hB (by omega) t
 have m2:=m1.ahW hB (by omega) x
 have m3:=m2.aee hB (by omega) (kN t)
 have eR:BA (Mu q t x) (kN t)=(nq t l:Int):=UR (H:=fin [] l) m2 (kN t);have eF:Pe q t x=qH l (nq t l):=by
  have e1:rv (Yw q t x)=o6 l:=MQ.o6 (H:=fin [] l) m3;have e2:(Yw q t x).mt.l=jC l:=m3.m0;unfold Pe FE;rw[eR,e1,e2]
 have m4:=m3.bu_ hB (by omega) (BA (Mu q t x) (kN t))
 have pe:=Qu (H:=fin [] l) (l:=l) (o:=⟨t,ao,x⟩) (m:=Sr t x) hf (by unfold u6 Sr;rw[decide_eq_false n0.1];rfl)
 have al:=abq l (nq t l) ⟨t,ao,x⟩ hp;have pg:(rk O8 (Sr t x) (jC l)).length≤60:=by rw[vf,pe,mI,al];omega
 have m5:=m4.ad5 hB (by omega) (by omega) (m:=Sr t x) pg (.inr (by rw[xE];exact hc))
 have gl:=Tq l;have fl:=Bw l;have lc:=h.len;have m6:=m5.Ai hB (by omega) (by omega) (x:=x) (qO h.nd) n0.2.1 (by omega) (by omega)
 have m6:MQ (LW q t x) (gj (fin [] l) (ld l (nq t l) ⟨t,ao,x⟩)) (fin [] l) (gZ x (gn l)) c (n+2) q 3000:=(m6.lst pe).up (a_ _) (by omega)
 have ok3:(Sd q t x).mt.kV (Sr t x):=Hc (m4.lT (by omega)).1 (by show(rk O8 (Sr t x) (Bj (Yw q t x) (BA (Mu q t x) (kN t))).mt.l).length≤60;rw[show(Bj (Yw q t x) (BA (Mu q t x) (kN t))).mt.l=jC l from m4.m0];exact pg)
 have ok4:(Sd q t x).gn.kV (sl x):=GR m4.g0 (qO h.nd) (m4.lT (by omega)).2.2 (by omega)
 have fq:=h.mq.lT (by omega)
 have OQ:=afj (o:=⟨t,ao,x⟩) h.tm hf;have Bn:=afI (p:=nq t l) (o:=⟨t,ao,x⟩) h.nd (fun _=>hx)
 have Ug:∀ o,o∈ld l (nq t l) ⟨t,ao,x⟩->o.ins=an->o.it=iz:=fun o ho lP=>by
  rcases XA.1 ho with rfl|ho
  ·cases lP
  ·exact h.dl o ho lP
 have oG:Ord (gZ x (gn l)):=pn (qO h.nd) n0.2.1;have eQ:kL q t x=vZ (LW q t x) (Pe q t x):=by unfold kL;rw[if_pos r0,if_neg (by rw[i0];decide)]
 have eI:wA q t x=yu (LW q t x) (Pe q t x):=by unfold wA;rw[if_pos r0,if_neg (by rw[i0];decide)]
 obtain⟨E1,E2⟩:=ajc (t:=t) h.nd hx hp;rw[eQ,eI,eF]
 by_cases hb:qH l (nq t l)<0
 ·obtain⟨g1,g2,g3⟩:=m6.afs (by omega) hb
  obtain⟨a1,a2,a3⟩:=E1 hb;have mq:MQ (LW q t x) (jC (ld l (nq t l) ⟨t,ao,x⟩)) (fin [] (ld l (nq t l) ⟨t,ao,x⟩)) (gn (ld l (nq t l) ⟨t,ao,x⟩)) c (n+2) q 3000:=by
   rw[vf,a1,← AG Bn oG fun w=>by rw[jZ,a3,tz h.nd,or_comm]]
   exact m6
  have v1:=mq.v1;have v2:=mq.v2;have v3:=mq.v3;rw[g1,g3];refine⟨⟨fq,fun _ _=>⟨ok3,ok4,?_⟩⟩,c0,HQ.mk' (mq.up (n':=n+10) (k':=90000) (by omega) (by omega)) h.vb (by omega) (by omega) OQ Bn Ug ⟨by rw[al];omega,h.len.2⟩ (by rw[al];omega),by omega,by omega,by omega,fun _=>⟨rfl,a1⟩,fun c=>absurd hb c⟩
  rw[eF];exact g2
 ·obtain⟨z,a0,a1,a2,a3,a4,a5⟩:=E2 hb;have hz:=(akM (t:=t) h.nd n0.1 hp hb).trans a0;obtain⟨g1,g2,g3⟩:=m6.gb_ hB (by omega) (by omega) OQ Bn hb hz (zE h.nd) oG a1 (by omega) (by omega)
  have mq:MQ (vZ (LW q t x) (qH l (nq t l))) (jC (ld l (nq t l) ⟨t,ao,x⟩)) (fin [] (ld l (nq t l) ⟨t,ao,x⟩)) (gn (ld l (nq t l) ⟨t,ao,x⟩)) c (n+5) q 9500:=by
   rw[vf,a3,← AG Bn (zi (z:=z) oG) fun w=>by rw[po,jZ,a5,tz h.nd,or_comm (a:=w∈tk [] l)],
    ← C1 (H:=z::fin [] l) fun w _=>by rw[bP,jZ]]
   exact g1.up (a_ _) (by omega)
  have v1:=mq.v1;have v2:=mq.v2;have v3:=mq.v3;rw[g3];refine⟨⟨fq,fun _ _=>⟨ok3,ok4,?_⟩⟩,c0,HQ.mk' (mq.up (n':=n+10) (k':=90000) (by omega) (by omega)) h.vb (by omega) (by omega) OQ Bn Ug ⟨by rw[al];omega,h.len.2⟩ (by rw[al];omega),by omega,by omega,by omega,fun c=>absurd c hb,fun _=>⟨z,a1,rfl,a3⟩⟩
  rw[eF];exact g2
end Pa
namespace Pa
open Rx Wv Br
open Sh (rV wB mC sl nK)
theorem ai' {q:QS} {l:List Op} {c:Int} {n:Nat} {t:Int} (h:HQ q l c n) (wZ:l.length≤59) (hn:n≤90000) (hc:(l.length:Int)≠c) (hf:Et l t) :
  TG q t/\HQ (ks q t) (ld l (nq t l) ⟨t,an,iz⟩) c (n+10)/\(ks q t).mt.m.cX≤q.mt.m.cX+20000/\(ks q t).pr.m.cX≤q.pr.m.cX+20000/\(ks q t).gn.m.cX≤q.gn.m.cX+20000 /\
   ((Dc q t=[]/\fin [] (ld l (nq t l) ⟨t,an,iz⟩)=fin [] l)∨∃ z,z∈fin [] l/\Dc q t=[z]/\fin [] (ld l (nq t l) ⟨t,an,iz⟩)=pU z (fin [] l)):=by
 have hB:=h.Jb (by omega)
 have r0:=(h.ref t).2.2 hc hf;have hp:=We t l;have m1:=h.mq.ZT hB (by omega) t
 have m2:=m1.aee hB (by omega) (kN t)
 have eR:BA (nO q t) (kN t)=(nq t l:Int):=UR (H:=fin [] l) m1 (kN t);have eU:Pr q t=Mc l (nq t l):=by
  have e1:rv (de1 q t)=o6 l:=MQ.o6 (H:=fin [] l) m2;have e2:(de1 q t).mt.l=jC l:=m2.m0;unfold Pr Kx;rw[eR,e1,e2]
 have m3:=m2.bf_ hB (by omega) (BA (nO q t) (kN t))
 have m3:MQ (YB q t) (gj (fin [] l) l) (fin [] l) (gn l) c n q 600:=MQ.up m3 (a_ _) (by omega)
 have al:=abq l (nq t l) ⟨t,an,iz⟩ hp;have gl:=Tq l;have fl:=Bw l;have lc:=h.len;have fq:=h.mq.lT (by omega)
 have OQ:=afj (o:=⟨t,an,iz⟩) h.tm hf;have Bn:=afI (p:=nq t l) (o:=⟨t,an,iz⟩) h.nd (fun c=>by cases c)
 have Ug:∀ o,o∈ld l (nq t l) ⟨t,an,iz⟩->o.ins=an->o.it=iz:=fun o ho lP=>by
  rcases XA.1 ho with rfl|ho
  ·rfl
  ·exact h.dl o ho lP
 have pe:∀ H,rk O8 (kN t) (gj H l)=gj H (ld l (nq t l) ⟨t,an,iz⟩):=fun H=>Qu (H:=H) (l:=l) (o:=⟨t,an,iz⟩) (m:=kN t) hf rfl
 have pg:∀ H,(rk O8 (kN t) (gj H l)).length≤60:=fun H=>by rw[pe,mI,al];omega
 have eQ:ks q t=⟨(uv q t).mt.put (kN t),(uv q t).pr,(uv q t).gn,(uv q t).cap⟩:=by unfold ks;rw[if_pos r0]
 have eI:Dc q t=C6 (YB q t) (Pr q t):=by unfold Dc;rw[if_pos r0]
 obtain⟨E1,E2⟩:=aiY (x:=iz) (t:=t) h.nd hp;rw[eQ,eI];cases hz:p_ (jC l) (Mc l (nq t l)) with
 |none =>
  have Hv:p_ (gj (fin [] l) l) (Pr q t)=aj:=by rw[eU];exact hz
  obtain⟨a1,a2,a3⟩:=E1 hz;obtain⟨g1,g2,g3⟩:=m3.afX hB (by omega) (by omega) Hv
  have g4:=MQ.ad5 (q:=uv q t) g1 hB (by omega) (by omega) (m:=kN t) (pg _) (.inr (by rw[mI];exact hc))
  have mq:MQ ⟨(uv q t).mt.put (kN t),(uv q t).pr,(uv q t).gn,(uv q t).cap⟩ (jC (ld l (nq t l) ⟨t,an,iz⟩)) (fin [] (ld l (nq t l) ⟨t,an,iz⟩)) (gn (ld l (nq t l) ⟨t,an,iz⟩)) c (n+5) q 9500:=by
   rw[vf,a1,← AG Bn (qO h.nd) fun w=>by rw[a3,tz h.nd],← pe]
   exact g4.up (by omega) (by omega)
  have v1:=mq.v1;have v2:=mq.v2;have v3:=mq.v3;refine⟨⟨fq,fun _=>⟨g2,Hc (MQ.lT (q:=uv q t) g1 (by omega)).1 ?_⟩⟩,HQ.mk' (mq.up (n':=n+10) (k':=90000) (by omega) (by omega)) h.vb (by omega) (by omega) OQ Bn Ug ⟨by rw[al];omega,h.len.2⟩ (by rw[al];omega),by omega,by omega,by omega,.inl ⟨g3,a1⟩⟩
  rw[show(uv q t).mt.l=gj (fin [] l) l from g1.m0];exact pg _
 |some z =>
  have Hv:p_ (gj (fin [] l) l) (Pr q t)=aa z:=by rw[eU];exact hz
  obtain⟨a0,a1,a2,a3⟩:=E2 z hz;have zg:z∉gn l:=fun k=>((q7 (lQ h.nd) z).1 a0).2 ((tz h.nd).1 k)
  obtain⟨g1,g2,g3⟩:=m3.ta_ hB (by omega) (by omega) h.tm h.nd Hv (zE h.nd) (qO h.nd) zg (by omega) (by omega)
  have g4:=MQ.ad5 (q:=uv q t) g1 hB (by omega) (by omega) (m:=kN t) (pg _) (.inr (by rw[mI];exact hc))
  have mq:MQ ⟨(uv q t).mt.put (kN t),(uv q t).pr,(uv q t).gn,(uv q t).cap⟩ (jC (ld l (nq t l) ⟨t,an,iz⟩)) (fin [] (ld l (nq t l) ⟨t,an,iz⟩)) (gn (ld l (nq t l) ⟨t,an,iz⟩)) c (n+5) q 9500:=by
   rw[vf,a1,← AG Bn (pn (x:=z) (qO h.nd) zg) fun w=>by rw[jZ,a3,tz h.nd,or_comm],← pe]
   exact g4.up (by omega) (by omega)
  have v1:=mq.v1;have v2:=mq.v2;have v3:=mq.v3;refine⟨⟨fq,fun _=>⟨g2,Hc (MQ.lT (q:=uv q t) g1 (by omega)).1 ?_⟩⟩,HQ.mk' (mq.up (n':=n+10) (k':=90000) (by omega) (by omega)) h.vb (by omega) (by omega) OQ Bn Ug ⟨by rw[al];omega,h.len.2⟩ (by rw[al];omega),by omega,by omega,by omega,.inr ⟨z,a0,g3,a1⟩⟩
  rw[show(uv q t).mt.l=gj (pU z (fin [] l)) l from g1.m0];exact pg _
theorem alh {q:QS} {l:List Op} {c:Int} {n:Nat} {t:Int} {k:Nat} (h:HQ q l c n) (hk:k<l.length) (ht:(og l k).t=t):FR q t=ao/\mM q t=u6 (fin [] l) (og l k):=by
 have hh:=Ka (H:=fin [] l) (e:=kN t) h.tm hk ht;have e:(gj (fin [] l) l).getD k mz=u6 (fin [] l) (og l k):=oE _ hk;have s:=Gv.ag9 Ty (e:=kN t) (TO (H:=fin [] l) h.tm) (i:=k) (by rw[mI];exact hk) (by
  show O8.cmp (kN t) ((gj (fin [] l) l).getD k mz)=0
  rw[e,B2];exact ht.symm)
 unfold FR mM;rw[h.m0,vf,s];exact⟨rfl,e⟩
theorem ajP {q:QS} {l:List Op} {c:Int} {n:Nat} {t:Int} {k:Nat} (h:HQ q l c n) (hn:n≤90000) (hk:k<l.length) (ht:(og l k).t=t) :
  Zl q t/\Kt q t=0/\HQ (jW q t) (j_ l k) c (n+10)/\(jW q t).mt.m.cX≤q.mt.m.cX+20000/\(jW q t).pr.m.cX≤q.pr.m.cX+20000/\(jW q t).gn.m.cX≤q.gn.m.cX+20000 /\
   ((wN q t=[]/\w9 q t=[]/\fin [] (j_ l k)=fin [] l)∨(∃ z,z∉fin [] l/\wN q t=[z]/\w9 q t=[]/\fin [] (j_ l k)=gZ z (fin [] l))∨(∃ z,z∈fin [] l/\wN q t=[]/\w9 q t=[z]/\fin [] (j_ l k)=pU z (fin [] l))):=by
 have hB:=h.Jb (by omega)
 obtain⟨hb,hm⟩:=alh h hk ht;have c0:Kt q t=0:=by unfold Kt;rw[if_pos hb]
 have FH:=h.FH;have m1:=h.mq.ahY hB (by omega) (kN t)
 have m1:MQ (Bl q t) (gj (fin [] l) l) (fin [] l) (gn l) c n q 40:=m1;have m2:=m1.aee hB (by omega) (mM q t)
 have m2:MQ (L9 q t) (gj (fin [] l) l) (fin [] l) (gn l) c n q 110:=m2;have eR:Ef q t=(k:Int):=by
  unfold Ef;rw[UR (H:=fin [] l) m1 (mM q t),hm];show(nq (og l k).t l:Int)=k
  rw[abV h.tm hk rfl]
 have eX:rv (L9 q t)=o6 l:=MQ.o6 (H:=fin [] l) m2;have eL:(L9 q t).mt.l=jC l:=m2.m0;have wl:=aiP hk;have gl:=Tq l;have fl:=Bw l;have lc:=h.len;have fq:=h.mq.lT (by omega)
 have OQ:=alE h.tm k;obtain⟨Bn,nm⟩:=alb h.nd hk;have Ug:∀ o,o∈j_ l k->o.ins=an->o.it=iz:=fun o ho lP=>h.dl o (agv ho) lP
 have de:∀ H,Gv.ng O8 (mM q t) (gj H l)=gj H (j_ l k):=fun H=>adx h.tm hk (by rw[hm];rfl)
 have A8:(mM q t).ins=(og l k).ins:=by rw[hm];rfl
 have eit:(mM q t).it=(og l k).it:=by rw[hm];rfl
 have afp:(mM q t).here=((og l k).ins&&decide ((og l k).it∈fin [] l)):=by rw[hm];rfl
 have V8:∀ {q':QS} {d:Nat} {e:Int},MQ q' (jC (j_ l k)) (fin [] (j_ l k)) (gn (j_ l k)) c (n+d) q e->d≤10->e≤15000->HQ q' (j_ l k) c (n+10)/\q'.mt.m.cX≤q.mt.m.cX+20000/\q'.pr.m.cX≤q.pr.m.cX+20000/\q'.gn.m.cX≤q.gn.m.cX+20000:=fun mq hd he=>by
  have v1:=mq.v1;have v2:=mq.v2;have v3:=mq.v3;exact⟨HQ.mk' (mq.up (n':=n+10) (k':=90000) (by omega) (by omega)) h.vb (by omega) (by omega) OQ Bn Ug ⟨by rw[wl];omega,h.len.2⟩ (by rw[wl];omega),by omega,by omega,by omega⟩
 rcases iU (og l k) with ei|ei
 ·obtain⟨E1,E2⟩:=af2 h.nd hk ei;have A8:(mM q t).ins=ao:=A8.trans ei
  by_cases j8:(og l k).it∈fin [] l
  ·have eh:(mM q t).here=ao:=by rw[afp,ei,decide_eq_true j8];rfl
   obtain⟨a1,a2,a3⟩:=E1 j8;have m3:=m1.S3 hB (by omega) (mM q t)
   have m4:=m3.Cc hB (by omega) (x:=(og l k).it) (zE h.nd)
   have eQ:jW q t=⟨(Bl q t).mt.drop (mM q t),(Bl q t).pr.drop (sl (og l k).it),(Bl q t).gn,(Bl q t).cap⟩:=by unfold jW;rw[if_pos hb,if_pos A8,if_pos eh,eit]
   have mq:MQ (jW q t) (jC (j_ l k)) (fin [] (j_ l k)) (gn (j_ l k)) c (n+2) q 9000:=by
    rw[eQ,vf,a1,← AG Bn (qO h.nd) fun w=>by rw[a3,tz h.nd],C1 (H:=pU (og l k).it (fin [] l)) (H':=fin [] l) fun w hw=>by
     rw[po];exact⟨fun c=>c.1,fun c=>⟨c,fun e=>((nm w).1 hw).2 ⟨ei,e⟩⟩⟩,← de]
    exact m4.up (by omega) (by omega)
   obtain⟨f1,f2,f3,f4⟩:=V8 mq (by omega) (by omega)
   refine⟨⟨fq,fun _=>⟨fun c=>absurd (A8.symm.trans c) (by decide),fun _ c=>absurd (eh.symm.trans c) (by decide)⟩⟩,c0,f1,f2,f3,f4,.inr (.inr ⟨_,j8,?_,?_,a1⟩)⟩
   ·unfold wN;rw[if_pos hb,if_pos A8]
   ·unfold w9;rw[if_pos hb,if_pos A8,if_pos eh,eit]
  ·have eh:(mM q t).here=an:=by rw[afp,ei,decide_eq_false j8];rfl
   obtain⟨a0,A1,A2⟩:=E2 j8;have m3:=m2.bf_ hB (by omega) (Ef q t+1)
   have m3:MQ (XV q t) (gj (fin [] l) l) (fin [] l) (gn l) c n q 600:=MQ.up m3 (a_ _) (by omega)
   have eU:PG q t=Mc l (k+1):=by
    unfold PG Kx;rw[eX,eL,eR]
    rfl
   have eQ:jW q t=⟨(zX q t).mt.drop (mM q t),(zX q t).pr,(zX q t).gn.drop (sl (og l k).it),(zX q t).cap⟩:=by unfold jW;rw[if_pos hb,if_pos A8,if_neg (by rw[eh];decide),eit]
   have eI:wN q t=[]:=by unfold wN;rw[if_pos hb,if_pos A8]
   have eO:w9 q t=C6 (XV q t) (PG q t):=by unfold w9;rw[if_pos hb,if_pos A8,if_neg (by rw[eh];decide)]
   cases hz:p_ (jC l) (Mc l (k+1)) with
   |none =>
    have Hv:p_ (gj (fin [] l) l) (PG q t)=aj:=by rw[eU];exact hz
    obtain⟨a1,a2,a3⟩:=A1 hz;obtain⟨g1,g2,g3⟩:=m3.afX hB (by omega) (by omega) Hv
    have g4:=MQ.S3 (q:=zX q t) g1 hB (by omega) (mM q t)
    have g5:=g4.Zz hB (by omega) (x:=(og l k).it) (qO h.nd)
    have mq:MQ (jW q t) (jC (j_ l k)) (fin [] (j_ l k)) (gn (j_ l k)) c (n+2) q 15000:=by
     rw[eQ,vf,a1,← AG Bn (zi (z:=(og l k).it) (qO h.nd)) fun w=>by rw[po,a3,tz h.nd],← de]
     exact g5.up (by omega) (by omega)
    obtain⟨f1,f2,f3,f4⟩:=V8 mq (by omega) (by omega)
    exact⟨⟨fq,fun _=>⟨fun c=>absurd (A8.symm.trans c) (by decide),fun _ _=>⟨g2,(MQ.lT (q:=zX q t) g1 (by omega)).1,(MQ.lT (q:=zX q t) g1 (by omega)).2.2⟩⟩⟩,c0,f1,f2,f3,f4,.inl ⟨eI,eO.trans g3,a1⟩⟩
   |some z =>
    have Hv:p_ (gj (fin [] l) l) (PG q t)=aa z:=by rw[eU];exact hz
    obtain⟨b0,a1,a2,a3⟩:=A2 z hz;have zg:z∉gn l:=fun k=>((q7 (lQ h.nd) z).1 b0).2 ((tz h.nd).1 k)
    have gi:(gn l).length≤l.length-1∨(gn l).length=l.length:=by omega
    obtain⟨g1,g2,g3⟩:=m3.ta_ hB (by omega) (by omega) h.tm h.nd Hv (zE h.nd) (qO h.nd) zg (by
     have e1:=Iy l [];have e2:(l.filter fun o=>!o.ins).length<l.length:=by
      rw[List.length_filter_lt_length_iff_exists];exact⟨_,Pp hk,by rw[ei];decide⟩
     rw[V0];omega) (by omega)
    have g4:=MQ.S3 (q:=zX q t) g1 hB (by omega) (mM q t)
    have g5:=g4.Zz hB (by omega) (x:=(og l k).it) (pn (x:=z) (qO h.nd) zg)
    have mq:MQ (jW q t) (jC (j_ l k)) (fin [] (j_ l k)) (gn (j_ l k)) c (n+5) q 15000:=by
     rw[eQ,vf,a1,← AG Bn (zi (z:=(og l k).it) (pn (x:=z) (qO h.nd) zg)) fun w=>by rw[po,jZ,a3,tz h.nd,or_comm (a:=w=z)],← de]
     exact g5.up (by omega) (by omega)
    obtain⟨f1,f2,f3,f4⟩:=V8 mq (by omega) (by omega)
    exact⟨⟨fq,fun _=>⟨fun c=>absurd (A8.symm.trans c) (by decide),fun _ _=>⟨g2,(MQ.lT (q:=zX q t) g1 (by omega)).1,(MQ.lT (q:=zX q t) g1 (by omega)).2.2⟩⟩⟩,c0,f1,f2,f3,f4,.inr (.inr ⟨z,b0,eI,eO.trans g3,a1⟩)⟩
 ·have A8:(mM q t).ins=an:=A8.trans ei;have nt:¬ (mM q t).ins=ao:=by rw[A8];decide
  obtain⟨E1,E2⟩:=af9 h.nd hk ei;have m3:=m2.bu_ hB (by omega) (Ef q t)
  have m4:=m3.S3 hB (by omega) (mM q t)
  have m4:MQ (RX q t) (gj (fin [] l) (j_ l k)) (fin [] l) (gn l) c (n+1) q 5000:=(m4.lst (de _)).up (a_ _) (by omega)
  have eF:JW q t=qH l k:=by
   unfold JW FE;rw[eX,eL,eR]
  have eQ:jW q t=vZ (RX q t) (JW q t):=by unfold jW;rw[if_pos hb,if_neg nt]
  have eI:wN q t=yu (RX q t) (JW q t):=by unfold wN;rw[if_pos hb,if_neg nt]
  have eO:w9 q t=[]:=by unfold w9;rw[if_pos hb,if_neg nt]
  have nm':∀ w,w∈gx (j_ l k)↔w∈gx l:=fun w=>by rw[nm,ei];simp
  by_cases qm:qH l k<0
  ·obtain⟨g1,g2,g3⟩:=m4.afs (by omega) (f:=JW q t) (by rw[eF];exact qm)
   obtain⟨a1,a2,a3⟩:=E1 qm;have mq:MQ (jW q t) (jC (j_ l k)) (fin [] (j_ l k)) (gn (j_ l k)) c (n+1) q 5000:=by
    rw[eQ,g1,vf,a1,← AG Bn (qO h.nd) fun w=>by rw[a3,tz h.nd]]
    exact m4
   obtain⟨f1,f2,f3,f4⟩:=V8 mq (by omega) (by omega)
   exact⟨⟨fq,fun _=>⟨fun _=>g2,fun c=>absurd c nt⟩⟩,c0,f1,f2,f3,f4,.inl ⟨eI.trans g3,eO,a1⟩⟩
  ·obtain⟨z,a0,b1,b2,a3,a4,a5⟩:=E2 qm;have hz:=(aiD hk ei qm).trans a0;obtain⟨g1,g2,g3⟩:=m4.gb_ hB (by omega) (by omega) (f:=JW q t) OQ Bn (by rw[eF];exact qm) (by rw[eF];exact hz) (zE h.nd) (qO h.nd) b1 (by
    have e0:∀ (a:List Op) (h:List It),(fin h a).length+(a.filter fun o=>!o.ins).length≤h.length+a.length+gw h a-0:=fun a=>by
     intro h;have il:∀ (x:It) (m:List It),(gZ x m).length=m.length+1:=fun x m=>by
      induction m with
      |nil=>rfl
      |cons y m ih=>unfold gZ;split<;>simp[ih]
     induction a generalizing h with
     |nil=>rw[fin,gw];simp
     |cons o r ih =>
      rcases iU o with e|e
      ·rw[tq e,ov e,jS,e];have:=ih (gZ o.it h);rw[il] at this;simp only[Bool.not_true,fO,if_false,cy];omega
      ·rw[nD e,jS,e];have:=ih h.tail;simp only[HN,if_true,cy];cases h with
       |nil=>rw[sJ e];simp only[List.tail_nil,jN] at this ⊢;omega
       |cons y h=>rw[np e];simp only[List.tail_cons,cy] at this ⊢;omega
    have e1:=Iy l [];have e2:=e0 l [];have e3:0<(tk [] l).length:=List.length_pos_of_mem b2;simp only[jN] at e2;omega) (by omega)
   have mq:MQ (jW q t) (jC (j_ l k)) (fin [] (j_ l k)) (gn (j_ l k)) c (n+5) q 12000:=by
    rw[eQ,vf,a3,← AG Bn (zi (z:=z) (qO h.nd)) fun w=>by rw[po,a5,tz h.nd],
     ← C1 (H:=z::fin [] l) fun w _=>by rw[bP,jZ]]
    exact g1.up (by omega) (by omega)
   obtain⟨f1,f2,f3,f4⟩:=V8 mq (by omega) (by omega)
   exact⟨⟨fq,fun _=>⟨fun _=>g2,fun c=>absurd c nt⟩⟩,c0,f1,f2,f3,f4,.inr (.inl ⟨z,b1,eI.trans g3,eO,a3⟩)⟩
end Pa
namespace Pa
open Rx Wv Sh
set_option maxRecDepth 100000
set_option maxHeartbeats 8000000
abbrev oz:Op:=⟨0,an,⟨0,0⟩⟩
abbrev oR (l:List Op):Row:=⟨[.int .i64 0,.bool an,.int .i64 0,.int .i64 0],l.length,[⟨l.map Op.t,[],[]⟩,⟨[],l.map Op.ins,[]⟩,⟨l.map fun o=>o.it.k,[],[]⟩,⟨l.map fun o=>o.it.i,[],[]⟩]⟩
def rM (l:List Op) (a n:Nat):Row:=⟨[.int .i64 0,.bool an,.int .i64 0,.int .i64 0],n,[⟨cut (l.map Op.t) a n,[],[]⟩,⟨[],cut (l.map Op.ins) a n,[]⟩,⟨cut (l.map fun o=>o.it.k) a n,[],[]⟩,⟨cut (l.map fun o=>o.it.i) a n,[],[]⟩]⟩
theorem xz (l:List Op):rM l 0 l.length=oR l:=by unfold rM;simp only[cm]
theorem Jz (l:List Op):(⟨[.int .i64 0,.bool an,.int .i64 0,.int .i64 0],l.length,[⟨cut (l.map Op.t) 0 l.length,[],[]⟩,⟨[],cut (l.map Op.ins) 0 l.length,[]⟩,⟨cut (l.map fun o=>o.it.k) 0 l.length,[],[]⟩,⟨cut (l.map fun o=>o.it.i) 0 l.length,[],[]⟩]⟩:Row)=oR l:=by simp only[cm]
def uO (r:Row):List Op:=match r.eu with
 |[a,b,c,d]=>(oi r.n).map fun i=>⟨a.i.getD i 0,b.b.getD i an,⟨c.i.getD i 0,d.i.getD i 0⟩⟩
 |_=>[]
theorem FV (l:List Op):uO (oR l)=l:=by
 unfold uO;refine FF fun i hi=>?_
 simp only[H3 _ _ hi]
theorem FJ {β:Type} {l:List Op} {i:Nat} (f:Op->β) (d:β) (h:f oz=d):(l.map f).getD i d=f (l.getD i oz):=by
 subst h;rw[av,av,fh];cases l[i]?<;>rfl
abbrev vO {R:Type} (l:List Op):Option (SB R):=aa (.inr (.inr (.inl (oR l))))
abbrev oO {R:Type} (l:List Op):Option (SB R):=aa (.inr (.inl (45,oR l)))
abbrev oK {R:Type} (x:Op):Option (SB R):=aa (.inl (45,[.int .i64 x.t,.bool x.ins,.int .i64 x.it.k,.int .i64 x.it.i]))
theorem RZ (i:Nat):0+(i:Int).toNat=i:=by omega
theorem aeh {α:Type} (l:List α) (k:Nat):cut l k (l.length-k)=l.drop k:=by unfold cut;rw[jj (by rw[jt];exact a_ _)]
theorem acj {α:Type} (l:List α) (k:Nat):cut l 0 k=l.take k:=by unfold cut;rw[so]
def lg (l:List Op) (t:Int):Int:=if l.findIdx (fun o=>o.t==t)<l.length then(l.findIdx (fun o=>o.t==t):Int) else -1
def Dk (t:Int) (l:List Op):Nat:=l.findIdx (fun o=>!decide (o.t<t))
def rW (l:List Op) (o:Op):List Op:=l.take (Dk o.t l)++o::l.drop (Dk o.t l)
def Jh (l:List Op) (i:Nat):List Op:=l.take i++l.drop (i+1)
theorem Pv (t:Int) (l:List Op):Dk t l≤l.length:=GH
theorem aid {t:Int} {l:List Op} {j:Nat} (h:j<Dk t l):(l.getD j oz).t<t:=by
 have hl:=Pv t l;have h3:=GI (p:=fun o:Op=>!decide (o.t<t)) h
 rw[av,bd (by omega)]
 simpa using h3
theorem ajV {t:Int} {l:List Op} (h:Dk t l<l.length):¬ (l.getD (Dk t l) oz).t<t:=by
 have h3:=I2 (p:=fun o:Op=>!decide (o.t<t)) (xs:=l) (w:=h)
 have e:l.getD (Dk t l) oz=l[l.findIdx (fun o:Op=>!decide (o.t<t))]'h:=by rw[av,bd h];rfl
 rw[e]
 simpa using h3
theorem NS (l:List Op) (o:Op):(rW l o).length=l.length+1:=by
 have:=Pv o.t l;unfold rW;rw[bA,cy,dZ,jt];omega
theorem ahG {l:List Op} {i:Nat} (h:i<l.length):(Jh l i).length=l.length-1:=by
 unfold Jh;rw[bA,dZ,jt];omega
def adM {R:Type}:Prim R:=fun args hh=>match args,hh with
 |[.slice (aa ⟨0,0,aa 4000⟩) n c,.int .i64 p],[aa (.inr (.inr (.inl r)))]=>aa ⟨r=oR (uO r)/\n=(uO r).length/\(uO r).length≤100,.int .i64 (lg (uO r) p),aj,hh,[],[]⟩
 |_,_=>aj
theorem akO {R:Type} {D:fH R}:b6 D Tryz.prog 54 (a9 adM):=by
 refine fj Tryz.f54 fun args hh x hx=>?_
 unfold adM at hx;split at hx
 ·rename_i n c p r;cases hx;refine q4 fun _ hv=>?_
  obtain⟨hr,rfl,hb⟩:=hv;generalize uO r=l at *;subst hr
  generalize hG:ch (R:=R) _ _=G;refine cJ (T:=[]) trivial mixed 200 ?_;refine bK (q:=At D Tryz.prog (dJ Tryz.f54) 1 (iE Tryz.prog (dA (dC Tryz.f54)) G) [.inl [1,0,1,0],.inr (.inl 0),.inl [1,1]] (SS.mk (aa (bx (aa ⟨0,0,aa 4000⟩) l.length c)::aa (bk ar p)::aj::aj::aa (bk ar 0)::aa (bk ar 0)::n4 (n4 (n4 (aj::aj::[])))) [] [aa (.inr (.inr (.inl (oR l))))])) ?_ (by kernel_rfl)
  refine kH (by kernel_rfl) (ι:=Nat) (fun i=>i≤l.findIdx (fun m=>m.t==p)) [0,1,5] (fun i=>[.slice (aa ⟨0,0,aa 4000⟩) l.length c,.int .i64 p,.int .i64 i]) (fun i=>[vO l]) (fun i=>l.length-i) 20 (fun i hi=>⟨rfl,rfl,by simp⟩) ⟨0,du _,⟨[0],rfl,⟨rfl,trivial⟩,rfl,rfl,rfl,rfl⟩⟩ fun i hi=>?_
  refine cJ (T:=[]) trivial mixed 200 ?_;refine bK (q:=let Z2:=bk ar;let Z1:=(ax (au Op.t l) (0+(i:Int).toNat) (0:Int)==p);(decide ((↑i:Int)<(↑l.length:Int))=ao->Vc ((0:Int)≤(↑i:Int)/\(↑i:Int)<(↑l.length:Int)/\0+ae l≤ae l)/\Vc (0+(i:Int).toNat<ae l)/\(Z1=ao->aW (G (Z2 (↑i:Int)) [aa (.inr (.inr (.inl (oR l))))]))/\(Z1=an->Vc (fits ((↑i:Int)+(1:Int)))/\aW (∃ j,j≤List.findIdx (fun m=>Op.t m==p) l/\ae l-j<ae l-i/\j6 R 1 20 [0,1,5] [.slice (aa ⟨0,0,aa 4000⟩) l.length c,Z2 p,Z2 (↑j:Int)] [vO l] [aa (bx (aa ⟨0,0,aa 4000⟩) l.length c),aa (Z2 p),aa (Z2 ((↑i:Int)+(1:Int)))] [aa (.inr (.inr (.inl (oR l))))] 20)))/\(decide ((↑i:Int)<(↑l.length:Int))=an->aW (G (Z2 (-1:Int)) [aa (.inr (.inr (.inl (oR l))))]))) ?_ (by kernel_rfl)
  intro Z2 Z1;subst Z1 Z2;have hle:l.findIdx (fun m=>m.t==p)≤l.length:=GH
  refine⟨fun h=>?_,fun h=>⟨?_⟩⟩
  ·have cj:i<l.length:=by have:=of_decide_eq_true h;omega
   have b1:(0:Int)≤(i:Int)/\(i:Int)<(l.length:Int)/\0+l.length≤l.length:=⟨by omega,by omega,by omega⟩
   simp only[RZ,FJ Op.t 0 rfl];have eg:l.getD i oz=l[i]:=by rw[av,bd cj];rfl
   refine⟨⟨b1⟩,⟨cj⟩,fun h2=>⟨?_⟩,fun h2=>⟨⟨by omega,by omega⟩,i+1,?_,by omega,⟨[0],rfl,⟨rfl,trivial⟩,rfl,rfl,rfl,rfl⟩⟩⟩
   ·have e:l.findIdx (fun m=>m.t==p)=i:=by
     rcases cr i (l.findIdx (fun m=>m.t==p)) with c|c
     ·rw[eg] at h2;have h3:((l[i]'cj).t==p)=an:=GI (p:=fun m:Op=>m.t==p) c;exact Bool.noConfusion (h2.symm.trans h3)
     ·omega
    have e2:lg l p=i:=by unfold lg;rw[e,if_pos cj]
    subst hG;rw[← e2];exact⟨[0],rfl,rfl,⟨rfl,trivial⟩,rfl,rfl,rfl,rfl⟩
   ·rcases cr i (l.findIdx (fun m=>m.t==p)) with c|c
    ·exact c
    ·have e:l.findIdx (fun m=>m.t==p)=i:=by omega
     have h3:((l[l.findIdx (fun m=>m.t==p)]'(by omega)).t==p)=ao:=I2 (p:=fun m:Op=>m.t==p) (xs:=l) (w:=by omega)
     have e3:l.getD (l.findIdx (fun m=>m.t==p)) oz=l[l.findIdx (fun m=>m.t==p)]'(by omega):=by rw[av,bd (by omega)];rfl
     rw[← e3,e] at h3;rw[h3] at h2;cases h2
  ·have e:l.findIdx (fun m=>m.t==p)=l.length:=by have:=of_decide_eq_false h;omega
   have e2:lg l p = -1:=by unfold lg;rw[e,if_neg (Nat.lt_irrefl _)]
   subst hG;rw[← e2];exact⟨[0],rfl,rfl,⟨rfl,trivial⟩,rfl,rfl,rfl,rfl⟩
 ·cases hx
def adZ {R:Type}:Prim R:=fun args hh=>match args,hh with
 |[.slice (aa ⟨0,0,aa 4000⟩) n c,.int .i64 p],[aa (.inr (.inr (.inl r)))]=>aa ⟨r=oR (uO r)/\n=(uO r).length/\(uO r).length≤100/\0≤p/\p<(uO r).length,.slice (aa ⟨1,0,aa 4000⟩) (Jh (uO r) p.toNat).length 0,aj,[aa (.inr (.inr (.inl r))),oO (Jh (uO r) p.toNat)],[],[(0,0)]⟩
 |_,_=>aj
theorem aiC {R:Type} {D:fH R}:b6 D Tryz.prog 30 (a9 adZ):=by
 refine fj Tryz.f30 fun args hh x hx=>?_
 unfold adZ at hx;split at hx
 ·rename_i n c p r;cases hx;refine q4 fun _ hv=>?_
  obtain⟨hr,rfl,hb,hp0,hp1⟩:=hv;generalize uO r=l at *;subst hr
  generalize hG:ch (R:=R) _ _=G;refine cJ (T:=[]) trivial mixed 200 ?_;refine bK (q:=let Z3:=bk ar;let Z1:=(↑l.length:Int);let Z2:=(aH (Z1-(p+(1:Int))));Vc ((0:Int)≤p/\p≤Z1/\0+ae l≤ae l)/\Vc (0≤0/\0+aH p≤ae l/\(0+aH p)*32≤140737488355328/\0+aH p≤140737488355328)/\Vc (fits (p+(1:Int)))/\Vc (0=0/\(0:Int)≤p+(1:Int)/\p+(1:Int)≤Z1/\Z1≤Z1/\0+ae l≤ae l)/\Vc (0+(0+aH p)≤0+aH p/\0+aH (p+(1:Int))+aH (Z1-(p+(1:Int)))≤ae l/\(0+aH p+aH (Z1-(p+(1:Int))))*32≤140737488355328/\0+aH p+aH (Z1-(p+(1:Int)))≤140737488355328)/\aW (G (bx (aa ⟨4,0,aa 4000⟩) (0+aH p+aH (Z1-(p+(1:Int)))) 0) [aa (.inr (.inr (.inl (oR l)))),aa (.inr (.inl (45,Row.mk [Z3 0,.bool an,Z3 0,Z3 0] 0 [aX.mk [] [] [],aX.mk [] [] [],aX.mk [] [] [],aX.mk [] [] []]))),aj,aj,aa (.inr (.inl (45,Row.mk [Z3 0,.bool an,Z3 0,Z3 0] (0+aH p+aH (Z1-(p+(1:Int)))) [aX.mk (cut ([]++cut (au Op.t l) 0 (aH p)) 0 (0+aH p)++cut (au Op.t l) (0+aH (p+(1:Int))) Z2) [] [],aX.mk [] (cut ([]++cut (au Op.ins l) 0 (aH p)) 0 (0+aH p)++cut (au Op.ins l) (0+aH (p+(1:Int))) Z2) [],aX.mk (cut ([]++cut (au (fun o=>It.k (Op.it o)) l) 0 (aH p)) 0 (0+aH p)++cut (au (fun o=>It.k (Op.it o)) l) (0+aH (p+(1:Int))) Z2) [] [],aX.mk (cut ([]++cut (au (fun o=>It.i (Op.it o)) l) 0 (aH p)) 0 (0+aH p)++cut (au (fun o=>It.i (Op.it o)) l) (0+aH (p+(1:Int))) Z2) [] []])))])) ?_ (by kernel_rfl)
  intro Z3 Z1 Z2;subst Z2 Z1 Z3;obtain⟨i,rfl⟩:∃ i:Nat,p=i:=⟨p.toNat,by omega⟩
  have cj:i<l.length:=by omega
  have e0:((l.length:Int)-((i:Int)+1)).toNat=l.length-(i+1):=by omega
  have e1:((i:Int)+1).toNat=i+1:=by omega
  have P:∀ {β:Type} (f:Op->β),cut ([]++cut (l.map f) 0 i) 0 i++cut (l.map f) (i+1) (l.length-(i+1))=(Jh l i).map f:=fun {β} f=>by
   have h1:cut (l.map f) 0 i=(l.take i).map f:=by rw[Xq,acj]
   have h2:cut (l.map f) (i+1) (l.length-(i+1))=(l.drop (i+1)).map f:=by rw[Xq,aeh]
   have h3:cut ((l.take i).map f) 0 i=(l.take i).map f:=fF (by rw[fR,dZ];omega)
   rw[h1,h2,pd,h3,Jh,dG]
  have N:i+(l.length-(i+1))=(Jh l i).length:=by rw[ahG cj];omega
  simp only[e0,e1,iF,bV,P,N];refine⟨⟨by omega,by omega,by omega⟩,⟨by omega,by omega,by omega,by omega⟩,⟨by omega,by omega⟩,⟨by trivial,by omega,by omega,by omega,by omega⟩,⟨by omega,by omega,by rw[← N];omega,by rw[← N];omega⟩,⟨?_⟩⟩
  subst hG;exact⟨[0,4],rfl,rfl,⟨rfl,⟨_,rfl,.inl rfl⟩,trivial⟩,rfl,rfl,rfl,rfl⟩
 ·cases hx
theorem VG {R:Type} {D:fH R} {G:Value->Hp R->Prop} {l:List Op} {x:Op} {c r:Nat} {vc:Prop} (hb:l.length≤100) (hr:Dk x.t l=r) (hG:ch [vO (R:=R) l].length ⟨vc,.slice (aa ⟨1,0,aa 4000⟩) (rW l x).length 0,aj,[vO l,oO (rW l x)],[],[(0,0)]⟩=G) :
  At D Tryz.prog (dJ Tryz.f56) 1 (iE Tryz.prog Tryz.f56.results.toList G) [.inl [1,1,1]] ⟨frame [0,3,5] [.slice (aa ⟨0,0,aa 4000⟩) l.length c,.pointer (aa ⟨1,0,aj⟩),.int .i64 r] 0 37,[],[vO l,oK x]⟩:=by
 refine cJ (T:=[]) trivial mixed 200 ?_;refine bK (q:=let Z3:=bk ar;let Z1:=(↑r:Int);let Z2:=(↑l.length:Int);Vc ((0:Int)≤Z1/\Z1≤Z2/\0+ae l≤ae l)/\Vc (0≤0/\0+aH Z1≤ae l/\(0+aH Z1)*32≤140737488355328/\0+aH Z1≤140737488355328)/\Vc (0+(0+aH Z1)≤0+aH Z1/\1≤1/\(0+aH Z1+1)*32≤140737488355328/\0+aH Z1+1≤140737488355328)/\Vc (0=0/\(0:Int)≤Z1/\Z1≤Z2/\Z2≤Z2/\0+ae l≤ae l)/\Vc (0+(0+aH Z1+1)≤0+aH Z1+1/\0+aH Z1+aH (Z2-Z1)≤ae l/\(0+aH Z1+1+aH (Z2-Z1))*32≤140737488355328/\0+aH Z1+1+aH (Z2-Z1)≤140737488355328)/\aW (G (bx (aa ⟨6,0,aa 4000⟩) (0+aH Z1+1+aH (Z2-Z1)) 0) [aa (.inr (.inr (.inl (oR l)))),aa (.inl (45,[Z3 (Op.t x),.bool (Op.ins x),Z3 (It.k (Op.it x)),Z3 (It.i (Op.it x))])),aj,aj,aa (.inr (.inl (45,Row.mk [Z3 0,.bool an,Z3 0,Z3 0] 1 [aX.mk [Op.t x] [] [],aX.mk [] [Op.ins x] [],aX.mk [It.k (Op.it x)] [] [],aX.mk [It.i (Op.it x)] [] []]))),aj,aa (.inr (.inl (45,Row.mk [Z3 0,.bool an,Z3 0,Z3 0] (0+aH Z1+1+aH (Z2-Z1)) [aX.mk (cut (cut ([]++cut (au Op.t l) 0 (aH Z1)) 0 (0+aH Z1)++cut [Op.t x] 0 1) 0 (0+aH Z1+1)++cut (au Op.t l) (0+aH Z1) (aH (Z2-Z1))) [] [],aX.mk [] (cut (cut ([]++cut (au Op.ins l) 0 (aH Z1)) 0 (0+aH Z1)++cut [Op.ins x] 0 1) 0 (0+aH Z1+1)++cut (au Op.ins l) (0+aH Z1) (aH (Z2-Z1))) [],aX.mk (cut (cut ([]++cut (au (fun o=>It.k (Op.it o)) l) 0 (aH Z1)) 0 (0+aH Z1)++cut [It.k (Op.it x)] 0 1) 0 (0+aH Z1+1)++cut (au (fun o=>It.k (Op.it o)) l) (0+aH Z1) (aH (Z2-Z1))) [] [],aX.mk (cut (cut ([]++cut (au (fun o=>It.i (Op.it o)) l) 0 (aH Z1)) 0 (0+aH Z1)++cut [It.i (Op.it x)] 0 1) 0 (0+aH Z1+1)++cut (au (fun o=>It.i (Op.it o)) l) (0+aH Z1) (aH (Z2-Z1))) [] []])))])) ?_ (by kernel_rfl)
 intro Z3 Z1 Z2;subst Z2 Z1 Z3;have hle:r≤l.length:=by rw[← hr];exact Pv _ _
 have P:∀ {β:Type} (f:Op->β),(l.map f).take r++f x::(l.map f).drop r=(rW l x).map f:=fun {β} f=>by
  rw[rW,hr];simp[List.map_take,mH]
 have A0:∀ {β:Type} (f:Op->β) (v:β),cut (cut ([]++cut (l.map f) 0 r) 0 r++cut [v] 0 1) 0 (r+1)++cut (l.map f) r ((l.length:Int)-(r:Int)).toNat=(l.map f).take r++v::(l.map f).drop r:=fun f v=>Ew (fR ..) hle
 have hwl:=NS l x;have N:r+1+((l.length:Int)-(r:Int)).toNat=(rW l x).length:=by omega
 simp only[iF,bV,A0,N,P Op.t,P Op.ins,P (fun o=>o.it.k),P (fun o=>o.it.i)]
 refine⟨⟨by omega,by omega,by omega⟩,⟨by omega,by omega,by omega,by omega⟩,⟨by omega,by omega,by omega,by omega⟩,⟨by trivial,by omega,by omega,by omega,by omega⟩,⟨by omega,by omega,by omega,by omega⟩,⟨?_⟩⟩
 subst hG;exact⟨[0,6],rfl,rfl,⟨rfl,⟨_,rfl,.inl rfl⟩,trivial⟩,rfl,rfl,rfl,rfl⟩
def rr {R:Type}:Prim R:=fun args hh=>match args,hh with
 |[.slice (aa ⟨0,0,aa 4000⟩) n c,.agg ⟨[.int .i64 k0,.bool k1,.int .i64 k2,.int .i64 k3]⟩],[aa (.inr (.inr (.inl r)))]=>aa ⟨r=oR (uO r)/\n=(uO r).length/\(uO r).length≤100,.slice (aa ⟨1,0,aa 4000⟩) (rW (uO r) (⟨k0,k1,⟨k2,k3⟩⟩:Op)).length 0,aj,[aa (.inr (.inr (.inl r))),oO (rW (uO r) (⟨k0,k1,⟨k2,k3⟩⟩:Op))],[],[(0,0)]⟩
 |_,_=>aj
theorem ajb {R:Type} {D:fH R}:b6 D Tryz.prog 56 (a9 rr):=by
 refine fj Tryz.f56 fun args hh x hx=>?_
 unfold rr at hx;split at hx
 ·rename_i n c k0 k1 k2 k3 r;cases hx;refine q4 fun _ hv=>?_
  obtain⟨hr,rfl,hb⟩:=hv;generalize uO r=l at *;subst hr
  generalize hG:ch (R:=R) _ _=G;refine cJ (T:=[]) trivial mixed 200 ?_;refine bK (q:=let Z1:=bk ar;At D Tryz.prog (dJ Tryz.f56) 1 (iE Tryz.prog (dA (dC Tryz.f56)) G) [.inl [1,1,0,0],.inr (.inl 0),.inl [1,1,1]] (SS.mk (aa (bx (aa ⟨0,0,aa 4000⟩) l.length c)::aa (bE (aO [Z1 k0,.bool k1,Z1 k2,Z1 k3]))::aj::aa (aC (aa ⟨1,0,aj⟩))::aa (bx (aa ⟨2,0,aa 4000⟩) 0 0)::aa (Z1 0)::nH (n4 (n4 (n4 (aj::aj::aj::[]))))) [] [aa (.inr (.inr (.inl (oR l)))),aa (.inl (45,[Z1 k0,.bool k1,Z1 k2,Z1 k3])),aa (.inr (.inl (45,Row.mk [Z1 0,.bool an,Z1 0,Z1 0] 0 [aX.mk [] [] [],aX.mk [] [] [],aX.mk [] [] [],aX.mk [] [] []])))])) ?_ (by kernel_rfl)
  intro Z1;subst Z1;generalize hx:(⟨k0,k1,⟨k2,k3⟩⟩:Op)=x at *
  refine kH (by kernel_rfl) (ι:=Nat) (fun k=>k≤Dk x.t l) [0,3,5] (fun k=>[.slice (aa ⟨0,0,aa 4000⟩) l.length c,.pointer (aa ⟨1,0,aj⟩),.int .i64 k]) (fun k=>[vO l,oK x]) (fun k=>l.length-k) 37 (fun i hi=>⟨rfl,rfl,by simp⟩) ⟨0,du _,⟨[0,1],rfl,⟨rfl,.inl (by subst hx;rfl),trivial⟩,rfl,rfl,rfl,rfl⟩⟩ fun k hk=>?_
  refine mV (T:=[]) [[1,1,1]] trivial mixed 200 ?_;refine bK (q:=let Z8:=bk ar;let Z1:=(decide ((↑k:Int)<(↑l.length:Int)));let Z2:=(ax (au Op.t l) (0+(k:Int).toNat) (0:Int)<Op.t x);let Z3:=(bx (aa ⟨0,0,aa 4000⟩) l.length c);let Z4:=(aC (aa ⟨1,0,aj⟩));let Z5:=(Z8 (↑k:Int));let Z6:=(aC (aa (Addr.mk 0 (0+(k:Int).toNat) (aa 4000))));let Z7:=(cq (aO []));(decide ((↑k:Int)<(↑l.length:Int))=ao->Vc (aD Z1=aD ao)/\Vc ((0:Int)≤(↑k:Int)/\(↑k:Int)<(↑l.length:Int)/\0+ae l≤ae l)/\Vc (0+(k:Int).toNat<ae l)/\(decide Z2=ao->Vc (fits ((↑k:Int)+(1:Int)))/\aW (∃ j,j≤Dk (Op.t x) l/\ae l-j<ae l-k/\j6 R 1 37 [0,3,5] [.slice (aa ⟨0,0,aa 4000⟩) l.length c,.pointer (aa ⟨1,0,aj⟩),Z8 (↑j:Int)] [vO l,oK x] [aa Z3,aa Z4,aa (Z8 ((↑k:Int)+(1:Int)))] [aa (.inr (.inr (.inl (oR l)))),aa (.inl (45,[Z8 (Op.t x),.bool (Op.ins x),Z8 (It.k (Op.it x)),Z8 (It.i (Op.it x))]))] 37))/\(decide Z2=an->At D Tryz.prog (dJ Tryz.f56) 1 (iE Tryz.prog (dA (dC Tryz.f56)) G) [.inl [1,1,1]] (SS.mk (aa Z3::aj::aj::aa Z4::aj::aa Z5::aj::aa Z5::aa Z3::aa (Z8 (↑l.length:Int))::aa (aD Z1)::aa (aD ao)::aa Z3::aa Z5::aa Z6::aa Z6::aa (Z8 (ax (au Op.t l) (0+(k:Int).toNat) (0:Int)))::aa Z4::aa (Z8 (Op.t x))::aa (aD (decide Z2))::aa (aD an)::nH ([])) [(20,an),(11,ao)] [aa (.inr (.inr (.inl (oR l)))),aa (.inl (45,[Z8 (Op.t x),.bool (Op.ins x),Z8 (It.k (Op.it x)),Z8 (It.i (Op.it x))]))])))/\(decide ((↑k:Int)<(↑l.length:Int))=an->Vc (aD Z1=aD an)/\At D Tryz.prog (dJ Tryz.f56) 1 (iE Tryz.prog (dA (dC Tryz.f56)) G) [.inl [1,1,1]] (SS.mk (aa Z3::aj::aj::aa Z4::aj::aa Z5::aj::aa Z5::aa Z3::aa (Z8 (↑l.length:Int))::aa (aD Z1)::aa (aD an)::aa Z7::aa Z7::aa Z7::aa Z7::aa Z7::aa Z7::aa Z7::aa Z7::aa (aD an)::nH ([])) [(11,an),(20,an)] [aa (.inr (.inr (.inl (oR l)))),aa (.inl (45,[Z8 (Op.t x),.bool (Op.ins x),Z8 (It.k (Op.it x)),Z8 (It.i (Op.it x))]))]))) ?_ (by kernel_rfl)
  intro Z8 Z1 Z2 Z3 Z4 Z5 Z6 Z7;subst Z7 Z6 Z5 Z4 Z3 Z2 Z1 Z8;have hle:Dk x.t l≤l.length:=Pv _ _;refine⟨fun h=>?_,fun h=>?_⟩
  ·have cj:k<l.length:=by have:=of_decide_eq_true h;omega
   simp only[RZ,FJ Op.t 0 rfl];refine⟨⟨congrArg aD h⟩,⟨by omega,by omega,by omega⟩,⟨cj⟩,fun h2=>⟨⟨by omega,by omega⟩,⟨k+1,?_,by omega,⟨[0,1],rfl,⟨rfl,.inl rfl,trivial⟩,rfl,rfl,rfl,rfl⟩⟩⟩,fun h2=>?_⟩
   ·have h3:=of_decide_eq_true h2;rcases cr k (Dk x.t l) with c|c
    ·exact c
    ·obtain rfl:k=Dk x.t l:=by omega
     exact absurd h3 (ajV cj)
   ·have h3:=of_decide_eq_false h2;have hr:Dk x.t l=k:=by
     rcases cr k (Dk x.t l) with c|c
     ·exact absurd (aid c) h3
     ·omega
    exact At.fit [0,3,5] [.slice (aa ⟨0,0,aa 4000⟩) l.length c,.pointer (aa ⟨1,0,aj⟩),.int .i64 k] [vO l,oK x] 37 ⟨rfl,rfl,by simp⟩ ⟨[0,1],rfl,⟨rfl,.inl rfl,trivial⟩,rfl,rfl,rfl,rfl⟩ (VG hb hr hG)
  ·have h3:=of_decide_eq_false h;have hr:Dk x.t l=k:=by omega
   exact⟨⟨congrArg aD h⟩,At.fit [0,3,5] [.slice (aa ⟨0,0,aa 4000⟩) l.length c,.pointer (aa ⟨1,0,aj⟩),.int .i64 k] [vO l,oK x] 37 ⟨rfl,rfl,by simp⟩ ⟨[0,1],rfl,⟨rfl,.inl rfl,trivial⟩,rfl,rfl,rfl,rfl⟩ (VG hb hr hG)⟩
 ·cases hx
def aei {R:Type}:Prim R:=fun args hh=>match args,hh with
 |[.int .i64 n],[]=>aa ⟨True,.int .i64 (min (max n 0) 65536),aj,hh,[],[]⟩
 |_,_=>aj
theorem ajj {R:Type} {D:fH R}:b6 D Tryz.prog 16 (a9 aei):=by
 refine fj Tryz.f16 fun args hh x hx=>?_
 unfold aei at hx;split at hx
 ·rename_i n;cases hx;refine q4 fun _ hv=>?_
  generalize hG:ch (R:=R) _ _=G;refine cJ (T:=[]) trivial mixed 200 ?_;refine bK (q:=(decide (n<(0:Int))=ao->aW (G (bk ar 0) []))/\(decide (n<(0:Int))=an->(decide (n>(65536:Int))=ao->aW (G (bk ar 65536) []))/\(decide (n>(65536:Int))=an->aW (G (bk ar n) [])))) ?_ (by kernel_rfl)
  have done:∀ (x:Int) (rest:Hp R),x=min (max n 0) 65536->G (.int .i64 x) rest:=by
   intro x rest e;subst e;subst hG;exact⟨[],rfl,rfl,trivial,rfl,rfl,rfl,rfl⟩
  clear hG
  repeat' (first|apply And.intro|apply Vc.mk|apply fits.mk|intro h|apply aW.mk)
  all_goals (try simp only[sB] at *)
  all_goals first|contradiction|omega|exact jm ‹_›|exact jo ‹_›|exact jk ‹_›|exact⟨rfl,by omega⟩|exact rfl|(simp[*,-av];done)|skip
  all_goals (refine done _ _ ?_;omega)
 ·cases hx
def kb (h:List It):List Op->List (Option It)
 |[]=>[]
 |o::r=>if o.ins=ao then aj::kb (gZ o.it h) r else h.head?::kb h.tail r
theorem GX:∀ (a b:List Op) (h:List It),kb h (a++b)=kb h a++kb (fin h a) b
 |[],b,h=>rfl
 |o::a,b,h=>by
  rcases iU o with e|e
  ·rw[mw,kb,if_pos e,kb,if_pos e,tq e,GX a b];rfl
  ·rw[mw,kb,if_neg (by rw[e];decide),kb,if_neg (by rw[e];decide),nD e,GX a b];rfl
theorem Yd:∀ (a:List Op) (h:List It),(kb h a).length=a.length
 |[],h=>rfl
 |o::a,h=>by rw[kb];split<;>rw[cy,Yd a,cy]
theorem QG:∀ (a:List Op) (h:List It),(fin h a).length≤h.length+a.length
 |[],h=>a_ _
 |o::a,h=>by
  rcases iU o with e|e
  ·have:=QG a (gZ o.it h);have hi:(gZ o.it h).length=h.length+1:=by
    have:∀ (x:It) (l:List It),(gZ x l).length=l.length+1:=fun x l=>by
     induction l with
     |nil=>rfl
     |cons y l ih=>rw[gZ];split<;>simp[ih]
    exact this _ _
   rw[tq e,cy];omega
  ·have:=QG a h.tail;rw[nD e,cy];rw[Fy] at this;omega
theorem Ol:∀ (a:List Op) (h:List It),(tk h a).length+gw h a≤a.length
 |[],h=>a_ _
 |o::a,h=>by
  rcases iU o with e|e
  ·rw[oB e,ov e];have:=Ol a (gZ o.it h);rw[cy];omega
  ·cases h with
   |nil=>rw[BH e,sJ e,cy];have:=Ol a [];omega
   |cons y h=>rw[oF e,np e,cy,cy];have:=Ol a h;omega
theorem take_one {l:List Op} {i:Nat} (h:i<l.length):l.take (i+1)=l.take i++[l.getD i oz]:=by
 rw[zf h,av,bd h];rfl
theorem Ql (h:List It) (o:Op):fin h [o]=n6 h o:=rfl
theorem ahd {l:List Op} {i:Nat} (h:i<l.length) (e:(l.getD i oz).ins=ao):fin [] (l.take (i+1))=gZ (l.getD i oz).it (fin [] (l.take i))/\tk [] (l.take (i+1))=tk [] (l.take i)/\gw [] (l.take (i+1))=gw [] (l.take i)/\kb [] (l.take (i+1))=kb [] (l.take i)++[aj]:=by
 rw[take_one h,qd,vW,uA,GX,Ql,Qz e,oB e,ov e];refine⟨rfl,?_,rfl,?_⟩
 ·show _++[]=_;rw[Bb]
 ·rw[kb,if_pos e];rfl
theorem adm {l:List Op} {i:Nat} (h:i<l.length) (e:(l.getD i oz).ins=an) (h0:fin [] (l.take i)=[]):fin [] (l.take (i+1))=[]/\tk [] (l.take (i+1))=tk [] (l.take i)/\gw [] (l.take (i+1))=gw [] (l.take i)+1/\kb [] (l.take (i+1))=kb [] (l.take i)++[aj]:=by
 rw[take_one h,qd,vW,uA,GX,Ql,Lk e,h0,BH e,sJ e];refine⟨rfl,?_,rfl,?_⟩
 ·show _++[]=_;rw[Bb]
 ·rw[kb,if_neg (by rw[e];decide)];rfl
theorem agV {l:List Op} {i:Nat} (h:i<l.length) (e:(l.getD i oz).ins=an) (h0:fin [] (l.take i)≠[]):fin [] (l.take (i+1))=(fin [] (l.take i)).tail/\tk [] (l.take (i+1))=tk [] (l.take i)++[(fin [] (l.take i)).getD 0 iz]/\gw [] (l.take (i+1))=gw [] (l.take i)/\kb [] (l.take (i+1))=kb [] (l.take i)++[aa ((fin [] (l.take i)).getD 0 iz)]:=by
 obtain⟨y,r,hy⟩:∃ y r,fin [] (l.take i)=y::r:=by
  cases hc:fin [] (l.take i) with
  |nil=>exact absurd hc h0
  |cons y r=>exact⟨y,r,rfl⟩
 rw[take_one h,qd,vW,uA,GX,Ql,Lk e,hy,oF e,np e];refine⟨rfl,rfl,rfl,?_⟩;rw[kb,if_neg (by rw[e];decide)];rfl
abbrev kR (l:List (Option It)):Row:=⟨[.bool an,.int .i64 0,.int .i64 0],l.length,[⟨[],l.map ij,[]⟩,⟨l.map fun x=>(x.getD ⟨0,0⟩).k,[],[]⟩,⟨l.map fun x=>(x.getD ⟨0,0⟩).i,[],[]⟩]⟩
abbrev oT' {R:Type} (l:List (Option It)):Option (SB R):=aa (.inr (.inl (47,kR l)))
theorem ad4 {x:It} {l:List It} (ho:Ord l) (hn:x∉l):mK (l++[x])=gZ x l:=by
 have j8:nK x l=an:=by
  refine decide_eq_false fun c=>hn ?_
  have:=yY (d:=iz) c
  rwa [wI c] at this
 rw[agN ho j8];refine zY (Ye ho) (pn ho hn) fun z=>?_
 unfold rV;rw[j8];simp only[fO,if_false];rw[jZ,b5,bP];have:=cQ (sw x l) l
 constructor
 ·rintro (m|m|m)
  ·exact .inr (ph m)
  ·exact .inl m
  ·exact .inr (vK m)
 ·rintro (m|m)
  ·exact .inr (.inl m)
  ·rw[← this] at m;rcases b5.1 m with m|m
   ·exact .inl m
   ·exact .inr (.inr m)
theorem El {β:Type} (f:It->β) (h:List It) (y:It):cut (cut ([]++cut (h.map f) 0 h.length) 0 (0+h.length)++cut [f y] 0 1) 0 (0+h.length+1)=(h++[y]).map f:=by
 have e1:cut (h.map f) 0 h.length=h.map f:=fF (by simp)
 have e2:cut [f y] 0 1=[f y]:=rfl;rw[pd,e1,bV,e1,e2,fF (by simp),dG]
 rfl
theorem zb {α β:Type} (f:α->β) (k:List α) (y:α) (v:β) (hv:v=f y):cut (k.map f) 0 k.length++[v]=(k++[y]).map f:=by
 subst hv;rw[fF (by simp),dG]
 rfl
theorem ajW {β:Type} (f:It->β) (h:List It):[]++cut (h.map f) 1 (h.length-1)=h.tail.map f:=by
 rw[pd];unfold cut;rw[jj (by simp),List.drop_one,List.map_tail]
def TRu {R:Type}:ez R:=[(59,tG z0 2 (a9 Zj))]
theorem abj {R:Type} {D:fH R}:cL D Tryz.prog (TRu:ez R):=⟨nU _ _ agG,trivial⟩
def YZ {R:Type}:Prim R:=fun args hh=>match args,hh with
 |[.slice (aa ⟨0,0,aa 4000⟩) n c],[aa (.inr (.inr (.inl r)))]=>aa ⟨r=oR (uO r)/\n=(uO r).length/\(uO r).length≤100/\(gx (uO r)).Nodup,.tuple ⟨[.slice (aa ⟨1,0,aa 2000⟩) (fin [] (uO r)).length 0,.slice (aa ⟨2,0,aa 2000⟩) (mK (tk [] (uO r))).length 0,.int .i64 (gw [] (uO r)),.slice (aa ⟨3,0,aa 3000⟩) (kb [] (uO r)).length 0]⟩,aj,[aa (.inr (.inr (.inl r))),oI (fin [] (uO r)),oI (mK (tk [] (uO r))),oT' (kb [] (uO r))],[],[(0,0)]⟩
 |_,_=>aj
theorem ab3 {R:Type} {D:fH R}:b6 D Tryz.prog 19 (a9 YZ):=by
 refine fj Tryz.f19 fun args hh x hx=>?_
 unfold YZ at hx;split at hx
 ·rename_i n c r;cases hx;refine q4 fun _ hv=>?_
  obtain⟨hr,rfl,hb,hnd⟩:=hv;generalize uO r=l at *;subst hr
  generalize hG:ch (R:=R) _ _=G;refine cJ (T:=TRu) abj mixed 200 ?_;refine bK (q:=let Z1:=bk ar;At D Tryz.prog (dJ Tryz.f19) 1 (iE Tryz.prog (dA (dC Tryz.f19)) G) [.inl [1,1,1,1,0,1,0],.inr (.inl 0),.inl [1,1,1,1,1]] (SS.mk (aa (bx (aa ⟨0,0,aa 4000⟩) l.length c)::aj::aa (bx (aa ⟨1,0,aa 2000⟩) 0 0)::aa (bx (aa ⟨2,0,aa 2000⟩) 0 0)::aa (Z1 0)::aa (bx (aa ⟨3,0,aa 3000⟩) 0 0)::aa (bx (aa ⟨4,0,aa 2000⟩) 0 0)::aa (bx (aa ⟨5,0,aa 2000⟩) 0 0)::aa (bx (aa ⟨6,0,aa 3000⟩) 0 0)::aa (Z1 0)::aa (Z1 0)::nH (nH (nH (n4 ([]))))) [] [aa (.inr (.inr (.inl (oR l)))),aa (.inr (.inl (31,Row.mk [Z1 0,Z1 0] 0 [aX.mk [] [] [],aX.mk [] [] []]))),aa (.inr (.inl (31,Row.mk [Z1 0,Z1 0] 0 [aX.mk [] [] [],aX.mk [] [] []]))),aa (.inr (.inl (47,Row.mk [.bool an,Z1 0,Z1 0] 0 [aX.mk [] [] [],aX.mk [] [] [],aX.mk [] [] []]))),aa (.inr (.inl (31,Row.mk [Z1 0,Z1 0] 0 [aX.mk [] [] [],aX.mk [] [] []]))),aa (.inr (.inl (31,Row.mk [Z1 0,Z1 0] 0 [aX.mk [] [] [],aX.mk [] [] []]))),aa (.inr (.inl (47,Row.mk [.bool an,Z1 0,Z1 0] 0 [aX.mk [] [] [],aX.mk [] [] [],aX.mk [] [] []])))])) ?_ (by kernel_rfl)
  intro Z1;subst Z1;refine kH (by kernel_rfl) (ι:=Nat) (fun i=>i≤l.length) [0,6,7,8,9,10] (fun i=>[.slice (aa ⟨0,0,aa 4000⟩) l.length c,.slice (aa ⟨1,0,aa 2000⟩) (fin [] (l.take i)).length 0,.slice (aa ⟨2,0,aa 2000⟩) (tk [] (l.take i)).length 0,.slice (aa ⟨3,0,aa 3000⟩) (kb [] (l.take i)).length 0,.int .i64 (gw [] (l.take i)),.int .i64 i]) (fun i=>[vO l,oI (fin [] (l.take i)),oI (tk [] (l.take i)),oT' (kb [] (l.take i))]) (fun i=>l.length-i) 63 (fun i hi=>⟨rfl,rfl,by simp⟩) ⟨0,du _,⟨[0,4,5,6],rfl,⟨rfl,⟨_,rfl,.inl rfl⟩,⟨_,rfl,.inl rfl⟩,⟨_,rfl,.inl rfl⟩,trivial⟩,rfl,rfl,rfl,rfl⟩⟩ fun i hi=>?_
  generalize hh:fin [] (l.take i)=h at *
  generalize hk:tk [] (l.take i)=k at *
  generalize hs:kb [] (l.take i)=s at *
  generalize hf:gw [] (l.take i)=f at *
  refine cJ (T:=TRu) abj mixed 200 ?_;refine bK (q:=let cx:=bk ar;let Z1:=(0:Int);let Z2:=(au It.k h);let Z3:=(au It.i h);let Z4:=(ae s+1);let Z5:=(bx (aa ⟨0,0,aa 4000⟩) l.length c);let Z6:=(bx (aa ⟨2,0,aa 2000⟩) k.length 0);let Z7:=(cx ((↑i:Int)+(1:Int)));let Z8:=s.length;let Z9:=(↑h.length:Int);let dX:=(fZ (nA k 0 k.length));(decide ((↑i:Int)<(↑l.length:Int))=ao->Vc (Z1≤(↑i:Int)/\(↑i:Int)<(↑l.length:Int)/\0+ae l≤ae l)/\Vc (0+(i:Int).toNat<ae l)/\(ax (au Op.ins l) (0+(i:Int).toNat) an=ao->Vc (0≤0/\0+ae h≤ae h/\(0+ae h)*16≤140737488355328/\0+ae h≤140737488355328)/\Vc (Z1≤(↑i:Int)/\(↑i:Int)<(↑l.length:Int)/\0+ae l≤ae l)/\Vc (0+(i:Int).toNat<ae l)/\Vc (0+(0+ae h)≤0+ae h/\1≤1/\(0+ae h+1)*16≤140737488355328/\0+ae h+1≤140737488355328)/\Vc ((0+(0+ae h+1)≤0+ae h+1/\True)/\Row.mk [cx 0,cx 0] (0+ae h+1) [aX.mk (cut (cut ([]++cut Z2 0 h.length) 0 (0+ae h)++cut [ax (au (fun o=>It.k (Op.it o)) l) (0+(i:Int).toNat) Z1] 0 1) 0 (0+ae h+1)) [] [],aX.mk (cut (cut ([]++cut Z3 0 h.length) 0 (0+ae h)++cut [ax (au (fun o=>It.i (Op.it o)) l) (0+(i:Int).toNat) Z1] 0 1) 0 (0+ae h+1)) [] []]=iR (fZ (Row.mk [cx 0,cx 0] (0+ae h+1) [aX.mk (cut (cut ([]++cut Z2 0 h.length) 0 (0+ae h)++cut [ax (au (fun o=>It.k (Op.it o)) l) (0+(i:Int).toNat) Z1] 0 1) 0 (0+ae h+1)) [] [],aX.mk (cut (cut ([]++cut Z3 0 h.length) 0 (0+ae h)++cut [ax (au (fun o=>It.i (Op.it o)) l) (0+(i:Int).toNat) Z1] 0 1) 0 (0+ae h+1)) [] []]))/\0+ae h+1=ae (fZ (Row.mk [cx 0,cx 0] (0+ae h+1) [aX.mk (cut (cut ([]++cut Z2 0 h.length) 0 (0+ae h)++cut [ax (au (fun o=>It.k (Op.it o)) l) (0+(i:Int).toNat) Z1] 0 1) 0 (0+ae h+1)) [] [],aX.mk (cut (cut ([]++cut Z3 0 h.length) 0 (0+ae h)++cut [ax (au (fun o=>It.i (Op.it o)) l) (0+(i:Int).toNat) Z1] 0 1) 0 (0+ae h+1)) [] []]))/\ae (fZ (Row.mk [cx 0,cx 0] (0+ae h+1) [aX.mk (cut (cut ([]++cut Z2 0 h.length) 0 (0+ae h)++cut [ax (au (fun o=>It.k (Op.it o)) l) (0+(i:Int).toNat) Z1] 0 1) 0 (0+ae h+1)) [] [],aX.mk (cut (cut ([]++cut Z3 0 h.length) 0 (0+ae h)++cut [ax (au (fun o=>It.i (Op.it o)) l) (0+(i:Int).toNat) Z1] 0 1) 0 (0+ae h+1)) [] []]))≤100000)/\Vc (0+ae s≤ae s/\1≤1/\Z4*24≤140737488355328/\ae s+1≤140737488355328)/\Vc (fits ((↑i:Int)+(1:Int)))/\aW (∃ j,j≤ae l/\ae l-j<ae l-i/\j6 R 1 63 [0,6,7,8,9,10] [.slice (aa ⟨0,0,aa 4000⟩) l.length c,.slice (aa ⟨1,0,aa 2000⟩) (ae (fin [] (gY j l))) 0,.slice (aa ⟨2,0,aa 2000⟩) (ae (tk [] (gY j l))) 0,.slice (aa ⟨3,0,aa 3000⟩) (ae (kb [] (gY j l))) 0,cx (↑(gw [] (gY j l)):Int),cx (↑j:Int)] [vO l,oI (fin [] (gY j l)),oI (tk [] (gY j l)),oT' (kb [] (gY j l))] [aa Z5,aa (bx (aa ⟨10,0,aa 2000⟩) (ae (mK (fZ (Row.mk [cx 0,cx 0] (0+ae h+1) [aX.mk (cut (cut ([]++cut Z2 0 h.length) 0 (0+ae h)++cut [ax (au (fun o=>It.k (Op.it o)) l) (0+(i:Int).toNat) Z1] 0 1) 0 (0+ae h+1)) [] [],aX.mk (cut (cut ([]++cut Z3 0 h.length) 0 (0+ae h)++cut [ax (au (fun o=>It.i (Op.it o)) l) (0+(i:Int).toNat) Z1] 0 1) 0 (0+ae h+1)) [] []])))) 0),aa Z6,aa (bx (aa ⟨12,0,aa 3000⟩) Z4 0),aa (cx (↑f:Int)),aa Z7] [aa (.inr (.inr (.inl (oR l)))),aa (.inr (.inl (31,iR h))),aa (.inr (.inl (31,iR k))),aj,aa (.inl (47,[.bool an,cx 0,cx 0])),aj,aj,aa (.inr (.inl (31,Row.mk [cx 0,cx 0] 1 [aX.mk [ax (au (fun o=>It.k (Op.it o)) l) (0+(i:Int).toNat) Z1] [] [],aX.mk [ax (au (fun o=>It.i (Op.it o)) l) (0+(i:Int).toNat) Z1] [] []]))),aa (.inr (.inl (31,Row.mk [cx 0,cx 0] (0+ae h+1) [aX.mk (cut ([]++cut Z2 0 h.length) 0 (0+ae h)++cut [ax (au (fun o=>It.k (Op.it o)) l) (0+(i:Int).toNat) Z1] 0 1) [] [],aX.mk (cut ([]++cut Z3 0 h.length) 0 (0+ae h)++cut [ax (au (fun o=>It.i (Op.it o)) l) (0+(i:Int).toNat) Z1] 0 1) [] []]))),aj,aa (.inr (.inl (31,iR (mK (fZ (Row.mk [cx 0,cx 0] (0+ae h+1) [aX.mk (cut (cut ([]++cut Z2 0 h.length) 0 (0+ae h)++cut [ax (au (fun o=>It.k (Op.it o)) l) (0+(i:Int).toNat) Z1] 0 1) 0 (0+ae h+1)) [] [],aX.mk (cut (cut ([]++cut Z3 0 h.length) 0 (0+ae h)++cut [ax (au (fun o=>It.i (Op.it o)) l) (0+(i:Int).toNat) Z1] 0 1) 0 (0+ae h+1)) [] []])))))),aa (.inr (.inl (47,Row.mk [.bool an,cx 0,cx 0] 1 [aX.mk [] [an] [],aX.mk [Z1] [] [],aX.mk [Z1] [] []]))),aa (.inr (.inl (47,Row.mk [.bool an,cx 0,cx 0] Z4 [aX.mk [] (cut (au ij s) 0 Z8++[an]) [],aX.mk (cut (au (fun x=>It.k (gK x (It.mk Z1 Z1))) s) 0 Z8++[Z1]) [] [],aX.mk (cut (au (fun x=>It.i (gK x (It.mk Z1 Z1))) s) 0 Z8++[Z1]) [] []])))] 63))/\(ax (au Op.ins l) (0+(i:Int).toNat) an=an->(decide (Z9>Z1)=ao->Vc (Z1≤Z1/\Z1<Z9/\0+ae h≤ae h)/\Vc (0<ae h)/\Vc (Z1≤Z1/\Z1<Z9/\0+ae h≤ae h)/\Vc (0<ae h)/\Vc (0+ae k≤ae k/\1≤1/\(ae k+1)*16≤140737488355328/\ae k+1≤140737488355328)/\Vc (0=0/\Z1≤(1:Int)/\(1:Int)≤Z9/\Z9≤Z9/\0+ae h≤ae h)/\Vc (0≤0/\1+aH (Z9-(1:Int))≤ae h/\(0+aH (Z9-(1:Int)))*16≤140737488355328/\0+aH (Z9-(1:Int))≤140737488355328)/\Vc (0+ae s≤ae s/\1≤1/\Z4*24≤140737488355328/\ae s+1≤140737488355328)/\Vc (fits ((↑i:Int)+(1:Int)))/\aW (∃ j,j≤ae l/\ae l-j<ae l-i/\j6 R 1 63 [0,6,7,8,9,10] [.slice (aa ⟨0,0,aa 4000⟩) l.length c,.slice (aa ⟨1,0,aa 2000⟩) (ae (fin [] (gY j l))) 0,.slice (aa ⟨2,0,aa 2000⟩) (ae (tk [] (gY j l))) 0,.slice (aa ⟨3,0,aa 3000⟩) (ae (kb [] (gY j l))) 0,cx (↑(gw [] (gY j l)):Int),cx (↑j:Int)] [vO l,oI (fin [] (gY j l)),oI (tk [] (gY j l)),oT' (kb [] (gY j l))] [aa Z5,aa (bx (aa ⟨8,0,aa 2000⟩) (0+aH (Z9-(1:Int))) 0),aa (bx (aa ⟨6,0,aa 2000⟩) (ae k+1) 0),aa (bx (aa ⟨10,0,aa 3000⟩) Z4 0),aa (cx (↑f:Int)),aa Z7] [aa (.inr (.inr (.inl (oR l)))),aa (.inr (.inl (31,iR h))),aj,aj,aa (.inl (47,[.bool ao,cx (ax Z2 0 Z1),cx (ax Z3 0 Z1)])),aa (.inr (.inl (31,Row.mk [cx 0,cx 0] 1 [aX.mk [ax Z2 0 Z1] [] [],aX.mk [ax Z3 0 Z1] [] []]))),aa (.inr (.inl (31,Row.mk [cx 0,cx 0] (ae k+1) [aX.mk (cut (au It.k k) 0 k.length++cut [ax Z2 0 Z1] 0 1) [] [],aX.mk (cut (au It.i k) 0 k.length++cut [ax Z3 0 Z1] 0 1) [] []]))),aj,aa (.inr (.inl (31,Row.mk [cx 0,cx 0] (0+aH (Z9-(1:Int))) [aX.mk ([]++cut Z2 1 (aH (Z9-(1:Int)))) [] [],aX.mk ([]++cut Z3 1 (aH (Z9-(1:Int)))) [] []]))),aa (.inr (.inl (47,Row.mk [.bool an,cx 0,cx 0] 1 [aX.mk [] [ao] [],aX.mk [ax Z2 0 Z1] [] [],aX.mk [ax Z3 0 Z1] [] []]))),aa (.inr (.inl (47,Row.mk [.bool an,cx 0,cx 0] Z4 [aX.mk [] (cut (au ij s) 0 Z8++[ao]) [],aX.mk (cut (au (fun x=>It.k (gK x (It.mk Z1 Z1))) s) 0 Z8++cut [ax Z2 0 Z1] 0 1) [] [],aX.mk (cut (au (fun x=>It.i (gK x (It.mk Z1 Z1))) s) 0 Z8++cut [ax Z3 0 Z1] 0 1) [] []])))] 63))/\(decide (Z9>Z1)=an->Vc (fits ((↑f:Int)+(1:Int)))/\Vc (0+ae s≤ae s/\1≤1/\Z4*24≤140737488355328/\ae s+1≤140737488355328)/\Vc (fits ((↑i:Int)+(1:Int)))/\aW (∃ j,j≤ae l/\ae l-j<ae l-i/\j6 R 1 63 [0,6,7,8,9,10] [.slice (aa ⟨0,0,aa 4000⟩) l.length c,.slice (aa ⟨1,0,aa 2000⟩) (ae (fin [] (gY j l))) 0,.slice (aa ⟨2,0,aa 2000⟩) (ae (tk [] (gY j l))) 0,.slice (aa ⟨3,0,aa 3000⟩) (ae (kb [] (gY j l))) 0,cx (↑(gw [] (gY j l)):Int),cx (↑j:Int)] [vO l,oI (fin [] (gY j l)),oI (tk [] (gY j l)),oT' (kb [] (gY j l))] [aa Z5,aa (bx (aa ⟨1,0,aa 2000⟩) h.length 0),aa Z6,aa (bx (aa ⟨6,0,aa 3000⟩) Z4 0),aa (cx ((↑f:Int)+(1:Int))),aa Z7] [aa (.inr (.inr (.inl (oR l)))),aa (.inr (.inl (31,iR h))),aa (.inr (.inl (31,iR k))),aj,aa (.inl (47,[.bool an,cx 0,cx 0])),aa (.inr (.inl (47,Row.mk [.bool an,cx 0,cx 0] 1 [aX.mk [] [an] [],aX.mk [Z1] [] [],aX.mk [Z1] [] []]))),aa (.inr (.inl (47,Row.mk [.bool an,cx 0,cx 0] Z4 [aX.mk [] (cut (au ij s) 0 Z8++[an]) [],aX.mk (cut (au (fun x=>It.k (gK x (It.mk Z1 Z1))) s) 0 Z8++[Z1]) [] [],aX.mk (cut (au (fun x=>It.i (gK x (It.mk Z1 Z1))) s) 0 Z8++[Z1]) [] []])))] 63))))/\(decide ((↑i:Int)<(↑l.length:Int))=an->Vc ((0+ae k≤ae k/\True)/\nA k 0 k.length=iR dX/\ae k=ae dX/\ae dX≤100000)/\aW (G (cq (aO [.slice (aa ⟨1,0,aa 2000⟩) h.length 0,.slice (aa ⟨5,0,aa 2000⟩) (ae (mK dX)) 0,cx (↑f:Int),.slice (aa ⟨3,0,aa 3000⟩) Z8 0])) [aa (.inr (.inr (.inl (oR l)))),aa (.inr (.inl (31,iR h))),aa (.inr (.inl (31,iR k))),aa (.inr (.inl (47,Row.mk [.bool an,cx 0,cx 0] Z8 [aX.mk [] (au ij s) [],aX.mk (au (fun x=>It.k (gK x (It.mk Z1 Z1))) s) [] [],aX.mk (au (fun x=>It.i (gK x (It.mk Z1 Z1))) s) [] []]))),aj,aa (.inr (.inl (31,iR (mK dX))))]))) ?_ (by kernel_rfl)
  intro cx Z1 Z2 Z3 Z4 Z5 Z6 Z7 Z8 Z9 dX;subst dX Z9 Z8 Z7 Z6 Z5 Z4 Z3 Z2 Z1 cx;have hhl:h.length≤i:=by rw[← hh];have:=QG (l.take i) [];rw[dZ] at this;simp only[jN] at this;omega
  have Vn:k.length+f≤i:=by rw[← hk,← hf];have:=Ol (l.take i) [];rw[dZ] at this;omega
  have F7:s.length≤i:=by rw[← hs,Yd,dZ];omega
  simp only[RZ,FJ Op.ins an rfl,FJ (fun o=>o.it.k) 0 rfl,FJ (fun o=>o.it.i) 0 rfl,L_ It.k 0 rfl,L_ It.i 0 rfl,BQ,CR]
  refine⟨fun hc=>?_,fun hc=>?_⟩
  ·have cj:i<l.length:=by have:=of_decide_eq_true hc;omega
   have b1:(0:Int)≤(i:Int)/\(i:Int)<(l.length:Int)/\0+l.length≤l.length:=⟨by omega,by omega,by omega⟩
   have hd:l.drop i=l.getD i oz::l.drop (i+1):=by
    rw[List.drop_eq_getElem_cons cj,av,bd cj];rfl
   have ap:Ap (fin [] (l.take i)) (l.drop i):=E' (by rw[cQ];exact lQ hnd)
   rw[hh] at ap;have S0:∀ y:Option It,s.length+1=(s++[y]).length:=fun y=>by simp
   refine⟨⟨b1⟩,⟨cj⟩,fun e=>?_,fun e=>⟨fun h0=>?_,fun h0=>?_⟩⟩
   ·obtain⟨r1,r2,r3,r4⟩:=ahd cj e;rw[hh] at r1;rw[hk] at r2;rw[hf] at r3;rw[hs] at r4;rw[hd] at ap;have hn:=(ap.ins e).2.1;have hsi:=ad4 ap.ord hn;have N:0+h.length+1=(h++[(l.getD i oz).it]).length:=by simp
    have K1:=zb ij s aj an rfl;have K2:=zb (fun x:Option It=>(x.getD ⟨0,0⟩).k) s aj 0 rfl
    have K3:=zb (fun x:Option It=>(x.getD ⟨0,0⟩).i) s aj 0 rfl
    have S1:=S0 aj;simp only[El It.k h (l.getD i oz).it,El It.i h (l.getD i oz).it,K1,K2,K3,S0 aj];simp only[N,CR,hsi];refine⟨⟨by omega,by omega,by omega,by omega⟩,⟨b1⟩,⟨cj⟩,⟨by omega,by omega,by omega,by omega⟩,⟨⟨Nat.le_of_eq (bV _),trivial⟩,by trivial,by trivial,by simp;omega⟩,⟨by omega,by omega,by omega,by omega⟩,⟨by omega,by omega⟩,⟨i+1,cj,by omega,?_⟩⟩
    rw[r1,r2,r3,r4];exact⟨[0,10,2,12],rfl,⟨rfl,⟨_,rfl,.inl rfl⟩,⟨_,rfl,.inl rfl⟩,⟨_,rfl,.inl rfl⟩,trivial⟩,rfl,rfl,rfl,rfl⟩
   ·have h1:0<h.length:=by have:=of_decide_eq_true h0;omega
    obtain⟨r1,r2,r3,r4⟩:=agV cj e (by rw[hh];exact DL h1)
    rw[hh] at r1 r2 r4;rw[hk] at r2;rw[hf] at r3;rw[hs] at r4;have N:0+(h.length-1)=h.tail.length:=by rw[Fy];omega
    have N2:((h.length:Int)-1).toNat=h.length-1:=by omega
    have NK:k.length+1=(k++[h.getD 0 iz]).length:=by simp
    have c1:∀ v:Int,cut [v] 0 1=[v]:=fun _=>rfl
    have G1:=zb It.k k (h.getD 0 iz) _ rfl;have G2:=zb It.i k (h.getD 0 iz) _ rfl;have K1:=zb ij s (aa (h.getD 0 iz)) ao rfl;have K2:=zb (fun x:Option It=>(x.getD ⟨0,0⟩).k) s (aa (h.getD 0 iz)) (h.getD 0 iz).k rfl
    have K3:=zb (fun x:Option It=>(x.getD ⟨0,0⟩).i) s (aa (h.getD 0 iz)) (h.getD 0 iz).i rfl
    have T1:=ajW It.k h;have T2:=ajW It.i h;refine⟨⟨by omega,by omega,by omega⟩,⟨h1⟩,⟨by omega,by omega,by omega⟩,⟨h1⟩,⟨by omega,by omega,by omega,by omega⟩,⟨by trivial,by omega,by omega,by omega,by omega⟩,⟨by omega,by omega,by omega,by omega⟩,⟨by omega,by omega,by omega,by omega⟩,⟨by omega,by omega⟩,⟨i+1,cj,by omega,?_⟩⟩
    rw[r1,r2,r3,r4];simp only[N,N2,NK,c1,G1,G2,K1,K2,K3,T1,T2,S0 (aa (h.getD 0 iz))];exact⟨[0,8,6,10],rfl,⟨rfl,⟨_,rfl,.inl rfl⟩,⟨_,rfl,.inl rfl⟩,⟨_,rfl,.inl rfl⟩,trivial⟩,rfl,rfl,rfl,rfl⟩
   ·have h1:h=[]:=iN (by have:=of_decide_eq_false h0;omega)
    obtain⟨r1,r2,r3,r4⟩:=adm cj e (by rw[hh];exact h1)
    rw[hk] at r2;rw[hf] at r3;rw[hs] at r4;have K1:=zb ij s aj an rfl;have K2:=zb (fun x:Option It=>(x.getD ⟨0,0⟩).k) s aj 0 rfl
    have K3:=zb (fun x:Option It=>(x.getD ⟨0,0⟩).i) s aj 0 rfl
    have S1:=S0 aj;simp only[K1,K2,K3,S0 aj];subst h1;refine⟨⟨by omega,by omega⟩,⟨by omega,by omega,by omega,by omega⟩,⟨by omega,by omega⟩,⟨i+1,cj,by omega,?_⟩⟩
    rw[r1,r2,r3,r4];exact⟨[0,1,2,6],rfl,⟨rfl,⟨_,rfl,.inl rfl⟩,⟨_,rfl,.inl rfl⟩,⟨_,rfl,.inl rfl⟩,trivial⟩,rfl,rfl,rfl,rfl⟩
  ·obtain rfl:i=l.length:=by have:=of_decide_eq_false hc;omega
   rw[js] at hh hk hs hf;refine⟨⟨⟨by omega,trivial⟩,by trivial,by trivial,by omega⟩,⟨?_⟩⟩
   subst hh hk hs hf;subst hG;exact⟨[0,1,5,3],rfl,rfl,⟨rfl,⟨_,rfl,.inl rfl⟩,⟨_,rfl,.inl rfl⟩,⟨_,rfl,.inl rfl⟩,trivial⟩,rfl,rfl,rfl,rfl⟩
 ·cases hx
def hasB (l:List Op) (x:It):Bool:=l.any fun o=>o.ins&&decide (o.it=x)
theorem agC {l:List Op} {i:Nat} (h:i<l.length) (x:It):hasB (l.take (i+1)) x=(hasB (l.take i) x||((l.getD i oz).ins&&decide ((l.getD i oz).it=x))):=by
 rw[take_one h];unfold hasB;rw[List.any_append];simp
theorem Xz {l:List Op} {x:It}:hasB l x=ao↔x∈gx l:=by
 rw[DN];unfold hasB;rw[Oe]
 constructor
 ·rintro ⟨o,h1,h2⟩
  rw[aL,decide_eq_true_eq] at h2;exact⟨o,h1,h2.1,h2.2⟩
 ·rintro ⟨o,h1,h2,h3⟩
  exact⟨o,h1,by rw[h2,decide_eq_true h3];rfl⟩
abbrev bX {R:Type} (x:It):Option (SB R):=aa (.inl (31,[.int .i64 x.k,.int .i64 x.i]))
theorem Op.Q_ {a b:Op} (h:a.t=b.t) (h1:a.ins=b.ins) (h2:a.it=b.it):a=b:=by cases a;cases b;cases h;cases h1;cases h2;rfl
instance:DecidableEq Op:=fun a b=>decidable_of_iff (a.t=b.t/\a.ins=b.ins/\a.it=b.it) ⟨fun h=>Op.Q_ h.1 h.2.1 h.2.2,fun h=>by subst h;exact⟨rfl,rfl,rfl⟩⟩
theorem alH {a b:Op}:(a.t==b.t&&(a.ins==b.ins&&(a.it.k==b.it.k&&(a.it.i==b.it.i&&ao)&&ao)))=decide (a=b):=by
 rw[Bool.and_true,SZ,Bool.eq_iff_iff];simp only[aL,beq_iff_eq,decide_eq_true_eq];exact⟨fun h=>Op.Q_ h.1 h.2.1 h.2.2,fun h=>by subst h;exact⟨rfl,rfl,rfl⟩⟩
def aex {R:Type}:Prim R:=fun args hh=>match args,hh with
 |[.slice (aa ⟨0,0,aa 4000⟩) n c,.agg ⟨[.int .i64 a,.int .i64 b]⟩],[aa (.inr (.inr (.inl r)))]=>aa ⟨r=oR (uO r)/\n=(uO r).length/\(uO r).length≤100,.bool (hasB (uO r) ⟨a,b⟩),aj,hh,[],[]⟩
 |_,_=>aj
theorem aj8 {R:Type} {D:fH R}:b6 D Tryz.prog 55 (a9 aex):=by
 refine fj Tryz.f55 fun args hh x hx=>?_
 unfold aex at hx;split at hx
 ·rename_i n c a b r;cases hx;refine q4 fun _ hv=>?_
  obtain⟨hr,rfl,hb⟩:=hv;generalize uO r=l at *;subst hr
  generalize hG:ch (R:=R) _ _=G;refine cJ (T:=[]) trivial mixed 200 ?_;refine bK (q:=let Z1:=bk ar;At D Tryz.prog (dJ Tryz.f55) 1 (iE Tryz.prog (dA (dC Tryz.f55)) G) [.inl [1,0,1,0],.inr (.inl 0),.inl [1,1]] (SS.mk (aa (bx (aa ⟨0,0,aa 4000⟩) l.length c)::aa (bE (aO [Z1 a,Z1 b]))::aj::aa (aC (aa ⟨1,0,aj⟩))::aa (aD an)::aa (Z1 0)::nH (n4 ([]))) [(4,an)] [aa (.inr (.inr (.inl (oR l)))),aa (.inl (31,[Z1 a,Z1 b]))])) ?_ (by kernel_rfl)
  intro Z1;subst Z1;refine kH (by kernel_rfl) (ι:=Nat) (fun i=>i≤l.length/\hasB (l.take i) ⟨a,b⟩=an) [0,3,5] (fun i=>[.slice (aa ⟨0,0,aa 4000⟩) l.length c,.pointer (aa ⟨1,0,aj⟩),.int .i64 i]) (fun i=>[vO l,bX ⟨a,b⟩]) (fun i=>l.length-i) 26 (fun i hi=>⟨rfl,rfl,by simp⟩) ⟨0,⟨du _,rfl⟩,⟨[0,1],rfl,⟨rfl,.inl rfl,trivial⟩,rfl,rfl,rfl,rfl⟩⟩ fun i hi=>?_
  obtain⟨hi,hn⟩:=hi;refine cJ (T:=[]) trivial mixed 200 ?_;refine bK (q:=let Z2:=aC (aa ⟨1,0,aj⟩);let Z3:=bk ar;let Z1:=(ax (au Op.ins l) (0+(i:Int).toNat) an);(decide ((↑i:Int)<(↑l.length:Int))=ao->Vc ((0:Int)≤(↑i:Int)/\(↑i:Int)<(↑l.length:Int)/\0+ae l≤ae l)/\Vc (0+(i:Int).toNat<ae l)/\(ax (au Op.ins l) (0+(i:Int).toNat) an=ao->Vc ((0:Int)≤(↑i:Int)/\(↑i:Int)<(↑l.length:Int)/\0+ae l≤ae l)/\Vc (0+(i:Int).toNat<ae l)/\Vc (aD Z1=aD ao)/\Vc ((0:Int)≤(↑i:Int)/\(↑i:Int)<(↑l.length:Int)/\0+ae l≤ae l)/\Vc (0+(i:Int).toNat<ae l)/\((if an=ao then !(ax (au (fun o=>It.k (Op.it o)) l) (0+(i:Int).toNat) (0:Int)==a&&(ax (au (fun o=>It.i (Op.it o)) l) (0+(i:Int).toNat) (0:Int)==b&&ao)) else ax (au (fun o=>It.k (Op.it o)) l) (0+(i:Int).toNat) (0:Int)==a&&(ax (au (fun o=>It.i (Op.it o)) l) (0+(i:Int).toNat) (0:Int)==b&&ao))=ao->aW (G (aD ao) [aa (.inr (.inr (.inl (oR l)))),aa (.inl (31,[Z3 a,Z3 b]))]))/\((if an=ao then !(ax (au (fun o=>It.k (Op.it o)) l) (0+(i:Int).toNat) (0:Int)==a&&(ax (au (fun o=>It.i (Op.it o)) l) (0+(i:Int).toNat) (0:Int)==b&&ao)) else ax (au (fun o=>It.k (Op.it o)) l) (0+(i:Int).toNat) (0:Int)==a&&(ax (au (fun o=>It.i (Op.it o)) l) (0+(i:Int).toNat) (0:Int)==b&&ao))=an->Vc (fits ((↑i:Int)+(1:Int)))/\aW (∃ j,(j≤ae l/\hasB (gY j l) (It.mk a b)=an)/\ae l-j<ae l-i/\j6 R 1 26 [0,3,5] [.slice (aa ⟨0,0,aa 4000⟩) l.length c,Z2,Z3 (↑j:Int)] [vO l,bX (It.mk a b)] [aa (bx (aa ⟨0,0,aa 4000⟩) l.length c),aa (Z2),aa (Z3 ((↑i:Int)+(1:Int)))] [aa (.inr (.inr (.inl (oR l)))),aa (.inl (31,[Z3 a,Z3 b]))] 26)))/\(ax (au Op.ins l) (0+(i:Int).toNat) an=an->Vc ((0:Int)≤(↑i:Int)/\(↑i:Int)<(↑l.length:Int)/\0+ae l≤ae l)/\Vc (0+(i:Int).toNat<ae l)/\Vc (aD Z1=aD an)/\Vc (fits ((↑i:Int)+(1:Int)))/\aW (∃ j,(j≤ae l/\hasB (gY j l) (It.mk a b)=an)/\ae l-j<ae l-i/\j6 R 1 26 [0,3,5] [.slice (aa ⟨0,0,aa 4000⟩) l.length c,Z2,Z3 (↑j:Int)] [vO l,bX (It.mk a b)] [aa (bx (aa ⟨0,0,aa 4000⟩) l.length c),aa (Z2),aa (Z3 ((↑i:Int)+(1:Int)))] [aa (.inr (.inr (.inl (oR l)))),aa (.inl (31,[Z3 a,Z3 b]))] 26)))/\(decide ((↑i:Int)<(↑l.length:Int))=an->aW (G (aD an) [aa (.inr (.inr (.inl (oR l)))),aa (.inl (31,[Z3 a,Z3 b]))]))) ?_ (by kernel_rfl)
  intro Z2 Z3 Z1;subst Z1 Z3 Z2;have hx:=SZ (a:=(l.getD i oz).it) (b:=⟨a,b⟩);simp only at hx;simp only[RZ,FJ Op.ins an rfl,FJ (fun o=>o.it.k) 0 rfl,FJ (fun o=>o.it.i) 0 rfl,fO,if_false,hx]
  refine⟨fun h=>?_,fun h=>⟨?_⟩⟩
  ·have cj:i<l.length:=by have:=of_decide_eq_true h;omega
   have b1:(0:Int)≤(i:Int)/\(i:Int)<(l.length:Int)/\0+l.length≤l.length:=⟨by omega,by omega,by omega⟩
   have h1:=agC cj ⟨a,b⟩;rw[hn,Bool.false_or] at h1;refine⟨⟨b1⟩,⟨cj⟩,fun h2=>⟨⟨b1⟩,⟨cj⟩,⟨congrArg aD h2⟩,⟨b1⟩,⟨cj⟩,fun h3=>⟨?_⟩,fun h3=>⟨⟨by omega,by omega⟩,⟨i+1,⟨cj,by rw[h1,h2,h3];rfl⟩,by omega,⟨[0,1],rfl,⟨rfl,.inl rfl,trivial⟩,rfl,rfl,rfl,rfl⟩⟩⟩⟩,fun h2=>⟨⟨b1⟩,⟨cj⟩,⟨congrArg aD h2⟩,⟨by omega,by omega⟩,⟨i+1,⟨cj,by rw[h1,h2];rfl⟩,by omega,⟨[0,1],rfl,⟨rfl,.inl rfl,trivial⟩,rfl,rfl,rfl,rfl⟩⟩⟩⟩
   have e:hasB l ⟨a,b⟩=ao:=by
    have:hasB (l.take (i+1)) ⟨a,b⟩=ao:=by rw[h1,h2,h3];rfl
    unfold hasB at this ⊢;rw[Oe] at this ⊢;obtain⟨o,g1,g2⟩:=this;exact⟨o,ph g1,g2⟩
   subst hG;rw[e];exact⟨[0],rfl,rfl,⟨rfl,trivial⟩,rfl,rfl,rfl,rfl⟩
  ·obtain rfl:i=l.length:=by have:=of_decide_eq_false h;omega
   rw[js] at hn;subst hG;rw[hn];exact⟨[0],rfl,rfl,⟨rfl,trivial⟩,rfl,rfl,rfl,rfl⟩
 ·cases hx
def aer {R:Type}:Prim R:=fun args hh=>match args,hh with
 |[.slice (aa ⟨0,0,aa 4000⟩) n c,.slice (aa ⟨1,0,aa 4000⟩) n' c'],[aa (.inr (.inr (.inl r))),aa (.inr (.inr (.inl r')))]=>aa ⟨r=oR (uO r)/\n=(uO r).length/\r'=oR (uO r')/\n'=(uO r').length/\(uO r).length≤100000,.bool (decide (uO r=uO r')),aj,hh,[],[]⟩
 |_,_=>aj
theorem akZ {R:Type} {D:fH R}:b6 D Tryz.prog 28 (a9 aer):=by
 refine fj Tryz.f28 fun args hh x hx=>?_
 unfold aer at hx;split at hx
 ·rename_i n c n' c' r r';cases hx;refine q4 fun _ hv=>?_
  obtain⟨hr,rfl,tY,rfl,hb⟩:=hv;generalize uO r=l at *;generalize uO r'=l' at *;subst hr;subst tY
  generalize hG:ch (R:=R) _ _=G;refine cJ (T:=[]) trivial mixed 200 ?_;refine bK (q:=let Z1:=(bx (aa ⟨0,0,aa 4000⟩) l.length c);let Z2:=(bx (aa ⟨1,0,aa 4000⟩) (ae l') c');(((↑l.length:Int) != (↑(ae l'):Int))=ao->aW (G (aD an) [aa (.inr (.inr (.inl (oR l)))),aa (.inr (.inr (.inl (oR l'))))]))/\(((↑l.length:Int) != (↑(ae l'):Int))=an->At D Tryz.prog (dJ Tryz.f28) 2 (iE Tryz.prog (dA (dC Tryz.f28)) G) [.inl [1,1,0,1,0],.inr (.inl 0),.inl [1,1,1]] (SS.mk (aa Z1::aa Z2::aj::aj::aa (aD an)::aa (bk ar 0)::aa Z1::aa (bk ar (↑l.length:Int))::aa Z2::aa (bk ar (↑(ae l'):Int))::aa (aD an)::n4 (n4 (n4 (aj::aj::aj::[])))) [(10,an),(4,an)] [aa (.inr (.inr (.inl (oR l)))),aa (.inr (.inr (.inl (oR l'))))]))) ?_ (by kernel_rfl)
  intro Z1 Z2;subst Z2 Z1;refine⟨fun h=>⟨?_⟩,fun h=>?_⟩
  ·have h2:¬ l=l':=fun e=>by rw[e,bne_self_eq_false] at h;cases h
   subst hG;rw[decide_eq_false h2];exact⟨[0,1],rfl,rfl,⟨rfl,rfl,trivial⟩,rfl,rfl,rfl,rfl⟩
  have hl:l.length=l'.length:=by have:=(bne_eq_false_iff_eq).1 h;omega
  clear h;refine kH (by kernel_rfl) (ι:=Nat) (fun i=>i≤l.length/\∀ j,j<i->l.getD j oz=l'.getD j oz) [0,1,5] (fun i=>[.slice (aa ⟨0,0,aa 4000⟩) l.length c,.slice (aa ⟨1,0,aa 4000⟩) l'.length c',.int .i64 i]) (fun i=>[vO l,vO l']) (fun i=>l.length-i) 26 (fun i hi=>⟨rfl,rfl,by simp⟩) ⟨0,⟨du _,fun j hj=>by omega⟩,⟨[0,1],rfl,⟨rfl,rfl,trivial⟩,rfl,rfl,rfl,rfl⟩⟩ fun i hi=>?_
  obtain⟨hi,hn⟩:=hi;refine cJ (T:=[]) trivial mixed 200 ?_;refine bK (q:=(decide ((↑i:Int)<(↑l.length:Int))=ao->Vc ((0:Int)≤(↑i:Int)/\(↑i:Int)<(↑l.length:Int)/\0+ae l≤ae l)/\Vc (0+(i:Int).toNat<ae l)/\Vc ((0:Int)≤(↑i:Int)/\(↑i:Int)<(↑(ae l'):Int)/\0+ae l'≤ae l')/\Vc (0+(i:Int).toNat<ae l')/\((if ao=ao then !(ax (au Op.t l) (0+(i:Int).toNat) (0:Int)==ax (au Op.t l') (0+(i:Int).toNat) (0:Int)&&(ax (au Op.ins l) (0+(i:Int).toNat) an==ax (au Op.ins l') (0+(i:Int).toNat) an&&(ax (au (fun o=>It.k (Op.it o)) l) (0+(i:Int).toNat) (0:Int)==ax (au (fun o=>It.k (Op.it o)) l') (0+(i:Int).toNat) (0:Int)&&(ax (au (fun o=>It.i (Op.it o)) l) (0+(i:Int).toNat) (0:Int)==ax (au (fun o=>It.i (Op.it o)) l') (0+(i:Int).toNat) (0:Int)&&ao)&&ao))) else ax (au Op.t l) (0+(i:Int).toNat) (0:Int)==ax (au Op.t l') (0+(i:Int).toNat) (0:Int)&&(ax (au Op.ins l) (0+(i:Int).toNat) an==ax (au Op.ins l') (0+(i:Int).toNat) an&&(ax (au (fun o=>It.k (Op.it o)) l) (0+(i:Int).toNat) (0:Int)==ax (au (fun o=>It.k (Op.it o)) l') (0+(i:Int).toNat) (0:Int)&&(ax (au (fun o=>It.i (Op.it o)) l) (0+(i:Int).toNat) (0:Int)==ax (au (fun o=>It.i (Op.it o)) l') (0+(i:Int).toNat) (0:Int)&&ao)&&ao)))=ao->aW (G (aD an) [aa (.inr (.inr (.inl (oR l)))),aa (.inr (.inr (.inl (oR l'))))]))/\((if ao=ao then !(ax (au Op.t l) (0+(i:Int).toNat) (0:Int)==ax (au Op.t l') (0+(i:Int).toNat) (0:Int)&&(ax (au Op.ins l) (0+(i:Int).toNat) an==ax (au Op.ins l') (0+(i:Int).toNat) an&&(ax (au (fun o=>It.k (Op.it o)) l) (0+(i:Int).toNat) (0:Int)==ax (au (fun o=>It.k (Op.it o)) l') (0+(i:Int).toNat) (0:Int)&&(ax (au (fun o=>It.i (Op.it o)) l) (0+(i:Int).toNat) (0:Int)==ax (au (fun o=>It.i (Op.it o)) l') (0+(i:Int).toNat) (0:Int)&&ao)&&ao))) else ax (au Op.t l) (0+(i:Int).toNat) (0:Int)==ax (au Op.t l') (0+(i:Int).toNat) (0:Int)&&(ax (au Op.ins l) (0+(i:Int).toNat) an==ax (au Op.ins l') (0+(i:Int).toNat) an&&(ax (au (fun o=>It.k (Op.it o)) l) (0+(i:Int).toNat) (0:Int)==ax (au (fun o=>It.k (Op.it o)) l') (0+(i:Int).toNat) (0:Int)&&(ax (au (fun o=>It.i (Op.it o)) l) (0+(i:Int).toNat) (0:Int)==ax (au (fun o=>It.i (Op.it o)) l') (0+(i:Int).toNat) (0:Int)&&ao)&&ao)))=an->Vc (fits ((↑i:Int)+(1:Int)))/\aW (∃ j,(j≤ae l/\∀ (L3:Nat),L3<j->ax l L3 oz=ax l' L3 oz)/\ae l-j<ae l-i/\j6 R 2 26 [0,1,5] [.slice (aa ⟨0,0,aa 4000⟩) l.length c,.slice (aa ⟨1,0,aa 4000⟩) (ae l') c',.int ar (↑j:Int)] [vO l,vO l'] [aa (bx (aa ⟨0,0,aa 4000⟩) l.length c),aa (bx (aa ⟨1,0,aa 4000⟩) (ae l') c'),aa (bk ar ((↑i:Int)+(1:Int)))] [aa (.inr (.inr (.inl (oR l)))),aa (.inr (.inr (.inl (oR l'))))] 26)))/\(decide ((↑i:Int)<(↑l.length:Int))=an->aW (G (aD ao) [aa (.inr (.inr (.inl (oR l)))),aa (.inr (.inr (.inl (oR l'))))]))) ?_ (by kernel_rfl)
  have hx:=alH (a:=l.getD i oz) (b:=l'.getD i oz);simp only[RZ,FJ Op.t 0 rfl,FJ Op.ins an rfl,FJ (fun o=>o.it.k) 0 rfl,FJ (fun o=>o.it.i) 0 rfl,if_true,hx]
  refine⟨fun h=>?_,fun h=>?_⟩
  ·have cj:i<l.length:=by have:=of_decide_eq_true h;omega
   have Un:i<l'.length:=by omega
   refine⟨⟨by omega,by omega,by omega⟩,⟨cj⟩,⟨by omega,by omega,by omega⟩,⟨Un⟩,fun h2=>⟨?_⟩,fun h2=>⟨⟨by omega,by omega⟩,⟨i+1,⟨cj,fun j hj=>?_⟩,by omega,⟨[0,1],rfl,⟨rfl,rfl,trivial⟩,rfl,rfl,rfl,rfl⟩⟩⟩⟩
   ·have h3:¬ l.getD i oz=l'.getD i oz:=by simpa using h2
    have h4:¬ l=l':=fun e=>h3 (by rw[e])
    subst hG;rw[decide_eq_false h4];exact⟨[0,1],rfl,rfl,⟨rfl,rfl,trivial⟩,rfl,rfl,rfl,rfl⟩
   ·have h3:l.getD i oz=l'.getD i oz:=by simpa using h2
    rcases cr j i with c|c
    ·exact hn j c
    ·rw[show j=i by omega];exact h3
  ·obtain rfl:i=l.length:=by have:=of_decide_eq_false h;omega
   have e:l=l':=List.ext_getElem hl fun j h1 h2=>by
    have:=hn j h1
    rwa [av,bd h1,av,bd h2] at this
   refine⟨?_⟩;subst hG;rw[decide_eq_true e];exact⟨[0,1],rfl,rfl,⟨rfl,rfl,trivial⟩,rfl,rfl,rfl,rfl⟩
 ·cases hx
def kh (old now:List It) (i:Nat):List It:=(now.take i).filter fun x=>!nK x old
abbrev qk (old now:List It):List It:=kh old now now.length
theorem OA {old now:List It} {i:Nat} (h:i<now.length):kh old now (i+1)=if nK (now.getD i iz) old=ao then kh old now i else kh old now i++[now.getD i iz]:=by
 unfold kh;rw[zf h,mh,av,bd h];simp only[Option.getD_some,jS,List.filter_nil];cases nK now[i] old<;>simp
theorem PZ (old now:List It) (i:Nat):(kh old now i).length≤now.length:=by
 unfold kh;have h1:=rj (fun x=>!nK x old) (now.take i)
 rw[dZ] at h1;omega
theorem JN {l:List It} {x:It}:OM l x<0↔nK x l=an:=by
 unfold OM;cases nK x l
 ·simp
 ·simp
abbrev bC {R:Type} (a b:Value):Option (SB R):=aa (.inl (59,[a,b]))
def TCh {R:Type}:ez R:=[(50,tG z0 2 (a9 atP))]
theorem TY {R:Type} {D:fH R}:cL D Tryz.prog (TCh:ez R):=⟨nU _ _ alP,trivial⟩
def adT {R:Type}:Prim R:=fun args hh=>match args,hh with
 |[.slice (aa ⟨0,0,aa 2000⟩) n c,.slice (aa ⟨1,0,aa 2000⟩) n' c'],[aa (.inr (.inr (.inl r))),aa (.inr (.inr (.inl r')))]=>aa ⟨r=iR (fZ r)/\n=(fZ r).length/\r'=iR (fZ r')/\n'=(fZ r').length/\(fZ r).length≤100/\(fZ r').length≤100,.agg ⟨[.slice (aa ⟨2,0,aa 2000⟩) (qk (fZ r) (fZ r')).length 0,.slice (aa ⟨3,0,aa 2000⟩) (qk (fZ r') (fZ r)).length 0]⟩,aj,[aa (.inr (.inr (.inl r))),aa (.inr (.inr (.inl r'))),oI (qk (fZ r) (fZ r')),oI (qk (fZ r') (fZ r))],[],[(0,0)]⟩
 |_,_=>aj
theorem aih {R:Type} {D:fH R}:b6 D Tryz.prog 58 (a9 adT):=by
 refine fj Tryz.f58 fun args hh x hx=>?_
 unfold adT at hx;split at hx
 ·rename_i n c n' c' r r';cases hx;refine q4 fun _ hv=>?_
  obtain⟨hr,rfl,tY,rfl,hb,qm⟩:=hv;generalize fZ r=l at *;generalize fZ r'=l' at *;subst hr;subst tY
  generalize hG:ch (R:=R) _ _=G;refine cJ (T:=TCh) TY mixed 200 ?_;refine bK (q:=At D Tryz.prog (dJ Tryz.f58) 2 (iE Tryz.prog (dA (dC Tryz.f58)) G) [.inl [1,1,0,1,0],.inr (.inl 0),.inl [1,1,1]] (SS.mk (aa (bx (aa ⟨0,0,aa 2000⟩) l.length c)::aa (bx (aa ⟨1,0,aa 2000⟩) (ae l') c')::aj::aj::aa (aC (aa ⟨2,0,aj⟩))::aa (aC (aa ⟨3,0,aj⟩))::aa (bk ar 0)::nH (nH (n4 (n4 (n4 (aj::aj::[])))))) [] [aa (.inr (.inr (.inl (iR l)))),aa (.inr (.inr (.inl (iR l')))),aa (.inl (59,[.slice aj 0 0,.slice aj 0 0])),aa (.inl (59,[.slice aj 0 0,.slice aj 0 0]))])) ?_ (by kernel_rfl)
  refine kH (by kernel_rfl) (ι:=Nat) (fun i=>i≤l'.length) [0,1,4,5,6] (fun i=>[.slice (aa ⟨0,0,aa 2000⟩) l.length c,.slice (aa ⟨1,0,aa 2000⟩) l'.length c',.pointer (aa ⟨2,0,aj⟩),.pointer (aa ⟨3,0,aj⟩),.int .i64 i]) (fun i=>[vI l,vI l',bC (.slice aj 0 0) (.slice aj 0 0),bC (.slice (aa ⟨4,0,aa 2000⟩) (kh l l' i).length 0) (.slice aj 0 0),oI (kh l l' i)]) (fun i=>l'.length-i) 53 (fun i hi=>⟨rfl,rfl,by simp⟩) ⟨0,du _,⟨[0,1,2,3,99],rfl,⟨rfl,rfl,.inl rfl,.inl rfl,⟨rfl,iG _,rfl⟩,trivial⟩,rfl,rfl,rfl,rfl⟩⟩ fun i hi=>?_
  refine cJ (T:=TCh) TY mixed 200 ?_;refine bK (q:=let Z8:=aC (aa ⟨3,0,aj⟩);let Z9:=aC (aa ⟨2,0,aj⟩);let dX:=bk ar;let Z1:=(fZ (nA l 0 l.length));let Z2:=(OM Z1 (It.mk (ax (au It.k l') (0+(i:Int).toNat) (0:Int)) (ax (au It.i l') (0+(i:Int).toNat) (0:Int)))<(0:Int));let Z3:=(bx aj 0 0);let Z4:=(bx (aa ⟨0,0,aa 2000⟩) l.length c);let Z5:=(bx (aa ⟨1,0,aa 2000⟩) (ae l') c');let Z6:=(Z9);let Z7:=(Z8);(decide ((↑i:Int)<(↑(ae l'):Int))=ao->Vc ((0:Int)≤(↑i:Int)/\(↑i:Int)<(↑(ae l'):Int)/\0+ae l'≤ae l')/\Vc (0+(i:Int).toNat<ae l')/\Vc ((0+ae l≤ae l/\True)/\nA l 0 l.length=iR Z1/\ae l=ae Z1/\ae Z1≤100000)/\(decide Z2=ao->Vc ((0:Int)≤(↑i:Int)/\(↑i:Int)<(↑(ae l'):Int)/\0+ae l'≤ae l')/\Vc (0+(i:Int).toNat<ae l')/\Vc (0+ae (kh l l' i)≤ae (kh l l' i)/\1≤1/\(ae (kh l l' i)+1)*16≤140737488355328/\ae (kh l l' i)+1≤140737488355328)/\Vc (fits ((↑i:Int)+(1:Int)))/\aW (∃ j,j≤ae l'/\ae l'-j<ae l'-i/\j6 R 2 53 [0,1,4,5,6] [.slice (aa ⟨0,0,aa 2000⟩) l.length c,.slice (aa ⟨1,0,aa 2000⟩) (ae l') c',Z9,Z8,dX (↑j:Int)] [I3 l,I3 l',bC Z3 Z3,bC (bx (aa ⟨4,0,aa 2000⟩) (ae (kh l l' j)) 0) Z3,oI (kh l l' j)] [aa Z4,aa Z5,aa Z6,aa Z7,aa (dX ((↑i:Int)+(1:Int)))] [aa (.inr (.inr (.inl (iR l)))),aa (.inr (.inr (.inl (iR l')))),aa (.inl (59,[.slice aj 0 0,.slice aj 0 0])),aa (.inl (59,[.slice (aa ⟨6,0,aa 2000⟩) (ae (kh l l' i)+1) 0,.slice aj 0 0])),aj,aa (.inr (.inl (31,Row.mk [dX 0,dX 0] 1 [aX.mk [ax (au It.k l') (0+(i:Int).toNat) (0:Int)] [] [],aX.mk [ax (au It.i l') (0+(i:Int).toNat) (0:Int)] [] []]))),aa (.inr (.inl (31,Row.mk [dX 0,dX 0] (ae (kh l l' i)+1) [aX.mk (cut (au It.k (kh l l' i)) 0 (ae (kh l l' i))++cut [ax (au It.k l') (0+(i:Int).toNat) (0:Int)] 0 1) [] [],aX.mk (cut (au It.i (kh l l' i)) 0 (ae (kh l l' i))++cut [ax (au It.i l') (0+(i:Int).toNat) (0:Int)] 0 1) [] []])))] 53))/\(decide Z2=an->Vc (fits ((↑i:Int)+(1:Int)))/\aW (∃ j,j≤ae l'/\ae l'-j<ae l'-i/\j6 R 2 53 [0,1,4,5,6] [.slice (aa ⟨0,0,aa 2000⟩) l.length c,.slice (aa ⟨1,0,aa 2000⟩) (ae l') c',Z9,Z8,dX (↑j:Int)] [I3 l,I3 l',bC Z3 Z3,bC (bx (aa ⟨4,0,aa 2000⟩) (ae (kh l l' j)) 0) Z3,oI (kh l l' j)] [aa Z4,aa Z5,aa Z6,aa Z7,aa (dX ((↑i:Int)+(1:Int)))] [aa (.inr (.inr (.inl (iR l)))),aa (.inr (.inr (.inl (iR l')))),aa (.inl (59,[.slice aj 0 0,.slice aj 0 0])),aa (.inl (59,[.slice (aa ⟨4,0,aa 2000⟩) (ae (kh l l' i)) 0,.slice aj 0 0])),aa (.inr (.inl (31,iR (kh l l' i))))] 53)))/\(decide ((↑i:Int)<(↑(ae l'):Int))=an->At D Tryz.prog (dJ Tryz.f58) 2 (iE Tryz.prog (dA (dC Tryz.f58)) G) [.inl [1,1,1,0,1,0],.inr (.inl 2),.inl [1,1,1,1]] (SS.mk (aa Z4::aa Z5::aj::aj::aa Z6::aa Z7::aa (dX (↑i:Int))::aa (dX 0)::aa (dX (↑i:Int))::aa Z5::aa (dX (↑(ae l'):Int))::aa (aD an)::nH (nH (n4 (n4 (aj::[]))))) [(11,an)] [aa (.inr (.inr (.inl (iR l)))),aa (.inr (.inr (.inl (iR l')))),aa (.inl (59,[.slice aj 0 0,.slice aj 0 0])),aa (.inl (59,[.slice (aa ⟨4,0,aa 2000⟩) (ae (kh l l' i)) 0,.slice aj 0 0])),aa (.inr (.inl (31,iR (kh l l' i))))]))) ?_ (by kernel_rfl)
  intro Z8 Z9 dX Z1 Z2 Z3 Z4 Z5 Z6 Z7;subst Z7 Z6 Z5 Z4 Z3 Z2 Z1 dX Z9 Z8;have ce:∀ v:Int,cut [v] 0 1=[v]:=fun _=>rfl
  have R6:=PZ l l' i;simp only[TP,L_ It.k 0 rfl,L_ It.i 0 rfl,ag7,BQ,CR,ce];refine⟨fun h=>?_,fun h=>?_⟩
  ·skip
   have cj:i<l'.length:=by have:=of_decide_eq_true h;omega
   have b1:(0:Int)≤(i:Int)/\(i:Int)<(l'.length:Int)/\0+l'.length≤l'.length:=⟨by omega,by omega,by omega⟩
   refine⟨⟨b1⟩,⟨cj⟩,⟨⟨by omega,trivial⟩,by trivial,by trivial,by omega⟩,fun h2=>⟨⟨b1⟩,⟨cj⟩,⟨by omega,by omega,by omega,by omega⟩,⟨by omega,by omega⟩,⟨i+1,cj,by omega,?_⟩⟩,fun h2=>⟨⟨by omega,by omega⟩,⟨i+1,cj,by omega,?_⟩⟩⟩
   ·have j8:=JN.1 (of_decide_eq_true h2);have e:kh l l' (i+1)=kh l l' i++[l'.getD i iz]:=by rw[OA cj,if_neg (by rw[j8];decide)]
    have G1:=zb It.k (kh l l' i) (l'.getD i iz) _ rfl;have G2:=zb It.i (kh l l' i) (l'.getD i iz) _ rfl;have NK:(kh l l' i).length+1=(kh l l' i++[l'.getD i iz]).length:=by simp
    rw[e];simp only[G1,G2,NK];exact⟨[0,1,2,3,6],rfl,⟨rfl,rfl,.inl rfl,.inl rfl,⟨_,rfl,.inl rfl⟩,trivial⟩,rfl,rfl,rfl,rfl⟩
   ·have j8:nK (l'.getD i iz) l=ao:=by
     cases c:nK (l'.getD i iz) l
     ·exact absurd (JN.2 c) (of_decide_eq_false h2)
     ·rfl
    rw[OA cj,if_pos j8];exact⟨[0,1,2,3,4],rfl,⟨rfl,rfl,.inl rfl,.inl rfl,⟨_,rfl,.inl rfl⟩,trivial⟩,rfl,rfl,rfl,rfl⟩
  obtain rfl:i=l'.length:=by have:=of_decide_eq_false h;omega
  refine kH (by kernel_rfl) (ι:=Nat) (fun i=>i≤l.length) [0,1,4,5,7] (fun i=>[.slice (aa ⟨0,0,aa 2000⟩) l.length c,.slice (aa ⟨1,0,aa 2000⟩) l'.length c',.pointer (aa ⟨2,0,aj⟩),.pointer (aa ⟨3,0,aj⟩),.int .i64 i]) (fun i=>[vI l,vI l',bC (.slice aj 0 0) (.slice aj 0 0),bC (.slice (aa ⟨4,0,aa 2000⟩) (kh l l' l'.length).length 0) (.slice (aa ⟨5,0,aa 2000⟩) (kh l' l i).length 0),oI (kh l l' l'.length),oI (kh l' l i)]) (fun i=>l.length-i) 53 (fun i hi=>⟨rfl,rfl,by simp⟩) ⟨0,du _,⟨[0,1,2,3,4,99],rfl,⟨rfl,rfl,.inl rfl,.inl rfl,⟨_,rfl,.inl rfl⟩,⟨rfl,iG _,rfl⟩,trivial⟩,rfl,rfl,rfl,rfl⟩⟩ fun i hi=>?_
  refine cJ (T:=TCh) TY mixed 200 ?_;refine bK (q:=let Z6:=aC (aa ⟨3,0,aj⟩);let Z7:=aC (aa ⟨2,0,aj⟩);let Z8:=bk ar;let Z1:=(ae l');let Z2:=(OM (fZ (nA l' 0 Z1)) (It.mk (ax (au It.k l) (0+(i:Int).toNat) (0:Int)) (ax (au It.i l) (0+(i:Int).toNat) (0:Int)))<(0:Int));let Z3:=(ae (kh l l' Z1));let Z4:=(bx (aa ⟨0,0,aa 2000⟩) l.length c);let Z5:=(ae (kh l' l i));(decide ((↑i:Int)<(↑l.length:Int))=ao->Vc ((0:Int)≤(↑i:Int)/\(↑i:Int)<(↑l.length:Int)/\0+ae l≤ae l)/\Vc (0+(i:Int).toNat<ae l)/\Vc ((0+ae l'≤ae l'/\True)/\nA l' 0 Z1=iR (fZ (nA l' 0 Z1))/\ae l'=ae (fZ (nA l' 0 Z1))/\ae (fZ (nA l' 0 Z1))≤100000)/\(decide Z2=ao->Vc ((0:Int)≤(↑i:Int)/\(↑i:Int)<(↑l.length:Int)/\0+ae l≤ae l)/\Vc (0+(i:Int).toNat<ae l)/\Vc (0+ae (kh l' l i)≤ae (kh l' l i)/\1≤1/\(ae (kh l' l i)+1)*16≤140737488355328/\ae (kh l' l i)+1≤140737488355328)/\Vc (fits ((↑i:Int)+(1:Int)))/\aW (∃ j,j≤ae l/\ae l-j<ae l-i/\j6 R 2 53 [0,1,4,5,7] [.slice (aa ⟨0,0,aa 2000⟩) l.length c,.slice (aa ⟨1,0,aa 2000⟩) Z1 c',Z7,Z6,Z8 (↑j:Int)] [I3 l,I3 l',bC (bx aj 0 0) (bx aj 0 0),bC (bx (aa ⟨4,0,aa 2000⟩) Z3 0) (bx (aa ⟨5,0,aa 2000⟩) (ae (kh l' l j)) 0),oI (kh l l' Z1),oI (kh l' l j)] [aa Z4,aa (bx (aa ⟨1,0,aa 2000⟩) Z1 c'),aa (Z7),aa (Z6),aa (Z8 ((↑i:Int)+(1:Int)))] [aa (.inr (.inr (.inl (iR l)))),aa (.inr (.inr (.inl (iR l')))),aa (.inl (59,[.slice aj 0 0,.slice aj 0 0])),aa (.inl (59,[.slice (aa ⟨4,0,aa 2000⟩) Z3 0,.slice (aa ⟨7,0,aa 2000⟩) (ae (kh l' l i)+1) 0])),aa (.inr (.inl (31,iR (kh l l' Z1)))),aj,aa (.inr (.inl (31,Row.mk [Z8 0,Z8 0] 1 [aX.mk [ax (au It.k l) (0+(i:Int).toNat) (0:Int)] [] [],aX.mk [ax (au It.i l) (0+(i:Int).toNat) (0:Int)] [] []]))),aa (.inr (.inl (31,Row.mk [Z8 0,Z8 0] (ae (kh l' l i)+1) [aX.mk (cut (au It.k (kh l' l i)) 0 Z5++cut [ax (au It.k l) (0+(i:Int).toNat) (0:Int)] 0 1) [] [],aX.mk (cut (au It.i (kh l' l i)) 0 Z5++cut [ax (au It.i l) (0+(i:Int).toNat) (0:Int)] 0 1) [] []])))] 53))/\(decide Z2=an->Vc (fits ((↑i:Int)+(1:Int)))/\aW (∃ j,j≤ae l/\ae l-j<ae l-i/\j6 R 2 53 [0,1,4,5,7] [.slice (aa ⟨0,0,aa 2000⟩) l.length c,.slice (aa ⟨1,0,aa 2000⟩) Z1 c',Z7,Z6,Z8 (↑j:Int)] [I3 l,I3 l',bC (bx aj 0 0) (bx aj 0 0),bC (bx (aa ⟨4,0,aa 2000⟩) Z3 0) (bx (aa ⟨5,0,aa 2000⟩) (ae (kh l' l j)) 0),oI (kh l l' Z1),oI (kh l' l j)] [aa Z4,aa (bx (aa ⟨1,0,aa 2000⟩) Z1 c'),aa (Z7),aa (Z6),aa (Z8 ((↑i:Int)+(1:Int)))] [aa (.inr (.inr (.inl (iR l)))),aa (.inr (.inr (.inl (iR l')))),aa (.inl (59,[.slice aj 0 0,.slice aj 0 0])),aa (.inl (59,[.slice (aa ⟨4,0,aa 2000⟩) Z3 0,.slice (aa ⟨5,0,aa 2000⟩) Z5 0])),aa (.inr (.inl (31,iR (kh l l' Z1)))),aa (.inr (.inl (31,iR (kh l' l i))))] 53)))/\(decide ((↑i:Int)<(↑l.length:Int))=an->aW (G (bE (aO [.slice (aa ⟨4,0,aa 2000⟩) Z3 0,.slice (aa ⟨5,0,aa 2000⟩) Z5 0])) [aa (.inr (.inr (.inl (iR l)))),aa (.inr (.inr (.inl (iR l')))),aa (.inl (59,[.slice (aa ⟨4,0,aa 2000⟩) Z3 0,.slice (aa ⟨5,0,aa 2000⟩) Z5 0])),aa (.inl (59,[.slice (aa ⟨4,0,aa 2000⟩) Z3 0,.slice (aa ⟨5,0,aa 2000⟩) Z5 0])),aa (.inr (.inl (31,iR (kh l l' Z1)))),aa (.inr (.inl (31,iR (kh l' l i))))]))) ?_ (by kernel_rfl)
  intro Z6 Z7 Z8 Z1 Z2 Z3 Z4 Z5;subst Z5 Z4 Z3 Z2 Z1 Z8 Z7 Z6;have R6:=PZ l' l i;simp only[TP,L_ It.k 0 rfl,L_ It.i 0 rfl,BQ,CR,ce];refine⟨fun h=>?_,fun h=>⟨?_⟩⟩
  ·have cj:i<l.length:=by have:=of_decide_eq_true h;omega
   have b1:(0:Int)≤(i:Int)/\(i:Int)<(l.length:Int)/\0+l.length≤l.length:=⟨by omega,by omega,by omega⟩
   refine⟨⟨b1⟩,⟨cj⟩,⟨⟨by omega,trivial⟩,by trivial,by trivial,by omega⟩,fun h2=>⟨⟨b1⟩,⟨cj⟩,⟨by omega,by omega,by omega,by omega⟩,⟨by omega,by omega⟩,⟨i+1,cj,by omega,?_⟩⟩,fun h2=>⟨⟨by omega,by omega⟩,⟨i+1,cj,by omega,?_⟩⟩⟩
   ·have j8:=JN.1 (of_decide_eq_true h2);have e:kh l' l (i+1)=kh l' l i++[l.getD i iz]:=by rw[OA cj,if_neg (by rw[j8];decide)]
    have G1:=zb It.k (kh l' l i) (l.getD i iz) _ rfl;have G2:=zb It.i (kh l' l i) (l.getD i iz) _ rfl;have NK:(kh l' l i).length+1=(kh l' l i++[l.getD i iz]).length:=by simp
    rw[e];simp only[G1,G2,NK];exact⟨[0,1,2,3,4,7],rfl,⟨rfl,rfl,.inl rfl,.inl rfl,⟨_,rfl,.inl rfl⟩,⟨_,rfl,.inl rfl⟩,trivial⟩,rfl,rfl,rfl,rfl⟩
   ·have j8:nK (l.getD i iz) l'=ao:=by
     cases c:nK (l.getD i iz) l'
     ·exact absurd (JN.2 c) (of_decide_eq_false h2)
     ·rfl
    rw[OA cj,if_pos j8];exact⟨[0,1,2,3,4,5],rfl,⟨rfl,rfl,.inl rfl,.inl rfl,⟨_,rfl,.inl rfl⟩,⟨_,rfl,.inl rfl⟩,trivial⟩,rfl,rfl,rfl,rfl⟩
  ·obtain rfl:i=l.length:=by have:=of_decide_eq_false h;omega
   subst hG;exact⟨[0,1,4,5],rfl,rfl,⟨rfl,rfl,⟨_,rfl,.inl rfl⟩,⟨_,rfl,.inl rfl⟩,trivial⟩,rfl,rfl,rfl,rfl⟩
 ·cases hx
end Pa
namespace Rx
set_option maxRecDepth 100000
def wx (a n:Int):Int:=((a.tmod n)+n).tmod n
theorem LU {a n:Int} (h:0<n):0≤wx a n/\wx a n<n:=by
 have h1:0≤a.tmod n+n:=by have:=C8 a h;have:=KW a h;omega
 exact⟨Int.tmod_nonneg _ h1,C8 _ h⟩
def Tf {R:Type}:Prim R:=fun args hh=>match args,hh with
 |[.int .i64 a,.int .i64 n],[]=>aa ⟨0<n/\n<1000000,.int .i64 (wx a n),aj,hh,[],[]⟩
 |_,_=>aj
theorem Yz {R:Type} {D:fH R}:b6 D Tryz.prog 33 (a9 Tf):=by
 refine fj Tryz.f33 fun args hh x hx=>?_
 unfold Tf at hx;split at hx
 ·rename_i a n;cases hx;refine q4 fun _ hv=>?_
  generalize hG:ch (R:=R) _ _=G;refine cJ (T:=[]) trivial mixed 200 ?_;refine bK (q:=Vc (n≠(0:Int))/\Vc (fits (Wu a n+n))/\Vc (n≠(0:Int))/\aW (G (bk ar (Wu (Wu a n+n) n)) [])) ?_ (by kernel_rfl)
  subst hG;have h1:=C8 a hv.1;have h2:=KW a hv.1;refine⟨⟨by omega⟩,⟨⟨by omega,by omega⟩⟩,⟨by omega⟩,⟨⟨[],rfl,rfl,trivial,rfl,rfl,rfl,rfl⟩⟩⟩
 ·cases hx
end Rx
namespace Pa
open Rx Wv Sh
set_option maxRecDepth 100000
set_option maxHeartbeats 8000000
def z01:Nat->Bool:=fun i=>match i with|0=>ao|1=>ao|_=>an
def TSm {R:Type}:ez R:=[(26,tG z01 2 (a9 Te))]
theorem ai0 {R:Type} {D:fH R}:cL D Tryz.prog (TSm:ez R):=⟨nU _ _ Yj,trivial⟩
def YW {R:Type}:Prim R:=fun args hh=>match args,hh with
 |[.agg ⟨[.slice (aa ⟨0,0,aa 2000⟩) a y0,.slice (aa ⟨1,0,aa 2000⟩) b y1]⟩,.agg ⟨[.slice (aa ⟨2,0,aa 2000⟩) c y2,.slice (aa ⟨3,0,aa 2000⟩) d y3]⟩],[aa (.inr (.inl (q0,r0))),aa (.inr (.inl (q1,r1))),aa (.inr (.inl (q2,r2))),aa (.inr (.inl (q3,r3)))]=>aa ⟨(q0=31/\q1=31/\q2=31/\q3=31)/\(r0=iR (fZ r0)/\a=(fZ r0).length/\(fZ r0).length≤1000)/\(r1=iR (fZ r1)/\b=(fZ r1).length/\(fZ r1).length≤1000)/\(r2=iR (fZ r2)/\c=(fZ r2).length/\(fZ r2).length≤1000)/\(r3=iR (fZ r3)/\d=(fZ r3).length/\(fZ r3).length≤1000),.bool (decide (fZ r0=fZ r2)&&decide (fZ r1=fZ r3)),aj,hh,[],[]⟩
 |_,_=>aj
theorem ag' {R:Type} {D:fH R}:b6 D Tryz.prog 57 (a9 YW):=by
 refine fj Tryz.f57 fun args hh x hx=>?_
 unfold YW at hx;split at hx
 ·rename_i a y0 b y1 c y2 d y3 q0 r0 q1 r1 q2 r2 q3 r3;cases hx;refine q4 fun _ hv=>?_
  obtain⟨⟨rfl,rfl,rfl,rfl⟩,⟨e0,rfl,h0⟩,⟨e1,rfl,h1⟩,⟨e2,rfl,h2⟩,⟨e3,rfl,h3⟩⟩:=hv;generalize fZ r0=w0 at *;subst e0;generalize fZ r1=w1 at *;subst e1;generalize fZ r2=w2 at *;subst e2;generalize fZ r3=w3 at *;subst e3
  generalize hG:ch (R:=R) _ _=G;refine cJ (T:=TSm) ai0 mixed 200 ?_;refine bK (q:=let Z1:=(fZ (nA w0 0 w0.length));let Z2:=(fZ (nA w0 0 w0.length)=fZ (nA w2 0 w2.length));let Z3:=(fZ (nA w1 0 w1.length));Vc ((0+ae w0≤ae w0/\0+ae w2≤ae w2/\True)/\nA w0 0 w0.length=iR Z1/\ae w0=ae Z1/\nA w2 0 w2.length=iR (fZ (nA w2 0 w2.length))/\ae w2=ae (fZ (nA w2 0 w2.length))/\ae Z1≤100000)/\(decide Z2=ao->Vc ((0+ae w1≤ae w1/\0+ae w3≤ae w3/\True)/\nA w1 0 w1.length=iR Z3/\ae w1=ae Z3/\nA w3 0 w3.length=iR (fZ (nA w3 0 w3.length))/\ae w3=ae (fZ (nA w3 0 w3.length))/\ae Z3≤100000)/\aW (G (aD (decide (fZ (nA w1 0 w1.length)=fZ (nA w3 0 w3.length)))) [aa (.inr (.inl (31,iR w0))),aa (.inr (.inl (31,iR w1))),aa (.inr (.inl (31,iR w2))),aa (.inr (.inl (31,iR w3))),aa (.inl (59,[.slice (aa ⟨0,0,aa 2000⟩) w0.length y0,.slice (aa ⟨1,0,aa 2000⟩) w1.length y1])),aa (.inl (59,[.slice (aa ⟨2,0,aa 2000⟩) w2.length y2,.slice (aa ⟨3,0,aa 2000⟩) w3.length y3]))]))/\(decide Z2=an->aW (G (aD an) [aa (.inr (.inl (31,iR w0))),aa (.inr (.inl (31,iR w1))),aa (.inr (.inl (31,iR w2))),aa (.inr (.inl (31,iR w3))),aa (.inl (59,[.slice (aa ⟨0,0,aa 2000⟩) w0.length y0,.slice (aa ⟨1,0,aa 2000⟩) w1.length y1])),aa (.inl (59,[.slice (aa ⟨2,0,aa 2000⟩) w2.length y2,.slice (aa ⟨3,0,aa 2000⟩) w3.length y3]))]))) ?_ (by kernel_rfl)
  intro Z1 Z2 Z3;subst Z3 Z2 Z1;simp only[BQ,CR];have done:∀ (v:Bool) (rest:Hp R),v=(decide (w0=w2)&&decide (w1=w3))->G (.bool v) (oI w0::oI w1::oI w2::oI w3::rest):=by
   intro v rest e;subst e;subst hG;exact⟨[0,1,2,3],rfl,rfl,⟨⟨_,rfl,.inl rfl⟩,⟨_,rfl,.inl rfl⟩,⟨_,rfl,.inl rfl⟩,⟨_,rfl,.inl rfl⟩,trivial⟩,rfl,rfl,rfl,rfl⟩
  clear hG;refine⟨⟨⟨by omega,by omega,trivial⟩,by trivial,by trivial,by trivial,by trivial,by omega⟩,fun h=>⟨⟨⟨by omega,by omega,trivial⟩,by trivial,by trivial,by trivial,by trivial,by omega⟩,⟨done _ _ (by rw[h];rfl)⟩⟩,fun h=>⟨done _ _ (by rw[h];rfl)⟩⟩
 ·cases hx
structure Act where
 k:Int
 t:Int
 d:Bool
 x:It
def fo (a:Act) (l:List Op):Int:=if a.d=ao/\l≠[] then(l.getD (wx a.t l.length).toNat oz).t else a.t
def TTm {R:Type}:ez R:=[(33,bJ zN 2 (a9 Tf))]
theorem akU {R:Type} {D:fH R}:cL D Tryz.prog (TTm:ez R):=⟨aT _ _ Yz,trivial⟩
def ade {R:Type}:Prim R:=fun args hh=>match args,hh with
 |[.agg ⟨[.int .i64 k0,.int .i64 k1,.bool k2,.int .i64 k3,.int .i64 k4]⟩,.slice (aa ⟨0,0,aa 4000⟩) n c],[aa (.inr (.inr (.inl r)))]=>aa ⟨r=oR (uO r)/\n=(uO r).length/\(uO r).length≤100,.int .i64 (fo ⟨k0,k1,k2,⟨k3,k4⟩⟩ (uO r)),aj,hh,[],[]⟩
 |_,_=>aj
theorem ah_ {R:Type} {D:fH R}:b6 D Tryz.prog 32 (a9 ade):=by
 refine fj Tryz.f32 fun args hh x hx=>?_
 unfold ade at hx;split at hx
 ·rename_i k0 k1 k2 k3 k4 n c r;cases hx;refine q4 fun _ hv=>?_
  obtain⟨hr,rfl,hb⟩:=hv;generalize uO r=l at *;subst hr
  generalize hG:ch (R:=R) _ _=G;refine cJ (T:=TTm) akU mixed 200 ?_;refine bK (q:=let Z2:=bk ar;let Z1:=(↑l.length:Int);((!k2)=an->((Z1==(0:Int))=ao->aW (G (Z2 k1) [aa (.inr (.inr (.inl (oR l)))),aa (.inl (33,[Z2 k0,Z2 k1,.bool k2,Z2 k3,Z2 k4]))]))/\((Z1==(0:Int))=an->Vc ((0:Int)<Z1/\Z1<(1000000:Int))/\Vc ((0:Int)≤wx k1 Z1/\wx k1 Z1<Z1/\0+ae l≤ae l)/\Vc (0+aH (wx k1 Z1)<ae l)/\aW (G (Z2 (ax (au Op.t l) (0+aH (wx k1 Z1)) (0:Int))) [aa (.inr (.inr (.inl (oR l)))),aa (.inl (33,[Z2 k0,Z2 k1,.bool k2,Z2 k3,Z2 k4]))])))/\((!k2)=ao->aW (G (Z2 k1) [aa (.inr (.inr (.inl (oR l)))),aa (.inl (33,[Z2 k0,Z2 k1,.bool k2,Z2 k3,Z2 k4]))]))) ?_ (by kernel_rfl)
  intro Z2 Z1;subst Z1 Z2;have done:∀ (v:Int) (rest:Hp R),v=fo ⟨k0,k1,k2,⟨k3,k4⟩⟩ l->G (.int .i64 v) (vO l::rest):=by
   intro v rest e;subst e;subst hG;exact⟨[0],rfl,rfl,⟨rfl,trivial⟩,rfl,rfl,rfl,rfl⟩
  clear hG;refine⟨fun h=>⟨fun h2=>⟨?_⟩,fun h2=>?_⟩,fun h=>⟨?_⟩⟩
  ·have h3:l=[]:=iN (by have:=eq_of_beq h2;omega)
   exact done _ _ (by unfold fo;rw[if_neg (fun c=>c.2 h3)])
  ·have h3:0<l.length:=by have:=ne_of_beq_false h2;omega
   have hr:=LU (a:=k1) (n:=l.length) (by omega)
   have hk:k2=ao:=by simpa using h
   refine⟨⟨by omega,by omega⟩,⟨hr.1,hr.2,by omega⟩,⟨by omega⟩,⟨done _ _ ?_⟩⟩
   unfold fo;rw[if_pos ⟨hk,DL h3⟩,FJ Op.t 0 rfl,bV]
  ·have hk:k2=an:=by simpa using h
   exact done _ _ (by unfold fo;rw[if_neg (fun c=>by rw[hk] at c;cases c.1)])
 ·cases hx
end Pa
namespace Pa
open Rx Wv Br
open Sh (rV wB mC sl nK)
def opM (m:Mk):Op:=⟨m.t,m.ins,m.it⟩
def QS.ops (q:QS):List Op:=q.mt.l.map opM
theorem aiZ (H:List It) (l:List Op):(gj H l).map opM=l:=by
 unfold gj;rw[Ww];exact List.map_id'' (fun o=>rfl) l
theorem HQ.ops {q:QS} {l:List Op} {c:Int} {n:Nat} (h:HQ q l c n):q.ops=l:=by
 unfold QS.ops;rw[h.m0,vf,aiZ]
theorem HQ.mono {q:QS} {l:List Op} {c:Int} {n n':Nat} (h:HQ q l c n) (hn:n≤n'):HQ q l c n':=by
 obtain⟨v1,v2,v3⟩:=h.vb;exact⟨h.mq.up hn (ny _),h.tm,h.nd,h.dl,h.len,h.FH,by omega,by omega,by omega⟩
theorem HQ.cap {q:QS} {l:List Op} {c:Int} {n:Nat} (h:HQ q l c n):q.cap=c:=h.mq.cap
abbrev QS.Ok (q:QS):Prop:=HQ q q.ops q.cap 90000
theorem HQ.ok {q:QS} {l:List Op} {c:Int} (h:HQ q l c 90000):q.Ok:=by
 unfold QS.Ok;rw[h.ops,h.cap];exact h
theorem HQ.lT {q:QS} {l:List Op} {c:Int} {n:Nat} (h:HQ q l c n) (hn:n≤90000):q.gk:=h.mq.lT (by omega)
theorem HQ.o6 {q:QS} {l:List Op} {c:Int} {n:Nat} (h:HQ q l c n):rv q=o6 l:=MQ.o6 (H:=fin [] l) h.mq
def QS.qR (q:QS):Int:=q.mt.m.cX+q.pr.m.cX+q.gn.m.cX
def nR (l:List Op) (c t:Int) (x:It):Int:=if(l.length:Int)=c then 10 else if 0≤lg l t then 11 else if hasB l x=ao then 2 else 0
def pH (l:List Op) (c t:Int):Int:=if(l.length:Int)=c then 10 else if 0≤lg l t then 11 else 0
def ve (l:List Op) (t:Int):Int:=if lg l t<0 then 14 else 0
def jy (l:List Op) (c t:Int) (x:It):List Op:=if nR l c t x=0 then rW l ⟨t,ao,x⟩ else l
def jJ (l:List Op) (c t:Int):List Op:=if pH l c t=0 then rW l ⟨t,an,iz⟩ else l
def kX (l:List Op) (t:Int):List Op:=if ve l t=0 then Jh l (lg l t).toNat else l
abbrev dv (l l':List Op):List It:=qk (fin [] l) (fin [] l')
theorem K8 {l:List Op} {t:Int} (h:Et l t):lg l t = -1:=by
 unfold lg;rw[if_neg];intro k;rw[List.findIdx_lt_length] at k;obtain⟨o,ho,e⟩:=k;exact h o ho (by simpa using e)
theorem ZI {l:List Op} {t:Int} {k:Nat} (h:Tm l) (hk:k<l.length) (ht:(og l k).t=t):lg l t=k:=by
 unfold lg;have e:l.findIdx (fun o=>o.t==t)=k:=by
  rw[List.findIdx_eq hk];have eg:∀ j (hj:j<l.length),l[j]=og l j:=fun j hj=>by rw[og,av,bd hj];rfl
  refine⟨by rw[eg,ht];simp,fun j hj=>?_⟩
  have h2:=List.pairwise_iff_getElem.1 h j k (by omega) hk hj
  rw[eg,eg,ht] at h2;rw[eg];simp only[beq_eq_false_iff_ne];omega
 rw[e,if_pos hk]
theorem pY (a:List It):qk a a=[]:=by
 unfold qk kh;rw[js,tU];intro x hx;rw[uj.2 hx];decide
theorem KY {a b:List It} (h:∀ x,x∈b->x∈a):qk a b=[]:=by
 unfold qk kh;rw[js,tU];intro x hx;rw[uj.2 (h x hx)];decide
theorem nin {x:It} {a:List It} (h:x∉a):nK x a=an:=by
 rw[LS];exact fun c=>h (uj.1 c)
theorem aas {z:It} {a:List It} (h:z∉a):qk a (gZ z a)=[z]:=by
 have key:∀ r:List It,(∀ x,x∈r->x∈a)->(gZ z r).filter (fun x=>!nK x a)=[z]:=fun r=>by
  induction r with
  |nil=>intro _;unfold gZ;rw[jS,nin h];rfl
  |cons y r ih =>
   intro hr;have h0:(y::r).filter (fun x=>!nK x a)=[]:=by
    rw[tU];intro x hx;rw[uj.2 (hr x hx)];decide
   unfold gZ;split
   ·rw[jS,nin h,h0];rfl
   ·rw[jS,uj.2 (hr y List.mem_cons_self),ih fun x hx=>hr x (List.mem_cons_of_mem _ hx)];rfl
 unfold qk kh;rw[js];exact key a fun x hx=>hx
theorem acg {z:It} {a:List It} (ho:Ord a) (h:z∈a):qk (pU z a) a=[z]:=by
 have e:a.filter (fun x=>!nK x (pU z a))=a.filter (fun x=>decide (x=z)):=List.filter_congr fun x hx=>by
  by_cases c:x=z
  ·rw[nin (fun k=>(po.1 k).2 c),decide_eq_true c];rfl
  ·rw[uj.2 (po.2 ⟨hx,c⟩),decide_eq_false c];rfl
 have key:∀ r:List It,Ord r->z∈r->r.filter (fun x=>decide (x=z))=[z]:=fun r=>by
  induction r with
  |nil=>intro _ h;cases h
  |cons y r ih =>
   intro ho h;rw[jS]
   by_cases c:y=z
   ·subst c;rw[decide_eq_true rfl,if_pos rfl]
    congr 1
    rw[tU];intro x hx;rw[decide_eq_false];· decide
    intro e;subst e;exact yy ho hx
   ·rw[decide_eq_false c,if_neg (by decide)]
    exact ih (EN ho) ((bP.1 h).resolve_left fun e=>c e.symm)
 unfold qk kh;rw[js,e];exact key a ho h
theorem OF {q q':QS} {k:Int} (h:q'.mt.m.cX≤q.mt.m.cX+k/\q'.pr.m.cX≤q.pr.m.cX+k/\q'.gn.m.cX≤q.gn.m.cX+k) (hk:k≤20000) (l:List Op):q'.qR≤q.qR+10000*(uU l.length+4:Nat):=by
 have:2≤uU l.length:=by unfold uU;omega
 unfold QS.qR;omega
theorem HQ.look {q q':QS} {l:List Op} {c:Int} {n:Nat} {k:Int} (h:HQ q l c n) (m:MQ q' (jC l) (fin [] l) (gn l) c n q k) (hk:k≤20000) :
  HQ q' l c (n+1)/\q'.qR≤q.qR+10000*(uU l.length+4:Nat):=by
 have v1:=m.v1;have v2:=m.v2;have v3:=m.v3;exact⟨HQ.mk' (m.up (n':=n+1) (k':=90000) (by omega) (by omega)) h.vb (by omega) (by omega) h.tm h.nd h.dl h.len h.FH,OF ⟨v1.2,v2.2,v3.2⟩ hk l⟩
theorem Hi {q:QS} {l:List Op} {c:Int} {n:Nat} {t:Int} {x:It} (h:HQ q l c n) (wZ:l.length≤59) (hn:n≤90000) :
  Tx q t x/\Ec q t x=nR l c t x/\HQ (kL q t x) (jy l c t x) c (n+10)/\(kL q t x).qR≤q.qR+10000*(uU l.length+4:Nat)/\wA q t x=dv l (jy l c t x)/\dv (jy l c t x) l=[]:=by
 have hB:=h.Jb (by omega)
 have fq:=h.lT hn;obtain⟨r1,r2,r3⟩:=h.ref t;have m1:=h.mq.ZT hB (by omega) t
 have no:∀ {e:Int},mZ q t=e->e≠0->nR l c t x=e->Tx q t x/\Ec q t x=nR l c t x/\HQ (kL q t x) (jy l c t x) c (n+10)/\(kL q t x).qR≤q.qR+10000*(uU l.length+4:Nat)/\wA q t x=dv l (jy l c t x)/\dv (jy l c t x) l=[]:=fun {e} h1 h2 h3=>by
  have h0:¬ mZ q t=0:=by rw[h1];exact h2
  have eL:jy l c t x=l:=by unfold jy;rw[h3,if_neg h2]
  have eQ:kL q t x=nO q t:=by unfold kL;rw[if_neg h0]
  have L:=h.look m1 (by omega)
  rw[eL,eQ];refine⟨⟨fq,fun c=>absurd c h0⟩,?_,L.1.mono (by omega),L.2,?_,pY _⟩
  ·unfold Ec;rw[if_neg h0,h1,h3]
  ·unfold wA dv;rw[if_neg h0,pY]
 by_cases c1:(l.length:Int)=c
 ·exact no (r1 c1) (by decide) (by unfold nR;rw[if_pos c1])
 ·rcases Lx l t with c2|⟨k,hk,ht⟩
  ·by_cases c3:x∈gx l
   ·have h0:=r3 c1 c2;have lP:Al (nO q t) x=ao:=(h.ind x).2 c3;have eE:nR l c t x=2:=by unfold nR;rw[if_neg c1,K8 c2,if_neg (by decide),if_pos (Xz.2 c3)]
    have eL:jy l c t x=l:=by unfold jy;rw[eE,if_neg (by decide)]
    have eQ:kL q t x=Mu q t x:=by unfold kL;rw[if_pos h0,if_pos lP]
    have m2:=m1.ahW hB (by omega) x
    have L:=h.look m2 (by omega)
    rw[eL,eQ,eE];refine⟨⟨fq,fun _ k=>absurd (lP.symm.trans k) (by decide)⟩,?_,L.1.mono (by omega),L.2,?_,pY _⟩
    ·unfold Ec;rw[if_pos h0,if_pos lP]
    ·unfold wA dv;rw[if_pos h0,if_pos lP,pY]
   ·obtain⟨g1,g2,g3,v1,v2,v3,g4,g5⟩:=ajY h wZ hn c1 c2 c3;have eE:nR l c t x=0:=by unfold nR;rw[if_neg c1,K8 c2,if_neg (by decide),if_neg (fun k=>c3 (Xz.1 k))]
    have eL:jy l c t x=ld l (nq t l) ⟨t,ao,x⟩:=by unfold jy;rw[eE,if_pos rfl];rfl
    rw[eL,eE];refine⟨g1,g2,g3,OF ⟨v1,v2,v3⟩ (by omega) l,?_,?_⟩
    ·unfold dv
     by_cases hb:qH l (nq t l)<0
     ·rw[(g4 hb).1,(g4 hb).2,pY]
     ·obtain⟨z,a1,a2,a3⟩:=g5 hb;rw[a2,a3,aas a1]
    ·unfold dv
     by_cases hb:qH l (nq t l)<0
     ·rw[(g4 hb).2,pY]
     ·obtain⟨z,a1,a2,a3⟩:=g5 hb;rw[a3];exact KY fun w hw=>jZ.2 (.inr hw)
  ·have nf:¬ Et l t:=fun f=>f _ (Pp hk) ht
   exact no (r2 c1 nf) (by decide) (by unfold nR;rw[if_neg c1,ZI h.tm hk ht,if_pos (by omega)])
theorem Hl {q:QS} {l:List Op} {c:Int} {n:Nat} {t:Int} (h:HQ q l c n) (wZ:l.length≤59) (hn:n≤90000) :
  TG q t/\mZ q t=pH l c t/\HQ (ks q t) (jJ l c t) c (n+10)/\(ks q t).qR≤q.qR+10000*(uU l.length+4:Nat)/\dv l (jJ l c t)=[]/\Dc q t=dv (jJ l c t) l:=by
 have hB:=h.Jb (by omega)
 have fq:=h.lT hn;obtain⟨r1,r2,r3⟩:=h.ref t;have m1:=h.mq.ZT hB (by omega) t
 have no:∀ {e:Int},mZ q t=e->e≠0->pH l c t=e->TG q t/\mZ q t=pH l c t/\HQ (ks q t) (jJ l c t) c (n+10)/\(ks q t).qR≤q.qR+10000*(uU l.length+4:Nat)/\dv l (jJ l c t)=[]/\Dc q t=dv (jJ l c t) l:=fun {e} h1 h2 h3=>by
  have h0:¬ mZ q t=0:=by rw[h1];exact h2
  have eL:jJ l c t=l:=by unfold jJ;rw[h3,if_neg h2]
  have eQ:ks q t=nO q t:=by unfold ks;rw[if_neg h0]
  have L:=h.look m1 (by omega)
  rw[eL,eQ];refine⟨⟨fq,fun c=>absurd c h0⟩,by rw[h1,h3],L.1.mono (by omega),L.2,pY _,?_⟩
  unfold Dc dv;rw[if_neg h0,pY]
 by_cases c1:(l.length:Int)=c
 ·exact no (r1 c1) (by decide) (by unfold pH;rw[if_pos c1])
 ·rcases Lx l t with c2|⟨k,hk,ht⟩
  ·obtain⟨g1,g3,v1,v2,v3,g4⟩:=ai' h wZ hn c1 c2;have eE:pH l c t=0:=by unfold pH;rw[if_neg c1,K8 c2,if_neg (by decide)]
   have eL:jJ l c t=ld l (nq t l) ⟨t,an,iz⟩:=by unfold jJ;rw[eE,if_pos rfl];rfl
   rw[eL,eE];refine⟨g1,r3 c1 c2,g3,OF ⟨v1,v2,v3⟩ (by omega) l,?_,?_⟩
   ·unfold dv;rcases g4 with⟨a1,a2⟩|⟨z,a1,a2,a3⟩
    ·rw[a2,pY]
    ·rw[a3];exact KY fun w hw=>(po.1 hw).1
   ·unfold dv;rcases g4 with⟨a1,a2⟩|⟨z,a1,a2,a3⟩
    ·rw[a1,a2,pY]
    ·rw[a2,a3,acg (zE h.nd) a1]
  ·have nf:¬ Et l t:=fun f=>f _ (Pp hk) ht
   exact no (r2 c1 nf) (by decide) (by unfold pH;rw[if_neg c1,ZI h.tm hk ht,if_pos (by omega)])
theorem Ld {q:QS} {l:List Op} {c:Int} {n:Nat} {t:Int} (h:HQ q l c n) (hn:n≤90000) :
  Zl q t/\Kt q t=ve l t/\HQ (jW q t) (kX l t) c (n+10)/\(jW q t).qR≤q.qR+10000*(uU l.length+4:Nat)/\wN q t=dv l (kX l t)/\w9 q t=dv (kX l t) l:=by
 have hB:=h.Jb (by omega)
 have fq:=h.lT hn;rcases Lx l t with c2|⟨k,hk,ht⟩
 ·have hb:FR q t=an:=by
   unfold FR;rw[h.m0];exact NR (H:=fin [] l) (e:=kN t) c2
  have nb:¬ FR q t=ao:=by rw[hb];decide
  have eE:ve l t=14:=by unfold ve;rw[K8 c2,if_pos (by decide)]
  have eL:kX l t=l:=by unfold kX;rw[eE,if_neg (by decide)]
  have eQ:jW q t=Bl q t:=by unfold jW;rw[if_neg nb]
  have L:=h.look (h.mq.ahY hB (by omega) (kN t)) (by omega)
  rw[eL,eQ,eE];refine⟨⟨fq,fun k=>absurd k nb⟩,?_,L.1.mono (by omega),L.2,?_,?_⟩
  ·unfold Kt;rw[if_neg nb]
  ·unfold wN dv;rw[if_neg nb,pY]
  ·unfold w9 dv;rw[if_neg nb,pY]
 ·obtain⟨g1,g2,g3,v1,v2,v3,g4⟩:=ajP h hn hk ht;have eA:=ZI h.tm hk ht;have eE:ve l t=0:=by unfold ve;rw[eA,if_neg (by omega)]
  have eL:kX l t=j_ l k:=by unfold kX;rw[eE,if_pos rfl,eA,iF];rfl
  rw[eL,eE];refine⟨g1,g2,g3,OF ⟨v1,v2,v3⟩ (by omega) l,?_,?_⟩
  ·unfold dv;rcases g4 with⟨a1,a2,a3⟩|⟨z,a0,a1,a2,a3⟩|⟨z,a0,a1,a2,a3⟩
   ·rw[a1,a3,pY]
   ·rw[a1,a3,aas a0]
   ·rw[a1,a3];exact(KY fun w hw=>(po.1 hw).1).symm
  ·unfold dv;rcases g4 with⟨a1,a2,a3⟩|⟨z,a0,a1,a2,a3⟩|⟨z,a0,a1,a2,a3⟩
   ·rw[a2,a3,pY]
   ·rw[a2,a3];exact(KY fun w hw=>jZ.2 (.inr hw)).symm
   ·rw[a2,a3,acg (zE h.nd) a0]
end Pa
namespace Pa
open Rx Wv Br
open Sh (rV wB mC sl nK)
set_option maxRecDepth 100000
set_option maxHeartbeats 8000000
abbrev Rt:=TI ⊕ TJ
abbrev D2:fH Rt:=UY G8.D2 G9.D2
abbrev E8:G4 TI Rt:=akf TI TJ
abbrev E9:G4 TJ Rt:=ajz TI TJ
abbrev c8 (c:Wx TI):Wx Rt:=eC E8 c
abbrev c9 (c:Wx TJ):Wx Rt:=eC E9 c
abbrev oM (s:T8):Option (SB Rt):=aa (.inr (.inr (.inr (.inl (.tree s)))))
abbrev oS (s:T9):Option (SB Rt):=aa (.inr (.inr (.inr (.inr (.tree s)))))
abbrev bQ (q:QS):Option (SB Rt):=aa (.inl (98,[.int .i64 q.cap,.pointer (aa ⟨1,0,aj⟩),.pointer (aa ⟨2,0,aj⟩),.pointer (aa ⟨3,0,aj⟩)]))
theorem D_ {R:Type} {D:fH R} {P:Program} {f:FuncId} {p q:Prim R} (h:b6 D P f (a9 p))
  (H:∀ args hh x,q args hh=aa x->∃ y,p args hh=aa y/\hh.length≤x.hp.length/\(∀ b,x.lit=aa b->x.v=.bool b)/\(x.wr=[]->x.hp=hh)/\(x.vc->y.vc/\y.v=x.v/\y.hp=x.hp)):b6 D P f (a9 q):=by
 refine qa ⟨(h ao).known,fun args hh x _ hx C ρ ft w hm hv hi=>?_,fun args hh x hx=>?_,fun args hh x hx=>?_,fun args hh x hx=>?_⟩
 ·obtain⟨y,h1,_,_,_,h5⟩:=H args hh x hx;obtain⟨a1,a2,a3⟩:=h5 hv;rw[← a2,← a3];exact(h ao).run args hh y (.inl ⟨rfl,rfl⟩) h1 C ρ ft w hm a1 hi
 ·obtain⟨y,_,h2,_⟩:=H args hh x hx;exact h2
 ·obtain⟨y,_,_,h3,_⟩:=H args hh x hx;exact h3
 ·obtain⟨y,_,_,_,h4,_⟩:=H args hh x hx;exact h4
def TQn:ez Rt:=[(52,bJ zN 2 (c8 (a9 MJ))),(53,bJ zN 2 (c9 (a9 G9.MJ)))]
theorem aic:cL D2 Tryz.prog TQn:=⟨aT _ _ (nZ Um),aT _ _ (wb G9.Um),trivial⟩
def sH (c:Int):Int:=min (max c 0) 65536
def vo (c:Int):QS:=⟨qU G8.k8 (sH c),qU G9.k9 (sH c),qU G9.k9 (sH c),sH c⟩
def TD:Prim Rt:=fun args hh=>match args,hh with
 |[.int .i64 c],[]=>aa ⟨True,.pointer (aa ⟨0,0,aj⟩),aj,[bQ (vo c),oM (vo c).mt,oS (vo c).pr,oS (vo c).gn],[],[(0,0)]⟩
 |_,_=>aj
theorem X8:b6 D2 Tryz.prog 15 (a9 TD):=by
 refine fj Tryz.f15 fun args hh x hx=>?_
 unfold TD at hx;split at hx
 ·rename_i c;cases hx;refine q4 fun _ hv=>?_
  generalize hG:ch (R:=Rt) _ _=G;refine cJ (T:=TQn) aic mixed 200 ?_;refine bK (q:=let Z1:=(if(65536:Int)<if(0:Int)>c then(0:Int) else c then(65536:Int) else if(0:Int)>c then(0:Int) else c);Vc True/\Vc True/\Vc True/\aW (G (aC (aa ⟨3,0,aj⟩)) [aa (.inr (.inr (.inr (.inl (Bf (qU G8.k8 Z1)))))),aa (.inr (.inr (.inr (.inr (pk (qU G9.k9 Z1)))))),aa (.inr (.inr (.inr (.inr (pk (qU G9.k9 Z1)))))),aa (.inl (98,[.int ar Z1,.pointer (aa ⟨0,0,aj⟩),.pointer (aa ⟨1,0,aj⟩),.pointer (aa ⟨2,0,aj⟩)]))])) ?_ (by kernel_rfl)
  intro Z1;subst Z1;have e:(if 65536<if 0>c then 0 else c then(65536:Int) else if 0>c then 0 else c)=sH c:=by unfold sH;split<;>split at *<;>omega
  rw[e];subst hG;exact⟨⟨trivial⟩,⟨trivial⟩,⟨trivial⟩,⟨⟨[3,0,1,2],rfl,rfl,⟨.inl rfl,rfl,rfl,rfl,trivial⟩,rfl,rfl,rfl,rfl⟩⟩⟩
 ·cases hx
def TQm:ez Rt:=[(40,bJ zN 2 (c8 (a9 G8.AA))),(78,bJ zN 2 (c8 (a9 G8.Pw))),(21,bJ zN 2 (c8 (a9 G8.Ia))),(76,bJ zN 2 (c8 (a9 G8.IC))),(77,bJ zN 2 (c9 (a9 G9.IC))),(38,bJ zN 2 (c9 (a9 G9.AA)))]
theorem O1:cL D2 Tryz.prog TQm:=⟨aT _ _ (nZ G8.BR),aT _ _ (nZ G8.Rl),aT _ _ (nZ G8.QZ),aT _ _ (nZ G8.QC),aT _ _ (wb G9.QC),aT _ _ (wb G9.BR),trivial⟩
def PV:Prim Rt:=fun args hh=>match args,hh with
 |[.pointer (aa ⟨0,0,aj⟩)],[aa (.inl (98,[.int .i64 c,.pointer (aa ⟨1,0,aj⟩),.pointer (aa ⟨2,0,aj⟩),.pointer (aa ⟨3,0,aj⟩)])),aa (.inr (.inr (.inr (.inl (.tree s))))),aa (.inr (.inr (.inr (.inr (.tree g))))),aa (.inr (.inr (.inr (.inr (.tree h)))))]=>aa ⟨s.gk,.int .i64 s.l.length,aj,[bQ (yd (⟨s,g,h,c⟩:QS)),oM (yd (⟨s,g,h,c⟩:QS)).mt,oS (yd (⟨s,g,h,c⟩:QS)).pr,oS (yd (⟨s,g,h,c⟩:QS)).gn],[],[(0,0)]⟩
 |_,_=>aj
theorem XB:b6 D2 Tryz.prog 35 (a9 PV):=by
 refine fj Tryz.f35 fun args hh x hx=>?_
 unfold PV at hx;split at hx
 ·rename_i c s g h;cases hx;refine q4 fun _ hv=>?_
  generalize hG:ch (R:=Rt) _ _=G;refine cJ (T:=TQm) O1 mixed 200 ?_;refine bK (q:=Vc (eW s)/\aW (G (bk ar (↑(ae (eK s)):Int)) [aa (.inl (98,[.int ar c,.pointer (aa ⟨1,0,aj⟩),.pointer (aa ⟨2,0,aj⟩),.pointer (aa ⟨3,0,aj⟩)])),aa (.inr (.inr (.inr (.inl (Bf (dz s)))))),aa (.inr (.inr (.inr (.inr (pk g))))),aa (.inr (.inr (.inr (.inr (pk h)))))])) ?_ (by kernel_rfl)
  subst hG;exact⟨⟨hv⟩,⟨⟨[0,1,2,3],rfl,rfl,⟨.inl rfl,rfl,rfl,rfl,trivial⟩,rfl,rfl,rfl,rfl⟩⟩⟩
 ·cases hx
theorem abm:Ll [0,2,3] (a9 PV):=by
 intro b args h x hx i hi hl;cases b with
 |false=>cases hx
 |true =>
  simp only[a9,jb.go,PV] at hx;split at hx
  ·injection hx with hx
   subst hx;simp only[bP,vH,or_false] at hi;rcases hi with rfl|rfl|rfl<;>rfl
  ·cases hx
def PN:Prim Rt:=fun args hh=>match args,hh with
 |[.pointer (aa ⟨0,0,aj⟩)],[aa (.inl (98,[.int .i64 c,.pointer (aa ⟨1,0,aj⟩),.pointer (aa ⟨2,0,aj⟩),.pointer (aa ⟨3,0,aj⟩)])),aa (.inr (.inr (.inr (.inl (.tree s))))),aa (.inr (.inr (.inr (.inr (.tree g))))),aa (.inr (.inr (.inr (.inr (.tree h)))))]=>aa ⟨s.gk,.int .i64 (H4 (⟨s,g,h,c⟩:QS)),aj,[bQ (rS (⟨s,g,h,c⟩:QS)),oM (rS (⟨s,g,h,c⟩:QS)).mt,oS (rS (⟨s,g,h,c⟩:QS)).pr,oS (rS (⟨s,g,h,c⟩:QS)).gn],[],[(0,0)]⟩
 |_,_=>aj
theorem Yl:b6 D2 Tryz.prog 36 (a9 PN):=by
 refine fj Tryz.f36 fun args hh x hx=>?_
 unfold PN at hx;split at hx
 ·rename_i c s g h;cases hx;refine q4 fun _ hv=>?_
  generalize hG:ch (R:=Rt) _ _=G;refine cJ (T:=TQm) O1 mixed 200 ?_;refine bK (q:=Vc (eW s)/\Vc (eW (dz s))/\aW (G (bk ar (Sw.d (S8 (mX (eK (dz s)) 0 (aH (↑(ae (eK s)):Int)))))) [aa (.inl (98,[.int ar c,.pointer (aa ⟨1,0,aj⟩),.pointer (aa ⟨2,0,aj⟩),.pointer (aa ⟨3,0,aj⟩)])),aa (.inr (.inr (.inr (.inl (Bf (Gv.TS.F5 (dz s) (0:Int) (↑(ae (eK s)):Int))))))),aa (.inr (.inr (.inr (.inr (pk g))))),aa (.inr (.inr (.inr (.inr (pk h)))))])) ?_ (by kernel_rfl)
  have e:(S8 (mX s.seen.l 0 (s.l.length:Int).toNat)).d=H4 (⟨s,g,h,c⟩:QS):=by
   show(S8 (mX s.l 0 (s.l.length:Int).toNat)).d=((vg s.l).length:Int)
   rw[iF];show(S8 ((s.l.drop 0).take (s.l.length-0))).d=_
   rw[so,Nat.sub_zero,js]
   rfl
  rw[e];subst hG;exact⟨⟨hv⟩,⟨yR hv⟩,⟨⟨[0,1,2,3],rfl,rfl,⟨.inl rfl,rfl,rfl,rfl,trivial⟩,rfl,rfl,rfl,rfl⟩⟩⟩
 ·cases hx
def ZM:Prim Rt:=fun args hh=>match args,hh with
 |[.pointer (aa ⟨0,0,aj⟩)],[aa (.inl (98,[.int .i64 c,.pointer (aa ⟨1,0,aj⟩),.pointer (aa ⟨2,0,aj⟩),.pointer (aa ⟨3,0,aj⟩)])),aa (.inr (.inr (.inr (.inl (.tree s))))),aa (.inr (.inr (.inr (.inr (.tree g))))),aa (.inr (.inr (.inr (.inr (.tree h)))))]=>aa ⟨True,.pointer (aa ⟨2,0,aj⟩),aj,hh,[],[]⟩
 |_,_=>aj
theorem agF:b6 D2 Tryz.prog 23 (a9 ZM):=by
 refine fj Tryz.f23 fun args hh x hx=>?_
 unfold ZM at hx;split at hx
 ·rename_i c s g h;cases hx;refine q4 fun _ hv=>?_
  generalize hG:ch (R:=Rt) _ _=G;refine cJ (T:=[]) trivial mixed 200 ?_;refine bK (q:=aW (G (aC (aa ⟨2,0,aj⟩)) [aa (.inl (98,[.int ar c,.pointer (aa ⟨1,0,aj⟩),.pointer (aa ⟨2,0,aj⟩),.pointer (aa ⟨3,0,aj⟩)])),aa (.inr (.inr (.inr (.inl (Bf s))))),aa (.inr (.inr (.inr (.inr (pk g))))),aa (.inr (.inr (.inr (.inr (pk h)))))])) ?_ (by kernel_rfl)
  subst hG;exact⟨⟨[0,1,2,3],rfl,rfl,⟨.inl rfl,rfl,rfl,rfl,trivial⟩,rfl,rfl,rfl,rfl⟩⟩
 ·cases hx
def Y8:Prim Rt:=fun args hh=>match args,hh with
 |[.pointer (aa ⟨0,0,aj⟩)],[aa (.inl (98,[.int .i64 c,.pointer (aa ⟨1,0,aj⟩),.pointer (aa ⟨2,0,aj⟩),.pointer (aa ⟨3,0,aj⟩)])),aa (.inr (.inr (.inr (.inl (.tree s))))),aa (.inr (.inr (.inr (.inr (.tree g))))),aa (.inr (.inr (.inr (.inr (.tree h)))))]=>aa ⟨True,.pointer (aa ⟨3,0,aj⟩),aj,hh,[],[]⟩
 |_,_=>aj
theorem agl:b6 D2 Tryz.prog 37 (a9 Y8):=by
 refine fj Tryz.f37 fun args hh x hx=>?_
 unfold Y8 at hx;split at hx
 ·rename_i c s g h;cases hx;refine q4 fun _ hv=>?_
  generalize hG:ch (R:=Rt) _ _=G;refine cJ (T:=[]) trivial mixed 200 ?_;refine bK (q:=aW (G (aC (aa ⟨3,0,aj⟩)) [aa (.inl (98,[.int ar c,.pointer (aa ⟨1,0,aj⟩),.pointer (aa ⟨2,0,aj⟩),.pointer (aa ⟨3,0,aj⟩)])),aa (.inr (.inr (.inr (.inl (Bf s))))),aa (.inr (.inr (.inr (.inr (pk g))))),aa (.inr (.inr (.inr (.inr (pk h)))))])) ?_ (by kernel_rfl)
  subst hG;exact⟨⟨[0,1,2,3],rfl,rfl,⟨.inl rfl,rfl,rfl,rfl,trivial⟩,rfl,rfl,rfl,rfl⟩⟩
 ·cases hx
theorem abf:Ll [0,2,3] (a9 PN):=by
 intro b args h x hx i hi hl;cases b with
 |false=>cases hx
 |true =>
  simp only[a9,jb.go,PN] at hx;split at hx
  ·injection hx with hx
   subst hx;simp only[bP,vH,or_false] at hi;rcases hi with rfl|rfl|rfl<;>rfl
  ·cases hx
def TQe:ez Rt:=[(36,Cs [0,2,3] 2 (a9 PN)),(38,bJ zN 2 (c9 (a9 G9.AA)))]
theorem ajr:cL D2 Tryz.prog TQe:=⟨CL _ _ Yl abf,aT _ _ (wb G9.BR),trivial⟩
def PI:Prim Rt:=fun args hh=>match args,hh with
 |[.pointer (aa ⟨0,0,aj⟩)],[aa (.inl (98,[.int .i64 c,.pointer (aa ⟨1,0,aj⟩),.pointer (aa ⟨2,0,aj⟩),.pointer (aa ⟨3,0,aj⟩)])),aa (.inr (.inr (.inr (.inl (.tree s))))),aa (.inr (.inr (.inr (.inr (.tree g))))),aa (.inr (.inr (.inr (.inr (.tree h)))))]=>aa ⟨(⟨s,g,h,c⟩:QS).gk,.int .i64 (rv (⟨s,g,h,c⟩:QS)),aj,[bQ (nl (⟨s,g,h,c⟩:QS)),oM (nl (⟨s,g,h,c⟩:QS)).mt,oS (nl (⟨s,g,h,c⟩:QS)).pr,oS (nl (⟨s,g,h,c⟩:QS)).gn],[],[(0,0)]⟩
 |_,_=>aj
theorem Yt:b6 D2 Tryz.prog 39 (a9 PI):=by
 refine fj Tryz.f39 fun args hh x hx=>?_
 unfold PI at hx;split at hx
 ·rename_i c s g h;cases hx;refine q4 fun _ hv=>?_
  generalize hG:ch (R:=Rt) _ _=G;refine cJ (T:=TQe) ajr mixed 200 ?_;refine bK (q:=Vc (eW s)/\Vc (eW h)/\Vc (fits (H4 (QS.mk s g h c)-(↑(ae (eK h)):Int)))/\aW (G (bk ar (H4 (QS.mk s g h c)-(↑(ae (eK h)):Int))) [aa (.inl (98,[.int ar c,.pointer (aa ⟨1,0,aj⟩),.pointer (aa ⟨2,0,aj⟩),.pointer (aa ⟨3,0,aj⟩)])),aa (.inr (.inr (.inr (.inl (Bf (QS.mt (rS (QS.mk s g h c)))))))),aa (.inr (.inr (.inr (.inr (pk g))))),aa (.inr (.inr (.inr (.inr (pk (dz h))))))])) ?_ (by kernel_rfl)
  subst hG;obtain⟨f1,f2,f3⟩:=hv;have hb:-1099511627776≤H4 (⟨s,g,h,c⟩:QS)-(h.l.length:Int)/\H4 (⟨s,g,h,c⟩:QS)-(h.l.length:Int)≤1099511627776:=PL (⟨s,g,h,c⟩:QS);exact⟨⟨f1⟩,⟨f3⟩,⟨by omega,by omega⟩,⟨⟨[0,1,2,3],rfl,rfl,⟨.inl rfl,rfl,rfl,rfl,trivial⟩,rfl,rfl,rfl,rfl⟩⟩⟩
 ·cases hx
theorem aa4:Ll [0,2] (a9 PI):=by
 intro b args h x hx i hi hl;cases b with
 |false=>cases hx
 |true =>
  simp only[a9,jb.go,PI] at hx;split at hx
  ·injection hx with hx
   subst hx;simp only[bP,vH,or_false] at hi;rcases hi with rfl|rfl<;>rfl
  ·cases hx
end Pa
namespace Pa
open Rx Wv Br
open Sh (rV wB mC sl nK)
set_option maxRecDepth 100000
set_option maxHeartbeats 8000000
def TQr:ez Rt:=[(35,Cs [0,2,3] 2 (a9 PV)),(73,bJ zN 2 (c8 (a9 G8.An))),(66,bJ zN 2 (a9 ZW))]
theorem ai3:cL D2 Tryz.prog TQr:=⟨CL _ _ XB abm,aT _ _ (nZ Xd),aT _ _ aaV,trivial⟩
def YF:Prim Rt:=fun args hh=>match args,hh with
 |[.pointer (aa ⟨0,0,aj⟩),.int .i64 t],[aa (.inl (98,[.int .i64 c,.pointer (aa ⟨1,0,aj⟩),.pointer (aa ⟨2,0,aj⟩),.pointer (aa ⟨3,0,aj⟩)])),aa (.inr (.inr (.inr (.inl (.tree s))))),aa (.inr (.inr (.inr (.inr (.tree g))))),aa (.inr (.inr (.inr (.inr (.tree h)))))]=>aa ⟨s.gk,.int .i64 (mZ (⟨s,g,h,c⟩:QS) t),aj,[bQ (nO (⟨s,g,h,c⟩:QS) t),oM (nO (⟨s,g,h,c⟩:QS) t).mt,oS (nO (⟨s,g,h,c⟩:QS) t).pr,oS (nO (⟨s,g,h,c⟩:QS) t).gn],[],[(0,0)]⟩
 |_,_=>aj
theorem agQ:b6 D2 Tryz.prog 62 (a9 YF):=by
 refine fj Tryz.f62 fun args hh x hx=>?_
 unfold YF at hx;split at hx
 ·rename_i t c s g h;cases hx;refine q4 fun _ hv=>?_
  generalize hG:ch (R:=Rt) _ _=G;refine cJ (T:=TQr) ai3 mixed 200 ?_;refine bK (q:=let Z4:=aC (aa ⟨2,0,aj⟩);let Z5:=aC (aa ⟨1,0,aj⟩);let Z6:=aC (aa ⟨3,0,aj⟩);let Z7:=bk ar;let Z1:=(QS.mt (yd (QS.mk s g h c)));let Z2:=(Mk.mk t an (It.mk (0:Int) (0:Int)) an an (It.mk (0:Int) (0:Int)));let Z3:=(aA (fv O8 Z2 (eK Z1)));Vc (eW s)/\(((↑(ae (eK s)):Int)==c)=ao->aW (G (Z7 10) [aa (.inl (98,[Z7 c,Z5,Z4,Z6])),oM Z1,oS g,oS h]))/\(((↑(ae (eK s)):Int)==c)=an->Vc True/\Vc (eW Z1)/\(aw (fv O8 Z2 (eK Z1))=ao->aW (G (Z7 11) [aa (.inl (98,[Z7 c,Z5,Z4,Z6])),oM (oj Z1 Z2),oS g,oS h,aa (.inl (49,[Z7 (Mk.t Z3),.bool (Mk.ins Z3),Z7 (It.k (Mk.it Z3)),Z7 (It.i (Mk.it Z3)),.bool (Mk.here Z3),.bool (Mk.tf Z3),Z7 (It.k (Mk.tk Z3)),Z7 (It.i (Mk.tk Z3))]))]))/\(aw (fv O8 Z2 (eK Z1))=an->aW (G (Z7 0) [aa (.inl (98,[Z7 c,Z5,Z4,Z6])),oM (oj Z1 Z2),oS g,oS h,aa (.inl (49,[Z7 (Mk.t Z3),.bool (Mk.ins Z3),Z7 (It.k (Mk.it Z3)),Z7 (It.i (Mk.it Z3)),.bool (Mk.here Z3),.bool (Mk.tf Z3),Z7 (It.k (Mk.tk Z3)),Z7 (It.i (Mk.tk Z3))]))])))) ?_ (by kernel_rfl)
  intro Z4 Z5 Z6 Z7 Z1 Z2 Z3;subst Z3 Z2 Z1 Z7 Z6 Z5 Z4;have done:∀ (x:Int) (s':T8) (g' h':T9) (rest:Hp Rt),x=mZ (⟨s,g,h,c⟩:QS) t->s'=(nO (⟨s,g,h,c⟩:QS) t).mt->g'=g->h'=h->G (.int .i64 x) (aa (.inl (98,[.int .i64 c,.pointer (aa ⟨1,0,aj⟩),.pointer (aa ⟨2,0,aj⟩),.pointer (aa ⟨3,0,aj⟩)]))::oM s'::oS g'::oS h'::rest):=by
   intro x s' g' h' rest e1 e2 e3 e4;subst e1 e2 e3 e4;subst hG;exact⟨[0,1,2,3],rfl,rfl,⟨.inl rfl,rfl,rfl,rfl,trivial⟩,rfl,rfl,rfl,rfl⟩
  clear hG;refine⟨⟨hv⟩,fun h1=>⟨?_⟩,fun h1=>⟨⟨trivial⟩,⟨hv⟩,fun h2=>⟨?_⟩,fun h2=>⟨?_⟩⟩⟩
  ·have h1:(s.l.length:Int)=c:=eq_of_beq h1;exact done _ _ _ _ _ (by unfold mZ;rw[if_pos (show(s.l.length:Int)=c from h1)]) (by unfold nO;exact(if_pos (show(s.l.length:Int)=c from h1)).symm) rfl rfl
  all_goals
   have h1:¬ (s.l.length:Int)=c:=fun e=>by rw[beq_eq_false_iff_ne] at h1;exact h1 e
  ·exact done _ _ _ _ _ (by unfold mZ;rw[if_neg (show ¬ (s.l.length:Int)=c from h1),if_pos (show(fv O8 (kN t) s.l).2=ao from h2)]) (by unfold nO;exact(if_neg (show ¬ (s.l.length:Int)=c from h1)).symm) rfl rfl
  ·exact done _ _ _ _ _ (by unfold mZ;rw[if_neg (show ¬ (s.l.length:Int)=c from h1),if_neg (show ¬ (fv O8 (kN t) s.l).2=ao from by rw[show(fv O8 (kN t) s.l).2=an from h2];decide)]) (by unfold nO;exact(if_neg (show ¬ (s.l.length:Int)=c from h1)).symm) rfl rfl
 ·cases hx
def TQi:ez Rt:=[(94,bJ zN 2 (c9 (a9 G9.An))),(69,bJ zN 2 (a9 YE))]
theorem ahN:cL D2 Tryz.prog TQi:=⟨aT _ _ (wb G9.EH),aT _ _ Su,trivial⟩
def Z_:Prim Rt:=fun args hh=>match args,hh with
 |[.pointer (aa ⟨0,0,aj⟩),.agg ⟨[.int .i64 a,.int .i64 b]⟩],[aa (.inl (98,[.int .i64 c,.pointer (aa ⟨1,0,aj⟩),.pointer (aa ⟨2,0,aj⟩),.pointer (aa ⟨3,0,aj⟩)])),aa (.inr (.inr (.inr (.inl (.tree s))))),aa (.inr (.inr (.inr (.inr (.tree g))))),aa (.inr (.inr (.inr (.inr (.tree h)))))]=>aa ⟨(⟨s,g,h,c⟩:QS).gk,.bool (Al (⟨s,g,h,c⟩:QS) ⟨a,b⟩),aj,[bQ (B5 (⟨s,g,h,c⟩:QS) ⟨a,b⟩),oM (B5 (⟨s,g,h,c⟩:QS) ⟨a,b⟩).mt,oS (B5 (⟨s,g,h,c⟩:QS) ⟨a,b⟩).pr,oS (B5 (⟨s,g,h,c⟩:QS) ⟨a,b⟩).gn],[],[(0,0)]⟩
 |_,_=>aj
theorem ag2:b6 D2 Tryz.prog 63 (a9 Z_):=by
 refine fj Tryz.f63 fun args hh x hx=>?_
 unfold Z_ at hx;split at hx
 ·rename_i a b c s g h;cases hx;refine q4 fun _ hv=>?_
  generalize hG:ch (R:=Rt) _ _=G;refine cJ (T:=TQi) ahN mixed 200 ?_;refine bK (q:=let Z4:=bk ar;let Z1:=(ju (It.mk a b) an (0:Int));let Z2:=(aA (fv aM Z1 (eK g)));let Z3:=(aA (fv aM Z1 (eK h)));Vc True/\Vc (eW g)/\Vc True/\Vc (eW h)/\(aw (fv aM Z1 (eK g))=an->aW (G (aD (aw (fv aM Z1 (eK h)))) [aa (.inl (98,[Z4 c,.pointer (aa ⟨1,0,aj⟩),.pointer (aa ⟨2,0,aj⟩),.pointer (aa ⟨3,0,aj⟩)])),oM s,oS (oj g Z1),oS (oj h Z1),aa (.inl (31,[Z4 a,Z4 b])),aa (.inl (75,[Z4 (It.k (lK Z2)),Z4 (It.i (lK Z2)),.bool (o8 Z2),Z4 (qC Z2)])),aa (.inl (75,[Z4 (It.k (lK Z3)),Z4 (It.i (lK Z3)),.bool (o8 Z3),Z4 (qC Z3)]))]))/\(aw (fv aM Z1 (eK g))=ao->aW (G (aD ao) [aa (.inl (98,[Z4 c,.pointer (aa ⟨1,0,aj⟩),.pointer (aa ⟨2,0,aj⟩),.pointer (aa ⟨3,0,aj⟩)])),oM s,oS (oj g Z1),oS (oj h Z1),aa (.inl (31,[Z4 a,Z4 b])),aa (.inl (75,[Z4 (It.k (lK Z2)),Z4 (It.i (lK Z2)),.bool (o8 Z2),Z4 (qC Z2)])),aa (.inl (75,[Z4 (It.k (lK Z3)),Z4 (It.i (lK Z3)),.bool (o8 Z3),Z4 (qC Z3)]))]))) ?_ (by kernel_rfl)
  intro Z4 Z1 Z2 Z3;subst Z3 Z2 Z1 Z4;have done:∀ (x:Bool) (s':T8) (g' h':T9) (rest:Hp Rt),x=Al (⟨s,g,h,c⟩:QS) ⟨a,b⟩->s'=s->g'=g.find (sl ⟨a,b⟩)->h'=h.find (sl ⟨a,b⟩)->G (.bool x) (aa (.inl (98,[.int .i64 c,.pointer (aa ⟨1,0,aj⟩),.pointer (aa ⟨2,0,aj⟩),.pointer (aa ⟨3,0,aj⟩)]))::oM s'::oS g'::oS h'::rest):=by
   intro x s' g' h' rest e1 e2 e3 e4;subst e1 e2 e3 e4;subst hG;exact⟨[0,1,2,3],rfl,rfl,⟨.inl rfl,rfl,rfl,rfl,trivial⟩,rfl,rfl,rfl,rfl⟩
  clear hG;obtain⟨f1,f2,f3⟩:=hv;refine⟨⟨trivial⟩,⟨f2⟩,⟨trivial⟩,⟨f3⟩,fun h1=>⟨done _ _ _ _ _ ?_ rfl rfl rfl⟩,fun h1=>⟨done _ _ _ _ _ ?_ rfl rfl rfl⟩⟩
  ·show _=((fv aM (sl ⟨a,b⟩) g.l).2||_)
   rw[show(fv aM (sl ⟨a,b⟩) g.l).2=an from h1];rfl
  ·show _=((fv aM (sl ⟨a,b⟩) g.l).2||_)
   rw[show(fv aM (sl ⟨a,b⟩) g.l).2=ao from h1];rfl
 ·cases hx
def TQb:ez Rt:=[(39,Cs [0,2] 2 (a9 PI)),(95,bJ zN 2 (c8 (a9 adN))),(112,bJ zN 2 (c8 (a9 ac5)))]
theorem abw:cL D2 Tryz.prog TQb:=⟨CL _ _ Yt aa4,aT _ _ (nZ ain),aT _ _ (nZ akG),trivial⟩
def adG:Prim Rt:=fun args hh=>match args,hh with
 |[.pointer (aa ⟨0,0,aj⟩),.int .i64 p],[aa (.inl (98,[.int .i64 c,.pointer (aa ⟨1,0,aj⟩),.pointer (aa ⟨2,0,aj⟩),.pointer (aa ⟨3,0,aj⟩)])),aa (.inr (.inr (.inr (.inl (.tree s))))),aa (.inr (.inr (.inr (.inr (.tree g))))),aa (.inr (.inr (.inr (.inr (.tree h)))))]=>aa ⟨(⟨s,g,h,c⟩:QS).gk,.int .i64 (FE (⟨s,g,h,c⟩:QS) p),aj,[bQ (Bj (⟨s,g,h,c⟩:QS) p),oM (Bj (⟨s,g,h,c⟩:QS) p).mt,oS (Bj (⟨s,g,h,c⟩:QS) p).pr,oS (Bj (⟨s,g,h,c⟩:QS) p).gn],[],[(0,0)]⟩
 |_,_=>aj
theorem ah4:b6 D2 Tryz.prog 64 (a9 adG):=by
 refine fj Tryz.f64 fun args hh x hx=>?_
 unfold adG at hx;split at hx
 ·rename_i p c s g h;cases hx;refine q4 fun _ hv=>?_
  generalize hG:ch (R:=Rt) _ _=G;refine cJ (T:=TQb) abw mixed 200 ?_;refine bK (q:=Vc (QS.gk (QS.mk s g h c))/\Vc (eW (QS.mt (nl (QS.mk s g h c)))/\(-1099511627776:Int)≤rv (QS.mk s g h c)/\rv (QS.mk s g h c)≤(1099511627776:Int))/\aW (G (bk ar (E7 (eK (QS.mt (nl (QS.mk s g h c)))) p (rv (QS.mk s g h c)))) [aa (.inl (98,[.int ar c,.pointer (aa ⟨1,0,aj⟩),.pointer (aa ⟨2,0,aj⟩),.pointer (aa ⟨3,0,aj⟩)])),oM (Wa (QS.mt (nl (QS.mk s g h c))) p (rv (QS.mk s g h c))),oS g,oS (QS.gn (nl (QS.mk s g h c)))])) ?_ (by kernel_rfl)
  subst hG;have hb:=PL (⟨s,g,h,c⟩:QS);exact⟨⟨hv⟩,⟨hv.1,hb.1,hb.2⟩,⟨⟨[0,1,2,3],rfl,rfl,⟨.inl rfl,rfl,rfl,rfl,trivial⟩,rfl,rfl,rfl,rfl⟩⟩⟩
 ·cases hx
def adj:Prim Rt:=fun args hh=>match args,hh with
 |[.pointer (aa ⟨0,0,aj⟩),.int .i64 p],[aa (.inl (98,[.int .i64 c,.pointer (aa ⟨1,0,aj⟩),.pointer (aa ⟨2,0,aj⟩),.pointer (aa ⟨3,0,aj⟩)])),aa (.inr (.inr (.inr (.inl (.tree s))))),aa (.inr (.inr (.inr (.inr (.tree g))))),aa (.inr (.inr (.inr (.inr (.tree h)))))]=>aa ⟨(⟨s,g,h,c⟩:QS).gk,.int .i64 (Kx (⟨s,g,h,c⟩:QS) p),aj,[bQ (Ht (⟨s,g,h,c⟩:QS) p),oM (Ht (⟨s,g,h,c⟩:QS) p).mt,oS (Ht (⟨s,g,h,c⟩:QS) p).pr,oS (Ht (⟨s,g,h,c⟩:QS) p).gn],[],[(0,0)]⟩
 |_,_=>aj
theorem aiX:b6 D2 Tryz.prog 72 (a9 adj):=by
 refine fj Tryz.f72 fun args hh x hx=>?_
 unfold adj at hx;split at hx
 ·rename_i p c s g h;cases hx;refine q4 fun _ hv=>?_
  generalize hG:ch (R:=Rt) _ _=G;refine cJ (T:=TQb) abw mixed 200 ?_;refine bK (q:=Vc (QS.gk (QS.mk s g h c))/\Vc (eW (QS.mt (nl (QS.mk s g h c)))/\(-1099511627776:Int)≤rv (QS.mk s g h c)/\rv (QS.mk s g h c)≤(1099511627776:Int))/\aW (G (bk ar (O3 (eK (QS.mt (nl (QS.mk s g h c)))) p (rv (QS.mk s g h c)))) [aa (.inl (98,[.int ar c,.pointer (aa ⟨1,0,aj⟩),.pointer (aa ⟨2,0,aj⟩),.pointer (aa ⟨3,0,aj⟩)])),oM (Er (QS.mt (nl (QS.mk s g h c))) p (rv (QS.mk s g h c))),oS g,oS (QS.gn (nl (QS.mk s g h c)))])) ?_ (by kernel_rfl)
  subst hG;have hb:=PL (⟨s,g,h,c⟩:QS);exact⟨⟨hv⟩,⟨hv.1,hb.1,hb.2⟩,⟨⟨[0,1,2,3],rfl,rfl,⟨.inl rfl,rfl,rfl,rfl,trivial⟩,rfl,rfl,rfl,rfl⟩⟩⟩
 ·cases hx
def TQt:ez Rt:=[(141,bJ zN 2 (c8 (a9 G8.Q9))),(67,bJ zN 2 (c8 (a9 G8.Dt)))]
theorem akn:cL D2 Tryz.prog TQt:=⟨aT _ _ (nZ G8.ack),aT _ _ (nZ G8.G7),trivial⟩
def ZZ:Prim Rt:=fun args hh=>match args,hh with
 |[.pointer (aa ⟨0,0,aj⟩),.int .i64 i,.bool b],[aa (.inl (98,[.int .i64 c,.pointer (aa ⟨1,0,aj⟩),.pointer (aa ⟨2,0,aj⟩),.pointer (aa ⟨3,0,aj⟩)])),aa (.inr (.inr (.inr (.inl (.tree s))))),aa (.inr (.inr (.inr (.inr (.tree g))))),aa (.inr (.inr (.inr (.inr (.tree h)))))]=>aa ⟨s.gk/\(s.at_ i).kV (E0 s i b),.tuple #[],aj,[bQ (⟨AD s i b,g,h,c⟩:QS),oM (⟨AD s i b,g,h,c⟩:QS).mt,oS (⟨AD s i b,g,h,c⟩:QS).pr,oS (⟨AD s i b,g,h,c⟩:QS).gn],[],[(0,0)]⟩
 |_,_=>aj
theorem agz:b6 D2 Tryz.prog 107 (a9 ZZ):=by
 refine fj Tryz.f107 fun args hh x hx=>?_
 unfold ZZ at hx;split at hx
 ·rename_i i b c s g h;cases hx;refine q4 fun _ hv=>?_
  generalize hG:ch (R:=Rt) _ _=G;refine cJ (T:=TQt) akn mixed 200 ?_;refine bK (q:=let Z3:=bk ar;let Z1:=(aA (Gv.pZ O8 i (eK s)));let Z2:=(Mk.mk (Mk.t Z1) (Mk.ins Z1) (Mk.it Z1) b (Mk.tf Z1) (Mk.tk Z1));Vc (eW s)/\Vc (tV (KX s i) Z2)/\aW (G (cq (aO [])) [aa (.inl (98,[Z3 c,.pointer (aa ⟨1,0,aj⟩),.pointer (aa ⟨2,0,aj⟩),.pointer (aa ⟨3,0,aj⟩)])),oM (C9 (KX s i) Z2),oS g,oS h,aa (.inl (49,[Z3 (Mk.t Z1),.bool (Mk.ins Z1),Z3 (It.k (Mk.it Z1)),Z3 (It.i (Mk.it Z1)),.bool b,.bool (Mk.tf Z1),Z3 (It.k (Mk.tk Z1)),Z3 (It.i (Mk.tk Z1))]))])) ?_ (by kernel_rfl)
  intro Z3 Z1 Z2;subst Z2 Z1 Z3;subst hG;exact⟨⟨hv.1⟩,⟨hv.2⟩,⟨⟨[0,1,2,3],rfl,rfl,⟨.inl rfl,rfl,rfl,rfl,trivial⟩,rfl,rfl,rfl,rfl⟩⟩⟩
 ·cases hx
end Pa
namespace Pa
open Rx Wv Br
open Sh (rV wB mC sl nK)
set_option maxRecDepth 100000
set_option maxHeartbeats 8000000
def TQg:ez Rt:=[(104,bJ zN 2 (c8 (a9 adg))),(109,bJ zN 2 (c8 (a9 aek))),(69,bJ zN 2 (a9 YE)),(108,bJ zN 2 (c8 (a9 G8.Ng))),(111,bJ zN 2 (c8 (a9 G8.Q6))),(107,bJ zN 2 (a9 ZZ)),(75,bJ zN 2 (c9 (a9 G9.CH))),(68,bJ zN 2 (c9 (a9 G9.Dt)))]
theorem acm:cL D2 Tryz.prog TQg:=⟨aT _ _ (nZ ajg),aT _ _ (nZ ak3),aT _ _ Su,aT _ _ (nZ G8.Zd),aT _ _ (nZ G8.acp),aT _ _ agz,aT _ _ (wb Xe),aT _ _ (wb G9.G7),trivial⟩
def adQ:Prim Rt:=fun args hh=>match args,hh with
 |[.pointer (aa ⟨0,0,aj⟩),.int .i64 f],[aa (.inl (98,[.int .i64 c,.pointer (aa ⟨1,0,aj⟩),.pointer (aa ⟨2,0,aj⟩),.pointer (aa ⟨3,0,aj⟩)])),aa (.inr (.inr (.inr (.inl (.tree s))))),aa (.inr (.inr (.inr (.inr (.tree g))))),aa (.inr (.inr (.inr (.inr (.tree h)))))]=>aa ⟨J5 (⟨s,g,h,c⟩:QS) f,.agg ⟨[.slice (aa ⟨4,0,aa 2000⟩) (yu (⟨s,g,h,c⟩:QS) f).length (yu (⟨s,g,h,c⟩:QS) f).length,.slice (aa ⟨5,0,aa 2000⟩) ([]:List It).length ([]:List It).length]⟩,aj,[bQ (vZ (⟨s,g,h,c⟩:QS) f),oM (vZ (⟨s,g,h,c⟩:QS) f).mt,oS (vZ (⟨s,g,h,c⟩:QS) f).pr,oS (vZ (⟨s,g,h,c⟩:QS) f).gn,oI (yu (⟨s,g,h,c⟩:QS) f),oI []],[],[(0,0)]⟩
 |_,_=>aj
theorem aiA:b6 D2 Tryz.prog 70 (a9 adQ):=by
 refine fj Tryz.f70 fun args hh x hx=>?_
 unfold adQ at hx;split at hx
 ·rename_i f c s g h;cases hx;refine q4 fun _ hv=>?_
  generalize hG:ch (R:=Rt) _ _=G;refine cJ (T:=TQg) acm mixed 200 ?_;refine bK (q:=let Z4:=bk ar;let Z1:=(gK (uK (eK s) f) iz);let Z2:=(Gv.TS.first (qc Z1) (Hr s f) f);let Z3:=(Gv.TS.uI (qc Z1) (Hr s f) f);(decide (f<(0:Int))=ao->aW (G (bE (aO [.slice aj 0 0,.slice aj 0 0])) [aa (.inl (98,[Z4 c,.pointer (aa ⟨1,0,aj⟩),.pointer (aa ⟨2,0,aj⟩),.pointer (aa ⟨3,0,aj⟩)])),oM s,oS g,oS h,aa (.inl (59,[.slice aj 0 0,.slice aj 0 0]))]))/\(decide (f<(0:Int))=an->Vc (eW s)/\Vc True/\Vc True/\Vc (eW (Hr s f))/\Vc (eW Z2/\tV (KX Z2 Z3) (E0 Z2 Z3 ao))/\Vc (eW h)/\Vc (tV g (ju Z1 an (0:Int)))/\aW (G (bE (aO [.slice (aa ⟨7,0,aa 2000⟩) 1 1,.slice aj 0 0])) [aa (.inl (98,[Z4 c,.pointer (aa ⟨1,0,aj⟩),.pointer (aa ⟨2,0,aj⟩),.pointer (aa ⟨3,0,aj⟩)])),oM (AD Z2 Z3 ao),oS (C9 g (ju Z1 an (0:Int))),oS (xX h (ju Z1 an (0:Int))),aa (.inl (59,[.slice (aa ⟨7,0,aa 2000⟩) 1 1,.slice aj 0 0])),aa (.inl (47,[.bool (ij (uK (eK s) f)),Z4 (It.k Z1),Z4 (It.i Z1)])),aa (.inl (75,[Z4 (It.k Z1),Z4 (It.i Z1),.bool an,Z4 0])),aa (.inr (.inl (31,Row.mk [Z4 0,Z4 0] 1 [aX.mk [It.k Z1] [] [],aX.mk [It.i Z1] [] []])))]))) ?_ (by kernel_rfl)
  intro Z4 Z1 Z2 Z3;subst Z3 Z2 Z1 Z4;obtain⟨f1,f2,f3,f4⟩:=hv;refine⟨fun h1=>?_,fun h1=>?_⟩
  ·have h1:f<0:=of_decide_eq_true h1;subst hG;rw[show vZ (⟨s,g,h,c⟩:QS) f=(⟨s,g,h,c⟩:QS) from if_pos h1,show yu (⟨s,g,h,c⟩:QS) f=[] from if_pos h1]
   exact⟨⟨[0,1,2,3,90,91],rfl,rfl,⟨.inl rfl,rfl,rfl,rfl,⟨rfl,iG _,rfl⟩,⟨rfl,iG _,rfl⟩,trivial⟩,rfl,rfl,rfl,rfl⟩⟩
  ·have h1:¬ f<0:=of_decide_eq_false h1;obtain⟨g1,g2⟩:=f4 h1;subst hG;rw[show vZ (⟨s,g,h,c⟩:QS) f=⟨AD (Sa (⟨s,g,h,c⟩:QS) f) (UT (⟨s,g,h,c⟩:QS) f) ao,g.put (sl (Jl (⟨s,g,h,c⟩:QS) f)),h.drop (sl (Jl (⟨s,g,h,c⟩:QS) f)),c⟩ from if_neg h1,show yu (⟨s,g,h,c⟩:QS) f=[Jl (⟨s,g,h,c⟩:QS) f] from if_neg h1]
   exact⟨⟨f1⟩,⟨trivial⟩,⟨trivial⟩,⟨f1⟩,⟨f1,g1⟩,⟨f3⟩,⟨g2⟩,⟨⟨[0,1,2,3,7,91],rfl,rfl,⟨.inl rfl,rfl,rfl,rfl,⟨_,rfl,.inl rfl⟩,⟨rfl,iG _,rfl⟩,trivial⟩,rfl,rfl,rfl,rfl⟩⟩⟩
 ·cases hx
def ac':Prim Rt:=fun args hh=>match args,hh with
 |[.pointer (aa ⟨0,0,aj⟩),.int .i64 u],[aa (.inl (98,[.int .i64 c,.pointer (aa ⟨1,0,aj⟩),.pointer (aa ⟨2,0,aj⟩),.pointer (aa ⟨3,0,aj⟩)])),aa (.inr (.inr (.inr (.inl (.tree s))))),aa (.inr (.inr (.inr (.inr (.tree g))))),aa (.inr (.inr (.inr (.inr (.tree h)))))]=>aa ⟨Kv (⟨s,g,h,c⟩:QS) u,.agg ⟨[.slice (aa ⟨4,0,aa 2000⟩) ([]:List It).length ([]:List It).length,.slice (aa ⟨5,0,aa 2000⟩) (C6 (⟨s,g,h,c⟩:QS) u).length (C6 (⟨s,g,h,c⟩:QS) u).length]⟩,aj,[bQ (Gc (⟨s,g,h,c⟩:QS) u),oM (Gc (⟨s,g,h,c⟩:QS) u).mt,oS (Gc (⟨s,g,h,c⟩:QS) u).pr,oS (Gc (⟨s,g,h,c⟩:QS) u).gn,oI [],oI (C6 (⟨s,g,h,c⟩:QS) u)],[],[(0,0)]⟩
 |_,_=>aj
theorem aiy:b6 D2 Tryz.prog 71 (a9 ac'):=by
 refine fj Tryz.f71 fun args hh x hx=>?_
 unfold ac' at hx;split at hx
 ·rename_i u c s g h;cases hx;refine q4 fun _ hv=>?_
  generalize hG:ch (R:=Rt) _ _=G;refine cJ (T:=TQg) acm mixed 200 ?_;refine bK (q:=let Z4:=bk ar;let Z1:=(gK (p_ (eK s) u) iz);let Z2:=(Gv.TS.last (p8 Z1) (CG s u) u);let Z3:=(Gv.TS.AE (p8 Z1) (CG s u) u);Vc (eW s)/\((!ij (p_ (eK s) u))=ao->aW (G (bE (aO [.slice aj 0 0,.slice aj 0 0])) [aa (.inl (98,[Z4 c,.pointer (aa ⟨1,0,aj⟩),.pointer (aa ⟨2,0,aj⟩),.pointer (aa ⟨3,0,aj⟩)])),oM (CG s u),oS g,oS h,aa (.inl (59,[.slice aj 0 0,.slice aj 0 0])),aa (.inl (47,[.bool (ij (p_ (eK s) u)),Z4 (It.k Z1),Z4 (It.i Z1)]))]))/\((!ij (p_ (eK s) u))=an->Vc True/\Vc True/\Vc (eW (CG s u))/\Vc (eW Z2/\tV (KX Z2 Z3) (E0 Z2 Z3 an))/\Vc (eW g)/\Vc (tV h (ju Z1 an (0:Int)))/\aW (G (bE (aO [.slice aj 0 0,.slice (aa ⟨7,0,aa 2000⟩) 1 1])) [aa (.inl (98,[Z4 c,.pointer (aa ⟨1,0,aj⟩),.pointer (aa ⟨2,0,aj⟩),.pointer (aa ⟨3,0,aj⟩)])),oM (AD Z2 Z3 an),oS (xX g (ju Z1 an (0:Int))),oS (C9 h (ju Z1 an (0:Int))),aa (.inl (59,[.slice aj 0 0,.slice (aa ⟨7,0,aa 2000⟩) 1 1])),aa (.inl (47,[.bool (ij (p_ (eK s) u)),Z4 (It.k Z1),Z4 (It.i Z1)])),aa (.inl (75,[Z4 (It.k Z1),Z4 (It.i Z1),.bool an,Z4 0])),aa (.inr (.inl (31,Row.mk [Z4 0,Z4 0] 1 [aX.mk [It.k Z1] [] [],aX.mk [It.i Z1] [] []])))]))) ?_ (by kernel_rfl)
  intro Z4 Z1 Z2 Z3;subst Z3 Z2 Z1 Z4;obtain⟨f1,f2,f3,f4⟩:=hv;refine⟨⟨f1⟩,fun h1=>?_,fun h1=>?_⟩
  ·have h1:¬ PK (⟨s,g,h,c⟩:QS) u=ao:=by
    intro e;rw[show(p_ s.l u).isSome=ao from e] at h1;cases h1
   subst hG;rw[show Gc (⟨s,g,h,c⟩:QS) u=⟨CG s u,g,h,c⟩ from if_neg h1,show C6 (⟨s,g,h,c⟩:QS) u=[] from if_neg h1]
   exact⟨⟨[0,1,2,3,90,91],rfl,rfl,⟨.inl rfl,rfl,rfl,rfl,⟨rfl,iG _,rfl⟩,⟨rfl,iG _,rfl⟩,trivial⟩,rfl,rfl,rfl,rfl⟩⟩
  ·have h1:PK (⟨s,g,h,c⟩:QS) u=ao:=by
    show(p_ s.l u).isSome=ao
    cases e:(p_ s.l u).isSome
    ·rw[e] at h1;cases h1
    ·rfl
   obtain⟨g1,g2⟩:=f4 h1;subst hG;rw[show Gc (⟨s,g,h,c⟩:QS) u=⟨AD (R4 (⟨s,g,h,c⟩:QS) u) (Ua (⟨s,g,h,c⟩:QS) u) an,g.drop (sl (I7 (⟨s,g,h,c⟩:QS) u)),h.put (sl (I7 (⟨s,g,h,c⟩:QS) u)),c⟩ from if_pos h1,show C6 (⟨s,g,h,c⟩:QS) u=[I7 (⟨s,g,h,c⟩:QS) u] from if_pos h1]
   exact⟨⟨trivial⟩,⟨trivial⟩,⟨f1⟩,⟨f1,g1⟩,⟨f2⟩,⟨g2⟩,⟨⟨[0,1,2,3,90,7],rfl,rfl,⟨.inl rfl,rfl,rfl,rfl,⟨rfl,iG _,rfl⟩,⟨_,rfl,.inl rfl⟩,trivial⟩,rfl,rfl,rfl,rfl⟩⟩⟩
 ·cases hx
end Pa
namespace Pa
open Rx Wv Br
open Sh (rV wB mC sl nK)
set_option maxRecDepth 100000
set_option maxHeartbeats 8000000
def TQI:ez Rt:=[(62,bJ zN 2 (a9 YF)),(63,bJ zN 2 (a9 Z_)),(64,bJ zN 2 (a9 adG)),(72,bJ zN 2 (a9 adj)),(70,bJ zN 2 (a9 adQ)),(71,bJ zN 2 (a9 ac')),(65,bJ zN 2 (c8 (a9 G8.Hw))),(67,bJ zN 2 (c8 (a9 G8.Dt))),(74,bJ zN 2 (c8 (a9 G8.CH))),(73,bJ zN 2 (c8 (a9 G8.An))),(68,bJ zN 2 (c9 (a9 G9.Dt))),(75,bJ zN 2 (c9 (a9 G9.CH))),(66,bJ zN 2 (a9 ZW)),(69,bJ zN 2 (a9 YE))]
theorem TT:cL D2 Tryz.prog TQI:=⟨aT _ _ agQ,aT _ _ ag2,aT _ _ ah4,aT _ _ aiX,aT _ _ aiA,aT _ _ aiy,aT _ _ (nZ G8.VQ),aT _ _ (nZ G8.G7),aT _ _ (nZ G8.Io),aT _ _ (nZ Xd),aT _ _ (wb G9.G7),aT _ _ (wb Xe),aT _ _ aaV,aT _ _ Su,trivial⟩
def afr:Prim Rt:=fun args hh=>match args,hh with
 |[.pointer (aa ⟨0,0,aj⟩),.int .i64 t,.agg ⟨[.int .i64 a,.int .i64 b]⟩],[aa (.inl (98,[.int .i64 c,.pointer (aa ⟨1,0,aj⟩),.pointer (aa ⟨2,0,aj⟩),.pointer (aa ⟨3,0,aj⟩)])),aa (.inr (.inr (.inr (.inl (.tree s))))),aa (.inr (.inr (.inr (.inr (.tree g))))),aa (.inr (.inr (.inr (.inr (.tree h)))))]=>aa ⟨Tx (⟨s,g,h,c⟩:QS) t ⟨a,b⟩,.tuple #[.agg ⟨[.slice (aa ⟨4,0,aa 2000⟩) (wA (⟨s,g,h,c⟩:QS) t ⟨a,b⟩).length (wA (⟨s,g,h,c⟩:QS) t ⟨a,b⟩).length,.slice (aa ⟨5,0,aa 2000⟩) ([]:List It).length ([]:List It).length]⟩,.int .i64 (Ec (⟨s,g,h,c⟩:QS) t ⟨a,b⟩)],aj,[bQ (kL (⟨s,g,h,c⟩:QS) t ⟨a,b⟩),oM (kL (⟨s,g,h,c⟩:QS) t ⟨a,b⟩).mt,oS (kL (⟨s,g,h,c⟩:QS) t ⟨a,b⟩).pr,oS (kL (⟨s,g,h,c⟩:QS) t ⟨a,b⟩).gn,oI (wA (⟨s,g,h,c⟩:QS) t ⟨a,b⟩),oI []],[],[(0,0)]⟩
 |_,_=>aj
theorem ahJ:b6 D2 Tryz.prog 24 (a9 afr):=by
 refine fj Tryz.f24 fun args hh x hx=>?_
 unfold afr at hx;split at hx
 ·rename_i t a b c s g h;cases hx;refine q4 fun _ hv=>?_
  generalize hG:ch (R:=Rt) _ _=G;refine cJ (T:=TQI) TT mixed 200 ?_;refine bK (q:=let dX:=aC (aa ⟨3,0,aj⟩);let cx:=aC (aa ⟨2,0,aj⟩);let dF:=aC (aa ⟨1,0,aj⟩);let fx:=bk ar;let Z1:=(nO (QS.mk s g h c) t);let Z2:=(QS.mt (B5 Z1 (It.mk a b)));let Z3:=(Mk.mk t an (It.mk (0:Int) (0:Int)) an an (It.mk (0:Int) (0:Int)));let Z4:=(QS.mk (Qk Z2 Z3) (QS.pr (B5 Z1 (It.mk a b))) (QS.gn (B5 Z1 (It.mk a b))) (QS.cap (B5 Z1 (It.mk a b))));let Z5:=(Bj Z4 (↑(ae (yF O8 Z3 (eK Z2))):Int));let Z6:=(Mk.mk t ao (It.mk a b) an an (It.mk (0:Int) (0:Int)));let Z7:=(QS.mk (C9 (QS.mt Z5) Z6) (QS.pr Z5) (C9 (QS.gn Z5) (ju (It.mk a b) an (0:Int))) (QS.cap Z5));let Z8:=(FE Z4 (↑(ae (yF O8 Z3 (eK Z2))):Int));let Z9:=(ae (yu Z7 Z8));Vc (eW s)/\((mZ (QS.mk s g h c) t != (0:Int))=ao->aW (G (cq (aO [.agg (aO [.slice aj 0 0,.slice aj 0 0]),fx (mZ (QS.mk s g h c) t)])) [aa (.inl (98,[fx (QS.cap Z1),dF,cx,dX])),oM (QS.mt Z1),oS (QS.pr Z1),oS (QS.gn Z1),aa (.inl (31,[fx a,fx b])),aa (.inl (59,[.slice aj 0 0,.slice aj 0 0]))]))/\((mZ (QS.mk s g h c) t != (0:Int))=an->Vc (QS.gk Z1)/\(Al Z1 (It.mk a b)=ao->aW (G (cq (aO [.agg (aO [.slice aj 0 0,.slice aj 0 0]),fx 2])) [aa (.inl (98,[fx (QS.cap (B5 Z1 (It.mk a b))),dF,cx,dX])),oM Z2,oS (QS.pr (B5 Z1 (It.mk a b))),oS (QS.gn (B5 Z1 (It.mk a b))),aa (.inl (31,[fx a,fx b])),aa (.inl (59,[.slice aj 0 0,.slice aj 0 0]))]))/\(Al Z1 (It.mk a b)=an->Vc True/\Vc (eW Z2)/\Vc (QS.gk Z4)/\Vc (tV (QS.mt Z5) Z6)/\Vc True/\Vc (tV (QS.gn Z5) (ju (It.mk a b) an (0:Int)))/\Vc (J5 Z7 Z8)/\aW (G (cq (aO [.agg (aO [.slice (aa ⟨6,0,aa 2000⟩) Z9 Z9,.slice (aa ⟨7,0,aa 2000⟩) 0 0]),fx 0])) [aa (.inl (98,[fx (QS.cap (vZ Z7 Z8)),dF,cx,dX])),oM (QS.mt (vZ Z7 Z8)),oS (QS.pr (vZ Z7 Z8)),oS (QS.gn (vZ Z7 Z8)),aa (.inl (31,[fx a,fx b])),aa (.inl (59,[.slice (aa ⟨6,0,aa 2000⟩) Z9 Z9,.slice (aa ⟨7,0,aa 2000⟩) 0 0])),aa (.inr (.inl (31,Row.mk [fx 0,fx 0] Z9 [aX.mk (au It.k (yu Z7 Z8)) [] [],aX.mk (au It.i (yu Z7 Z8)) [] []]))),aa (.inr (.inl (31,Row.mk [fx 0,fx 0] 0 [aX.mk [] [] [],aX.mk [] [] []])))])))) ?_ (by kernel_rfl)
  intro dX cx dF fx Z1 Z2 Z3 Z4 Z5 Z6 Z7 Z8 Z9;subst Z9 Z8 Z7 Z6 Z5 Z4 Z3 Z2 Z1 fx dF cx dX;obtain⟨⟨f1,f2,f3⟩,ok⟩:=hv;have fr:=X9 (t:=t) (q:=(⟨s,g,h,c⟩:QS)) ⟨f1,f2,f3⟩;refine⟨⟨f1⟩,fun h1=>?_,fun h1=>⟨⟨fr⟩,fun h2=>?_,fun h2=>?_⟩⟩
  ·have h1:¬ mZ (⟨s,g,h,c⟩:QS) t=0:=fun e=>by rw[e] at h1;cases h1
   subst hG;rw[show kL (⟨s,g,h,c⟩:QS) t ⟨a,b⟩=nO (⟨s,g,h,c⟩:QS) t from if_neg h1,show wA (⟨s,g,h,c⟩:QS) t ⟨a,b⟩=[] from if_neg h1,show Ec (⟨s,g,h,c⟩:QS) t ⟨a,b⟩=mZ (⟨s,g,h,c⟩:QS) t from if_neg h1]
   exact⟨⟨[0,1,2,3,90,91],rfl,rfl,⟨.inl rfl,rfl,rfl,rfl,⟨rfl,iG _,rfl⟩,⟨rfl,iG _,rfl⟩,trivial⟩,rfl,rfl,rfl,rfl⟩⟩
  ·have h1:mZ (⟨s,g,h,c⟩:QS) t=0:=by simpa using h1
   subst hG;rw[show kL (⟨s,g,h,c⟩:QS) t ⟨a,b⟩=Mu (⟨s,g,h,c⟩:QS) t ⟨a,b⟩ from(if_pos h1).trans (if_pos h2),show wA (⟨s,g,h,c⟩:QS) t ⟨a,b⟩=[] from(if_pos h1).trans (if_pos h2),show Ec (⟨s,g,h,c⟩:QS) t ⟨a,b⟩=2 from(if_pos h1).trans (if_pos h2)]
   exact⟨⟨[0,1,2,3,90,91],rfl,rfl,⟨.inl rfl,rfl,rfl,rfl,⟨rfl,iG _,rfl⟩,⟨rfl,iG _,rfl⟩,trivial⟩,rfl,rfl,rfl,rfl⟩⟩
  ·have h1:mZ (⟨s,g,h,c⟩:QS) t=0:=by simpa using h1
   have h3:¬ Al (nO (⟨s,g,h,c⟩:QS) t) ⟨a,b⟩=ao:=by rw[h2];decide
   obtain⟨g1,g2,g3⟩:=ok h1 h2;subst hG;rw[show kL (⟨s,g,h,c⟩:QS) t ⟨a,b⟩=vZ (LW (⟨s,g,h,c⟩:QS) t ⟨a,b⟩) (Pe (⟨s,g,h,c⟩:QS) t ⟨a,b⟩) from(if_pos h1).trans (if_neg h3),show wA (⟨s,g,h,c⟩:QS) t ⟨a,b⟩=yu (LW (⟨s,g,h,c⟩:QS) t ⟨a,b⟩) (Pe (⟨s,g,h,c⟩:QS) t ⟨a,b⟩) from(if_pos h1).trans (if_neg h3),show Ec (⟨s,g,h,c⟩:QS) t ⟨a,b⟩=0 from(if_pos h1).trans (if_neg h3)]
   exact⟨⟨trivial⟩,⟨fr.1⟩,⟨fr⟩,⟨g1⟩,⟨trivial⟩,⟨g2⟩,⟨g3⟩,⟨⟨[0,1,2,3,6,7],rfl,rfl,⟨.inl rfl,rfl,rfl,rfl,⟨_,rfl,.inl rfl⟩,⟨_,rfl,.inl rfl⟩,trivial⟩,rfl,rfl,rfl,rfl⟩⟩⟩
 ·cases hx
def afg:Prim Rt:=fun args hh=>match args,hh with
 |[.pointer (aa ⟨0,0,aj⟩),.int .i64 t],[aa (.inl (98,[.int .i64 c,.pointer (aa ⟨1,0,aj⟩),.pointer (aa ⟨2,0,aj⟩),.pointer (aa ⟨3,0,aj⟩)])),aa (.inr (.inr (.inr (.inl (.tree s))))),aa (.inr (.inr (.inr (.inr (.tree g))))),aa (.inr (.inr (.inr (.inr (.tree h)))))]=>aa ⟨TG (⟨s,g,h,c⟩:QS) t,.tuple #[.agg ⟨[.slice (aa ⟨4,0,aa 2000⟩) ([]:List It).length ([]:List It).length,.slice (aa ⟨5,0,aa 2000⟩) (Dc (⟨s,g,h,c⟩:QS) t).length (Dc (⟨s,g,h,c⟩:QS) t).length]⟩,.int .i64 (mZ (⟨s,g,h,c⟩:QS) t)],aj,[bQ (ks (⟨s,g,h,c⟩:QS) t),oM (ks (⟨s,g,h,c⟩:QS) t).mt,oS (ks (⟨s,g,h,c⟩:QS) t).pr,oS (ks (⟨s,g,h,c⟩:QS) t).gn,oI [],oI (Dc (⟨s,g,h,c⟩:QS) t)],[],[(0,0)]⟩
 |_,_=>aj
theorem ahl:b6 D2 Tryz.prog 25 (a9 afg):=by
 refine fj Tryz.f25 fun args hh x hx=>?_
 unfold afg at hx;split at hx
 ·rename_i t c s g h;cases hx;refine q4 fun _ hv=>?_
  generalize hG:ch (R:=Rt) _ _=G;refine cJ (T:=TQI) TT mixed 200 ?_;refine bK (q:=let Z7:=bk ar;let Z1:=(nO (QS.mk s g h c) t);let Z2:=(Mk.mk t an (It.mk (0:Int) (0:Int)) an an (It.mk (0:Int) (0:Int)));let Z3:=(QS.mk (Qk (QS.mt Z1) Z2) (QS.pr Z1) (QS.gn Z1) (QS.cap Z1));let Z4:=(↑(ae (yF O8 Z2 (eK (QS.mt Z1)))):Int);let Z5:=(Gc (Ht Z3 Z4) (Kx Z3 Z4));let Z6:=(C6 (Ht Z3 Z4) (Kx Z3 Z4));Vc (eW s)/\((mZ (QS.mk s g h c) t != (0:Int))=ao->aW (G (cq (aO [.agg (aO [.slice aj 0 0,.slice aj 0 0]),Z7 (mZ (QS.mk s g h c) t)])) [aa (.inl (98,[Z7 (QS.cap Z1),.pointer (aa ⟨1,0,aj⟩),.pointer (aa ⟨2,0,aj⟩),.pointer (aa ⟨3,0,aj⟩)])),oM (QS.mt Z1),oS (QS.pr Z1),oS (QS.gn Z1),aa (.inl (59,[.slice aj 0 0,.slice aj 0 0]))]))/\((mZ (QS.mk s g h c) t != (0:Int))=an->Vc True/\Vc (eW (QS.mt Z1))/\Vc (QS.gk Z3)/\Vc (Kv (Ht Z3 Z4) (Kx Z3 Z4))/\Vc (tV (QS.mt Z5) Z2)/\aW (G (cq (aO [.agg (aO [.slice (aa ⟨6,0,aa 2000⟩) 0 0,.slice (aa ⟨7,0,aa 2000⟩) (ae Z6) (ae Z6)]),Z7 0])) [aa (.inl (98,[Z7 (QS.cap Z5),.pointer (aa ⟨1,0,aj⟩),.pointer (aa ⟨2,0,aj⟩),.pointer (aa ⟨3,0,aj⟩)])),oM (C9 (QS.mt Z5) Z2),oS (QS.pr Z5),oS (QS.gn Z5),aa (.inl (59,[.slice (aa ⟨6,0,aa 2000⟩) 0 0,.slice (aa ⟨7,0,aa 2000⟩) (ae Z6) (ae Z6)])),aa (.inl (49,[Z7 t,.bool an,Z7 0,Z7 0,.bool an,.bool an,Z7 0,Z7 0])),aa (.inr (.inl (31,Row.mk [Z7 0,Z7 0] 0 [aX.mk [] [] [],aX.mk [] [] []]))),aa (.inr (.inl (31,Row.mk [Z7 0,Z7 0] (ae Z6) [aX.mk (au It.k Z6) [] [],aX.mk (au It.i Z6) [] []]))),aa (.inl (59,[.slice (aa ⟨6,0,aa 2000⟩) 0 0,.slice (aa ⟨7,0,aa 2000⟩) (ae Z6) (ae Z6)]))]))) ?_ (by kernel_rfl)
  intro Z7 Z1 Z2 Z3 Z4 Z5 Z6;subst Z6 Z5 Z4 Z3 Z2 Z1 Z7;obtain⟨⟨f1,f2,f3⟩,ok⟩:=hv;have fr:=X9 (t:=t) (q:=(⟨s,g,h,c⟩:QS)) ⟨f1,f2,f3⟩;refine⟨⟨f1⟩,fun h1=>?_,fun h1=>?_⟩
  ·have h1:¬ mZ (⟨s,g,h,c⟩:QS) t=0:=fun e=>by rw[e] at h1;cases h1
   subst hG;rw[show ks (⟨s,g,h,c⟩:QS) t=nO (⟨s,g,h,c⟩:QS) t from if_neg h1,show Dc (⟨s,g,h,c⟩:QS) t=[] from if_neg h1]
   exact⟨⟨[0,1,2,3,90,91],rfl,rfl,⟨.inl rfl,rfl,rfl,rfl,⟨rfl,iG _,rfl⟩,⟨rfl,iG _,rfl⟩,trivial⟩,rfl,rfl,rfl,rfl⟩⟩
  ·have h1:mZ (⟨s,g,h,c⟩:QS) t=0:=by simpa using h1
   obtain⟨g1,g2⟩:=ok h1;subst hG;rw[show ks (⟨s,g,h,c⟩:QS) t=⟨(uv (⟨s,g,h,c⟩:QS) t).mt.put (kN t),(uv (⟨s,g,h,c⟩:QS) t).pr,(uv (⟨s,g,h,c⟩:QS) t).gn,(uv (⟨s,g,h,c⟩:QS) t).cap⟩ from if_pos h1,show Dc (⟨s,g,h,c⟩:QS) t=C6 (YB (⟨s,g,h,c⟩:QS) t) (Pr (⟨s,g,h,c⟩:QS) t) from if_pos h1,h1]
   exact⟨⟨trivial⟩,⟨fr.1⟩,⟨fr⟩,⟨g1⟩,⟨g2⟩,⟨⟨[0,1,2,3,6,7],rfl,rfl,⟨.inl rfl,rfl,rfl,rfl,⟨_,rfl,.inl rfl⟩,⟨_,rfl,.inl rfl⟩,trivial⟩,rfl,rfl,rfl,rfl⟩⟩⟩
 ·cases hx
def afN:Prim Rt:=fun args hh=>match args,hh with
 |[.pointer (aa ⟨0,0,aj⟩),.int .i64 t],[aa (.inl (98,[.int .i64 c,.pointer (aa ⟨1,0,aj⟩),.pointer (aa ⟨2,0,aj⟩),.pointer (aa ⟨3,0,aj⟩)])),aa (.inr (.inr (.inr (.inl (.tree s))))),aa (.inr (.inr (.inr (.inr (.tree g))))),aa (.inr (.inr (.inr (.inr (.tree h)))))]=>aa ⟨Zl (⟨s,g,h,c⟩:QS) t,.tuple #[.agg ⟨[.slice (aa ⟨4,0,aa 2000⟩) (wN (⟨s,g,h,c⟩:QS) t).length (wN (⟨s,g,h,c⟩:QS) t).length,.slice (aa ⟨5,0,aa 2000⟩) (w9 (⟨s,g,h,c⟩:QS) t).length (w9 (⟨s,g,h,c⟩:QS) t).length]⟩,.int .i64 (Kt (⟨s,g,h,c⟩:QS) t)],aj,[bQ (jW (⟨s,g,h,c⟩:QS) t),oM (jW (⟨s,g,h,c⟩:QS) t).mt,oS (jW (⟨s,g,h,c⟩:QS) t).pr,oS (jW (⟨s,g,h,c⟩:QS) t).gn,oI (wN (⟨s,g,h,c⟩:QS) t),oI (w9 (⟨s,g,h,c⟩:QS) t)],[],[(0,0)]⟩
 |_,_=>aj
theorem ahi:b6 D2 Tryz.prog 27 (a9 afN):=by
 refine fj Tryz.f27 fun args hh x hx=>?_
 unfold afN at hx;split at hx
 ·rename_i t c s g h;cases hx;refine q4 fun _ hv=>?_
  generalize hG:ch (R:=Rt) _ _=G;refine cJ (T:=TQI) TT mixed 200 ?_;refine bK (q:=let Z9:=aC (aa ⟨3,0,aj⟩);let dX:=aC (aa ⟨2,0,aj⟩);let cx:=aC (aa ⟨1,0,aj⟩);let dF:=bk ar;let Z1:=(Mk.mk t an (It.mk (0:Int) (0:Int)) an an (It.mk (0:Int) (0:Int)));let Z2:=(aA (fv O8 Z1 (eK s)));let Z3:=(QS.mk (Qk (oj s Z1) Z2) g h c);let Z4:=(↑(ae (yF O8 Z2 (eK (oj s Z1)))):Int);let Z5:=(QS.mk (xX (QS.mt (Bj Z3 Z4)) Z2) (QS.pr (Bj Z3 Z4)) (QS.gn (Bj Z3 Z4)) (QS.cap (Bj Z3 Z4)));let Z6:=(ae (yu Z5 (FE Z3 Z4)));let Z7:=(Gc (Ht Z3 (Z4+(1:Int))) (Kx Z3 (Z4+(1:Int))));let Z8:=(C6 (Ht Z3 (Z4+(1:Int))) (Kx Z3 (Z4+(1:Int))));Vc True/\Vc (eW s)/\((!aw (fv O8 Z1 (eK s)))=ao->aW (G (cq (aO [.agg (aO [.slice aj 0 0,.slice aj 0 0]),dF 14])) [aa (.inl (98,[dF c,cx,dX,Z9])),oM (oj s Z1),oS g,oS h,aa (.inl (59,[.slice aj 0 0,.slice aj 0 0])),aa (.inl (49,[dF (Mk.t Z2),.bool (Mk.ins Z2),dF (It.k (Mk.it Z2)),dF (It.i (Mk.it Z2)),.bool (Mk.here Z2),.bool (Mk.tf Z2),dF (It.k (Mk.tk Z2)),dF (It.i (Mk.tk Z2))]))]))/\((!aw (fv O8 Z1 (eK s)))=an->((!Mk.ins Z2)=ao->Vc (eW (oj s Z1))/\Vc (QS.gk Z3)/\Vc (eW (QS.mt (Bj Z3 Z4)))/\Vc (J5 Z5 (FE Z3 Z4))/\aW (G (cq (aO [.agg (aO [.slice (aa ⟨6,0,aa 2000⟩) Z6 Z6,.slice (aa ⟨7,0,aa 2000⟩) 0 0]),dF 0])) [aa (.inl (98,[dF (QS.cap (vZ Z5 (FE Z3 Z4))),cx,dX,Z9])),oM (QS.mt (vZ Z5 (FE Z3 Z4))),oS (QS.pr (vZ Z5 (FE Z3 Z4))),oS (QS.gn (vZ Z5 (FE Z3 Z4))),aa (.inl (59,[.slice (aa ⟨6,0,aa 2000⟩) Z6 Z6,.slice (aa ⟨7,0,aa 2000⟩) 0 0])),aa (.inl (49,[dF (Mk.t Z2),.bool (Mk.ins Z2),dF (It.k (Mk.it Z2)),dF (It.i (Mk.it Z2)),.bool (Mk.here Z2),.bool (Mk.tf Z2),dF (It.k (Mk.tk Z2)),dF (It.i (Mk.tk Z2))])),aa (.inr (.inl (31,Row.mk [dF 0,dF 0] Z6 [aX.mk (au It.k (yu Z5 (FE Z3 Z4))) [] [],aX.mk (au It.i (yu Z5 (FE Z3 Z4))) [] []]))),aa (.inr (.inl (31,Row.mk [dF 0,dF 0] 0 [aX.mk [] [] [],aX.mk [] [] []])))]))/\((!Mk.ins Z2)=an->(Mk.here Z2=ao->Vc (eW (oj s Z1))/\Vc True/\Vc (eW g)/\aW (G (cq (aO [.agg (aO [.slice aj 0 0,.slice (aa ⟨6,0,aa 2000⟩) 1 1]),dF 0])) [aa (.inl (98,[dF c,cx,dX,Z9])),oM (xX (oj s Z1) Z2),oS (xX g (ju (Mk.it Z2) an (0:Int))),oS h,aa (.inl (59,[.slice aj 0 0,.slice (aa ⟨6,0,aa 2000⟩) 1 1])),aa (.inl (49,[dF (Mk.t Z2),.bool (Mk.ins Z2),dF (It.k (Mk.it Z2)),dF (It.i (Mk.it Z2)),.bool (Mk.here Z2),.bool (Mk.tf Z2),dF (It.k (Mk.tk Z2)),dF (It.i (Mk.tk Z2))])),aa (.inr (.inl (31,Row.mk [dF 0,dF 0] 1 [aX.mk [It.k (Mk.it Z2)] [] [],aX.mk [It.i (Mk.it Z2)] [] []])))]))/\(Mk.here Z2=an->Vc (eW (oj s Z1))/\Vc (fits (Z4+(1:Int)))/\Vc (QS.gk Z3)/\Vc (Kv (Ht Z3 (Z4+(1:Int))) (Kx Z3 (Z4+(1:Int))))/\Vc (eW (QS.mt Z7))/\Vc True/\Vc (eW (QS.gn Z7))/\aW (G (cq (aO [.agg (aO [.slice (aa ⟨6,0,aa 2000⟩) 0 0,.slice (aa ⟨7,0,aa 2000⟩) (ae Z8) (ae Z8)]),dF 0])) [aa (.inl (98,[dF (QS.cap Z7),cx,dX,Z9])),oM (xX (QS.mt Z7) Z2),oS (QS.pr Z7),oS (xX (QS.gn Z7) (ju (Mk.it Z2) an (0:Int))),aa (.inl (59,[.slice (aa ⟨6,0,aa 2000⟩) 0 0,.slice (aa ⟨7,0,aa 2000⟩) (ae Z8) (ae Z8)])),aa (.inl (49,[dF (Mk.t Z2),.bool (Mk.ins Z2),dF (It.k (Mk.it Z2)),dF (It.i (Mk.it Z2)),.bool (Mk.here Z2),.bool (Mk.tf Z2),dF (It.k (Mk.tk Z2)),dF (It.i (Mk.tk Z2))])),aa (.inr (.inl (31,Row.mk [dF 0,dF 0] 0 [aX.mk [] [] [],aX.mk [] [] []]))),aa (.inr (.inl (31,Row.mk [dF 0,dF 0] (ae Z8) [aX.mk (au It.k Z8) [] [],aX.mk (au It.i Z8) [] []]))),aa (.inl (59,[.slice (aa ⟨6,0,aa 2000⟩) 0 0,.slice (aa ⟨7,0,aa 2000⟩) (ae Z8) (ae Z8)]))]))))) ?_ (by kernel_rfl)
  intro Z9 dX cx dF Z1 Z2 Z3 Z4 Z5 Z6 Z7 Z8;subst Z8 Z7 Z6 Z5 Z4 Z3 Z2 Z1 dF cx dX Z9;obtain⟨⟨f1,f2,f3⟩,ok⟩:=hv;have bp:0≤Ef (⟨s,g,h,c⟩:QS) t/\Ef (⟨s,g,h,c⟩:QS) t≤60:=by
   have h1:=Sp s;have h2:(yF O8 (mM (⟨s,g,h,c⟩:QS) t) s.l).length≤s.l.length:=by rw[Gv.OJ,dZ];omega
   exact⟨Int.natCast_nonneg _,by show((yF O8 (mM (⟨s,g,h,c⟩:QS) t) s.l).length:Int)≤60;omega⟩
  refine⟨⟨trivial⟩,⟨f1⟩,fun h1=>?_,fun h1=>⟨fun h2=>?_,fun h2=>⟨fun h3=>?_,fun h3=>?_⟩⟩⟩
  ·have h1:(!FR (⟨s,g,h,c⟩:QS) t)=ao:=h1;have h1:¬ FR (⟨s,g,h,c⟩:QS) t=ao:=by simpa using h1
   subst hG;rw[show jW (⟨s,g,h,c⟩:QS) t=Bl (⟨s,g,h,c⟩:QS) t from if_neg h1,show wN (⟨s,g,h,c⟩:QS) t=[] from if_neg h1,show w9 (⟨s,g,h,c⟩:QS) t=[] from if_neg h1,show Kt (⟨s,g,h,c⟩:QS) t=14 from if_neg h1]
   exact⟨⟨[0,1,2,3,90,91],rfl,rfl,⟨.inl rfl,rfl,rfl,rfl,⟨rfl,iG _,rfl⟩,⟨rfl,iG _,rfl⟩,trivial⟩,rfl,rfl,rfl,rfl⟩⟩
  all_goals
   have h1:(!FR (⟨s,g,h,c⟩:QS) t)=an:=h1;have h1:FR (⟨s,g,h,c⟩:QS) t=ao:=by simpa using h1
   have hc:Kt (⟨s,g,h,c⟩:QS) t=0:=if_pos h1
  ·have h2:(!(mM (⟨s,g,h,c⟩:QS) t).ins)=ao:=h2;have h2:(mM (⟨s,g,h,c⟩:QS) t).ins=an:=by simpa using h2
   have h3:¬ (mM (⟨s,g,h,c⟩:QS) t).ins=ao:=by rw[h2];decide
   have g1:=(ok h1).1 h2;subst hG;rw[show jW (⟨s,g,h,c⟩:QS) t=vZ (RX (⟨s,g,h,c⟩:QS) t) (JW (⟨s,g,h,c⟩:QS) t) from(if_pos h1).trans (if_neg h3),show wN (⟨s,g,h,c⟩:QS) t=yu (RX (⟨s,g,h,c⟩:QS) t) (JW (⟨s,g,h,c⟩:QS) t) from(if_pos h1).trans (if_neg h3),show w9 (⟨s,g,h,c⟩:QS) t=[] from(if_pos h1).trans (if_neg h3),hc]
   exact⟨⟨f1⟩,⟨f1,f2,f3⟩,⟨f1⟩,⟨g1⟩,⟨⟨[0,1,2,3,6,7],rfl,rfl,⟨.inl rfl,rfl,rfl,rfl,⟨_,rfl,.inl rfl⟩,⟨_,rfl,.inl rfl⟩,trivial⟩,rfl,rfl,rfl,rfl⟩⟩⟩
  all_goals
   have h2:(!(mM (⟨s,g,h,c⟩:QS) t).ins)=an:=h2;have h2:(mM (⟨s,g,h,c⟩:QS) t).ins=ao:=by simpa using h2
  ·have h3:(mM (⟨s,g,h,c⟩:QS) t).here=ao:=h3;subst hG;rw[show jW (⟨s,g,h,c⟩:QS) t=⟨(Bl (⟨s,g,h,c⟩:QS) t).mt.drop (mM (⟨s,g,h,c⟩:QS) t),(Bl (⟨s,g,h,c⟩:QS) t).pr.drop (sl (mM (⟨s,g,h,c⟩:QS) t).it),(Bl (⟨s,g,h,c⟩:QS) t).gn,(Bl (⟨s,g,h,c⟩:QS) t).cap⟩ from(if_pos h1).trans ((if_pos h2).trans (if_pos h3)),show wN (⟨s,g,h,c⟩:QS) t=[] from(if_pos h1).trans (if_pos h2),show w9 (⟨s,g,h,c⟩:QS) t=[(mM (⟨s,g,h,c⟩:QS) t).it] from(if_pos h1).trans ((if_pos h2).trans (if_pos h3)),hc]
   exact⟨⟨f1⟩,⟨trivial⟩,⟨f2⟩,⟨⟨[0,1,2,3,90,6],rfl,rfl,⟨.inl rfl,rfl,rfl,rfl,⟨rfl,iG _,rfl⟩,⟨_,rfl,.inl rfl⟩,trivial⟩,rfl,rfl,rfl,rfl⟩⟩⟩
  ·have h3:(mM (⟨s,g,h,c⟩:QS) t).here=an:=h3;have h4:¬ (mM (⟨s,g,h,c⟩:QS) t).here=ao:=by rw[h3];decide
   obtain⟨g1,g2,g3⟩:=(ok h1).2 h2 h3;subst hG;rw[show jW (⟨s,g,h,c⟩:QS) t=⟨(zX (⟨s,g,h,c⟩:QS) t).mt.drop (mM (⟨s,g,h,c⟩:QS) t),(zX (⟨s,g,h,c⟩:QS) t).pr,(zX (⟨s,g,h,c⟩:QS) t).gn.drop (sl (mM (⟨s,g,h,c⟩:QS) t).it),(zX (⟨s,g,h,c⟩:QS) t).cap⟩ from(if_pos h1).trans ((if_pos h2).trans (if_neg h4)),show wN (⟨s,g,h,c⟩:QS) t=[] from(if_pos h1).trans (if_pos h2),show w9 (⟨s,g,h,c⟩:QS) t=C6 (XV (⟨s,g,h,c⟩:QS) t) (PG (⟨s,g,h,c⟩:QS) t) from(if_pos h1).trans ((if_pos h2).trans (if_neg h4)),hc]
   exact⟨⟨f1⟩,⟨by show -9223372036854775808≤Ef (⟨s,g,h,c⟩:QS) t+1;omega,by show Ef (⟨s,g,h,c⟩:QS) t+1≤9223372036854775807;omega⟩,⟨f1,f2,f3⟩,⟨g1⟩,⟨g2⟩,⟨trivial⟩,⟨g3⟩,⟨⟨[0,1,2,3,6,7],rfl,rfl,⟨.inl rfl,rfl,rfl,rfl,⟨_,rfl,.inl rfl⟩,⟨_,rfl,.inl rfl⟩,trivial⟩,rfl,rfl,rfl,rfl⟩⟩⟩
 ·cases hx
end Pa
namespace Pa
open Rx Wv Br
open Sh (rV wB mC sl nK)
set_option maxRecDepth 100000
set_option maxRecDepth 100000
set_option maxHeartbeats 8000000
abbrev amX (l:List Mk):Row:=⟨[.int .i64 0,.bool an,.int .i64 0,.int .i64 0,.bool an,.bool an,.int .i64 0,.int .i64 0],l.length,[⟨l.map fun e=>e.t,[],[]⟩,⟨[],l.map fun e=>e.ins,[]⟩,⟨l.map fun e=>e.it.k,[],[]⟩,⟨l.map fun e=>e.it.i,[],[]⟩,⟨[],l.map fun e=>e.here,[]⟩,⟨[],l.map fun e=>e.tf,[]⟩,⟨l.map fun e=>e.tk.k,[],[]⟩,⟨l.map fun e=>e.tk.i,[],[]⟩]⟩
theorem ajZ {α:Type} (v:α):cut [v] 0 1=[v]:=rfl
abbrev oMk (l:List Mk):Option (SB Rt):=aa (.inr (.inl (49,amX l)))
def afv:Prim Rt:=fun args hh=>match args,hh with
 |[.pointer (aa ⟨0,0,aj⟩)],[aa (.inl (98,[.int .i64 c,.pointer (aa ⟨1,0,aj⟩),.pointer (aa ⟨2,0,aj⟩),.pointer (aa ⟨3,0,aj⟩)])),aa (.inr (.inr (.inr (.inl (.tree s))))),aa (.inr (.inr (.inr (.inr (.tree g))))),aa (.inr (.inr (.inr (.inr (.tree h)))))]=>aa ⟨s.gk,.slice (aa ⟨4,0,aa 4000⟩) (⟨s,g,h,c⟩:QS).ops.length 0,aj,[bQ (mc (⟨s,g,h,c⟩:QS)),oM (mc (⟨s,g,h,c⟩:QS)).mt,oS (mc (⟨s,g,h,c⟩:QS)).pr,oS (mc (⟨s,g,h,c⟩:QS)).gn,oO (⟨s,g,h,c⟩:QS).ops],[],[(0,0)]⟩
 |_,_=>aj
theorem ahb:b6 D2 Tryz.prog 29 (a9 afv):=by
 refine fj Tryz.f29 fun args hh x hx=>?_
 unfold afv at hx;split at hx
 ·rename_i c s g h;cases hx;refine q4 fun _ hv=>?_
  generalize hG:ch (R:=Rt) _ _=G;refine cJ (T:=TQm) O1 mixed 200 ?_;refine bK (q:=let Z5:=aC (aa ⟨1,0,aj⟩);let Z6:=bk ar;let Z1:=(↑(ae (eK s)):Int);let Z2:=(aC (aa ⟨0,0,aj⟩));let Z3:=(bx (aa ⟨5,0,aa 4000⟩) 0 (aH Z1));let Z4:=(eK (dz s));Vc (eW s)/\Vc ((0:Int)≤(0:Int)/\(0:Int)≤Z1/\Z1*(32:Int)≤(140737488355328:Int)/\Z1≤(140737488355328:Int))/\Vc (eW (dz s))/\At D2 Tryz.prog (dJ Tryz.f29) 4 (iE Tryz.prog (dA (dC Tryz.f29)) G) [.inl [1,1,0,1,0],.inr (.inl 0),.inl [1,1,1]] (SS.mk (aa Z2::aj::aa (bx (aa ⟨4,0,aa 4000⟩) 0 0)::aa Z3::aj::aj::aa Z2::aa Z2::aa (aC (aa ⟨0,1,aj⟩))::aa (Z5)::aa (Z6 Z1)::aa Z3::aa Z2::aa Z2::aa (aC (aa ⟨0,1,aj⟩))::aa (Z5)::aa (bx (aa ⟨6,0,aa 8000⟩) (ae Z4) 0)::aa (Z6 (↑(ae Z4):Int))::aa (Z6 0)::n4 (n4 (aj::aj::[]))) [] [aa (.inl (98,[Z6 c,Z5,.pointer (aa ⟨2,0,aj⟩),.pointer (aa ⟨3,0,aj⟩)])),oM (sg (dz s)),oS g,oS h,aa (.inr (.inl (45,Row.mk [Z6 0,.bool an,Z6 0,Z6 0] 0 [aX.mk [] [] [],aX.mk [] [] [],aX.mk [] [] [],aX.mk [] [] []]))),aa (.inr (.inl (45,Row.mk [Z6 0,.bool an,Z6 0,Z6 0] 0 [aX.mk [] [] [],aX.mk [] [] [],aX.mk [] [] [],aX.mk [] [] []]))),aa (.inr (.inl (49,Row.mk [Z6 0,.bool an,Z6 0,Z6 0,.bool an,.bool an,Z6 0,Z6 0] (ae Z4) [aX.mk (au (fun e=>Mk.t e) Z4) [] [],aX.mk [] (au (fun e=>Mk.ins e) Z4) [],aX.mk (au (fun e=>It.k (Mk.it e)) Z4) [] [],aX.mk (au (fun e=>It.i (Mk.it e)) Z4) [] [],aX.mk [] (au (fun e=>Mk.here e) Z4) [],aX.mk [] (au (fun e=>Mk.tf e) Z4) [],aX.mk (au (fun e=>It.k (Mk.tk e)) Z4) [] [],aX.mk (au (fun e=>It.i (Mk.tk e)) Z4) [] []])))])) ?_ (by kernel_rfl)
  intro Z5 Z6 Z1 Z2 Z3 Z4;subst Z4 Z3 Z2 Z1 Z6 Z5;have hb:=s.C4;refine⟨⟨hv⟩,⟨⟨by omega,by omega,by omega,by omega⟩⟩,⟨hv⟩,?_⟩
  have hL:(⟨s,g,h,c⟩:QS).ops.length=s.l.length:=fR ..;refine kH (by kernel_rfl) (ι:=Nat×Nat) (fun x=>x.1≤s.l.length/\(x.1=s.l.length->x.2=0)) [3,16,17,18] (fun x=>[.slice (aa ⟨4,0,aa 4000⟩) ((⟨s,g,h,c⟩:QS).ops.take x.1).length x.2,.slice (aa ⟨5,0,aa 8000⟩) s.l.length 0,.int .i64 s.l.length,.int .i64 x.1]) (fun x=>[bQ (⟨s,g,h,c⟩:QS),oM s.seen.all,oS g,oS h,oO ((⟨s,g,h,c⟩:QS).ops.take x.1),oMk s.l]) (fun x=>s.l.length-x.1) 29 (fun i hi=>⟨rfl,rfl,by simp⟩) ⟨(0,(s.l.length:Int).toNat),⟨du _,fun h=>by rw[← h];rfl⟩,⟨[0,1,2,3,5,6],rfl,⟨.inl rfl,rfl,rfl,rfl,⟨_,rfl,.inl rfl⟩,⟨_,rfl,.inl rfl⟩,trivial⟩,rfl,rfl,rfl,rfl⟩⟩ fun x hx=>?_
  obtain⟨i,cp⟩:=x;obtain⟨hi,Wf⟩:=hx;simp only at hi Wf ⊢;refine cJ (T:=TQm) O1 mixed 200 ?_;refine bK (q:=let Z4:=bk ar;let Z1:=(eK s);let Z2:=(↑(ae Z1):Int);let Z3:=(gY i (QS.ops (QS.mk s g h c)));(decide ((↑i:Int)<Z2)=ao->Vc ((0:Int)≤(↑i:Int)/\(↑i:Int)<Z2/\0+ae Z1≤ae Z1)/\Vc (0+(i:Int).toNat<ae Z1)/\Vc (0+ae Z3≤ae Z3/\1≤1/\(ae Z3+1)*32≤140737488355328/\ae Z3+1≤140737488355328)/\Vc (fits ((↑i:Int)+(1:Int)))/\aW (∃ j,(aA j≤ae Z1/\(aA j=ae Z1->aw j=0))/\ae Z1-aA j<ae Z1-i/\j6 Rt 4 29 [3,16,17,18] [.slice (aa ⟨4,0,aa 4000⟩) (ae (gY (aA j) (QS.ops (QS.mk s g h c)))) (aw j),.slice (aa ⟨5,0,aa 8000⟩) (ae Z1) 0,Z4 Z2,Z4 (↑(aA j):Int)] [bQ (QS.mk s g h c),oM (sg (dz s)),oS g,oS h,oO (gY (aA j) (QS.ops (QS.mk s g h c))),oMk Z1] [aa (bx (aa ⟨8,0,aa 4000⟩) (ae Z3+1) 0),aa (bx (aa ⟨5,0,aa 8000⟩) (ae Z1) 0),aa (Z4 Z2),aa (Z4 ((↑i:Int)+(1:Int)))] [aa (.inl (98,[Z4 c,.pointer (aa ⟨1,0,aj⟩),.pointer (aa ⟨2,0,aj⟩),.pointer (aa ⟨3,0,aj⟩)])),oM (sg (dz s)),oS g,oS h,aj,aa (.inr (.inl (49,Row.mk [Z4 0,.bool an,Z4 0,Z4 0,.bool an,.bool an,Z4 0,Z4 0] (ae Z1) [aX.mk (au (fun e=>Mk.t e) Z1) [] [],aX.mk [] (au (fun e=>Mk.ins e) Z1) [],aX.mk (au (fun e=>It.k (Mk.it e)) Z1) [] [],aX.mk (au (fun e=>It.i (Mk.it e)) Z1) [] [],aX.mk [] (au (fun e=>Mk.here e) Z1) [],aX.mk [] (au (fun e=>Mk.tf e) Z1) [],aX.mk (au (fun e=>It.k (Mk.tk e)) Z1) [] [],aX.mk (au (fun e=>It.i (Mk.tk e)) Z1) [] []]))),aa (.inl (49,[Z4 (ax (au (fun e=>Mk.t e) Z1) (0+(i:Int).toNat) (0:Int)),.bool (ax (au (fun e=>Mk.ins e) Z1) (0+(i:Int).toNat) an),Z4 (ax (au (fun e=>It.k (Mk.it e)) Z1) (0+(i:Int).toNat) (0:Int)),Z4 (ax (au (fun e=>It.i (Mk.it e)) Z1) (0+(i:Int).toNat) (0:Int)),.bool (ax (au (fun e=>Mk.here e) Z1) (0+(i:Int).toNat) an),.bool (ax (au (fun e=>Mk.tf e) Z1) (0+(i:Int).toNat) an),Z4 (ax (au (fun e=>It.k (Mk.tk e)) Z1) (0+(i:Int).toNat) (0:Int)),Z4 (ax (au (fun e=>It.i (Mk.tk e)) Z1) (0+(i:Int).toNat) (0:Int))])),aa (.inr (.inl (45,Row.mk [Z4 0,.bool an,Z4 0,Z4 0] 1 [aX.mk [ax (au (fun e=>Mk.t e) Z1) (0+(i:Int).toNat) (0:Int)] [] [],aX.mk [] [ax (au (fun e=>Mk.ins e) Z1) (0+(i:Int).toNat) an] [],aX.mk [ax (au (fun e=>It.k (Mk.it e)) Z1) (0+(i:Int).toNat) (0:Int)] [] [],aX.mk [ax (au (fun e=>It.i (Mk.it e)) Z1) (0+(i:Int).toNat) (0:Int)] [] []]))),aa (.inr (.inl (45,Row.mk [Z4 0,.bool an,Z4 0,Z4 0] (ae Z3+1) [aX.mk (cut (au Op.t Z3) 0 (ae Z3)++cut [ax (au (fun e=>Mk.t e) Z1) (0+(i:Int).toNat) (0:Int)] 0 1) [] [],aX.mk [] (cut (au Op.ins Z3) 0 (ae Z3)++cut [ax (au (fun e=>Mk.ins e) Z1) (0+(i:Int).toNat) an] 0 1) [],aX.mk (cut (au (fun o=>It.k (Op.it o)) Z3) 0 (ae Z3)++cut [ax (au (fun e=>It.k (Mk.it e)) Z1) (0+(i:Int).toNat) (0:Int)] 0 1) [] [],aX.mk (cut (au (fun o=>It.i (Op.it o)) Z3) 0 (ae Z3)++cut [ax (au (fun e=>It.i (Mk.it e)) Z1) (0+(i:Int).toNat) (0:Int)] 0 1) [] []])))] 29))/\(decide ((↑i:Int)<Z2)=an->aW (G (bx (aa ⟨4,0,aa 4000⟩) (ae Z3) cp) [aa (.inl (98,[Z4 c,.pointer (aa ⟨1,0,aj⟩),.pointer (aa ⟨2,0,aj⟩),.pointer (aa ⟨3,0,aj⟩)])),oM (sg (dz s)),oS g,oS h,aa (.inr (.inl (45,oR Z3))),aa (.inr (.inl (49,Row.mk [Z4 0,.bool an,Z4 0,Z4 0,.bool an,.bool an,Z4 0,Z4 0] (ae Z1) [aX.mk (au (fun e=>Mk.t e) Z1) [] [],aX.mk [] (au (fun e=>Mk.ins e) Z1) [],aX.mk (au (fun e=>It.k (Mk.it e)) Z1) [] [],aX.mk (au (fun e=>It.i (Mk.it e)) Z1) [] [],aX.mk [] (au (fun e=>Mk.here e) Z1) [],aX.mk [] (au (fun e=>Mk.tf e) Z1) [],aX.mk (au (fun e=>It.k (Mk.tk e)) Z1) [] [],aX.mk (au (fun e=>It.i (Mk.tk e)) Z1) [] []])))]))) ?_ (by kernel_rfl)
  intro Z4 Z1 Z2 Z3;subst Z3 Z2 Z1 Z4;have gS:∀ {β:Type} (f:Mk->β) (d:β),f mz=d->(s.l.map f).getD i d=f (s.l.getD i mz):=fun f d h=>by
   subst h;rw[av,av,fh];cases s.l[i]?<;>rfl
  have hS:i<s.l.length->(⟨s,g,h,c⟩:QS).ops.take (i+1)=(⟨s,g,h,c⟩:QS).ops.take i++[opM (s.l.getD i mz)]:=fun h=>by
   rw[take_one (by rw[hL];exact h)]
   unfold QS.ops;rw[av,fh,av,bd h];rfl
  have FP:=List.length_take_le i (⟨s,g,h,c⟩:QS).ops;simp only[gS (fun e=>e.t) 0 rfl,gS (fun e=>e.ins) an rfl,gS (fun e=>e.it.k) 0 rfl,gS (fun e=>e.it.i) 0 rfl,gS (fun e=>e.here) an rfl,gS (fun e=>e.tf) an rfl,gS (fun e=>e.tk.k) 0 rfl,gS (fun e=>e.tk.i) 0 rfl,cm,ajZ,RZ]
  refine⟨fun h=>?_,fun h=>?_⟩
  ·have cj:i<s.l.length:=by have:=of_decide_eq_true h;omega
   refine⟨⟨by omega,by omega,by omega⟩,⟨by omega⟩,⟨by omega,by omega,by omega,by omega⟩,⟨by omega,by omega⟩,⟨(i+1,0),⟨cj,fun _=>rfl⟩,by simp only;omega,?_⟩⟩
   rw[hS cj];simp only[oO,oR,bA,cy,jN,dG,List.map_cons,List.map_nil,bV];exact⟨[0,1,2,3,8,5],rfl,⟨.inl rfl,rfl,rfl,rfl,⟨_,rfl,.inl rfl⟩,⟨_,rfl,.inl rfl⟩,trivial⟩,rfl,rfl,rfl,rfl⟩
  ·obtain rfl:i=s.l.length:=by have:=of_decide_eq_false h;omega
   obtain rfl:=Wf rfl;refine⟨?_⟩;subst hG;rw[← hL,js];exact⟨[0,1,2,3,4],rfl,rfl,⟨.inl rfl,rfl,rfl,rfl,⟨_,rfl,.inl rfl⟩,trivial⟩,rfl,rfl,rfl,rfl⟩
 ·cases hx
def ZY:Prim Rt:=fun args hh=>match args,hh with
 |[.pointer (aa ⟨0,0,aj⟩)],[aa (.inl (98,[.int .i64 c,.pointer (aa ⟨1,0,aj⟩),.pointer (aa ⟨2,0,aj⟩),.pointer (aa ⟨3,0,aj⟩)])),aa (.inr (.inr (.inr (.inl (.tree s))))),aa (.inr (.inr (.inr (.inr (.tree g))))),aa (.inr (.inr (.inr (.inr (.tree h)))))]=>aa ⟨(⟨s,g,h,c⟩:QS).Ok,.int .i64 (⟨s,g,h,c⟩:QS).ops.length,aj,[bQ (yd (⟨s,g,h,c⟩:QS)),oM (yd (⟨s,g,h,c⟩:QS)).mt,oS (yd (⟨s,g,h,c⟩:QS)).pr,oS (yd (⟨s,g,h,c⟩:QS)).gn],[],[(0,0)]⟩
 |_,_=>aj
theorem agL:b6 D2 Tryz.prog 35 (a9 ZY):=by
 refine D_ XB fun args hh x hx=>?_
 unfold ZY at hx;split at hx
 ·rename_i c s g h;cases hx;refine⟨_,rfl,by first|exact a_ _|exact kO _|exact qj _ 2|exact(by decide:(4:Nat)≤6),lM rfl,(fun hw=>by first|rfl|cases hw),fun hv=>?_⟩
  have hq:HQ (⟨s,g,h,c⟩:QS) (⟨s,g,h,c⟩:QS).ops (⟨s,g,h,c⟩:QS).cap 90000:=hv;have e:s.l.length=(⟨s,g,h,c⟩:QS).ops.length:=(fR ..).symm;refine⟨(hq.lT (by omega)).1,?_,rfl⟩
  show bk ar (s.l.length:Int)=_
  rw[e]
 ·cases hx
def ZS:Prim Rt:=fun args hh=>match args,hh with
 |[.pointer (aa ⟨0,0,aj⟩)],[aa (.inl (98,[.int .i64 c,.pointer (aa ⟨1,0,aj⟩),.pointer (aa ⟨2,0,aj⟩),.pointer (aa ⟨3,0,aj⟩)])),aa (.inr (.inr (.inr (.inl (.tree s))))),aa (.inr (.inr (.inr (.inr (.tree g))))),aa (.inr (.inr (.inr (.inr (.tree h)))))]=>aa ⟨(⟨s,g,h,c⟩:QS).Ok,.int .i64 ((⟨s,g,h,c⟩:QS).ops.filter fun o=>!o.ins).length,aj,[bQ (rS (⟨s,g,h,c⟩:QS)),oM (rS (⟨s,g,h,c⟩:QS)).mt,oS (rS (⟨s,g,h,c⟩:QS)).pr,oS (rS (⟨s,g,h,c⟩:QS)).gn],[],[(0,0)]⟩
 |_,_=>aj
theorem ag3:b6 D2 Tryz.prog 36 (a9 ZS):=by
 refine D_ Yl fun args hh x hx=>?_
 unfold ZS at hx;split at hx
 ·rename_i c s g h;cases hx;refine⟨_,rfl,by first|exact a_ _|exact kO _|exact qj _ 2|exact(by decide:(4:Nat)≤6),lM rfl,(fun hw=>by first|rfl|cases hw),fun hv=>?_⟩
  have hq:HQ (⟨s,g,h,c⟩:QS) (⟨s,g,h,c⟩:QS).ops (⟨s,g,h,c⟩:QS).cap 90000:=hv;refine⟨(hq.lT (by omega)).1,?_,rfl⟩
  show bk ar ((vg s.l).length:Int)=_
  rw[show s.l=gj (fin [] (⟨s,g,h,c⟩:QS).ops) (⟨s,g,h,c⟩:QS).ops from hq.m0,YA]
 ·cases hx
def SY:Prim Rt:=fun args hh=>match args,hh with
 |[.pointer (aa ⟨0,0,aj⟩)],[aa (.inl (98,[.int .i64 c,.pointer (aa ⟨1,0,aj⟩),.pointer (aa ⟨2,0,aj⟩),.pointer (aa ⟨3,0,aj⟩)])),aa (.inr (.inr (.inr (.inl (.tree s))))),aa (.inr (.inr (.inr (.inr (.tree g))))),aa (.inr (.inr (.inr (.inr (.tree h)))))]=>aa ⟨(⟨s,g,h,c⟩:QS).Ok,.int .i64 (o6 (⟨s,g,h,c⟩:QS).ops),aj,[bQ (nl (⟨s,g,h,c⟩:QS)),oM (nl (⟨s,g,h,c⟩:QS)).mt,oS (nl (⟨s,g,h,c⟩:QS)).pr,oS (nl (⟨s,g,h,c⟩:QS)).gn],[],[(0,0)]⟩
 |_,_=>aj
theorem X6:b6 D2 Tryz.prog 39 (a9 SY):=by
 refine D_ Yt fun args hh x hx=>?_
 unfold SY at hx;split at hx
 ·rename_i c s g h;cases hx;refine⟨_,rfl,by first|exact a_ _|exact kO _|exact qj _ 2|exact(by decide:(4:Nat)≤6),lM rfl,(fun hw=>by first|rfl|cases hw),fun hv=>?_⟩
  have hq:HQ (⟨s,g,h,c⟩:QS) (⟨s,g,h,c⟩:QS).ops (⟨s,g,h,c⟩:QS).cap 90000:=hv;exact⟨hq.lT (by omega),by show bk ar (rv (⟨s,g,h,c⟩:QS))=_;rw[hq.o6],rfl⟩
 ·cases hx
def YL:Prim Rt:=fun args hh=>match args,hh with
 |[.pointer (aa ⟨0,0,aj⟩)],[aa (.inl (98,[.int .i64 c,.pointer (aa ⟨1,0,aj⟩),.pointer (aa ⟨2,0,aj⟩),.pointer (aa ⟨3,0,aj⟩)])),aa (.inr (.inr (.inr (.inl (.tree s))))),aa (.inr (.inr (.inr (.inr (.tree g))))),aa (.inr (.inr (.inr (.inr (.tree h)))))]=>aa ⟨(⟨s,g,h,c⟩:QS).Ok,.slice (aa ⟨4,0,aa 4000⟩) (⟨s,g,h,c⟩:QS).ops.length 0,aj,[bQ (mc (⟨s,g,h,c⟩:QS)),oM (mc (⟨s,g,h,c⟩:QS)).mt,oS (mc (⟨s,g,h,c⟩:QS)).pr,oS (mc (⟨s,g,h,c⟩:QS)).gn,oO (⟨s,g,h,c⟩:QS).ops],[],[(0,0)]⟩
 |_,_=>aj
theorem ahh:b6 D2 Tryz.prog 29 (a9 YL):=by
 refine D_ ahb fun args hh x hx=>?_
 unfold YL at hx;split at hx
 ·rename_i c s g h;cases hx;refine⟨_,rfl,by first|exact a_ _|exact kO _|exact qj _ 2|exact(by decide:(4:Nat)≤6),lM rfl,(fun hw=>by first|rfl|cases hw),fun hv=>?_⟩
  have hq:HQ (⟨s,g,h,c⟩:QS) (⟨s,g,h,c⟩:QS).ops (⟨s,g,h,c⟩:QS).cap 90000:=hv;exact⟨(hq.lT (by omega)).1,rfl,rfl⟩
 ·cases hx
def Tv:Prim Rt:=fun args hh=>match args,hh with
 |[.pointer (aa ⟨0,0,aj⟩),.int .i64 t,.agg ⟨[.int .i64 a,.int .i64 b]⟩],[aa (.inl (98,[.int .i64 c,.pointer (aa ⟨1,0,aj⟩),.pointer (aa ⟨2,0,aj⟩),.pointer (aa ⟨3,0,aj⟩)])),aa (.inr (.inr (.inr (.inl (.tree s))))),aa (.inr (.inr (.inr (.inr (.tree g))))),aa (.inr (.inr (.inr (.inr (.tree h)))))]=>aa ⟨(⟨s,g,h,c⟩:QS).Ok/\(⟨s,g,h,c⟩:QS).ops.length≤59,.tuple #[.agg ⟨[.slice (aa ⟨4,0,aa 2000⟩) (dv (⟨s,g,h,c⟩:QS).ops (jy (⟨s,g,h,c⟩:QS).ops (⟨s,g,h,c⟩:QS).cap t ⟨a,b⟩)).length (dv (⟨s,g,h,c⟩:QS).ops (jy (⟨s,g,h,c⟩:QS).ops (⟨s,g,h,c⟩:QS).cap t ⟨a,b⟩)).length,.slice (aa ⟨5,0,aa 2000⟩) (dv (jy (⟨s,g,h,c⟩:QS).ops (⟨s,g,h,c⟩:QS).cap t ⟨a,b⟩) (⟨s,g,h,c⟩:QS).ops).length (dv (jy (⟨s,g,h,c⟩:QS).ops (⟨s,g,h,c⟩:QS).cap t ⟨a,b⟩) (⟨s,g,h,c⟩:QS).ops).length]⟩,.int .i64 (nR (⟨s,g,h,c⟩:QS).ops (⟨s,g,h,c⟩:QS).cap t ⟨a,b⟩)],aj,[bQ (kL (⟨s,g,h,c⟩:QS) t ⟨a,b⟩),oM (kL (⟨s,g,h,c⟩:QS) t ⟨a,b⟩).mt,oS (kL (⟨s,g,h,c⟩:QS) t ⟨a,b⟩).pr,oS (kL (⟨s,g,h,c⟩:QS) t ⟨a,b⟩).gn,oI (dv (⟨s,g,h,c⟩:QS).ops (jy (⟨s,g,h,c⟩:QS).ops (⟨s,g,h,c⟩:QS).cap t ⟨a,b⟩)),oI (dv (jy (⟨s,g,h,c⟩:QS).ops (⟨s,g,h,c⟩:QS).cap t ⟨a,b⟩) (⟨s,g,h,c⟩:QS).ops)],[],[(0,0)]⟩
 |_,_=>aj
theorem Xp:b6 D2 Tryz.prog 24 (a9 Tv):=by
 refine D_ ahJ fun args hh x hx=>?_
 unfold Tv at hx;split at hx
 ·rename_i t a b c s g h;cases hx;refine⟨_,rfl,by first|exact a_ _|exact kO _|exact qj _ 2|exact(by decide:(4:Nat)≤6),lM rfl,(fun hw=>by first|rfl|cases hw),fun hv=>?_⟩
  have hq:HQ (⟨s,g,h,c⟩:QS) (⟨s,g,h,c⟩:QS).ops (⟨s,g,h,c⟩:QS).cap 90000:=hv.1;obtain⟨g1,g2,g3,g4,g5,g6⟩:=Hi (t:=t) (x:=⟨a,b⟩) hq hv.2 (a_ _);refine⟨g1,?_,?_⟩
  ·rw[← g5,g6,← g2]
  ·rw[← g5,g6]
 ·cases hx
def S6:Prim Rt:=fun args hh=>match args,hh with
 |[.pointer (aa ⟨0,0,aj⟩),.int .i64 t],[aa (.inl (98,[.int .i64 c,.pointer (aa ⟨1,0,aj⟩),.pointer (aa ⟨2,0,aj⟩),.pointer (aa ⟨3,0,aj⟩)])),aa (.inr (.inr (.inr (.inl (.tree s))))),aa (.inr (.inr (.inr (.inr (.tree g))))),aa (.inr (.inr (.inr (.inr (.tree h)))))]=>aa ⟨(⟨s,g,h,c⟩:QS).Ok/\(⟨s,g,h,c⟩:QS).ops.length≤59,.tuple #[.agg ⟨[.slice (aa ⟨4,0,aa 2000⟩) (dv (⟨s,g,h,c⟩:QS).ops (jJ (⟨s,g,h,c⟩:QS).ops (⟨s,g,h,c⟩:QS).cap t)).length (dv (⟨s,g,h,c⟩:QS).ops (jJ (⟨s,g,h,c⟩:QS).ops (⟨s,g,h,c⟩:QS).cap t)).length,.slice (aa ⟨5,0,aa 2000⟩) (dv (jJ (⟨s,g,h,c⟩:QS).ops (⟨s,g,h,c⟩:QS).cap t) (⟨s,g,h,c⟩:QS).ops).length (dv (jJ (⟨s,g,h,c⟩:QS).ops (⟨s,g,h,c⟩:QS).cap t) (⟨s,g,h,c⟩:QS).ops).length]⟩,.int .i64 (pH (⟨s,g,h,c⟩:QS).ops (⟨s,g,h,c⟩:QS).cap t)],aj,[bQ (ks (⟨s,g,h,c⟩:QS) t),oM (ks (⟨s,g,h,c⟩:QS) t).mt,oS (ks (⟨s,g,h,c⟩:QS) t).pr,oS (ks (⟨s,g,h,c⟩:QS) t).gn,oI (dv (⟨s,g,h,c⟩:QS).ops (jJ (⟨s,g,h,c⟩:QS).ops (⟨s,g,h,c⟩:QS).cap t)),oI (dv (jJ (⟨s,g,h,c⟩:QS).ops (⟨s,g,h,c⟩:QS).cap t) (⟨s,g,h,c⟩:QS).ops)],[],[(0,0)]⟩
 |_,_=>aj
theorem XH:b6 D2 Tryz.prog 25 (a9 S6):=by
 refine D_ ahl fun args hh x hx=>?_
 unfold S6 at hx;split at hx
 ·rename_i t c s g h;cases hx;refine⟨_,rfl,by first|exact a_ _|exact kO _|exact qj _ 2|exact(by decide:(4:Nat)≤6),lM rfl,(fun hw=>by first|rfl|cases hw),fun hv=>?_⟩
  have hq:HQ (⟨s,g,h,c⟩:QS) (⟨s,g,h,c⟩:QS).ops (⟨s,g,h,c⟩:QS).cap 90000:=hv.1;obtain⟨g1,g2,g3,g4,g5,g6⟩:=Hl (t:=t) hq hv.2 (a_ _);refine⟨g1,?_,?_⟩
  ·rw[← g6,g5,← g2]
  ·rw[← g6,g5]
 ·cases hx
def TF:Prim Rt:=fun args hh=>match args,hh with
 |[.pointer (aa ⟨0,0,aj⟩),.int .i64 t],[aa (.inl (98,[.int .i64 c,.pointer (aa ⟨1,0,aj⟩),.pointer (aa ⟨2,0,aj⟩),.pointer (aa ⟨3,0,aj⟩)])),aa (.inr (.inr (.inr (.inl (.tree s))))),aa (.inr (.inr (.inr (.inr (.tree g))))),aa (.inr (.inr (.inr (.inr (.tree h)))))]=>aa ⟨(⟨s,g,h,c⟩:QS).Ok,.tuple #[.agg ⟨[.slice (aa ⟨4,0,aa 2000⟩) (dv (⟨s,g,h,c⟩:QS).ops (kX (⟨s,g,h,c⟩:QS).ops t)).length (dv (⟨s,g,h,c⟩:QS).ops (kX (⟨s,g,h,c⟩:QS).ops t)).length,.slice (aa ⟨5,0,aa 2000⟩) (dv (kX (⟨s,g,h,c⟩:QS).ops t) (⟨s,g,h,c⟩:QS).ops).length (dv (kX (⟨s,g,h,c⟩:QS).ops t) (⟨s,g,h,c⟩:QS).ops).length]⟩,.int .i64 (ve (⟨s,g,h,c⟩:QS).ops t)],aj,[bQ (jW (⟨s,g,h,c⟩:QS) t),oM (jW (⟨s,g,h,c⟩:QS) t).mt,oS (jW (⟨s,g,h,c⟩:QS) t).pr,oS (jW (⟨s,g,h,c⟩:QS) t).gn,oI (dv (⟨s,g,h,c⟩:QS).ops (kX (⟨s,g,h,c⟩:QS).ops t)),oI (dv (kX (⟨s,g,h,c⟩:QS).ops t) (⟨s,g,h,c⟩:QS).ops)],[],[(0,0)]⟩
 |_,_=>aj
theorem X5:b6 D2 Tryz.prog 27 (a9 TF):=by
 refine D_ ahi fun args hh x hx=>?_
 unfold TF at hx;split at hx
 ·rename_i t c s g h;cases hx;refine⟨_,rfl,by first|exact a_ _|exact kO _|exact qj _ 2|exact(by decide:(4:Nat)≤6),lM rfl,(fun hw=>by first|rfl|cases hw),fun hv=>?_⟩
  have hq:HQ (⟨s,g,h,c⟩:QS) (⟨s,g,h,c⟩:QS).ops (⟨s,g,h,c⟩:QS).cap 90000:=hv;obtain⟨g1,g2,g3,g4,g5,g6⟩:=Ld (t:=t) hq (a_ _);refine⟨g1,?_,?_⟩
  ·rw[← g5,← g6,← g2]
  ·rw[← g5,← g6]
 ·cases hx
end Pa
namespace Pa
open Rx Wv Br Sh
set_option maxRecDepth 100000
set_option maxHeartbeats 8000000
def z1:Nat->Bool:=fun j=>fb j 1
abbrev se (q:QS):Option (SB Rt):=aa (.inl (98,[.int .i64 q.cap,.pointer (aa ⟨2,0,aj⟩),.pointer (aa ⟨3,0,aj⟩),.pointer (aa ⟨4,0,aj⟩)]))
def Pm (a:Act):Int:=wx a.k 3
def yC (l:List Op) (c:Int) (a:Act):Int:=if Pm a=2 then ve l (fo a l) else if Pm a=0 then nR l c (fo a l) a.x else pH l c (fo a l)
def qZ (l:List Op) (c:Int) (a:Act):List Op:=if Pm a=2 then kX l (fo a l) else if Pm a=0 then jy l c (fo a l) a.x else jJ l c (fo a l)
def jg (q:QS) (a:Act):QS:=if Pm a=2 then jW q (fo a q.ops) else if Pm a=0 then kL q (fo a q.ops) a.x else ks q (fo a q.ops)
theorem afU {q:QS} {l:List Op} {c:Int} {n:Nat} {a:Act} (h:HQ q l c n) (wZ:l.length≤59) (hn:n≤90000):HQ (jg q a) (qZ l c a) c (n+10)/\(jg q a).qR≤q.qR+10000*(uU l.length+4:Nat):=by
 unfold jg qZ;rw[h.ops];split
 ·have:=Ld (t:=fo a l) h hn;exact⟨this.2.2.1,this.2.2.2.1⟩
 ·split
  ·have:=Hi (t:=fo a l) (x:=a.x) h wZ hn;exact⟨this.2.2.1,this.2.2.2.1⟩
  ·have:=Hl (t:=fo a l) h wZ hn;exact⟨this.2.2.1,this.2.2.2.1⟩
theorem aaF {l:List Op} {c:Int} {a:Act} (h:yC l c a≠0):qZ l c a=l:=by
 unfold yC at h;unfold qZ;split
 ·rename_i k;rw[if_pos k] at h;unfold kX;rw[if_neg h]
 ·rename_i k;rw[if_neg k] at h;split
  ·rename_i k2;rw[if_pos k2] at h;unfold jy;rw[if_neg h]
  ·rename_i k2;rw[if_neg k2] at h;unfold jJ;rw[if_neg h]
theorem ajs {l:List Op} {c:Int} {a:Act}:(qZ l c a).length≤l.length+1:=by
 unfold qZ;split
 ·unfold kX;split
  ·unfold Jh;rw[bA,dZ,jt];omega
  ·omega
 ·split
  ·unfold jy;split
   ·rw[NS];exact a_ _
   ·omega
  ·unfold jJ;split
   ·rw[NS];exact a_ _
   ·omega
def Cv (l:List Op) (i:Nat):Nat:=((l.take i).filter fun o=>!o.ins).length
theorem af4 (l:List Op):Cv l l.length=(l.filter fun o=>!o.ins).length:=by unfold Cv;rw[js]
theorem ai_ (l:List Op) (i:Nat):Cv l i≤l.length:=by
 unfold Cv;have h1:=rj (fun o:Op=>!o.ins) (l.take i)
 rw[dZ] at h1;omega
theorem ahC {l:List Op} {i:Nat} (h:i<l.length):Cv l (i+1)=Cv l i+if(l.getD i oz).ins=ao then 0 else 1:=by
 unfold Cv;rw[take_one h,mh,bA,jS];cases(l.getD i oz).ins<;>rfl
def akt (q:QS):QS:={ q with pr:=q.pr.seen.all }
def akX (q:QS):QS:={ q with gn:=q.gn.seen.all }
def tc (q:QS):QS:=akX (akt (mc (nl (rS (yd q)))))
theorem ait {q:QS} {l:List Op} {c:Int} {n:Nat} (h:HQ q l c n) (hn:n≤100000):HQ (akt q) l c (n+1) :=
 (h.look (k:=2100) ((h.mq.pr' (h.Jb hn) (by omega) (s:=q.pr.seen.all) (e:=2100) (d:=0) h.p0 rfl (a_ _) (q.pr.qb.trans q.pr.seen.Qv) (by have:=q.pr.seen.C4;omega)).up (a_ _) (by omega)) (by omega)).1
theorem ak7 {q:QS} {l:List Op} {c:Int} {n:Nat} (h:HQ q l c n) (hn:n≤100000):HQ (akX q) l c (n+1) :=
 (h.look (k:=2100) ((h.mq.gn' (h.Jb hn) (by omega) (s:=q.gn.seen.all) (e:=2100) (d:=0) h.g0 rfl (a_ _) (q.gn.qb.trans q.gn.seen.Qv) (by have:=q.gn.seen.C4;omega)).up (a_ _) (by omega)) (by omega)).1
theorem aaJ {q:QS} {l:List Op} {c:Int} {n:Nat} (h:HQ q l c n) (hn:n≤100000):HQ (yd q) l c (n+1):=(h.look (h.mq.len_ (h.Jb hn) (by omega)) (by omega)).1
theorem abS {q:QS} {l:List Op} {c:Int} {n:Nat} (h:HQ q l c n) (hn:n≤100000):HQ (rS q) l c (n+1):=(h.look (h.mq.akq (h.Jb hn) (by omega)) (by omega)).1
theorem ab9 {q:QS} {l:List Op} {c:Int} {n:Nat} (h:HQ q l c n) (hn:n≤100000):HQ (nl q) l c (n+1):=(h.look (h.mq.adO (h.Jb hn) (by omega)) (by omega)).1
theorem acK {q:QS} {l:List Op} {c:Int} {n:Nat} (h:HQ q l c n) (hn:n≤100000):HQ (mc q) l c (n+1):=(h.look (h.mq.anF (h.Jb hn) (by omega)) (by omega)).1
theorem ak0 {q:QS} {l:List Op} {c:Int} {n:Nat} (h:HQ q l c n) (hn:n≤90000):HQ (tc q) l c (n+10):=(ak7 (ait (acK (ab9 (abS (aaJ h (by omega)) (by omega)) (by omega)) (by omega)) (by omega)) (by omega)).mono (by omega)
abbrev QS.J1 (q:QS):Prop:=HQ q q.ops q.cap 80000
def THo:ez Rt:=[(19,tG z0 2 (a9 YZ)),(35,bJ zN 2 (a9 ZY)),(36,bJ zN 2 (a9 ZS)),(39,bJ zN 2 (a9 SY)),(29,bJ zN 2 (a9 YL)),(23,bJ zN 2 (a9 ZM)),(37,bJ zN 2 (a9 Y8)),(28,tG z01 2 (a9 aer)),(22,bJ zN 2 (c9 (a9 G9.Vx))),(26,tG z01 2 (a9 Te))]
theorem acG:cL D2 Tryz.prog THo:=⟨nU _ _ ab3,aT _ _ agL,aT _ _ ag3,aT _ _ X6,aT _ _ ahh,aT _ _ agF,aT _ _ agl,nU _ _ akZ,aT _ _ (wb G9.adX),nU _ _ Yj,trivial⟩
def Zf:Prim Rt:=fun args hh=>match args,hh with
 |[.pointer (aa ⟨0,0,aj⟩),.slice (aa ⟨1,0,aa 4000⟩) n cc],[aa (.inl (98,[.int .i64 c,.pointer (aa ⟨2,0,aj⟩),.pointer (aa ⟨3,0,aj⟩),.pointer (aa ⟨4,0,aj⟩)])),aa (.inr (.inr (.inl r))),aa (.inr (.inr (.inr (.inl (.tree s))))),aa (.inr (.inr (.inr (.inr (.tree g))))),aa (.inr (.inr (.inr (.inr (.tree h)))))]=>aa ⟨(r=oR (⟨s,g,h,c⟩:QS).ops/\n=(⟨s,g,h,c⟩:QS).ops.length)/\(⟨s,g,h,c⟩:QS).J1,.bool ao,aj,[se (tc (⟨s,g,h,c⟩:QS)),vO (⟨s,g,h,c⟩:QS).ops,oM (tc (⟨s,g,h,c⟩:QS)).mt,oS (tc (⟨s,g,h,c⟩:QS)).pr,oS (tc (⟨s,g,h,c⟩:QS)).gn],[],[(0,0)]⟩
 |_,_=>aj
theorem aht:b6 D2 Tryz.prog 18 (a9 Zf):=by
 refine fj Tryz.f18 fun args hh x hx=>?_
 unfold Zf at hx;split at hx
 ·rename_i n cc c r s g h;cases hx;refine q4 fun _ hv=>?_
  obtain⟨⟨hr,rfl⟩,hq⟩:=hv;have hq:HQ (⟨s,g,h,c⟩:QS) (⟨s,g,h,c⟩:QS).ops c 80000:=hq;generalize hO:(⟨s,g,h,c⟩:QS).ops=l at *;subst hr
  generalize hG:ch (R:=Rt) _ _=G;refine cJ (T:=THo) acG mixed 200 ?_;refine bK (q:=let Z7:=bk ar;let Z1:=(uO (rM l 0 l.length));let Z2:=(bx (aa ⟨1,0,aa 4000⟩) l.length cc);let Z3:=(bx (aa ⟨6,0,aa 2000⟩) (ae (fin [] Z1)) 0);let Z4:=(bx (aa ⟨7,0,aa 2000⟩) (ae (mK (tk [] Z1))) 0);let Z5:=(bx (aa ⟨8,0,aa 3000⟩) (ae (kb [] Z1)) 0);let Z6:=(cq (aO [.slice (aa ⟨6,0,aa 2000⟩) (ae (fin [] Z1)) 0,.slice (aa ⟨7,0,aa 2000⟩) (ae (mK (tk [] Z1))) 0,Z7 (↑(gw [] Z1):Int),.slice (aa ⟨8,0,aa 3000⟩) (ae (kb [] Z1)) 0]));Vc ((0+ae l≤ae l/\True)/\rM l 0 l.length=oR Z1/\ae l=ae Z1/\ae Z1≤100/\List.Nodup (gx Z1))/\At D2 Tryz.prog (dJ Tryz.f18) 5 (iE Tryz.prog (dA (dC Tryz.f18)) G) [.inl [1,1,1,0,1,0],.inr (.inl 0),.inl [1,1,1,1]] (SS.mk (aa (aC (aa ⟨0,0,aj⟩))::aa Z2::aj::aj::aa (aD an)::aa Z3::aa Z4::aa (Z7 (↑(gw [] Z1):Int))::aa Z5::aa (Z7 0)::aa (Z7 0)::aa Z6::aa Z2::aa Z6::aa Z3::aa Z4::aa (Z7 (↑(gw [] Z1):Int))::aa Z5::nH (nH (nH (aj::aj::aj::[])))) [(4,an)] [aa (.inl (98,[Z7 c,.pointer (aa ⟨2,0,aj⟩),.pointer (aa ⟨3,0,aj⟩),.pointer (aa ⟨4,0,aj⟩)])),aa (.inr (.inr (.inl (oR l)))),oM s,oS g,oS h,aj,aa (.inr (.inl (31,iR (fin [] Z1)))),aa (.inr (.inl (31,iR (mK (tk [] Z1))))),aa (.inr (.inl (47,Row.mk [.bool an,Z7 0,Z7 0] (ae (kb [] Z1)) [aX.mk [] (au ij (kb [] Z1)) [],aX.mk (au (fun x=>It.k (gK x (It.mk (0:Int) (0:Int)))) (kb [] Z1)) [] [],aX.mk (au (fun x=>It.i (gK x (It.mk (0:Int) (0:Int)))) (kb [] Z1)) [] []])))])) ?_ (by kernel_rfl)
  intro Z7 Z1 Z2 Z3 Z4 Z5 Z6;subst Z6 Z5 Z4 Z3 Z2 Z1 Z7;simp only[xz,Jz,FV];have hb:=hq.FH;refine⟨⟨⟨by omega,trivial⟩,trivial,trivial,by omega,hq.nd⟩,?_⟩
  refine kH (by kernel_rfl) (ι:=Nat) (fun i=>i≤l.length) [0,1,5,6,7,9,10] (fun i=>[.pointer (aa ⟨0,0,aj⟩),.slice (aa ⟨1,0,aa 4000⟩) l.length cc,.slice (aa ⟨5,0,aa 2000⟩) (fin [] l).length 0,.slice (aa ⟨6,0,aa 2000⟩) (mK (tk [] l)).length 0,.int .i64 (gw [] l),.int .i64 (Cv l i),.int .i64 i]) (fun i=>[aa (.inl (98,[.int .i64 c,.pointer (aa ⟨2,0,aj⟩),.pointer (aa ⟨3,0,aj⟩),.pointer (aa ⟨4,0,aj⟩)])),vO l,oM s,oS g,oS h,oI (fin [] l),oI (mK (tk [] l))]) (fun i=>l.length-i) 69 (fun i hi=>⟨rfl,rfl,by simp⟩) ⟨0,du _,⟨[0,1,2,3,4,6,7],rfl,⟨.inl rfl,rfl,rfl,rfl,rfl,⟨_,rfl,.inl rfl⟩,⟨_,rfl,.inl rfl⟩,trivial⟩,rfl,rfl,rfl,rfl⟩⟩ fun i hi=>?_
  refine cJ (T:=THo) acG mixed 200 ?_;refine bK (q:=let gu:=aC (aa ⟨2,0,aj⟩);let mP:=aC (aa ⟨0,0,aj⟩);let kS:=aC (aa ⟨4,0,aj⟩);let e9:=aC (aa ⟨3,0,aj⟩);let mL:=bk ar;let Z1:=(ae (fin [] l));let Z2:=(mK (tk [] l));let Z3:=(bx (aa ⟨1,0,aa 4000⟩) l.length cc);let Z4:=(bx (aa ⟨6,0,aa 2000⟩) (ae Z2) 0);let Z5:=(yd (QS.mk s g h c));let Z6:=(nl (rS Z5));let Z7:=(uO (rM (QS.ops Z6) 0 (ae (QS.ops Z6))));let Z8:=(uO (rM (QS.ops Z6) 0 (ae (QS.ops Z6)))=uO (rM l 0 l.length));let Z9:=(G9.its (QS.pr (mc Z6)));let dX:=(fZ (nA Z9 0 (ae (eK (QS.pr (mc Z6))))));let cx:=(fZ (nA Z9 0 (ae (eK (QS.pr (mc Z6)))))=fZ (nA (fin [] l) 0 Z1));let dF:=(G9.its (QS.gn (mc Z6)));let fx:=(fZ (nA dF 0 (ae (eK (QS.gn (mc Z6))))));(decide ((↑i:Int)<(↑l.length:Int))=ao->Vc ((0:Int)≤(↑i:Int)/\(↑i:Int)<(↑l.length:Int)/\0+ae l≤ae l)/\Vc (0+(i:Int).toNat<ae l)/\((!ax (au Op.ins l) (0+(i:Int).toNat) an)=ao->Vc (fits ((↑(Cv l i):Int)+(1:Int)))/\Vc (fits ((↑i:Int)+(1:Int)))/\aW (∃ j,j≤ae l/\ae l-j<ae l-i/\j6 Rt 5 69 [0,1,5,6,7,9,10] [mP,.slice (aa ⟨1,0,aa 4000⟩) l.length cc,.slice (aa ⟨5,0,aa 2000⟩) Z1 0,.slice (aa ⟨6,0,aa 2000⟩) (ae Z2) 0,mL (↑(gw [] l):Int),mL (↑(Cv l j):Int),mL (↑j:Int)] [aa (.inl ((98:TypeId),[mL c,gu,e9,kS])),vO l,oM s,oS g,oS h,oI (fin [] l),oI Z2] [aa (mP),aa Z3,aa (bx (aa ⟨5,0,aa 2000⟩) Z1 0),aa Z4,aa (mL (↑(gw [] l):Int)),aa (mL ((↑(Cv l i):Int)+(1:Int))),aa (mL ((↑i:Int)+(1:Int)))] [aa (.inl (98,[mL c,gu,e9,kS])),aa (.inr (.inr (.inl (oR l)))),oM s,oS g,oS h,aa (.inr (.inl (31,iR (fin [] l)))),aa (.inr (.inl (31,iR Z2)))] 69))/\((!ax (au Op.ins l) (0+(i:Int).toNat) an)=an->Vc (fits ((↑i:Int)+(1:Int)))/\aW (∃ j,j≤ae l/\ae l-j<ae l-i/\j6 Rt 5 69 [0,1,5,6,7,9,10] [mP,.slice (aa ⟨1,0,aa 4000⟩) l.length cc,.slice (aa ⟨5,0,aa 2000⟩) Z1 0,.slice (aa ⟨6,0,aa 2000⟩) (ae Z2) 0,mL (↑(gw [] l):Int),mL (↑(Cv l j):Int),mL (↑j:Int)] [aa (.inl ((98:TypeId),[mL c,gu,e9,kS])),vO l,oM s,oS g,oS h,oI (fin [] l),oI Z2] [aa (mP),aa Z3,aa (bx (aa ⟨5,0,aa 2000⟩) Z1 0),aa Z4,aa (mL (↑(gw [] l):Int)),aa (mL (↑(Cv l i):Int)),aa (mL ((↑i:Int)+(1:Int)))] [aa (.inl (98,[mL c,gu,e9,kS])),aa (.inr (.inr (.inl (oR l)))),oM s,oS g,oS h,aa (.inr (.inl (31,iR (fin [] l)))),aa (.inr (.inl (31,iR Z2)))] 69)))/\(decide ((↑i:Int)<(↑l.length:Int))=an->Vc (QS.Ok (QS.mk s g h c))/\(((↑(ae (QS.ops (QS.mk s g h c))):Int)==(↑l.length:Int))=ao->Vc (QS.Ok Z5)/\(((↑(ae (Xf (fun o=>!Op.ins o) (QS.ops Z5))):Int)==(↑(Cv l i):Int))=ao->Vc (QS.Ok (rS Z5))/\((o6 (QS.ops (rS Z5))==(↑(gw [] l):Int))=ao->Vc (QS.Ok Z6)/\Vc ((0+ae (QS.ops Z6)≤ae (QS.ops Z6)/\0+ae l≤ae l/\True)/\rM (QS.ops Z6) 0 (ae (QS.ops Z6))=oR Z7/\ae (QS.ops Z6)=ae Z7/\rM l 0 l.length=oR (uO (rM l 0 l.length))/\ae l=ae (uO (rM l 0 l.length))/\ae Z7≤100000)/\(decide Z8=ao->Vc True/\Vc (eW (QS.pr (mc Z6)))/\Vc ((0+ae (eK (QS.pr (mc Z6)))≤ae Z9/\0+ae (fin [] l)≤ae (fin [] l)/\True)/\nA Z9 0 (ae (eK (QS.pr (mc Z6))))=iR dX/\ae (eK (QS.pr (mc Z6)))=ae dX/\nA (fin [] l) 0 Z1=iR (fZ (nA (fin [] l) 0 Z1))/\ae (fin [] l)=ae (fZ (nA (fin [] l) 0 Z1))/\ae dX≤100000)/\(decide cx=ao->Vc True/\Vc (eW (QS.gn (mc Z6)))/\Vc ((0+ae (eK (QS.gn (mc Z6)))≤ae dF/\0+ae Z2≤ae Z2/\True)/\nA dF 0 (ae (eK (QS.gn (mc Z6))))=iR fx/\ae (eK (QS.gn (mc Z6)))=ae fx/\nA Z2 0 (ae Z2)=iR (fZ (nA Z2 0 (ae Z2)))/\ae Z2=ae (fZ (nA Z2 0 (ae Z2)))/\ae fx≤100000)/\aW (G (aD (decide (fZ (nA dF 0 (ae (eK (QS.gn (mc Z6)))))=fZ (nA Z2 0 (ae Z2))))) [aa (.inl (98,[mL (QS.cap (mc Z6)),gu,e9,kS])),aa (.inr (.inr (.inl (oR l)))),oM (QS.mt (mc Z6)),oS (sg (dz (QS.pr (mc Z6)))),oS (sg (dz (QS.gn (mc Z6)))),aa (.inr (.inl (31,iR (fin [] l)))),aa (.inr (.inl (31,iR Z2))),aa (.inr (.inl (45,oR (QS.ops Z6)))),aa (.inr (.inl (31,iR Z9))),aa (.inr (.inl (31,iR dF)))]))/\(decide cx=an->aW (G (aD an) [aa (.inl (98,[mL (QS.cap (mc Z6)),gu,e9,kS])),aa (.inr (.inr (.inl (oR l)))),oM (QS.mt (mc Z6)),oS (sg (dz (QS.pr (mc Z6)))),oS (QS.gn (mc Z6)),aa (.inr (.inl (31,iR (fin [] l)))),aa (.inr (.inl (31,iR Z2))),aa (.inr (.inl (45,oR (QS.ops Z6)))),aa (.inr (.inl (31,iR Z9)))])))/\(decide Z8=an->aW (G (aD an) [aa (.inl (98,[mL (QS.cap (mc Z6)),gu,e9,kS])),aa (.inr (.inr (.inl (oR l)))),oM (QS.mt (mc Z6)),oS (QS.pr (mc Z6)),oS (QS.gn (mc Z6)),aa (.inr (.inl (31,iR (fin [] l)))),aa (.inr (.inl (31,iR Z2))),aa (.inr (.inl (45,oR (QS.ops Z6))))])))/\((o6 (QS.ops (rS Z5))==(↑(gw [] l):Int))=an->aW (G (aD an) [aa (.inl (98,[mL (QS.cap Z6),gu,e9,kS])),aa (.inr (.inr (.inl (oR l)))),oM (QS.mt Z6),oS (QS.pr Z6),oS (QS.gn Z6),aa (.inr (.inl (31,iR (fin [] l)))),aa (.inr (.inl (31,iR Z2)))])))/\(((↑(ae (Xf (fun o=>!Op.ins o) (QS.ops Z5))):Int)==(↑(Cv l i):Int))=an->aW (G (aD an) [aa (.inl (98,[mL (QS.cap (rS Z5)),gu,e9,kS])),aa (.inr (.inr (.inl (oR l)))),oM (QS.mt (rS Z5)),oS (QS.pr (rS Z5)),oS (QS.gn (rS Z5)),aa (.inr (.inl (31,iR (fin [] l)))),aa (.inr (.inl (31,iR Z2)))])))/\(((↑(ae (QS.ops (QS.mk s g h c))):Int)==(↑l.length:Int))=an->aW (G (aD an) [aa (.inl (98,[mL (QS.cap Z5),gu,e9,kS])),aa (.inr (.inr (.inl (oR l)))),oM (QS.mt Z5),oS (QS.pr Z5),oS (QS.gn Z5),aa (.inr (.inl (31,iR (fin [] l)))),aa (.inr (.inl (31,iR Z2)))])))) ?_ (by kernel_rfl)
  intro gu mP kS e9 mL Z1 Z2 Z3 Z4 Z5 Z6 Z7 Z8 Z9 dX cx dF fx;subst fx dF cx dX Z9 Z8 Z7 Z6 Z5 Z4 Z3 Z2 Z1 mL e9 kS mP gu;have Ay:=ai_ l i;simp only[RZ,FJ Op.ins an rfl];refine⟨fun hh=>?_,fun hh=>?_⟩
  ·have cj:i<l.length:=by have:=of_decide_eq_true hh;omega
   have b1:(0:Int)≤(i:Int)/\(i:Int)<(l.length:Int)/\0+l.length≤l.length:=⟨by omega,by omega,by omega⟩
   have h1:=ahC cj;refine⟨⟨b1⟩,⟨cj⟩,fun h2=>⟨⟨by omega,by omega⟩,⟨by omega,by omega⟩,⟨i+1,cj,by omega,?_⟩⟩,fun h2=>⟨⟨by omega,by omega⟩,⟨i+1,cj,by omega,?_⟩⟩⟩
   ·have h3:(l.getD i oz).ins=an:=by simpa using h2
    rw[if_neg (by rw[h3];decide)] at h1
    have h1:(Cv l (i+1):Int)=Cv l i+1:=by omega
    rw[h1];exact⟨[0,1,2,3,4,5,6],rfl,⟨.inl rfl,rfl,rfl,rfl,rfl,⟨_,rfl,.inl rfl⟩,⟨_,rfl,.inl rfl⟩,trivial⟩,rfl,rfl,rfl,rfl⟩
   ·have h3:(l.getD i oz).ins=ao:=by simpa using h2
    rw[if_pos h3,Nat.add_zero] at h1;rw[h1];exact⟨[0,1,2,3,4,5,6],rfl,⟨.inl rfl,rfl,rfl,rfl,rfl,⟨_,rfl,.inl rfl⟩,⟨_,rfl,.inl rfl⟩,trivial⟩,rfl,rfl,rfl,rfl⟩
  ·obtain rfl:i=l.length:=by have:=of_decide_eq_false hh;omega
   have q1:=aaJ hq (by omega)
   have q2:=abS q1 (by omega)
   have q3:=ab9 q2 (by omega)
   have q4:=acK q3 (by omega)
   have i1:=G9.XY q4.p0;have i2:G9.its (mc (nl (rS (yd (⟨s,g,h,c⟩:QS))))).gn=mK (tk [] l):=G9.XY q4.g0;have n1:(mc (nl (rS (yd (⟨s,g,h,c⟩:QS))))).pr.l.length=(fin [] l).length:=by rw[q4.p0];exact fR ..
   have n2:(mc (nl (rS (yd (⟨s,g,h,c⟩:QS))))).gn.l.length=(mK (tk [] l)).length:=by rw[q4.g0];exact fR ..
   have l1:=Bw l;have l2:=Tq l;have l2:(mK (tk [] l)).length≤l.length:=l2;have fw:∀ s:T9,s.n≤90000->s.gk:=fun s hs=>Nat.lt_of_le_of_lt hs (by decide)
   have f2:=(q4.lT (by omega)).2.1
   have f3:=(q4.lT (by omega)).2.2
   simp only[hO,q1.ops,q2.ops,q3.ops,i1,i2,n1,n2,af4,xz,FV,BQ,CR,o6,beq_self_eq_true,eq_self,decide_true];refine⟨⟨(hq.mono (by omega)).ok⟩,fun _=>⟨⟨(q1.mono (by omega)).ok⟩,fun _=>⟨⟨(q2.mono (by omega)).ok⟩,fun _=>⟨⟨(q3.mono (by omega)).ok⟩,⟨⟨by omega,by omega,trivial⟩,trivial,trivial,trivial,trivial,by omega⟩,fun _=>⟨⟨trivial⟩,⟨f2⟩,⟨⟨by omega,by omega,trivial⟩,trivial,trivial,trivial,trivial,by omega⟩,fun _=>⟨⟨trivial⟩,⟨f3⟩,⟨⟨by omega,by omega,trivial⟩,trivial,trivial,trivial,trivial,by omega⟩,⟨?_⟩⟩,fun h=>by cases h⟩,fun h=>by cases h⟩,fun h=>by cases h⟩,fun h=>by cases h⟩,fun h=>by cases h⟩
   subst hG;exact⟨[0,1,2,3,4],rfl,rfl,⟨.inl rfl,rfl,rfl,rfl,rfl,trivial⟩,rfl,rfl,rfl,rfl⟩
 ·cases hx
end Pa
namespace Pa
open Go.RowKit Rx Wv Br Sh
set_option maxRecDepth 100000
set_option maxHeartbeats 16000000
theorem abl (c:Int):HQ (vo c) [] (sH c) 0:=by
 have hc:0≤sH c/\sH c≤65536:=by unfold sH;omega
 have e:min (max (sH c) 0) 16777216=sH c:=by omega
 exact⟨⟨rfl,rfl,rfl,rfl,e,e,e,a_ _,a_ _,a_ _,⟨ny _,ny _⟩,⟨ny _,ny _⟩,⟨ny _,ny _⟩⟩,rP,List.nodup_nil,(fun o h=>by cases h),⟨hc.1,hc.2⟩,du _,ny _,ny _,ny _⟩
def Sn:ez Rt:=[(15,bJ zN 2 (a9 TD)),(24,bJ zN 2 (a9 Tv)),(25,bJ zN 2 (a9 S6)),(27,bJ zN 2 (a9 TF)),(39,bJ zN 2 (a9 SY))]
theorem EC:cL D2 Tryz.prog Sn:=⟨aT _ _ X8,aT _ _ Xp,aT _ _ XH,aT _ _ X5,aT _ _ X6,trivial⟩
abbrev bCw (a b i j:Nat):Option (SB Rt):=aa (.inl (59,[.slice (aa ⟨i,0,aa 2000⟩) a a,.slice (aa ⟨j,0,aa 2000⟩) b b]))
theorem agr {G:Value->Hp Rt->Prop} (hG:∀ rest,G (.bool ao) rest):At D2 Tryz.prog (dJ Tryz.f14) 0 (iE Tryz.prog Tryz.f14.results.toList G) [.inl []] ⟨vk []++List.replicate (Tryz.f14.ntmps-0) aj,[],[]⟩:=by
 refine mV (T:=Sn) [[1,1,1]] EC mixed 200 ?_;refine bK (q:=let Z1:=(aC (aa ⟨0,0,aj⟩));Vc True/\At D2 Tryz.prog (dJ Tryz.f14) 0 (iE Tryz.prog (dA (dC Tryz.f14)) G) [.inl [1,1,1]] (SS.mk (aa (aD an)::aa Z1::n4 (aa Z1::aa Z1::aa (aD an)::nH (nH (nH (n4 (aj::[])))))) [(8,an),(0,an)] [aa (.inl (98,[.int ar 9,.pointer (aa ⟨1,0,aj⟩),.pointer (aa ⟨2,0,aj⟩),.pointer (aa ⟨3,0,aj⟩)])),oM (QS.mt (vo (9:Int))),oS (QS.pr (vo (9:Int))),oS (QS.gn (vo (9:Int)))])) ?_ (by kernel_rfl)
 intro Z1;subst Z1;refine⟨⟨trivial⟩,At.fit [1] [.pointer (aa ⟨0,0,aj⟩)] [bQ (vo 9),oM (vo 9).mt,oS (vo 9).pr,oS (vo 9).gn] 62 ⟨rfl,rfl,by simp⟩ ⟨[0,1,2,3],rfl,⟨.inl rfl,rfl,rfl,rfl,trivial⟩,rfl,rfl,rfl,rfl⟩ ?_⟩
 have h0:HQ (vo 9) [] 9 0:=abl 9;generalize vo 9=q at h0 ⊢;refine mV (T:=Sn) [[1,1,1,1]] EC mixed 200 ?_;refine bK (q:=let Z1:=(jy (QS.ops q) (QS.cap q) (1:Int) (It.mk (5:Int) (0:Int)));let Z2:=(kL q (1:Int) (It.mk (5:Int) (0:Int)));Vc (QS.Ok q/\ae (QS.ops q)≤59)/\At D2 Tryz.prog (dJ Tryz.f14) 0 (iE Tryz.prog (dA (dC Tryz.f14)) G) [.inl [1,1,1,1]] (SS.mk (aj::aa (aC (aa ⟨0,0,aj⟩))::n4 (aj::aj::aj::aa (aC (aa ⟨0,0,aj⟩))::aa (bE (aO [.int ar 5,.int ar 0]))::aa (cq (aO [.agg (aO [.slice (aa ⟨4,0,aa 2000⟩) (ae (dv (QS.ops q) Z1)) (ae (dv (QS.ops q) Z1)),.slice (aa ⟨5,0,aa 2000⟩) (ae (dv Z1 (QS.ops q))) (ae (dv Z1 (QS.ops q)))]),.int ar (nR (QS.ops q) (QS.cap q) (1:Int) (It.mk (5:Int) (0:Int)))]))::nH (nH (nH (aj::aj::[]))))) [] [aa (.inl (98,[.int ar (QS.cap Z2),.pointer (aa ⟨1,0,aj⟩),.pointer (aa ⟨2,0,aj⟩),.pointer (aa ⟨3,0,aj⟩)])),oM (QS.mt Z2),oS (QS.pr Z2),oS (QS.gn Z2),aa (.inr (.inl (31,iR (dv (QS.ops q) Z1)))),aa (.inr (.inl (31,iR (dv Z1 (QS.ops q)))))])) ?_ (by kernel_rfl)
 intro Z1 Z2;subst Z2 Z1;refine⟨⟨(h0.mono (by decide)).ok,by rw[h0.ops];decide⟩,At.fit [1] [.pointer (aa ⟨0,0,aj⟩)] [bQ (kL q 1 ⟨5,0⟩),oM (kL q 1 ⟨5,0⟩).mt,oS (kL q 1 ⟨5,0⟩).pr,oS (kL q 1 ⟨5,0⟩).gn] 62 ⟨rfl,rfl,by simp⟩ ⟨[0,1,2,3],rfl,⟨.inl rfl,rfl,rfl,rfl,trivial⟩,rfl,rfl,rfl,rfl⟩ ?_⟩
 have h1:HQ (kL q 1 ⟨5,0⟩) ([⟨1,ao,⟨5,0⟩⟩]:List Op) 9 10:=(Hi (t:=1) (x:=⟨5,0⟩) h0 (by decide) (by decide)).2.2.1
 generalize(kL q 1 ⟨5,0⟩)=q1 at h1 ⊢;refine mV (T:=Sn) [[1,1,1,1,1]] EC mixed 200 ?_;refine bK (q:=let Z1:=(jy (QS.ops q1) (QS.cap q1) (2:Int) (It.mk (3:Int) (0:Int)));let Z2:=(kL q1 (2:Int) (It.mk (3:Int) (0:Int)));Vc (QS.Ok q1/\ae (QS.ops q1)≤59)/\At D2 Tryz.prog (dJ Tryz.f14) 0 (iE Tryz.prog (dA (dC Tryz.f14)) G) [.inl [1,1,1,1,1]] (SS.mk (aj::aa (aC (aa ⟨0,0,aj⟩))::n4 (n4 (aj::aj::aa (aC (aa ⟨0,0,aj⟩))::aa (bE (aO [.int ar 3,.int ar 0]))::aa (cq (aO [.agg (aO [.slice (aa ⟨4,0,aa 2000⟩) (ae (dv (QS.ops q1) Z1)) (ae (dv (QS.ops q1) Z1)),.slice (aa ⟨5,0,aa 2000⟩) (ae (dv Z1 (QS.ops q1))) (ae (dv Z1 (QS.ops q1)))]),.int ar (nR (QS.ops q1) (QS.cap q1) (2:Int) (It.mk (3:Int) (0:Int)))]))::nH (nH (n4 (n4 (n4 (aj::aj::aj::[])))))))) [] [aa (.inl (98,[.int ar (QS.cap Z2),.pointer (aa ⟨1,0,aj⟩),.pointer (aa ⟨2,0,aj⟩),.pointer (aa ⟨3,0,aj⟩)])),oM (QS.mt Z2),oS (QS.pr Z2),oS (QS.gn Z2),aa (.inr (.inl (31,iR (dv (QS.ops q1) Z1)))),aa (.inr (.inl (31,iR (dv Z1 (QS.ops q1)))))])) ?_ (by kernel_rfl)
 intro Z1 Z2;subst Z2 Z1;refine⟨⟨(h1.mono (by decide)).ok,by rw[h1.ops];decide⟩,At.fit [1] [.pointer (aa ⟨0,0,aj⟩)] [bQ (kL q1 2 ⟨3,0⟩),oM (kL q1 2 ⟨3,0⟩).mt,oS (kL q1 2 ⟨3,0⟩).pr,oS (kL q1 2 ⟨3,0⟩).gn] 62 ⟨rfl,rfl,by simp⟩ ⟨[0,1,2,3],rfl,⟨.inl rfl,rfl,rfl,rfl,trivial⟩,rfl,rfl,rfl,rfl⟩ ?_⟩
 have h2:HQ (kL q1 2 ⟨3,0⟩) ([⟨1,ao,⟨5,0⟩⟩,⟨2,ao,⟨3,0⟩⟩]:List Op) 9 20:=(Hi (t:=2) (x:=⟨3,0⟩) h1 (by decide) (by decide)).2.2.1
 generalize(kL q1 2 ⟨3,0⟩)=q2 at h2 ⊢;refine mV (T:=Sn) [[1,1,1,1,1,1]] EC mixed 200 ?_;refine bK (q:=let Z1:=(ae (dv (QS.ops q2) (jJ (QS.ops q2) (QS.cap q2) (3:Int))));let Z2:=(ae (dv (jJ (QS.ops q2) (QS.cap q2) (3:Int)) (QS.ops q2)));Vc (QS.Ok q2/\ae (QS.ops q2)≤59)/\At D2 Tryz.prog (dJ Tryz.f14) 0 (iE Tryz.prog (dA (dC Tryz.f14)) G) [.inl [1,1,1,1,1,1]] (SS.mk (aj::aa (aC (aa ⟨0,0,aj⟩))::n4 (n4 (n4 (aj::aa (aC (aa ⟨0,0,aj⟩))::aa (cq (aO [.agg (aO [.slice (aa ⟨4,0,aa 2000⟩) Z1 Z1,.slice (aa ⟨5,0,aa 2000⟩) Z2 Z2]),.int ar (pH (QS.ops q2) (QS.cap q2) (3:Int))]))::nH (nH (n4 (n4 (n4 (aj::[]))))))))) [] [aa (.inl (98,[.int ar (QS.cap (ks q2 (3:Int))),.pointer (aa ⟨1,0,aj⟩),.pointer (aa ⟨2,0,aj⟩),.pointer (aa ⟨3,0,aj⟩)])),oM (QS.mt (ks q2 (3:Int))),oS (QS.pr (ks q2 (3:Int))),oS (QS.gn (ks q2 (3:Int))),aa (.inr (.inl (31,iR (dv (QS.ops q2) (jJ (QS.ops q2) (QS.cap q2) (3:Int)))))),aa (.inr (.inl (31,iR (dv (jJ (QS.ops q2) (QS.cap q2) (3:Int)) (QS.ops q2)))))])) ?_ (by kernel_rfl)
 intro Z1 Z2;subst Z2 Z1;refine⟨⟨(h2.mono (by decide)).ok,by rw[h2.ops];decide⟩,At.fit [1] [.pointer (aa ⟨0,0,aj⟩)] [bQ (ks q2 3),oM (ks q2 3).mt,oS (ks q2 3).pr,oS (ks q2 3).gn] 62 ⟨rfl,rfl,by simp⟩ ⟨[0,1,2,3],rfl,⟨.inl rfl,rfl,rfl,rfl,trivial⟩,rfl,rfl,rfl,rfl⟩ ?_⟩
 have h3:HQ (ks q2 3) ([⟨1,ao,⟨5,0⟩⟩,⟨2,ao,⟨3,0⟩⟩,⟨3,an,⟨0,0⟩⟩]:List Op) 9 30:=(Hl (t:=3) h2 (by decide) (by decide)).2.2.1
 generalize(ks q2 3)=q3 at h3 ⊢;refine mV (T:=Sn) [[1,1,1,1,1,1,1]] EC mixed 200 ?_;refine bK (q:=let Z1:=(ae (dv (QS.ops q3) (kX (QS.ops q3) (2:Int))));let Z2:=(ae (dv (kX (QS.ops q3) (2:Int)) (QS.ops q3)));let Z3:=(cq (aO [.agg (aO [.slice (aa ⟨4,0,aa 2000⟩) Z1 Z1,.slice (aa ⟨5,0,aa 2000⟩) Z2 Z2]),.int ar (ve (QS.ops q3) (2:Int))]));Vc (QS.Ok q3)/\At D2 Tryz.prog (dJ Tryz.f14) 0 (iE Tryz.prog (dA (dC Tryz.f14)) G) [.inl [1,1,1,1,1,1,1]] (SS.mk (aj::aa (aC (aa ⟨0,0,aj⟩))::aa (aC (aa ⟨6,0,aj⟩))::aa (bk ar (ve (QS.ops q3) (2:Int)))::n4 (n4 (n4 (aj::aa Z3::aa (aC (aa ⟨0,0,aj⟩))::aa Z3::aa (bE (aO [.slice (aa ⟨4,0,aa 2000⟩) Z1 Z1,.slice (aa ⟨5,0,aa 2000⟩) Z2 Z2]))::aa (bk ar (ve (QS.ops q3) (2:Int)))::nH (nH (n4 (n4 ([])))))))) [] [aa (.inl (98,[.int ar (QS.cap (jW q3 (2:Int))),.pointer (aa ⟨1,0,aj⟩),.pointer (aa ⟨2,0,aj⟩),.pointer (aa ⟨3,0,aj⟩)])),oM (QS.mt (jW q3 (2:Int))),oS (QS.pr (jW q3 (2:Int))),oS (QS.gn (jW q3 (2:Int))),aa (.inr (.inl (31,iR (dv (QS.ops q3) (kX (QS.ops q3) (2:Int)))))),aa (.inr (.inl (31,iR (dv (kX (QS.ops q3) (2:Int)) (QS.ops q3))))),aa (.inl (59,[.slice (aa ⟨4,0,aa 2000⟩) Z1 Z1,.slice (aa ⟨5,0,aa 2000⟩) Z2 Z2]))])) ?_ (by kernel_rfl)
 intro Z1 Z2 Z3;subst Z3 Z2 Z1;simp only[h3.ops,show ve ([⟨1,ao,⟨5,0⟩⟩,⟨2,ao,⟨3,0⟩⟩,⟨3,an,⟨0,0⟩⟩]:List Op) 2=0 by decide,show dv ([⟨1,ao,⟨5,0⟩⟩,⟨2,ao,⟨3,0⟩⟩,⟨3,an,⟨0,0⟩⟩]:List Op) (kX ([⟨1,ao,⟨5,0⟩⟩,⟨2,ao,⟨3,0⟩⟩,⟨3,an,⟨0,0⟩⟩]:List Op) 2)=[] by decide,show dv (kX ([⟨1,ao,⟨5,0⟩⟩,⟨2,ao,⟨3,0⟩⟩,⟨3,an,⟨0,0⟩⟩]:List Op) 2) ([⟨1,ao,⟨5,0⟩⟩,⟨2,ao,⟨3,0⟩⟩,⟨3,an,⟨0,0⟩⟩]:List Op)=[⟨5,0⟩] by decide]
 refine⟨⟨(h3.mono (by decide)).ok⟩,At.fit [1,2,3] [.pointer (aa ⟨0,0,aj⟩),.pointer (aa ⟨4,0,aj⟩),.int .i64 0] [bQ (jW q3 2),oM (jW q3 2).mt,oS (jW q3 2).pr,oS (jW q3 2).gn,bCw 0 1 5 6,oI [],oI [⟨5,0⟩]] 62 ⟨rfl,rfl,by simp⟩ ⟨[0,1,2,3,6,4,5],rfl,⟨.inl rfl,rfl,rfl,rfl,.inl rfl,⟨_,rfl,.inl rfl⟩,⟨_,rfl,.inl rfl⟩,trivial⟩,rfl,rfl,rfl,rfl⟩ ?_⟩
 have h4:HQ (jW q3 2) ([⟨1,ao,⟨5,0⟩⟩,⟨3,an,⟨0,0⟩⟩]:List Op) 9 40:=(Ld (t:=2) h3 (by decide)).2.2.1
 generalize jW q3 2=q4 at h4 ⊢;refine mV (T:=Sn) [[1,1,1,1,1,1,1,1]] EC mixed 200 ?_;refine bK (q:=let Z5:=bk ar;let Z1:=(Z5 (pH (QS.ops q4) (QS.cap q4) (0:Int)));let Z2:=(ae (dv (QS.ops q4) (jJ (QS.ops q4) (QS.cap q4) (0:Int))));let Z3:=(ae (dv (jJ (QS.ops q4) (QS.cap q4) (0:Int)) (QS.ops q4)));let Z4:=(cq (aO [.agg (aO [.slice (aa ⟨7,0,aa 2000⟩) Z2 Z2,.slice (aa ⟨8,0,aa 2000⟩) Z3 Z3]),Z5 (pH (QS.ops q4) (QS.cap q4) (0:Int))]));Vc (QS.Ok q4/\ae (QS.ops q4)≤59)/\At D2 Tryz.prog (dJ Tryz.f14) 0 (iE Tryz.prog (dA (dC Tryz.f14)) G) [.inl [1,1,1,1,1,1,1,1]] (SS.mk (aj::aa (aC (aa ⟨0,0,aj⟩))::aa (aC (aa ⟨4,0,aj⟩))::aa (Z5 0)::aa (aC (aa ⟨9,0,aj⟩))::aa Z1::nH (aa Z4::aa (aC (aa ⟨0,0,aj⟩))::aa Z4::aa (bE (aO [.slice (aa ⟨7,0,aa 2000⟩) Z2 Z2,.slice (aa ⟨8,0,aa 2000⟩) Z3 Z3]))::aa Z1::nH (nH (aj::aj::aj::[])))) [] [aa (.inl (98,[Z5 (QS.cap (ks q4 (0:Int))),.pointer (aa ⟨1,0,aj⟩),.pointer (aa ⟨2,0,aj⟩),.pointer (aa ⟨3,0,aj⟩)])),oM (QS.mt (ks q4 (0:Int))),oS (QS.pr (ks q4 (0:Int))),oS (QS.gn (ks q4 (0:Int))),aa (.inl (59,[.slice (aa ⟨5,0,aa 2000⟩) 0 0,.slice (aa ⟨6,0,aa 2000⟩) 1 1])),aa (.inr (.inl (31,Row.mk [Z5 0,Z5 0] 0 [aX.mk [] [] [],aX.mk [] [] []]))),aa (.inr (.inl (31,Row.mk [Z5 0,Z5 0] 1 [aX.mk [(5:Int)] [] [],aX.mk [(0:Int)] [] []]))),aa (.inr (.inl (31,iR (dv (QS.ops q4) (jJ (QS.ops q4) (QS.cap q4) (0:Int)))))),aa (.inr (.inl (31,iR (dv (jJ (QS.ops q4) (QS.cap q4) (0:Int)) (QS.ops q4))))),aa (.inl (59,[.slice (aa ⟨7,0,aa 2000⟩) Z2 Z2,.slice (aa ⟨8,0,aa 2000⟩) Z3 Z3]))])) ?_ (by kernel_rfl)
 intro Z5 Z1 Z2 Z3 Z4;subst Z4 Z3 Z2 Z1 Z5;simp only[h4.ops,h4.cap,show pH ([⟨1,ao,⟨5,0⟩⟩,⟨3,an,⟨0,0⟩⟩]:List Op) 9 0=0 by decide,show dv ([⟨1,ao,⟨5,0⟩⟩,⟨3,an,⟨0,0⟩⟩]:List Op) (jJ ([⟨1,ao,⟨5,0⟩⟩,⟨3,an,⟨0,0⟩⟩]:List Op) 9 0)=[] by decide,show dv (jJ ([⟨1,ao,⟨5,0⟩⟩,⟨3,an,⟨0,0⟩⟩]:List Op) 9 0) ([⟨1,ao,⟨5,0⟩⟩,⟨3,an,⟨0,0⟩⟩]:List Op)=[] by decide]
 refine⟨⟨(h4.mono (by decide)).ok,by decide⟩,At.fit [1,2,3,4,5] [.pointer (aa ⟨0,0,aj⟩),.pointer (aa ⟨4,0,aj⟩),.int .i64 0,.pointer (aa ⟨7,0,aj⟩),.int .i64 0] [bQ (ks q4 0),oM (ks q4 0).mt,oS (ks q4 0).pr,oS (ks q4 0).gn,bCw 0 1 5 6,oI [],oI [⟨5,0⟩],bCw 0 0 8 9,oI [],oI []] 62 ⟨rfl,rfl,by simp⟩ ⟨[0,1,2,3,4,5,6,9,7,8],rfl,⟨.inl rfl,rfl,rfl,rfl,.inl rfl,⟨_,rfl,.inl rfl⟩,⟨_,rfl,.inl rfl⟩,.inl rfl,⟨_,rfl,.inl rfl⟩,⟨_,rfl,.inl rfl⟩,trivial⟩,rfl,rfl,rfl,rfl⟩ ?_⟩
 have h5:HQ (ks q4 0) ([⟨0,an,⟨0,0⟩⟩,⟨1,ao,⟨5,0⟩⟩,⟨3,an,⟨0,0⟩⟩]:List Op) 9 50:=(Hl (t:=0) h4 (by decide) (by decide)).2.2.1
 generalize ks q4 0=q5 at h5 ⊢;refine cJ (T:=Sn) EC mixed 200 ?_;refine bK (q:=let Z1:=aC (aa ⟨2,0,aj⟩);let Z2:=aC (aa ⟨1,0,aj⟩);let Z3:=aC (aa ⟨3,0,aj⟩);let Z4:=bk ar;(ao=ao->(ao=ao->(ao=ao->Vc ((0:Int)≤(0:Int)/\(0:Int)<(1:Int)/\1≤1)/\Vc (0<1)/\(ao=ao->Vc (fits (0:Int))/\(ao=ao->Vc (QS.Ok q5)/\aW (G (aD (o6 (QS.ops q5)==(1:Int))) [aa (.inl (98,[Z4 (QS.cap (nl q5)),Z2,Z1,Z3])),oM (QS.mt (nl q5)),oS (QS.pr (nl q5)),oS (QS.gn (nl q5)),aa (.inl (59,[.slice (aa ⟨5,0,aa 2000⟩) 0 0,.slice (aa ⟨6,0,aa 2000⟩) 1 1])),aa (.inr (.inl (31,Row.mk [Z4 0,Z4 0] 0 [aX.mk [] [] [],aX.mk [] [] []]))),aa (.inr (.inl (31,Row.mk [Z4 0,Z4 0] 1 [aX.mk [(5:Int)] [] [],aX.mk [(0:Int)] [] []]))),aa (.inl (59,[.slice (aa ⟨8,0,aa 2000⟩) 0 0,.slice (aa ⟨9,0,aa 2000⟩) 0 0])),aa (.inr (.inl (31,Row.mk [Z4 0,Z4 0] 0 [aX.mk [] [] [],aX.mk [] [] []]))),aa (.inr (.inl (31,Row.mk [Z4 0,Z4 0] 0 [aX.mk [] [] [],aX.mk [] [] []])))]))/\(ao=an->aW (G (aD an) [aa (.inl (98,[Z4 (QS.cap q5),Z2,Z1,Z3])),oM (QS.mt q5),oS (QS.pr q5),oS (QS.gn q5),aa (.inl (59,[.slice (aa ⟨5,0,aa 2000⟩) 0 0,.slice (aa ⟨6,0,aa 2000⟩) 1 1])),aa (.inr (.inl (31,Row.mk [Z4 0,Z4 0] 0 [aX.mk [] [] [],aX.mk [] [] []]))),aa (.inr (.inl (31,Row.mk [Z4 0,Z4 0] 1 [aX.mk [(5:Int)] [] [],aX.mk [(0:Int)] [] []]))),aa (.inl (59,[.slice (aa ⟨8,0,aa 2000⟩) 0 0,.slice (aa ⟨9,0,aa 2000⟩) 0 0])),aa (.inr (.inl (31,Row.mk [Z4 0,Z4 0] 0 [aX.mk [] [] [],aX.mk [] [] []]))),aa (.inr (.inl (31,Row.mk [Z4 0,Z4 0] 0 [aX.mk [] [] [],aX.mk [] [] []])))])))/\(ao=an->aW (G (aD an) [aa (.inl (98,[Z4 (QS.cap q5),Z2,Z1,Z3])),oM (QS.mt q5),oS (QS.pr q5),oS (QS.gn q5),aa (.inl (59,[.slice (aa ⟨5,0,aa 2000⟩) 0 0,.slice (aa ⟨6,0,aa 2000⟩) 1 1])),aa (.inr (.inl (31,Row.mk [Z4 0,Z4 0] 0 [aX.mk [] [] [],aX.mk [] [] []]))),aa (.inr (.inl (31,Row.mk [Z4 0,Z4 0] 1 [aX.mk [(5:Int)] [] [],aX.mk [(0:Int)] [] []]))),aa (.inl (59,[.slice (aa ⟨8,0,aa 2000⟩) 0 0,.slice (aa ⟨9,0,aa 2000⟩) 0 0])),aa (.inr (.inl (31,Row.mk [Z4 0,Z4 0] 0 [aX.mk [] [] [],aX.mk [] [] []]))),aa (.inr (.inl (31,Row.mk [Z4 0,Z4 0] 0 [aX.mk [] [] [],aX.mk [] [] []])))])))/\(ao=an->aW (G (aD an) [aa (.inl (98,[Z4 (QS.cap q5),Z2,Z1,Z3])),oM (QS.mt q5),oS (QS.pr q5),oS (QS.gn q5),aa (.inl (59,[.slice (aa ⟨5,0,aa 2000⟩) 0 0,.slice (aa ⟨6,0,aa 2000⟩) 1 1])),aa (.inr (.inl (31,Row.mk [Z4 0,Z4 0] 0 [aX.mk [] [] [],aX.mk [] [] []]))),aa (.inr (.inl (31,Row.mk [Z4 0,Z4 0] 1 [aX.mk [(5:Int)] [] [],aX.mk [(0:Int)] [] []]))),aa (.inl (59,[.slice (aa ⟨8,0,aa 2000⟩) 0 0,.slice (aa ⟨9,0,aa 2000⟩) 0 0])),aa (.inr (.inl (31,Row.mk [Z4 0,Z4 0] 0 [aX.mk [] [] [],aX.mk [] [] []]))),aa (.inr (.inl (31,Row.mk [Z4 0,Z4 0] 0 [aX.mk [] [] [],aX.mk [] [] []])))])))/\(ao=an->aW (G (aD an) [aa (.inl (98,[Z4 (QS.cap q5),Z2,Z1,Z3])),oM (QS.mt q5),oS (QS.pr q5),oS (QS.gn q5),aa (.inl (59,[.slice (aa ⟨5,0,aa 2000⟩) 0 0,.slice (aa ⟨6,0,aa 2000⟩) 1 1])),aa (.inr (.inl (31,Row.mk [Z4 0,Z4 0] 0 [aX.mk [] [] [],aX.mk [] [] []]))),aa (.inr (.inl (31,Row.mk [Z4 0,Z4 0] 1 [aX.mk [(5:Int)] [] [],aX.mk [(0:Int)] [] []]))),aa (.inl (59,[.slice (aa ⟨8,0,aa 2000⟩) 0 0,.slice (aa ⟨9,0,aa 2000⟩) 0 0])),aa (.inr (.inl (31,Row.mk [Z4 0,Z4 0] 0 [aX.mk [] [] [],aX.mk [] [] []]))),aa (.inr (.inl (31,Row.mk [Z4 0,Z4 0] 0 [aX.mk [] [] [],aX.mk [] [] []])))])))/\(ao=an->aW (G (aD an) [aa (.inl (98,[Z4 (QS.cap q5),Z2,Z1,Z3])),oM (QS.mt q5),oS (QS.pr q5),oS (QS.gn q5),aa (.inl (59,[.slice (aa ⟨5,0,aa 2000⟩) 0 0,.slice (aa ⟨6,0,aa 2000⟩) 1 1])),aa (.inr (.inl (31,Row.mk [Z4 0,Z4 0] 0 [aX.mk [] [] [],aX.mk [] [] []]))),aa (.inr (.inl (31,Row.mk [Z4 0,Z4 0] 1 [aX.mk [(5:Int)] [] [],aX.mk [(0:Int)] [] []]))),aa (.inl (59,[.slice (aa ⟨8,0,aa 2000⟩) 0 0,.slice (aa ⟨9,0,aa 2000⟩) 0 0])),aa (.inr (.inl (31,Row.mk [Z4 0,Z4 0] 0 [aX.mk [] [] [],aX.mk [] [] []]))),aa (.inr (.inl (31,Row.mk [Z4 0,Z4 0] 0 [aX.mk [] [] [],aX.mk [] [] []])))]))) ?_ (by kernel_rfl)
 intro Z1 Z2 Z3 Z4;subst Z4 Z3 Z2 Z1;simp only[h5.ops];refine⟨fun _=>?_,fun h=>by cases h⟩
 refine⟨fun _=>?_,fun h=>by cases h⟩
 refine⟨fun _=>⟨⟨by decide,by decide,by decide⟩,⟨by decide⟩,?_⟩,fun h=>by cases h⟩
 refine⟨fun _=>⟨⟨by decide,by decide⟩,?_⟩,fun h=>by cases h⟩
 refine⟨fun _=>⟨⟨(h5.mono (by decide)).ok⟩,⟨?_⟩⟩,fun h=>by cases h⟩
 rw[show(o6 ([⟨0,an,⟨0,0⟩⟩,⟨1,ao,⟨5,0⟩⟩,⟨3,an,⟨0,0⟩⟩]:List Op)==1)=ao by decide]
 exact hG _
def aen:Prim Rt:=fun args hh=>match args,hh with
 |[],[]=>aa ⟨True,.bool ao,aj,hh,[],[]⟩
 |_,_=>aj
theorem aik:b6 D2 Tryz.prog 14 (a9 aen):=by
 refine fj Tryz.f14 fun args hh x hx=>?_
 unfold aen at hx;split at hx
 ·injection hx with hx
  subst hx;refine⟨a_ _,lM rfl,(fun hw=>rfl),fun _ hv=>?_⟩
  exact agr fun rest=>⟨[],rfl,rfl,trivial,rfl,rfl,rfl,rfl⟩
 ·cases hx
abbrev az:Act:=⟨0,0,an,⟨0,0⟩⟩
abbrev aR (l:List Act):Row:=⟨[.int .i64 0,.int .i64 0,.bool an,.int .i64 0,.int .i64 0],l.length,[⟨l.map Act.k,[],[]⟩,⟨l.map Act.t,[],[]⟩,⟨[],l.map Act.d,[]⟩,⟨l.map fun a=>a.x.k,[],[]⟩,⟨l.map fun a=>a.x.i,[],[]⟩]⟩
abbrev vA (l:List Act):Option (SB Rt):=aa (.inr (.inr (.inl (aR l))))
theorem gA {β:Type} {l:List Act} {i:Nat} (f:Act->β) (d:β) (h:f az=d):(l.map f).getD i d=f (l.getD i az):=by
 subst h;rw[av,av,fh];cases l[i]?<;>rfl
abbrev tmA:List Value:=[.int .i64 0,.int .i64 0,.bool an,.int .i64 0,.int .i64 0]
theorem To {c:aX} {n:Nat} (h:c=yQ c.i) (l:c.i.length=n):c=⟨(oi n).map fun i=>c.i.getD i 0,[],[]⟩:=by
 have e:(oi n).map (fun i=>c.i.getD i 0)=c.i:=by
  subst l;exact FF fun i hi=>by rw[av,bd hi];rfl
 rw[e];exact h
theorem ale {c:aX} {n:Nat} (h:c=AM c.b) (l:c.b.length=n):c=⟨[],(oi n).map fun i=>c.b.getD i an,[]⟩:=by
 have e:(oi n).map (fun i=>c.b.getD i an)=c.b:=by
  subst l;exact FF fun i hi=>by rw[av,bd hi];rfl
 rw[e];exact h
theorem ahH {r:Row} (hr:r.tm=tmA) (hw:Hs tmA r.eu r.n):∃ l,r=aR l:=by
 obtain⟨tm,n,eu⟩:=r;simp only at hr hw;subst hr
 match eu,hw with
 |[a,b,c,d,e],hw =>
  simp only[Hs] at hw;obtain⟨h1,h2,h3,h4,h5⟩:=hw;refine⟨(oi n).map fun i=>⟨a.i.getD i 0,b.i.getD i 0,c.b.getD i an,⟨d.i.getD i 0,e.i.getD i 0⟩⟩,?_⟩
  unfold aR;simp only[Ww,Function.comp_def,fR,List.length_range];rw[← To h1.1 h1.2.1,← To h2.1 h2.2.1,← ale h3.1 h3.2,← To h4.1 h4.2.1,← To h5.1.1 h5.1.2.1]
abbrev bQi (i:Nat) (q:QS):Option (SB Rt):=aa (.inl (98,[.int .i64 q.cap,.pointer (aa ⟨i,0,aj⟩),.pointer (aa ⟨i+1,0,aj⟩),.pointer (aa ⟨i+2,0,aj⟩)]))
def xZ (c:Int) (b8:List Act):Nat->List Op
 |0=>[]
 |i+1=>qZ (xZ c b8 i) (sH c) (b8.getD i az)
def CY (c:Int) (b8:List Act):Nat->QS
 |0=>vo c
 |i+1=>tc (jg (CY c b8 i) (b8.getD i az))
theorem Q2 (c:Int) (b8:List Act):∀ i,(xZ c b8 i).length≤i
 |0=>a_ _
 |i+1=>Nat.le_trans ajs (Nat.succ_le_succ (Q2 c b8 i))
theorem aa6 (c:Int) (b8:List Act):∀ i,i≤60->HQ (CY c b8 i) (xZ c b8 i) (sH c) (20*i)
 |0,_=>abl c
 |i+1,h=>by
  have l:=Q2 c b8 i;exact(ak0 (afU (a:=b8.getD i az) (aa6 c b8 i (by omega)) (by omega) (by omega)).1 (by omega)).mono (by omega)
def z1':Nat->Bool:=fun j=>fb j 1
end Pa
end Go.Proofs.YtjlomlgdgpoepaaGreat
