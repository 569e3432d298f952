import Derived.Test.YtjlomlgdgpoepaaGreatZoe
import Derived.Test.YtjlomlgdgpoepaaGreatZod
import Derived.Test.YtjlomlgdgpoepaaGreatZob
set_option linter.unusedVariables false
set_option linter.unusedSimpArgs false
namespace Go.Proofs.YtjlomlgdgpoepaaGreat
open G8 renaming Fc→XK,Rt→Uj
open G8.Rt renaming tree→BF
open G9 renaming IC→XL,Rt→Uk
open G9.Rt renaming tree→pD
open Gv renaming iG→fG,lF→rE,nF→vl,oZ→ze,sub→nj
open Gv.TS renaming all→sx,at_→Lq,drop→yq,find→oE,gv→fa,kI→QQ,ls→uh,l→eY,new→rj,put→DA,seen→dC
open Rx renaming Ends→cj,jo→W6
open Sh renaming KJ→Tc,Nj→Y6,O9→aN
open Sh.Sl renaming it→lU,kK→po,mk→jD,time→qO
open Wv renaming vI→Jv
open _root_.Array renaming mk→aP,toList→dw
open _root_.Bool renaming and_eq_true→aM,eq_false_iff→Ml,false_eq_true→fX,false→an,not_false→Ij,true_and→js,true→ao
open _root_.Go.Func renaming results→dx
open _root_.Go.IntKind renaming i64→ar
open _root_.Go.Value renaming agg→bG,bool→aE,int→bk,pointer→aC,slice→br,tuple→cr
open _root_.Int renaming le_refl→nN,lt_tmod_of_pos→Lp,tmod_lt_of_pos→Dz,tmod→fm,toNat_natCast→iS,toNat→aD
open _root_.List renaming any_eq_true→OL,append_nil→BB,cons_append→mI,drop_zero→sG,eq_nil_of_length_eq_zero→jd,filter_append→mB,filter_cons→j5,filter_eq_nil_iff→ug,filter→XM,findIdx_getElem→Ju,findIdx_le_length→Hd,getD_eq_getElem?_getD→au,getD→aB,getElem?_eq_getElem→bc,getElem?_map→fu,length_append→bE,length_cons→cy,length_drop→jC,length_filter_le→rD,length_map→fZ,length_nil→jX,length_tail→F3,length_take→ej,length→ae,map_append→dM,map_drop→mT,map_map→W5,map→aw,mem_append→bY,mem_cons→bN,mem_of_mem_drop→v9,mem_of_mem_take→pB,ne_nil_of_length_pos→Ef,nil_append→pz,not_mem_nil→v7,not_of_lt_findIdx→He,range→oD,take_append_drop→cR,take_length→jB,take_of_length_le→jw,take_succ_eq_append_getElem→zG,take→h_
open _root_.List.Pairwise renaming nil→r9
open _root_.Nat renaming beq→fj,le_add_right→qz,le_refl→a_,le_succ→kZ,lt_or_ge→ct,zero_add→bW,zero_le→dv,zero_lt_succ→iT
open _root_.Option renaming getD→gU,isSome→iy,none→aj,some→aa
open _root_.Prod renaming fst→ay,snd→av
namespace Pa
open Rx Wv Br
open Sh (r_ wT mM sl n3)
def MZ (q:QS) (t:Int) (x:It):QS:=BQ (n9 q t) x
def Yy (q:QS) (t:Int) (x:It):QS:=Z0 (MZ q t x) (kY t)
def Pd (q:QS) (t:Int) (x:It):Int:=GI (Yy q t x) (B8 (MZ q t x) (kY t))
def SV (q:QS) (t:Int) (x:It):QS:=BO (Yy q t x) (B8 (MZ q t x) (kY t))
def MB (q:QS) (t:Int) (x:It):QS:=⟨(SV q t x).mt.put (SR t x),(SV q t x).pr,(SV q t x).gn.put (sl x),(SV q t x).cap⟩
def EF (q:QS) (t:Int) (x:It):Int:=if nk q t=0 then if Bu (n9 q t) x=ao then 2 else 0 else nk q t
def iZ (q:QS) (t:Int) (x:It):QS:=if nk q t=0 then if Bu (n9 q t) x=ao then MZ q t x else wx (MB q t x) (Pd q t x) else n9 q t
def wS (q:QS) (t:Int) (x:It):List It:=if nk q t=0 then if Bu (n9 q t) x=ao then[] else yR (MB q t x) (Pd q t x) else[]
def QS.gv (q:QS):Prop:=q.mt.gv/\q.pr.gv/\q.gn.gv
def TU (q:QS) (t:Int) (x:It):Prop:=q.gv/\(nk q t=0->Bu (n9 q t) x=an->(SV q t x).mt.ls (SR t x)/\(SV q t x).gn.ls (sl x)/\JZ (MB q t x) (Pd q t x))
def de1 (q:QS) (t:Int):QS:=Z0 (n9 q t) (kY t)
def Qh (q:QS) (t:Int):Int:=Kq (de1 q t) (B8 (n9 q t) (kY t))
def XZ (q:QS) (t:Int):QS:=Hm (de1 q t) (B8 (n9 q t) (kY t))
def uF (q:QS) (t:Int):QS:=GF (XZ q t) (Qh q t)
def iK (q:QS) (t:Int):QS:=if nk q t=0 then⟨(uF q t).mt.put (kY t),(uF q t).pr,(uF q t).gn,(uF q t).cap⟩ else n9 q t
def DE (q:QS) (t:Int):List It:=if nk q t=0 then Dq (XZ q t) (Qh q t) else[]
def Uf (q:QS) (t:Int):Prop:=q.gv/\(nk q t=0->KH (XZ q t) (Qh q t)/\(uF q t).mt.ls (kY t))
def Gw (q:QS) (t:Int):Bool:=(fG O8 (kY t) q.mt.l).2
def mZ (q:QS) (t:Int):Mk:=(fG O8 (kY t) q.mt.l).1
def BL (q:QS) (t:Int):QS:=⟨q.mt.find (kY t),q.pr,q.gn,q.cap⟩
def MA (q:QS) (t:Int):QS:=Z0 (BL q t) (mZ q t)
def EX (q:QS) (t:Int):Int:=B8 (BL q t) (mZ q t)
def SG (q:QS) (t:Int):QS:=⟨(BO (MA q t) (EX q t)).mt.drop (mZ q t),(BO (MA q t) (EX q t)).pr,(BO (MA q t) (EX q t)).gn,(BO (MA q t) (EX q t)).cap⟩
def KA (q:QS) (t:Int):Int:=GI (MA q t) (EX q t)
def Y4 (q:QS) (t:Int):QS:=Hm (MA q t) (EX q t+1)
def O4 (q:QS) (t:Int):Int:=Kq (MA q t) (EX q t+1)
def Af (q:QS) (t:Int):QS:=GF (Y4 q t) (O4 q t)
def KM (q:QS) (t:Int):Int:=if Gw q t=ao then 0 else 14
def j9 (q:QS) (t:Int):QS:=if Gw q t=ao then if(mZ q t).ins=ao then if(mZ q t).here=ao then⟨(BL q t).mt.drop (mZ q t),(BL q t).pr.drop (sl (mZ q t).it),(BL q t).gn,(BL q t).cap⟩ else⟨(Af q t).mt.drop (mZ q t),(Af q t).pr,(Af q t).gn.drop (sl (mZ q t).it),(Af q t).cap⟩ else wx (SG q t) (KA q t) else BL q t
def xB (q:QS) (t:Int):List It:=if Gw q t=ao then if(mZ q t).ins=ao then[] else yR (SG q t) (KA q t) else[]
def w9 (q:QS) (t:Int):List It:=if Gw q t=ao then if(mZ q t).ins=ao then if(mZ q t).here=ao then[(mZ q t).it] else Dq (Y4 q t) (O4 q t) else[] else[]
def aam (q:QS) (t:Int):Prop:=q.gv/\(Gw q t=ao->((mZ q t).ins=an->JZ (SG q t) (KA q t))/\((mZ q t).ins=ao->(mZ q t).here=an->KH (Y4 q t) (O4 q t)/\(Af q t).mt.gv/\(Af q t).gn.gv))
theorem YJ {q:QS} {t:Int} (h:q.gv):(n9 q t).gv:=by
 refine⟨?_,h.2.1,h.2.2⟩;unfold n9;show fa (if _ then _ else _)
 split<;>exact h.1
structure HQ (q:QS) (l:List Op) (c:Int) (n:Nat):Prop where
 mq:MQ q (jO l) (fin [] l) (gn l) c n q 0
 tm:Tm l
 nd:(gB l).Nodup
 dl:∀ o,o∈l->o.ins=an->o.it=iz
 len:(l.length:Int)≤c/\c≤65536
 FO:l.length≤60
 vb:q.mt.m.cY≤100000*n/\q.pr.m.cY≤100000*n/\q.gn.m.cY≤100000*n
theorem HQ.m0 {q:QS} {l:List Op} {c:Int} {n:Nat} (h:HQ q l c n):q.mt.l=jO l:=h.mq.m0
theorem HQ.p0 {q:QS} {l:List Op} {c:Int} {n:Nat} (h:HQ q l c n):q.pr.l=mM (fin [] l):=h.mq.p0
theorem HQ.g0 {q:QS} {l:List Op} {c:Int} {n:Nat} (h:HQ q l c n):q.gn.l=mM (gn l):=h.mq.g0
theorem acQ:∀ (a:List Op) (h:List It),(fin h a).length≤h.length+a.length
 |[],h=>by rw[fin];omega
 |o::r,h=>by
  have:=acQ r (ov h o);rw[fin];have e:(ov h o).length≤h.length+1:=by
   have il:∀ (x:It) (m:List It),(ig x m).length=m.length+1:=fun x m=>by
    induction m with
    |nil=>rfl
    |cons y m ih=>unfold ig;split<;>simp[ih]
   unfold ov;split
   ·rw[il];exact a_ _
   ·rw[F3];omega
  rw[cy];omega
theorem ID:∀ (a:List Op) (h:List It),(tk h a).length+gE h a=(a.filter fun o=>!o.ins).length
 |[],h=>by rw[tk,gE];rfl
 |o::r,h=>by
  rcases ji o with e|e
  ·rw[oU e,o7 e,ID r,j5,e];rfl
  ·rw[j5,e];cases h with
   |nil=>rw[Cl e,sX e];have:=ID r [];simp only[Ij,if_true,cy];omega
   |cons y h=>rw[oQ e,nC e];have:=ID r h;simp only[Ij,if_true,cy];omega
theorem TO (l:List Op):(gn l).length≤l.length:=by
 have h1:=ID l [];have h2:(l.filter fun o=>!o.ins).length≤l.length:=rD ..
 rw[WC];omega
theorem Cq (l:List Op):(fin [] l).length≤l.length:=by have:=acQ l [];simpa using this
theorem YS (H:List It) (l:List Op):(vw (gw H l)).length=(l.filter fun o=>!o.ins).length:=by
 unfold vw gw;rw[List.filter_map,fZ]
 rfl
section
variable {q:QS} {H:List It} {l:List Op} {P:List It} {c:Int} {n:Nat} {a:QS} {k:Int}
theorem MQ.pk (h:MQ q (gw H l) P (gn l) c n a k):rK q=pk l:=by
 unfold rK IA;rw[h.m0,h.g0,YS,show(mM (gn l)).length=(gn l).length from fZ ..,WC]
 have:=ID l [];show _=(gE [] l:Int)
 omega
theorem WI (h:MQ q (gw H l) P (gn l) c n a k) (m:Mk):B8 q m=(nc m.t l:Int):=by
 unfold B8;rw[h.m0,Gv.O3,ej,Nat.min_eq_left,Gc];rw[Gc,mV];exact P6 _ _
theorem HQ.MT (h:HQ q l c n) (hn:n≤100000):VB q:=by
 obtain⟨h1,h2,h3⟩:=h.vb;exact⟨by omega,by omega,by omega⟩
end
theorem alk {l:List Op} (h:(gB l).Nodup) {x:It} (hx:x∉gB l):x∉fin [] l/\x∉gn l/\x∉tk [] l:=by
 have h1:x∉tk [] l:=fun c=>(rv (mc h) x c).elim (fun h=>by cases h) hx
 exact⟨fun c=>((rz (mc h) x).1 c).1.elim (fun h=>by cases h) hx,fun c=>h1 ((tT h).1 c),h1⟩
theorem A' {l:List Op} {G:List It} (h:(gB l).Nodup) (ho:Ord G) (hm:∀ w,w∈G↔w∈tk [] l):G=gn l :=
 As ho (rh h) fun w=>(hm w).trans (tT h).symm
theorem HQ.mk' {q:QS} {l:List Op} {c:Int} {n n':Nat} {a:QS} {k:Int} (h:MQ q (jO l) (fin [] l) (gn l) c n a k) (ha:a.mt.m.cY≤100000*n'/\a.pr.m.cY≤100000*n'/\a.gn.m.cY≤100000*n') (hk:k≤100000) (hn:n'+1≤n) (tm:Tm l) (nd:(gB l).Nodup) (dl:∀ o,o∈l->o.ins=an->o.it=iz) (len:(l.length:Int)≤c/\c≤65536) (FO:l.length≤60):HQ q l c n:=by
 obtain⟨a1,a2,a3⟩:=ha;have v1:=h.v1;have v2:=h.v2;have v3:=h.v3;exact⟨⟨h.m0,h.p0,h.g0,h.cap,h.c1,h.c2,h.c3,h.f1,h.f2,h.f3,⟨v1.1,by omega⟩,⟨v2.1,by omega⟩,⟨v3.1,by omega⟩⟩,tm,nd,dl,len,FO,⟨by omega,by omega,by omega⟩⟩
theorem HQ.ref {q:QS} {l:List Op} {c:Int} {n:Nat} (h:HQ q l c n) (t:Int) :
  ((l.length:Int)=c->nk q t=10)/\((l.length:Int)≠c->¬ DF l t->nk q t=11)/\((l.length:Int)≠c->DF l t->nk q t=0):=by
 have e:(q.mt.l.length:Int)=q.cap↔(l.length:Int)=c:=by rw[h.m0,yb,h.mq.cap]
 unfold nk;refine⟨fun h1=>by rw[if_pos (e.2 h1)],fun h1 h2=>?_,fun h1 h2=>?_⟩
 ·rw[if_neg (fun k=>h1 (e.1 k)),if_pos]
  rcases LW l t with f|⟨k,hk,ht⟩
  ·exact absurd f h2
  ·rw[h.m0];exact(K6 (H:=fin [] l) (e:=kY t) h.tm hk ht).1
 ·rw[if_neg (fun k=>h1 (e.1 k)),if_neg]
  rw[h.m0];have:=Ou (H:=fin [] l) (e:=kY t) h2;show ¬ (Gv.jI O8 (kY t) (jO l)).isSome=ao
  rw[vJ,this];decide
theorem HQ.ind {q:QS} {l:List Op} {c:Int} {n:Nat} (h:HQ q l c n) (x:It):Bu q x=ao↔x∈gB l:=by
 have f9:∀ {P:List It},Ord P->(fG aN (sl x) (mM P)).2=n3 x P:=fun ho=>Sh.U6 x ho
 unfold Bu;rw[h.p0,h.g0,f9 (zX h.nd),f9 (rh h.nd),Bool.or_eq_true,uT,uT,tT h.nd]
 constructor
 ·rintro (k|k)
  ·exact((rz (mc h.nd) x).1 k).1.elim (fun h=>by cases h) id
  ·exact(rv (mc h.nd) x k).elim (fun h=>by cases h) id
 ·intro k
  by_cases c:x∈tk [] l
  ·exact .inr c
  ·exact .inl ((rz (mc h.nd) x).2 ⟨.inr k,c⟩)
theorem LM {l:List Op} {p f:Nat} (hf:f≤p) (hp:p≤l.length) (X:List Op):(l.take p++X).drop f=(l.take p).drop f++X:=List.drop_append_of_le_length (by rw[ej];omega)
theorem CE {b:Bool} {H:List It} {l:List Op} {w:It}:w∈mh b (gw H l)↔∃ o,o∈l/\o.ins=ao/\o.it=w/\decide (w∈H)=b:=by
 rw[uc];unfold gw
 constructor
 ·rintro ⟨m,h1,h2,h3,h4⟩
  obtain⟨o,ho,rfl⟩:=List.mem_map.1 h1;have h2:o.ins=ao:=h2;have h4:o.it=w:=h4;have h3:(o.ins&&decide (o.it∈H))=b:=h3;rw[h2,js,h4] at h3;exact⟨o,ho,h2,h4,h3⟩
 ·rintro ⟨o,ho,h2,h4,h3⟩
  refine⟨vq H o,List.mem_map_of_mem ho,h2,?_,h4⟩;show(o.ins&&decide (o.it∈H))=b
  rw[h2,js,h4];exact h3
theorem ahx (H:List It) (l:List Op) (f:Nat):(gw H l).drop f=gw H (l.drop f):=by unfold gw;rw[mT]
theorem Iv {H:List It} {l:List Op} {f:Nat} (hf:f≤l.length):uJ (gw H l) (f:Int)=hi (mh an (gw H (l.drop f))):=by
 unfold uJ;rw[mV,zW hf,ahx]
theorem abg {l:List Op} {p:Nat} (hp:p≤l.length) (hb:¬ qR l p<0):∃ f:Nat,qR l p=f/\f≤p:=by
 have hP:=Qt (jO l) p (pk l);rw[yb,zW hp] at hP;rcases hP with⟨h1,_⟩|⟨j,h1,h2,_⟩
 ·exact absurd (show qR l p<0 by show FF (jO l) p (pk l)<0;rw[h1];omega) hb
 ·exact⟨j,h1,h2⟩
theorem ai4 {l:List Op} {p:Nat} {x:It} {t:Int} (hd:(gB l).Nodup) (hx:x∉fin [] l) (hp:p≤l.length) (hb:¬ qR l p<0) :
  uJ (gw (fin [] l) (ld l p ⟨t,ao,x⟩)) (qR l p)=up (aa x) (uJ (jO l) (qR l p)):=by
 obtain⟨f,e,hf⟩:=abg hp hb;rw[e,vJ,Iv (by unfold ld;rw[bE,cy,ej,jC];omega),Iv (by omega)]
 show _=hi (x::mh an (gw (fin [] l) (l.drop f)))
 refine Vo fun w=>?_
 have e2:l.drop f=(l.take p).drop f++l.drop p:=by rw[← LM hf hp,cR]
 rw[bN,CE,CE,e2];unfold ld;rw[LM hf hp];simp only[bY,bN]
 constructor
 ·rintro ⟨o,(h1|rfl|h1),h2,h3,h4⟩
  ·exact .inr ⟨o,.inl h1,h2,h3,h4⟩
  ·exact .inl h3.symm
  ·exact .inr ⟨o,.inr h1,h2,h3,h4⟩
 ·rintro (rfl|⟨o,(h1|h1),h2,h3,h4⟩)
  ·exact⟨⟨t,ao,w⟩,.inr (.inl rfl),rfl,rfl,decide_eq_false hx⟩
  ·exact⟨o,.inl h1,h2,h3,h4⟩
  ·exact⟨o,.inr (.inr h1),h2,h3,h4⟩
theorem aly {l:List Op} {k:Nat} (hk:k<l.length) (kQ:(og l k).ins=an) (hb:¬ qR l k<0) :
  uJ (gw (fin [] l) (kn l k)) (qR l k)=uJ (jO l) (qR l k):=by
 obtain⟨f,e,hf⟩:=abg (by omega) hb
 rw[e,vJ,Iv (by unfold kn;rw[bE,ej,jC];omega),Iv (by omega)]
 refine Vo fun w=>?_
 have e2:l.drop f=(l.take k).drop f++(og l k::l.drop (k+1)):=by rw[← LM hf (by omega),← PB hk,cR]
 rw[CE,CE,e2];unfold kn;rw[LM hf (by omega)]
 simp only[bY,bN]
 constructor
 ·rintro ⟨o,(h1|h1),h2⟩
  ·exact⟨o,.inl h1,h2⟩
  ·exact⟨o,.inr (.inr h1),h2⟩
 ·rintro ⟨o,(h1|rfl|h1),h2⟩
  ·exact⟨o,.inl h1,h2⟩
  ·exact absurd (h2.1.symm.trans kQ) (by decide)
  ·exact⟨o,.inr h1,h2⟩
theorem Um (l:List Op) (p:Nat) (o:Op) (hp:p≤l.length):(ld l p o).length=l.length+1:=by
 unfold ld;rw[bE,cy,ej,jC];omega
theorem abL {l:List Op} {k:Nat} (hk:k<l.length):(kn l k).length=l.length-1:=by
 unfold kn;rw[bE,ej,jC];omega
theorem Rf {l:List Op} {p:Nat} {o w:Op}:w∈ld l p o↔w=o∨w∈l:=by
 unfold ld;rw[bY,bN]
 conv=>rhs;rw[← cR p l,bY]
 constructor
 ·rintro (h|h|h)
  ·exact .inr (.inl h)
  ·exact .inl h
  ·exact .inr (.inr h)
 ·rintro (h|h|h)
  ·exact .inr (.inl h)
  ·exact .inl h
  ·exact .inr (.inr h)
theorem YZ {l:List Op} {k:Nat} {w:Op} (h:w∈kn l k):w∈l:=by
 unfold kn at h;rw[bY] at h;exact h.elim pB v9
theorem aiR {q:QS} {l:List Op} {c:Int} {n:Nat} {t:Int} {x:It} (h:HQ q l c n) (xa:l.length≤59) (hn:n≤90000) (hc:(l.length:Int)≠c) (hf:DF l t) (hx:x∉gB l) :
  TU q t x/\EF q t x=0/\HQ (iZ q t x) (ld l (nc t l) ⟨t,ao,x⟩) c (n+10)/\(iZ q t x).mt.m.cY≤q.mt.m.cY+20000/\(iZ q t x).pr.m.cY≤q.pr.m.cY+20000/\(iZ q t x).gn.m.cY≤q.gn.m.cY+20000 /\
   ((qR l (nc t l)<0->wS q t x=[]/\fin [] (ld l (nc t l) ⟨t,ao,x⟩)=fin [] l)/\(¬ qR l (nc t l)<0->∃ z,z∉fin [] l/\wS q t x=[z]/\fin [] (ld l (nc t l) ⟨t,ao,x⟩)=ig z (fin [] l))):=by
 have hB:=h.MT (by omega)
 have r0:=(h.ref t).2.2 hc hf;have n0:=alk h.nd hx;have hp:=P6 t l;have i0:Bu (n9 q t) x=an:=by
  rw[Ml];intro k;have k:Bu q x=ao:=k;exact hx ((h.ind x).1 k)
 have c0:EF q t x=0:=by unfold EF;rw[if_pos r0,if_neg (by rw[i0];decide)]
 have m1:=h.mq.Zx hB (by omega) t
 have m2:=m1.ajF hB (by omega) x
 have m3:=m2.aei hB (by omega) (kY t)
 have eR:B8 (MZ q t x) (kY t)=(nc t l:Int):=WI (H:=fin [] l) m2 (kY t);have eF:Pd q t x=qR l (nc t l):=by
  have e1:rK (Yy q t x)=pk l:=MQ.pk (H:=fin [] l) m3;have e2:(Yy q t x).mt.l=jO l:=m3.m0;unfold Pd GI;rw[eR,e1,e2]
 have m4:=m3.bu_ hB (by omega) (B8 (MZ q t x) (kY t))
 have pe:=Ry (H:=fin [] l) (l:=l) (o:=⟨t,ao,x⟩) (m:=SR t x) hf (by unfold vq SR;rw[decide_eq_false n0.1];rfl)
 have al:=Um l (nc t l) ⟨t,ao,x⟩ hp;have pg:(rE O8 (SR t x) (jO l)).length≤60:=by rw[vJ,pe,mV,al];omega
 have m5:=m4.aep hB (by omega) (by omega) (m:=SR t x) pg (.inr (by rw[yb];exact hc))
 have gl:=TO l;have fl:=Cq l;have lc:=h.len;have m6:=m5.Be hB (by omega) (by omega) (x:=x) (rh h.nd) n0.2.1 (by omega) (by omega)
 have m6:MQ (MB q t x) (gw (fin [] l) (ld l (nc t l) ⟨t,ao,x⟩)) (fin [] l) (ig x (gn l)) c (n+2) q 3000:=(m6.lst pe).up (a_ _) (by omega)
 have ok3:(SV q t x).mt.ls (SR t x):=Hg (m4.mb (by omega)).1 (by show(rE O8 (SR t x) (BO (Yy q t x) (B8 (MZ q t x) (kY t))).mt.l).length≤60;rw[show(BO (Yy q t x) (B8 (MZ q t x) (kY t))).mt.l=jO l from m4.m0];exact pg)
 have ok4:(SV q t x).gn.ls (sl x):=H_ m4.g0 (rh h.nd) (m4.mb (by omega)).2.2 (by omega)
 have fq:=h.mq.mb (by omega)
 have Qo:=af8 (o:=⟨t,ao,x⟩) h.tm hf;have BM:=afv (p:=nc t l) (o:=⟨t,ao,x⟩) h.nd (fun _=>hx)
 have Wx:∀ o,o∈ld l (nc t l) ⟨t,ao,x⟩->o.ins=an->o.it=iz:=fun o ho kQ=>by
  rcases Rf.1 ho with rfl|ho
  ·cases kQ
  ·exact h.dl o ho kQ
 have oG:Ord (ig x (gn l)):=pF (rh h.nd) n0.2.1;have eQ:iZ q t x=wx (MB q t x) (Pd q t x):=by unfold iZ;rw[if_pos r0,if_neg (by rw[i0];decide)]
 have eI:wS q t x=yR (MB q t x) (Pd q t x):=by unfold wS;rw[if_pos r0,if_neg (by rw[i0];decide)]
 obtain⟨E1,E2⟩:=alq (t:=t) h.nd hx hp;rw[eQ,eI,eF]
 by_cases hb:qR l (nc t l)<0
 ·obtain⟨g1,g2,g3⟩:=m6.age (by omega) hb
  obtain⟨a1,a2,a3⟩:=E1 hb;have mq:MQ (MB q t x) (jO (ld l (nc t l) ⟨t,ao,x⟩)) (fin [] (ld l (nc t l) ⟨t,ao,x⟩)) (gn (ld l (nc t l) ⟨t,ao,x⟩)) c (n+2) q 3000:=by
   rw[vJ,a1,← A' BM oG fun w=>by rw[kd,a3,tT h.nd,or_comm]]
   exact m6
  have v1:=mq.v1;have v2:=mq.v2;have v3:=mq.v3;rw[g1,g3];refine⟨⟨fq,fun _ _=>⟨ok3,ok4,?_⟩⟩,c0,HQ.mk' (mq.up (n':=n+10) (k':=90000) (by omega) (by omega)) h.vb (by omega) (by omega) Qo BM Wx ⟨by rw[al];omega,h.len.2⟩ (by rw[al];omega),by omega,by omega,by omega,fun _=>⟨rfl,a1⟩,fun c=>absurd hb c⟩
  rw[eF];exact g2
 ·obtain⟨z,a0,a1,a2,a3,a4,a5⟩:=E2 hb;have hz:=(ai4 (t:=t) h.nd n0.1 hp hb).trans a0;obtain⟨g1,g2,g3⟩:=m6.gb_ hB (by omega) (by omega) Qo BM hb hz (zX h.nd) oG a1 (by omega) (by omega)
  have mq:MQ (wx (MB q t x) (qR l (nc t l))) (jO (ld l (nc t l) ⟨t,ao,x⟩)) (fin [] (ld l (nc t l) ⟨t,ao,x⟩)) (gn (ld l (nc t l) ⟨t,ao,x⟩)) c (n+5) q 9500:=by
   rw[vJ,a3,← A' BM (zJ (z:=z) oG) fun w=>by rw[pE,kd,a5,tT h.nd,or_comm (a:=w∈tk [] l)],
    ← Dn (H:=z::fin [] l) fun w _=>by rw[bN,kd]]
   exact g1.up (a_ _) (by omega)
  have v1:=mq.v1;have v2:=mq.v2;have v3:=mq.v3;rw[g3];refine⟨⟨fq,fun _ _=>⟨ok3,ok4,?_⟩⟩,c0,HQ.mk' (mq.up (n':=n+10) (k':=90000) (by omega) (by omega)) h.vb (by omega) (by omega) Qo BM Wx ⟨by rw[al];omega,h.len.2⟩ (by rw[al];omega),by omega,by omega,by omega,fun c=>absurd c hb,fun _=>⟨z,a1,rfl,a3⟩⟩
  rw[eF];exact g2
end Pa
namespace Pa
open Rx Wv Br
open Sh (r_ wT mM sl n3)
theorem ail {q:QS} {l:List Op} {c:Int} {n:Nat} {t:Int} (h:HQ q l c n) (xa:l.length≤59) (hn:n≤90000) (hc:(l.length:Int)≠c) (hf:DF l t) :
  Uf q t/\HQ (iK q t) (ld l (nc t l) ⟨t,an,iz⟩) c (n+10)/\(iK q t).mt.m.cY≤q.mt.m.cY+20000/\(iK q t).pr.m.cY≤q.pr.m.cY+20000/\(iK q t).gn.m.cY≤q.gn.m.cY+20000 /\
   ((DE q t=[]/\fin [] (ld l (nc t l) ⟨t,an,iz⟩)=fin [] l)∨∃ z,z∈fin [] l/\DE q t=[z]/\fin [] (ld l (nc t l) ⟨t,an,iz⟩)=qb z (fin [] l)):=by
 have hB:=h.MT (by omega)
 have r0:=(h.ref t).2.2 hc hf;have hp:=P6 t l;have m1:=h.mq.Zx hB (by omega) t
 have m2:=m1.aei hB (by omega) (kY t)
 have eR:B8 (n9 q t) (kY t)=(nc t l:Int):=WI (H:=fin [] l) m1 (kY t);have eU:Qh q t=MY l (nc t l):=by
  have e1:rK (de1 q t)=pk l:=MQ.pk (H:=fin [] l) m2;have e2:(de1 q t).mt.l=jO l:=m2.m0;unfold Qh Kq;rw[eR,e1,e2]
 have m3:=m2.bf_ hB (by omega) (B8 (n9 q t) (kY t))
 have m3:MQ (XZ q t) (gw (fin [] l) l) (fin [] l) (gn l) c n q 600:=MQ.up m3 (a_ _) (by omega)
 have al:=Um l (nc t l) ⟨t,an,iz⟩ hp;have gl:=TO l;have fl:=Cq l;have lc:=h.len;have fq:=h.mq.mb (by omega)
 have Qo:=af8 (o:=⟨t,an,iz⟩) h.tm hf;have BM:=afv (p:=nc t l) (o:=⟨t,an,iz⟩) h.nd (fun c=>by cases c)
 have Wx:∀ o,o∈ld l (nc t l) ⟨t,an,iz⟩->o.ins=an->o.it=iz:=fun o ho kQ=>by
  rcases Rf.1 ho with rfl|ho
  ·rfl
  ·exact h.dl o ho kQ
 have pe:∀ H,rE O8 (kY t) (gw H l)=gw H (ld l (nc t l) ⟨t,an,iz⟩):=fun H=>Ry (H:=H) (l:=l) (o:=⟨t,an,iz⟩) (m:=kY t) hf rfl
 have pg:∀ H,(rE O8 (kY t) (gw H l)).length≤60:=fun H=>by rw[pe,mV,al];omega
 have eQ:iK q t=⟨(uF q t).mt.put (kY t),(uF q t).pr,(uF q t).gn,(uF q t).cap⟩:=by unfold iK;rw[if_pos r0]
 have eI:DE q t=Dq (XZ q t) (Qh q t):=by unfold DE;rw[if_pos r0]
 obtain⟨E1,E2⟩:=alc (x:=iz) (t:=t) h.nd hp;rw[eQ,eI];cases hz:qh (jO l) (MY l (nc t l)) with
 |none =>
  have HX:qh (gw (fin [] l) l) (Qh q t)=aj:=by rw[eU];exact hz
  obtain⟨a1,a2,a3⟩:=E1 hz;obtain⟨g1,g2,g3⟩:=m3.agm hB (by omega) (by omega) HX
  have g4:=MQ.aep (q:=uF q t) g1 hB (by omega) (by omega) (m:=kY t) (pg _) (.inr (by rw[mV];exact hc))
  have mq:MQ ⟨(uF q t).mt.put (kY t),(uF q t).pr,(uF q t).gn,(uF q t).cap⟩ (jO (ld l (nc t l) ⟨t,an,iz⟩)) (fin [] (ld l (nc t l) ⟨t,an,iz⟩)) (gn (ld l (nc t l) ⟨t,an,iz⟩)) c (n+5) q 9500:=by
   rw[vJ,a1,← A' BM (rh h.nd) fun w=>by rw[a3,tT h.nd],← pe]
   exact g4.up (by omega) (by omega)
  have v1:=mq.v1;have v2:=mq.v2;have v3:=mq.v3;refine⟨⟨fq,fun _=>⟨g2,Hg (MQ.mb (q:=uF q t) g1 (by omega)).1 ?_⟩⟩,HQ.mk' (mq.up (n':=n+10) (k':=90000) (by omega) (by omega)) h.vb (by omega) (by omega) Qo BM Wx ⟨by rw[al];omega,h.len.2⟩ (by rw[al];omega),by omega,by omega,by omega,.inl ⟨g3,a1⟩⟩
  rw[show(uF q t).mt.l=gw (fin [] l) l from g1.m0];exact pg _
 |some z =>
  have HX:qh (gw (fin [] l) l) (Qh q t)=aa z:=by rw[eU];exact hz
  obtain⟨a0,a1,a2,a3⟩:=E2 z hz;have zg:z∉gn l:=fun k=>((rz (mc h.nd) z).1 a0).2 ((tT h.nd).1 k)
  obtain⟨g1,g2,g3⟩:=m3.ta_ hB (by omega) (by omega) h.tm h.nd HX (zX h.nd) (rh h.nd) zg (by omega) (by omega)
  have g4:=MQ.aep (q:=uF q t) g1 hB (by omega) (by omega) (m:=kY t) (pg _) (.inr (by rw[mV];exact hc))
  have mq:MQ ⟨(uF q t).mt.put (kY t),(uF q t).pr,(uF q t).gn,(uF q t).cap⟩ (jO (ld l (nc t l) ⟨t,an,iz⟩)) (fin [] (ld l (nc t l) ⟨t,an,iz⟩)) (gn (ld l (nc t l) ⟨t,an,iz⟩)) c (n+5) q 9500:=by
   rw[vJ,a1,← A' BM (pF (x:=z) (rh h.nd) zg) fun w=>by rw[kd,a3,tT h.nd,or_comm],← pe]
   exact g4.up (by omega) (by omega)
  have v1:=mq.v1;have v2:=mq.v2;have v3:=mq.v3;refine⟨⟨fq,fun _=>⟨g2,Hg (MQ.mb (q:=uF q t) g1 (by omega)).1 ?_⟩⟩,HQ.mk' (mq.up (n':=n+10) (k':=90000) (by omega) (by omega)) h.vb (by omega) (by omega) Qo BM Wx ⟨by rw[al];omega,h.len.2⟩ (by rw[al];omega),by omega,by omega,by omega,.inr ⟨z,a0,g3,a1⟩⟩
  rw[show(uF q t).mt.l=gw (qb z (fin [] l)) l from g1.m0];exact pg _
theorem ame {q:QS} {l:List Op} {c:Int} {n:Nat} {t:Int} {k:Nat} (h:HQ q l c n) (hk:k<l.length) (ht:(og l k).t=t):Gw q t=ao/\mZ q t=vq (fin [] l) (og l k):=by
 have hh:=K6 (H:=fin [] l) (e:=kY t) h.tm hk ht;have e:(gw (fin [] l) l).getD k mz=vq (fin [] l) (og l k):=oN _ hk;have s:=Gv.ag' T5 (e:=kY t) (US (H:=fin [] l) h.tm) (i:=k) (by rw[mV];exact hk) (by
  show O8.cmp (kY t) ((gw (fin [] l) l).getD k mz)=0
  rw[e,Cb];exact ht.symm)
 unfold Gw mZ;rw[h.m0,vJ,s];exact⟨rfl,e⟩
theorem alg {q:QS} {l:List Op} {c:Int} {n:Nat} {t:Int} {k:Nat} (h:HQ q l c n) (hn:n≤90000) (hk:k<l.length) (ht:(og l k).t=t) :
  aam q t/\KM q t=0/\HQ (j9 q t) (kn l k) c (n+10)/\(j9 q t).mt.m.cY≤q.mt.m.cY+20000/\(j9 q t).pr.m.cY≤q.pr.m.cY+20000/\(j9 q t).gn.m.cY≤q.gn.m.cY+20000 /\
   ((xB q t=[]/\w9 q t=[]/\fin [] (kn l k)=fin [] l)∨(∃ z,z∉fin [] l/\xB q t=[z]/\w9 q t=[]/\fin [] (kn l k)=ig z (fin [] l))∨(∃ z,z∈fin [] l/\xB q t=[]/\w9 q t=[z]/\fin [] (kn l k)=qb z (fin [] l))):=by
 have hB:=h.MT (by omega)
 obtain⟨hb,hm⟩:=ame h hk ht;have c0:KM q t=0:=by unfold KM;rw[if_pos hb]
 have FO:=h.FO;have m1:=h.mq.ajc hB (by omega) (kY t)
 have m1:MQ (BL q t) (gw (fin [] l) l) (fin [] l) (gn l) c n q 40:=m1;have m2:=m1.aei hB (by omega) (mZ q t)
 have m2:MQ (MA q t) (gw (fin [] l) l) (fin [] l) (gn l) c n q 110:=m2;have eR:EX q t=(k:Int):=by
  unfold EX;rw[WI (H:=fin [] l) m1 (mZ q t),hm];show(nc (og l k).t l:Int)=k
  rw[acU h.tm hk rfl]
 have eX:rK (MA q t)=pk l:=MQ.pk (H:=fin [] l) m2;have eL:(MA q t).mt.l=jO l:=m2.m0;have wl:=abL hk;have gl:=TO l;have fl:=Cq l;have lc:=h.len;have fq:=h.mq.mb (by omega)
 have Qo:=al6 h.tm k;obtain⟨BM,nm⟩:=al4 h.nd hk;have Wx:∀ o,o∈kn l k->o.ins=an->o.it=iz:=fun o ho kQ=>h.dl o (YZ ho) kQ
 have de:∀ H,Gv.nz O8 (mZ q t) (gw H l)=gw H (kn l k):=fun H=>adU h.tm hk (by rw[hm];rfl)
 have AN:(mZ q t).ins=(og l k).ins:=by rw[hm];rfl
 have eit:(mZ q t).it=(og l k).it:=by rw[hm];rfl
 have afh:(mZ q t).here=((og l k).ins&&decide ((og l k).it∈fin [] l)):=by rw[hm];rfl
 have Ky:∀ {q':QS} {d:Nat} {e:Int},MQ q' (jO (kn l k)) (fin [] (kn l k)) (gn (kn l k)) c (n+d) q e->d≤10->e≤15000->HQ q' (kn l k) c (n+10)/\q'.mt.m.cY≤q.mt.m.cY+20000/\q'.pr.m.cY≤q.pr.m.cY+20000/\q'.gn.m.cY≤q.gn.m.cY+20000:=fun mq hd he=>by
  have v1:=mq.v1;have v2:=mq.v2;have v3:=mq.v3;exact⟨HQ.mk' (mq.up (n':=n+10) (k':=90000) (by omega) (by omega)) h.vb (by omega) (by omega) Qo BM Wx ⟨by rw[wl];omega,h.len.2⟩ (by rw[wl];omega),by omega,by omega,by omega⟩
 rcases ji (og l k) with ei|ei
 ·obtain⟨E1,E2⟩:=agH h.nd hk ei;have AN:(mZ q t).ins=ao:=AN.trans ei
  by_cases kj:(og l k).it∈fin [] l
  ·have eh:(mZ q t).here=ao:=by rw[afh,ei,decide_eq_true kj];rfl
   obtain⟨a1,a2,a3⟩:=E1 kj;have m3:=m1.TH hB (by omega) (mZ q t)
   have m4:=m3.CH hB (by omega) (x:=(og l k).it) (zX h.nd)
   have eQ:j9 q t=⟨(BL q t).mt.drop (mZ q t),(BL q t).pr.drop (sl (og l k).it),(BL q t).gn,(BL q t).cap⟩:=by unfold j9;rw[if_pos hb,if_pos AN,if_pos eh,eit]
   have mq:MQ (j9 q t) (jO (kn l k)) (fin [] (kn l k)) (gn (kn l k)) c (n+2) q 9000:=by
    rw[eQ,vJ,a1,← A' BM (rh h.nd) fun w=>by rw[a3,tT h.nd],Dn (H:=qb (og l k).it (fin [] l)) (H':=fin [] l) fun w hw=>by
     rw[pE];exact⟨fun c=>c.1,fun c=>⟨c,fun e=>((nm w).1 hw).2 ⟨ei,e⟩⟩⟩,← de]
    exact m4.up (by omega) (by omega)
   obtain⟨f1,f2,f3,f4⟩:=Ky mq (by omega) (by omega)
   refine⟨⟨fq,fun _=>⟨fun c=>absurd (AN.symm.trans c) (by decide),fun _ c=>absurd (eh.symm.trans c) (by decide)⟩⟩,c0,f1,f2,f3,f4,.inr (.inr ⟨_,kj,?_,?_,a1⟩)⟩
   ·unfold xB;rw[if_pos hb,if_pos AN]
   ·unfold w9;rw[if_pos hb,if_pos AN,if_pos eh,eit]
  ·have eh:(mZ q t).here=an:=by rw[afh,ei,decide_eq_false kj];rfl
   obtain⟨a0,A1,A2⟩:=E2 kj;have m3:=m2.bf_ hB (by omega) (EX q t+1)
   have m3:MQ (Y4 q t) (gw (fin [] l) l) (fin [] l) (gn l) c n q 600:=MQ.up m3 (a_ _) (by omega)
   have eU:O4 q t=MY l (k+1):=by
    unfold O4 Kq;rw[eX,eL,eR]
    rfl
   have eQ:j9 q t=⟨(Af q t).mt.drop (mZ q t),(Af q t).pr,(Af q t).gn.drop (sl (og l k).it),(Af q t).cap⟩:=by unfold j9;rw[if_pos hb,if_pos AN,if_neg (by rw[eh];decide),eit]
   have eI:xB q t=[]:=by unfold xB;rw[if_pos hb,if_pos AN]
   have eO:w9 q t=Dq (Y4 q t) (O4 q t):=by unfold w9;rw[if_pos hb,if_pos AN,if_neg (by rw[eh];decide)]
   cases hz:qh (jO l) (MY l (k+1)) with
   |none =>
    have HX:qh (gw (fin [] l) l) (O4 q t)=aj:=by rw[eU];exact hz
    obtain⟨a1,a2,a3⟩:=A1 hz;obtain⟨g1,g2,g3⟩:=m3.agm hB (by omega) (by omega) HX
    have g4:=MQ.TH (q:=Af q t) g1 hB (by omega) (mZ q t)
    have g5:=g4.ZJ hB (by omega) (x:=(og l k).it) (rh h.nd)
    have mq:MQ (j9 q t) (jO (kn l k)) (fin [] (kn l k)) (gn (kn l k)) c (n+2) q 15000:=by
     rw[eQ,vJ,a1,← A' BM (zJ (z:=(og l k).it) (rh h.nd)) fun w=>by rw[pE,a3,tT h.nd],← de]
     exact g5.up (by omega) (by omega)
    obtain⟨f1,f2,f3,f4⟩:=Ky mq (by omega) (by omega)
    exact⟨⟨fq,fun _=>⟨fun c=>absurd (AN.symm.trans c) (by decide),fun _ _=>⟨g2,(MQ.mb (q:=Af q t) g1 (by omega)).1,(MQ.mb (q:=Af q t) g1 (by omega)).2.2⟩⟩⟩,c0,f1,f2,f3,f4,.inl ⟨eI,eO.trans g3,a1⟩⟩
   |some z =>
    have HX:qh (gw (fin [] l) l) (O4 q t)=aa z:=by rw[eU];exact hz
    obtain⟨b0,a1,a2,a3⟩:=A2 z hz;have zg:z∉gn l:=fun k=>((rz (mc h.nd) z).1 b0).2 ((tT h.nd).1 k)
    have gi:(gn l).length≤l.length-1∨(gn l).length=l.length:=by omega
    obtain⟨g1,g2,g3⟩:=m3.ta_ hB (by omega) (by omega) h.tm h.nd HX (zX h.nd) (rh h.nd) zg (by
     have e1:=ID l [];have e2:(l.filter fun o=>!o.ins).length<l.length:=by
      rw[List.length_filter_lt_length_iff_exists];exact⟨_,KT hk,by rw[ei];decide⟩
     rw[WC];omega) (by omega)
    have g4:=MQ.TH (q:=Af q t) g1 hB (by omega) (mZ q t)
    have g5:=g4.ZJ hB (by omega) (x:=(og l k).it) (pF (x:=z) (rh h.nd) zg)
    have mq:MQ (j9 q t) (jO (kn l k)) (fin [] (kn l k)) (gn (kn l k)) c (n+5) q 15000:=by
     rw[eQ,vJ,a1,← A' BM (zJ (z:=(og l k).it) (pF (x:=z) (rh h.nd) zg)) fun w=>by rw[pE,kd,a3,tT h.nd,or_comm (a:=w=z)],← de]
     exact g5.up (by omega) (by omega)
    obtain⟨f1,f2,f3,f4⟩:=Ky mq (by omega) (by omega)
    exact⟨⟨fq,fun _=>⟨fun c=>absurd (AN.symm.trans c) (by decide),fun _ _=>⟨g2,(MQ.mb (q:=Af q t) g1 (by omega)).1,(MQ.mb (q:=Af q t) g1 (by omega)).2.2⟩⟩⟩,c0,f1,f2,f3,f4,.inr (.inr ⟨z,b0,eI,eO.trans g3,a1⟩)⟩
 ·have AN:(mZ q t).ins=an:=AN.trans ei;have nt:¬ (mZ q t).ins=ao:=by rw[AN];decide
  obtain⟨E1,E2⟩:=ahb h.nd hk ei;have m3:=m2.bu_ hB (by omega) (EX q t)
  have m4:=m3.TH hB (by omega) (mZ q t)
  have m4:MQ (SG q t) (gw (fin [] l) (kn l k)) (fin [] l) (gn l) c (n+1) q 5000:=(m4.lst (de _)).up (a_ _) (by omega)
  have eF:KA q t=qR l k:=by
   unfold KA GI;rw[eX,eL,eR]
  have eQ:j9 q t=wx (SG q t) (KA q t):=by unfold j9;rw[if_pos hb,if_neg nt]
  have eI:xB q t=yR (SG q t) (KA q t):=by unfold xB;rw[if_pos hb,if_neg nt]
  have eO:w9 q t=[]:=by unfold w9;rw[if_pos hb,if_neg nt]
  have nm':∀ w,w∈gB (kn l k)↔w∈gB l:=fun w=>by rw[nm,ei];simp
  by_cases qC:qR l k<0
  ·obtain⟨g1,g2,g3⟩:=m4.age (by omega) (f:=KA q t) (by rw[eF];exact qC)
   obtain⟨a1,a2,a3⟩:=E1 qC;have mq:MQ (j9 q t) (jO (kn l k)) (fin [] (kn l k)) (gn (kn l k)) c (n+1) q 5000:=by
    rw[eQ,g1,vJ,a1,← A' BM (rh h.nd) fun w=>by rw[a3,tT h.nd]]
    exact m4
   obtain⟨f1,f2,f3,f4⟩:=Ky mq (by omega) (by omega)
   exact⟨⟨fq,fun _=>⟨fun _=>g2,fun c=>absurd c nt⟩⟩,c0,f1,f2,f3,f4,.inl ⟨eI.trans g3,eO,a1⟩⟩
  ·obtain⟨z,a0,b1,b2,a3,a4,a5⟩:=E2 qC;have hz:=(aly hk ei qC).trans a0;obtain⟨g1,g2,g3⟩:=m4.gb_ hB (by omega) (by omega) (f:=KA q t) Qo BM (by rw[eF];exact qC) (by rw[eF];exact hz) (zX h.nd) (rh h.nd) b1 (by
    have e0:∀ (a:List Op) (h:List It),(fin h a).length+(a.filter fun o=>!o.ins).length≤h.length+a.length+gE h a-0:=fun a=>by
     intro h;have il:∀ (x:It) (m:List It),(ig x m).length=m.length+1:=fun x m=>by
      induction m with
      |nil=>rfl
      |cons y m ih=>unfold ig;split<;>simp[ih]
     induction a generalizing h with
     |nil=>rw[fin,gE];simp
     |cons o r ih =>
      rcases ji o with e|e
      ·rw[tJ e,o7 e,j5,e];have:=ih (ig o.it h);rw[il] at this;simp only[Bool.not_true,fX,if_false,cy];omega
      ·rw[nW e,j5,e];have:=ih h.tail;simp only[Ij,if_true,cy];cases h with
       |nil=>rw[sX e];simp only[List.tail_nil,jX] at this ⊢;omega
       |cons y h=>rw[nC e];simp only[List.tail_cons,cy] at this ⊢;omega
    have e1:=ID l [];have e2:=e0 l [];have e3:0<(tk [] l).length:=List.length_pos_of_mem b2;simp only[jX] at e2;omega) (by omega)
   have mq:MQ (j9 q t) (jO (kn l k)) (fin [] (kn l k)) (gn (kn l k)) c (n+5) q 12000:=by
    rw[eQ,vJ,a3,← A' BM (zJ (z:=z) (rh h.nd)) fun w=>by rw[pE,a5,tT h.nd],
     ← Dn (H:=z::fin [] l) fun w _=>by rw[bN,kd]]
    exact g1.up (by omega) (by omega)
   obtain⟨f1,f2,f3,f4⟩:=Ky mq (by omega) (by omega)
   exact⟨⟨fq,fun _=>⟨fun _=>g2,fun c=>absurd c nt⟩⟩,c0,f1,f2,f3,f4,.inr (.inl ⟨z,b1,eI.trans g3,eO,a3⟩)⟩
end Pa
namespace Pa
open Rx Wv Sh
set_option maxRecDepth 100000
set_option maxHeartbeats 8000000
abbrev oz:Op:=⟨0,an,⟨0,0⟩⟩
abbrev oR (l:List Op):Row:=⟨[.int .i64 0,.bool an,.int .i64 0,.int .i64 0],l.length,[⟨l.map Op.t,[],[]⟩,⟨[],l.map Op.ins,[]⟩,⟨l.map fun o=>o.it.k,[],[]⟩,⟨l.map fun o=>o.it.i,[],[]⟩]⟩
def pR (l:List Op) (a n:Nat):Row:=⟨[.int .i64 0,.bool an,.int .i64 0,.int .i64 0],n,[⟨cut (l.map Op.t) a n,[],[]⟩,⟨[],cut (l.map Op.ins) a n,[]⟩,⟨cut (l.map fun o=>o.it.k) a n,[],[]⟩,⟨cut (l.map fun o=>o.it.i) a n,[],[]⟩]⟩
theorem uW (l:List Op):pR l 0 l.length=oR l:=by unfold pR;simp only[cm]
theorem FB (l:List Op):(⟨[.int .i64 0,.bool an,.int .i64 0,.int .i64 0],l.length,[⟨cut (l.map Op.t) 0 l.length,[],[]⟩,⟨[],cut (l.map Op.ins) 0 l.length,[]⟩,⟨cut (l.map fun o=>o.it.k) 0 l.length,[],[]⟩,⟨cut (l.map fun o=>o.it.i) 0 l.length,[],[]⟩]⟩:Row)=oR l:=by simp only[cm]
def uO (r:Row):List Op:=match r.ew with
 |[a,b,c,d]=>(oD r.n).map fun i=>⟨a.i.getD i 0,b.b.getD i an,⟨c.i.getD i 0,d.i.getD i 0⟩⟩
 |_=>[]
theorem CC (l:List Op):uO (oR l)=l:=by
 unfold uO;refine GA fun i hi=>?_
 simp only[I7 _ _ hi]
theorem yv {β:Type} {l:List Op} {i:Nat} (f:Op->β) (d:β) (h:f oz=d):(l.map f).getD i d=f (l.getD i oz):=by
 subst h;rw[au,au,fu];cases l[i]?<;>rfl
abbrev vO {R:Type} (l:List Op):Option (SB R):=aa (.inr (.inr (.inl (oR l))))
abbrev oO {R:Type} (l:List Op):Option (SB R):=aa (.inr (.inl (45,oR l)))
abbrev oK {R:Type} (x:Op):Option (SB R):=aa (.inl (45,[.int .i64 x.t,.bool x.ins,.int .i64 x.it.k,.int .i64 x.it.i]))
theorem SO (i:Nat):0+(i:Int).toNat=i:=by omega
theorem aeu {α:Type} (l:List α) (k:Nat):cut l k (l.length-k)=l.drop k:=by unfold cut;rw[jw (by rw[jC];exact a_ _)]
theorem ac1 {α:Type} (l:List α) (k:Nat):cut l 0 k=l.take k:=by unfold cut;rw[sG]
def k_ (l:List Op) (t:Int):Int:=if l.findIdx (fun o=>o.t==t)<l.length then(l.findIdx (fun o=>o.t==t):Int) else -1
def DM (t:Int) (l:List Op):Nat:=l.findIdx (fun o=>!decide (o.t<t))
def sg (l:List Op) (o:Op):List Op:=l.take (DM o.t l)++o::l.drop (DM o.t l)
def sr (l:List Op) (i:Nat):List Op:=l.take i++l.drop (i+1)
theorem O2 (t:Int) (l:List Op):DM t l≤l.length:=Hd
theorem aiW {t:Int} {l:List Op} {j:Nat} (h:j<DM t l):(l.getD j oz).t<t:=by
 have hl:=O2 t l;have h3:=He (p:=fun o:Op=>!decide (o.t<t)) h
 rw[au,bc (by omega)]
 simpa using h3
theorem aku {t:Int} {l:List Op} (h:DM t l<l.length):¬ (l.getD (DM t l) oz).t<t:=by
 have h3:=Ju (p:=fun o:Op=>!decide (o.t<t)) (xs:=l) (w:=h)
 have e:l.getD (DM t l) oz=l[l.findIdx (fun o:Op=>!decide (o.t<t))]'h:=by rw[au,bc h];rfl
 rw[e]
 simpa using h3
theorem OB (l:List Op) (o:Op):(sg l o).length=l.length+1:=by
 have:=O2 o.t l;unfold sg;rw[bE,cy,ej,jC];omega
theorem H7 {l:List Op} {i:Nat} (h:i<l.length):(sr l i).length=l.length-1:=by
 unfold sr;rw[bE,ej,jC];omega
def ad2 {R:Type}:Prim R:=fun args hh=>match args,hh with
 |[.slice (aa ⟨0,0,aa 4000⟩) n c,.int .i64 p],[aa (.inr (.inr (.inl r)))]=>aa ⟨r=oR (uO r)/\n=(uO r).length/\(uO r).length≤100,.int .i64 (k_ (uO r) p),aj,hh,[],[]⟩
 |_,_=>aj
theorem akh {R:Type} {D:fR R}:b8 D Tryz.prog 54 (a9 ad2):=by
 refine fx Tryz.f54 fun args hh x hx=>?_
 unfold ad2 at hx;split at hx
 ·rename_i n c p r;cases hx;refine q4 fun _ hv=>?_
  obtain⟨hr,rfl,hb⟩:=hv;generalize uO r=l at *;subst hr
  generalize hG:cj (R:=R) _ _=G;refine cK (T:=[]) trivial mixed 200 ?_;refine bM (q:=At D Tryz.prog (dI Tryz.f54) 1 (iB Tryz.prog (dw (dx Tryz.f54)) G) [.inl [1,0,1,0],.inr (.inl 0),.inl [1,1]] (SS.mk (aa (br (aa ⟨0,0,aa 4000⟩) l.length c)::aa (bk ar p)::aj::aj::aa (bk ar 0)::aa (bk ar 0)::n4 (n4 (n4 (aj::aj::[])))) [] [aa (.inr (.inr (.inl (oR l))))])) ?_ (by kernel_rfl)
  refine kC (by kernel_rfl) (ι:=Nat) (fun i=>i≤l.findIdx (fun m=>m.t==p)) [0,1,5] (fun i=>[.slice (aa ⟨0,0,aa 4000⟩) l.length c,.int .i64 p,.int .i64 i]) (fun i=>[vO l]) (fun i=>l.length-i) 20 (fun i hi=>⟨rfl,rfl,by simp⟩) ⟨0,dv _,⟨[0],rfl,⟨rfl,trivial⟩,rfl,rfl,rfl,rfl⟩⟩ fun i hi=>?_
  refine cK (T:=[]) trivial mixed 200 ?_;refine bM (q:=let Z2:=bk ar;let Z1:=(aB (aw Op.t l) (0+(i:Int).toNat) (0:Int)==p);(decide ((↑i:Int)<(↑l.length:Int))=ao->Vc ((0:Int)≤(↑i:Int)/\(↑i:Int)<(↑l.length:Int)/\0+ae l≤ae l)/\Vc (0+(i:Int).toNat<ae l)/\(Z1=ao->aY (G (Z2 (↑i:Int)) [aa (.inr (.inr (.inl (oR l))))]))/\(Z1=an->Vc (fits ((↑i:Int)+(1:Int)))/\aY (∃ j,j≤List.findIdx (fun m=>Op.t m==p) l/\ae l-j<ae l-i/\jJ R 1 20 [0,1,5] [.slice (aa ⟨0,0,aa 4000⟩) l.length c,Z2 p,Z2 (↑j:Int)] [vO l] [aa (br (aa ⟨0,0,aa 4000⟩) l.length c),aa (Z2 p),aa (Z2 ((↑i:Int)+(1:Int)))] [aa (.inr (.inr (.inl (oR l))))] 20)))/\(decide ((↑i:Int)<(↑l.length:Int))=an->aY (G (Z2 (-1:Int)) [aa (.inr (.inr (.inl (oR l))))]))) ?_ (by kernel_rfl)
  intro Z2 Z1;subst Z1 Z2;have hle:l.findIdx (fun m=>m.t==p)≤l.length:=Hd
  refine⟨fun h=>?_,fun h=>⟨?_⟩⟩
  ·have cd:i<l.length:=by have:=of_decide_eq_true h;omega
   have b1:(0:Int)≤(i:Int)/\(i:Int)<(l.length:Int)/\0+l.length≤l.length:=⟨by omega,by omega,by omega⟩
   simp only[SO,yv Op.t 0 rfl];have eg:l.getD i oz=l[i]:=by rw[au,bc cd];rfl
   refine⟨⟨b1⟩,⟨cd⟩,fun h2=>⟨?_⟩,fun h2=>⟨⟨by omega,by omega⟩,i+1,?_,by omega,⟨[0],rfl,⟨rfl,trivial⟩,rfl,rfl,rfl,rfl⟩⟩⟩
   ·have e:l.findIdx (fun m=>m.t==p)=i:=by
     rcases ct i (l.findIdx (fun m=>m.t==p)) with c|c
     ·rw[eg] at h2;have h3:((l[i]'cd).t==p)=an:=He (p:=fun m:Op=>m.t==p) c;exact Bool.noConfusion (h2.symm.trans h3)
     ·omega
    have e2:k_ l p=i:=by unfold k_;rw[e,if_pos cd]
    subst hG;rw[← e2];exact⟨[0],rfl,rfl,⟨rfl,trivial⟩,rfl,rfl,rfl,rfl⟩
   ·rcases ct i (l.findIdx (fun m=>m.t==p)) with c|c
    ·exact c
    ·have e:l.findIdx (fun m=>m.t==p)=i:=by omega
     have h3:((l[l.findIdx (fun m=>m.t==p)]'(by omega)).t==p)=ao:=Ju (p:=fun m:Op=>m.t==p) (xs:=l) (w:=by omega)
     have e3:l.getD (l.findIdx (fun m=>m.t==p)) oz=l[l.findIdx (fun m=>m.t==p)]'(by omega):=by rw[au,bc (by omega)];rfl
     rw[← e3,e] at h3;rw[h3] at h2;cases h2
  ·have e:l.findIdx (fun m=>m.t==p)=l.length:=by have:=of_decide_eq_false h;omega
   have e2:k_ l p = -1:=by unfold k_;rw[e,if_neg (Nat.lt_irrefl _)]
   subst hG;rw[← e2];exact⟨[0],rfl,rfl,⟨rfl,trivial⟩,rfl,rfl,rfl,rfl⟩
 ·cases hx
def aaH {R:Type}:Prim R:=fun args hh=>match args,hh with
 |[.slice (aa ⟨0,0,aa 4000⟩) n c,.int .i64 p],[aa (.inr (.inr (.inl r)))]=>aa ⟨r=oR (uO r)/\n=(uO r).length/\(uO r).length≤100/\0≤p/\p<(uO r).length,.slice (aa ⟨1,0,aa 4000⟩) (sr (uO r) p.toNat).length 0,aj,[aa (.inr (.inr (.inl r))),oO (sr (uO r) p.toNat)],[],[(0,0)]⟩
 |_,_=>aj
theorem acV {R:Type} {D:fR R}:b8 D Tryz.prog 30 (a9 aaH):=by
 refine fx Tryz.f30 fun args hh x hx=>?_
 unfold aaH at hx;split at hx
 ·rename_i n c p r;cases hx;refine q4 fun _ hv=>?_
  obtain⟨hr,rfl,hb,hp0,hp1⟩:=hv;generalize uO r=l at *;subst hr
  generalize hG:cj (R:=R) _ _=G;refine cK (T:=[]) trivial mixed 200 ?_;refine bM (q:=let Z3:=bk ar;let Z1:=(↑l.length:Int);let Z2:=(aD (Z1-(p+(1:Int))));Vc ((0:Int)≤p/\p≤Z1/\0+ae l≤ae l)/\Vc (0≤0/\0+aD p≤ae l/\(0+aD p)*32≤140737488355328/\0+aD p≤140737488355328)/\Vc (fits (p+(1:Int)))/\Vc (0=0/\(0:Int)≤p+(1:Int)/\p+(1:Int)≤Z1/\Z1≤Z1/\0+ae l≤ae l)/\Vc (0+(0+aD p)≤0+aD p/\0+aD (p+(1:Int))+aD (Z1-(p+(1:Int)))≤ae l/\(0+aD p+aD (Z1-(p+(1:Int))))*32≤140737488355328/\0+aD p+aD (Z1-(p+(1:Int)))≤140737488355328)/\aY (G (br (aa ⟨4,0,aa 4000⟩) (0+aD p+aD (Z1-(p+(1:Int)))) 0) [aa (.inr (.inr (.inl (oR l)))),aa (.inr (.inl (45,Row.mk [Z3 0,.bool an,Z3 0,Z3 0] 0 [aW.mk [] [] [],aW.mk [] [] [],aW.mk [] [] [],aW.mk [] [] []]))),aj,aj,aa (.inr (.inl (45,Row.mk [Z3 0,.bool an,Z3 0,Z3 0] (0+aD p+aD (Z1-(p+(1:Int)))) [aW.mk (cut ([]++cut (aw Op.t l) 0 (aD p)) 0 (0+aD p)++cut (aw Op.t l) (0+aD (p+(1:Int))) Z2) [] [],aW.mk [] (cut ([]++cut (aw Op.ins l) 0 (aD p)) 0 (0+aD p)++cut (aw Op.ins l) (0+aD (p+(1:Int))) Z2) [],aW.mk (cut ([]++cut (aw (fun o=>It.k (Op.it o)) l) 0 (aD p)) 0 (0+aD p)++cut (aw (fun o=>It.k (Op.it o)) l) (0+aD (p+(1:Int))) Z2) [] [],aW.mk (cut ([]++cut (aw (fun o=>It.i (Op.it o)) l) 0 (aD p)) 0 (0+aD p)++cut (aw (fun o=>It.i (Op.it o)) l) (0+aD (p+(1:Int))) Z2) [] []])))])) ?_ (by kernel_rfl)
  intro Z3 Z1 Z2;subst Z2 Z1 Z3;obtain⟨i,rfl⟩:∃ i:Nat,p=i:=⟨p.toNat,by omega⟩
  have cd:i<l.length:=by omega
  have e0:((l.length:Int)-((i:Int)+1)).toNat=l.length-(i+1):=by omega
  have e1:((i:Int)+1).toNat=i+1:=by omega
  have P:∀ {β:Type} (f:Op->β),cut ([]++cut (l.map f) 0 i) 0 i++cut (l.map f) (i+1) (l.length-(i+1))=(sr l i).map f:=fun {β} f=>by
   have h1:cut (l.map f) 0 i=(l.take i).map f:=by rw[Yw,ac1]
   have h2:cut (l.map f) (i+1) (l.length-(i+1))=(l.drop (i+1)).map f:=by rw[Yw,aeu]
   have h3:cut ((l.take i).map f) 0 i=(l.take i).map f:=fK (by rw[fZ,ej];omega)
   rw[h1,h2,pz,h3,sr,dM]
  have N:i+(l.length-(i+1))=(sr l i).length:=by rw[H7 cd];omega
  simp only[e0,e1,iS,bW,P,N];refine⟨⟨by omega,by omega,by omega⟩,⟨by omega,by omega,by omega,by omega⟩,⟨by omega,by omega⟩,⟨by trivial,by omega,by omega,by omega,by omega⟩,⟨by omega,by omega,by rw[← N];omega,by rw[← N];omega⟩,⟨?_⟩⟩
  subst hG;exact⟨[0,4],rfl,rfl,⟨rfl,⟨_,rfl,.inl rfl⟩,trivial⟩,rfl,rfl,rfl,rfl⟩
 ·cases hx
theorem UB {R:Type} {D:fR R} {G:Value->Hp R->Prop} {l:List Op} {x:Op} {c r:Nat} {vc:Prop} (hb:l.length≤100) (hr:DM x.t l=r) (hG:cj [vO (R:=R) l].length ⟨vc,.slice (aa ⟨1,0,aa 4000⟩) (sg l x).length 0,aj,[vO l,oO (sg l x)],[],[(0,0)]⟩=G) :
  At D Tryz.prog (dI Tryz.f56) 1 (iB Tryz.prog Tryz.f56.results.toList G) [.inl [1,1,1]] ⟨frame [0,3,5] [.slice (aa ⟨0,0,aa 4000⟩) l.length c,.pointer (aa ⟨1,0,aj⟩),.int .i64 r] 0 37,[],[vO l,oK x]⟩:=by
 refine cK (T:=[]) trivial mixed 200 ?_;refine bM (q:=let Z3:=bk ar;let Z1:=(↑r:Int);let Z2:=(↑l.length:Int);Vc ((0:Int)≤Z1/\Z1≤Z2/\0+ae l≤ae l)/\Vc (0≤0/\0+aD Z1≤ae l/\(0+aD Z1)*32≤140737488355328/\0+aD Z1≤140737488355328)/\Vc (0+(0+aD Z1)≤0+aD Z1/\1≤1/\(0+aD Z1+1)*32≤140737488355328/\0+aD Z1+1≤140737488355328)/\Vc (0=0/\(0:Int)≤Z1/\Z1≤Z2/\Z2≤Z2/\0+ae l≤ae l)/\Vc (0+(0+aD Z1+1)≤0+aD Z1+1/\0+aD Z1+aD (Z2-Z1)≤ae l/\(0+aD Z1+1+aD (Z2-Z1))*32≤140737488355328/\0+aD Z1+1+aD (Z2-Z1)≤140737488355328)/\aY (G (br (aa ⟨6,0,aa 4000⟩) (0+aD Z1+1+aD (Z2-Z1)) 0) [aa (.inr (.inr (.inl (oR l)))),aa (.inl (45,[Z3 (Op.t x),.bool (Op.ins x),Z3 (It.k (Op.it x)),Z3 (It.i (Op.it x))])),aj,aj,aa (.inr (.inl (45,Row.mk [Z3 0,.bool an,Z3 0,Z3 0] 1 [aW.mk [Op.t x] [] [],aW.mk [] [Op.ins x] [],aW.mk [It.k (Op.it x)] [] [],aW.mk [It.i (Op.it x)] [] []]))),aj,aa (.inr (.inl (45,Row.mk [Z3 0,.bool an,Z3 0,Z3 0] (0+aD Z1+1+aD (Z2-Z1)) [aW.mk (cut (cut ([]++cut (aw Op.t l) 0 (aD Z1)) 0 (0+aD Z1)++cut [Op.t x] 0 1) 0 (0+aD Z1+1)++cut (aw Op.t l) (0+aD Z1) (aD (Z2-Z1))) [] [],aW.mk [] (cut (cut ([]++cut (aw Op.ins l) 0 (aD Z1)) 0 (0+aD Z1)++cut [Op.ins x] 0 1) 0 (0+aD Z1+1)++cut (aw Op.ins l) (0+aD Z1) (aD (Z2-Z1))) [],aW.mk (cut (cut ([]++cut (aw (fun o=>It.k (Op.it o)) l) 0 (aD Z1)) 0 (0+aD Z1)++cut [It.k (Op.it x)] 0 1) 0 (0+aD Z1+1)++cut (aw (fun o=>It.k (Op.it o)) l) (0+aD Z1) (aD (Z2-Z1))) [] [],aW.mk (cut (cut ([]++cut (aw (fun o=>It.i (Op.it o)) l) 0 (aD Z1)) 0 (0+aD Z1)++cut [It.i (Op.it x)] 0 1) 0 (0+aD Z1+1)++cut (aw (fun o=>It.i (Op.it o)) l) (0+aD Z1) (aD (Z2-Z1))) [] []])))])) ?_ (by kernel_rfl)
 intro Z3 Z1 Z2;subst Z2 Z1 Z3;have hle:r≤l.length:=by rw[← hr];exact O2 _ _
 have P:∀ {β:Type} (f:Op->β),(l.map f).take r++f x::(l.map f).drop r=(sg l x).map f:=fun {β} f=>by
  rw[sg,hr];simp[List.map_take,mT]
 have A0:∀ {β:Type} (f:Op->β) (v:β),cut (cut ([]++cut (l.map f) 0 r) 0 r++cut [v] 0 1) 0 (r+1)++cut (l.map f) r ((l.length:Int)-(r:Int)).toNat=(l.map f).take r++v::(l.map f).drop r:=fun f v=>Fs (fZ ..) hle
 have hwl:=OB l x;have N:r+1+((l.length:Int)-(r:Int)).toNat=(sg l x).length:=by omega
 simp only[iS,bW,A0,N,P Op.t,P Op.ins,P (fun o=>o.it.k),P (fun o=>o.it.i)]
 refine⟨⟨by omega,by omega,by omega⟩,⟨by omega,by omega,by omega,by omega⟩,⟨by omega,by omega,by omega,by omega⟩,⟨by trivial,by omega,by omega,by omega,by omega⟩,⟨by omega,by omega,by omega,by omega⟩,⟨?_⟩⟩
 subst hG;exact⟨[0,6],rfl,rfl,⟨rfl,⟨_,rfl,.inl rfl⟩,trivial⟩,rfl,rfl,rfl,rfl⟩
def rI {R:Type}:Prim R:=fun args hh=>match args,hh with
 |[.slice (aa ⟨0,0,aa 4000⟩) n c,.agg ⟨[.int .i64 k0,.bool k1,.int .i64 k2,.int .i64 k3]⟩],[aa (.inr (.inr (.inl r)))]=>aa ⟨r=oR (uO r)/\n=(uO r).length/\(uO r).length≤100,.slice (aa ⟨1,0,aa 4000⟩) (sg (uO r) (⟨k0,k1,⟨k2,k3⟩⟩:Op)).length 0,aj,[aa (.inr (.inr (.inl r))),oO (sg (uO r) (⟨k0,k1,⟨k2,k3⟩⟩:Op))],[],[(0,0)]⟩
 |_,_=>aj
theorem aiC {R:Type} {D:fR R}:b8 D Tryz.prog 56 (a9 rI):=by
 refine fx Tryz.f56 fun args hh x hx=>?_
 unfold rI at hx;split at hx
 ·rename_i n c k0 k1 k2 k3 r;cases hx;refine q4 fun _ hv=>?_
  obtain⟨hr,rfl,hb⟩:=hv;generalize uO r=l at *;subst hr
  generalize hG:cj (R:=R) _ _=G;refine cK (T:=[]) trivial mixed 200 ?_;refine bM (q:=let Z1:=bk ar;At D Tryz.prog (dI Tryz.f56) 1 (iB Tryz.prog (dw (dx Tryz.f56)) G) [.inl [1,1,0,0],.inr (.inl 0),.inl [1,1,1]] (SS.mk (aa (br (aa ⟨0,0,aa 4000⟩) l.length c)::aa (bG (aP [Z1 k0,.bool k1,Z1 k2,Z1 k3]))::aj::aa (aC (aa ⟨1,0,aj⟩))::aa (br (aa ⟨2,0,aa 4000⟩) 0 0)::aa (Z1 0)::nH (n4 (n4 (n4 (aj::aj::aj::[]))))) [] [aa (.inr (.inr (.inl (oR l)))),aa (.inl (45,[Z1 k0,.bool k1,Z1 k2,Z1 k3])),aa (.inr (.inl (45,Row.mk [Z1 0,.bool an,Z1 0,Z1 0] 0 [aW.mk [] [] [],aW.mk [] [] [],aW.mk [] [] [],aW.mk [] [] []])))])) ?_ (by kernel_rfl)
  intro Z1;subst Z1;generalize hx:(⟨k0,k1,⟨k2,k3⟩⟩:Op)=x at *
  refine kC (by kernel_rfl) (ι:=Nat) (fun k=>k≤DM x.t l) [0,3,5] (fun k=>[.slice (aa ⟨0,0,aa 4000⟩) l.length c,.pointer (aa ⟨1,0,aj⟩),.int .i64 k]) (fun k=>[vO l,oK x]) (fun k=>l.length-k) 37 (fun i hi=>⟨rfl,rfl,by simp⟩) ⟨0,dv _,⟨[0,1],rfl,⟨rfl,.inl (by subst hx;rfl),trivial⟩,rfl,rfl,rfl,rfl⟩⟩ fun k hk=>?_
  refine mP (T:=[]) [[1,1,1]] trivial mixed 200 ?_;refine bM (q:=let Z8:=bk ar;let Z1:=(decide ((↑k:Int)<(↑l.length:Int)));let Z2:=(aB (aw Op.t l) (0+(k:Int).toNat) (0:Int)<Op.t x);let Z3:=(br (aa ⟨0,0,aa 4000⟩) l.length c);let Z4:=(aC (aa ⟨1,0,aj⟩));let Z5:=(Z8 (↑k:Int));let Z6:=(aC (aa (Addr.mk 0 (0+(k:Int).toNat) (aa 4000))));let Z7:=(cr (aP []));(decide ((↑k:Int)<(↑l.length:Int))=ao->Vc (aE Z1=aE ao)/\Vc ((0:Int)≤(↑k:Int)/\(↑k:Int)<(↑l.length:Int)/\0+ae l≤ae l)/\Vc (0+(k:Int).toNat<ae l)/\(decide Z2=ao->Vc (fits ((↑k:Int)+(1:Int)))/\aY (∃ j,j≤DM (Op.t x) l/\ae l-j<ae l-k/\jJ R 1 37 [0,3,5] [.slice (aa ⟨0,0,aa 4000⟩) l.length c,.pointer (aa ⟨1,0,aj⟩),Z8 (↑j:Int)] [vO l,oK x] [aa Z3,aa Z4,aa (Z8 ((↑k:Int)+(1:Int)))] [aa (.inr (.inr (.inl (oR l)))),aa (.inl (45,[Z8 (Op.t x),.bool (Op.ins x),Z8 (It.k (Op.it x)),Z8 (It.i (Op.it x))]))] 37))/\(decide Z2=an->At D Tryz.prog (dI Tryz.f56) 1 (iB Tryz.prog (dw (dx Tryz.f56)) G) [.inl [1,1,1]] (SS.mk (aa Z3::aj::aj::aa Z4::aj::aa Z5::aj::aa Z5::aa Z3::aa (Z8 (↑l.length:Int))::aa (aE Z1)::aa (aE ao)::aa Z3::aa Z5::aa Z6::aa Z6::aa (Z8 (aB (aw Op.t l) (0+(k:Int).toNat) (0:Int)))::aa Z4::aa (Z8 (Op.t x))::aa (aE (decide Z2))::aa (aE an)::nH ([])) [(20,an),(11,ao)] [aa (.inr (.inr (.inl (oR l)))),aa (.inl (45,[Z8 (Op.t x),.bool (Op.ins x),Z8 (It.k (Op.it x)),Z8 (It.i (Op.it x))]))])))/\(decide ((↑k:Int)<(↑l.length:Int))=an->Vc (aE Z1=aE an)/\At D Tryz.prog (dI Tryz.f56) 1 (iB Tryz.prog (dw (dx Tryz.f56)) G) [.inl [1,1,1]] (SS.mk (aa Z3::aj::aj::aa Z4::aj::aa Z5::aj::aa Z5::aa Z3::aa (Z8 (↑l.length:Int))::aa (aE Z1)::aa (aE an)::aa Z7::aa Z7::aa Z7::aa Z7::aa Z7::aa Z7::aa Z7::aa Z7::aa (aE an)::nH ([])) [(11,an),(20,an)] [aa (.inr (.inr (.inl (oR l)))),aa (.inl (45,[Z8 (Op.t x),.bool (Op.ins x),Z8 (It.k (Op.it x)),Z8 (It.i (Op.it x))]))]))) ?_ (by kernel_rfl)
  intro Z8 Z1 Z2 Z3 Z4 Z5 Z6 Z7;subst Z7 Z6 Z5 Z4 Z3 Z2 Z1 Z8;have hle:DM x.t l≤l.length:=O2 _ _;refine⟨fun h=>?_,fun h=>?_⟩
  ·have cd:k<l.length:=by have:=of_decide_eq_true h;omega
   simp only[SO,yv Op.t 0 rfl];refine⟨⟨congrArg aE h⟩,⟨by omega,by omega,by omega⟩,⟨cd⟩,fun h2=>⟨⟨by omega,by omega⟩,⟨k+1,?_,by omega,⟨[0,1],rfl,⟨rfl,.inl rfl,trivial⟩,rfl,rfl,rfl,rfl⟩⟩⟩,fun h2=>?_⟩
   ·have h3:=of_decide_eq_true h2;rcases ct k (DM x.t l) with c|c
    ·exact c
    ·obtain rfl:k=DM x.t l:=by omega
     exact absurd h3 (aku cd)
   ·have h3:=of_decide_eq_false h2;have hr:DM x.t l=k:=by
     rcases ct k (DM x.t l) with c|c
     ·exact absurd (aiW c) h3
     ·omega
    exact At.fit [0,3,5] [.slice (aa ⟨0,0,aa 4000⟩) l.length c,.pointer (aa ⟨1,0,aj⟩),.int .i64 k] [vO l,oK x] 37 ⟨rfl,rfl,by simp⟩ ⟨[0,1],rfl,⟨rfl,.inl rfl,trivial⟩,rfl,rfl,rfl,rfl⟩ (UB hb hr hG)
  ·have h3:=of_decide_eq_false h;have hr:DM x.t l=k:=by omega
   exact⟨⟨congrArg aE h⟩,At.fit [0,3,5] [.slice (aa ⟨0,0,aa 4000⟩) l.length c,.pointer (aa ⟨1,0,aj⟩),.int .i64 k] [vO l,oK x] 37 ⟨rfl,rfl,by simp⟩ ⟨[0,1],rfl,⟨rfl,.inl rfl,trivial⟩,rfl,rfl,rfl,rfl⟩ (UB hb hr hG)⟩
 ·cases hx
def ko (h:List It):List Op->List (Option It)
 |[]=>[]
 |o::r=>if o.ins=ao then aj::ko (ig o.it h) r else h.head?::ko h.tail r
theorem HN:∀ (a b:List Op) (h:List It),ko h (a++b)=ko h a++ko (fin h a) b
 |[],b,h=>rfl
 |o::a,b,h=>by
  rcases ji o with e|e
  ·rw[mI,ko,if_pos e,ko,if_pos e,tJ e,HN a b];rfl
  ·rw[mI,ko,if_neg (by rw[e];decide),ko,if_neg (by rw[e];decide),nW e,HN a b];rfl
theorem XP:∀ (a:List Op) (h:List It),(ko h a).length=a.length
 |[],h=>rfl
 |o::a,h=>by rw[ko];split<;>rw[cy,XP a,cy]
theorem Rj:∀ (a:List Op) (h:List It),(fin h a).length≤h.length+a.length
 |[],h=>a_ _
 |o::a,h=>by
  rcases ji o with e|e
  ·have:=Rj a (ig o.it h);have hi:(ig o.it h).length=h.length+1:=by
    have:∀ (x:It) (l:List It),(ig x l).length=l.length+1:=fun x l=>by
     induction l with
     |nil=>rfl
     |cons y l ih=>rw[ig];split<;>simp[ih]
    exact this _ _
   rw[tJ e,cy];omega
  ·have:=Rj a h.tail;rw[nW e,cy];rw[F3] at this;omega
theorem Pn:∀ (a:List Op) (h:List It),(tk h a).length+gE h a≤a.length
 |[],h=>a_ _
 |o::a,h=>by
  rcases ji o with e|e
  ·rw[oU e,o7 e];have:=Pn a (ig o.it h);rw[cy];omega
  ·cases h with
   |nil=>rw[Cl e,sX e,cy];have:=Pn a [];omega
   |cons y h=>rw[oQ e,nC e,cy,cy];have:=Pn a h;omega
theorem take_one {l:List Op} {i:Nat} (h:i<l.length):l.take (i+1)=l.take i++[l.getD i oz]:=by
 rw[zG h,au,bc h];rfl
theorem Rr (h:List It) (o:Op):fin h [o]=ov h o:=rfl
theorem agT {l:List Op} {i:Nat} (h:i<l.length) (e:(l.getD i oz).ins=ao):fin [] (l.take (i+1))=ig (l.getD i oz).it (fin [] (l.take i))/\tk [] (l.take (i+1))=tk [] (l.take i)/\gE [] (l.take (i+1))=gE [] (l.take i)/\ko [] (l.take (i+1))=ko [] (l.take i)++[aj]:=by
 rw[take_one h,qg,wq,u0,HN,Rr,RX e,oU e,o7 e];refine⟨rfl,?_,rfl,?_⟩
 ·show _++[]=_;rw[BB]
 ·rw[ko,if_pos e];rfl
theorem aez {l:List Op} {i:Nat} (h:i<l.length) (e:(l.getD i oz).ins=an) (h0:fin [] (l.take i)=[]):fin [] (l.take (i+1))=[]/\tk [] (l.take (i+1))=tk [] (l.take i)/\gE [] (l.take (i+1))=gE [] (l.take i)+1/\ko [] (l.take (i+1))=ko [] (l.take i)++[aj]:=by
 rw[take_one h,qg,wq,u0,HN,Rr,LV e,h0,Cl e,sX e];refine⟨rfl,?_,rfl,?_⟩
 ·show _++[]=_;rw[BB]
 ·rw[ko,if_neg (by rw[e];decide)];rfl
theorem agF {l:List Op} {i:Nat} (h:i<l.length) (e:(l.getD i oz).ins=an) (h0:fin [] (l.take i)≠[]):fin [] (l.take (i+1))=(fin [] (l.take i)).tail/\tk [] (l.take (i+1))=tk [] (l.take i)++[(fin [] (l.take i)).getD 0 iz]/\gE [] (l.take (i+1))=gE [] (l.take i)/\ko [] (l.take (i+1))=ko [] (l.take i)++[aa ((fin [] (l.take i)).getD 0 iz)]:=by
 obtain⟨y,r,hy⟩:∃ y r,fin [] (l.take i)=y::r:=by
  cases hc:fin [] (l.take i) with
  |nil=>exact absurd hc h0
  |cons y r=>exact⟨y,r,rfl⟩
 rw[take_one h,qg,wq,u0,HN,Rr,LV e,hy,oQ e,nC e];refine⟨rfl,rfl,rfl,?_⟩;rw[ko,if_neg (by rw[e];decide)];rfl
abbrev kR (l:List (Option It)):Row:=⟨[.bool an,.int .i64 0,.int .i64 0],l.length,[⟨[],l.map iy,[]⟩,⟨l.map fun x=>(x.getD ⟨0,0⟩).k,[],[]⟩,⟨l.map fun x=>(x.getD ⟨0,0⟩).i,[],[]⟩]⟩
abbrev oT' {R:Type} (l:List (Option It)):Option (SB R):=aa (.inr (.inl (47,kR l)))
theorem aeE {x:It} {l:List It} (ho:Ord l) (hn:x∉l):mY (l++[x])=ig x l:=by
 have kj:n3 x l=an:=by
  refine decide_eq_false fun c=>hn ?_
  have:=zA (d:=iz) c
  rwa [wY c] at this
 rw[agM ho kj];refine As (Yg ho) (pF ho hn) fun z=>?_
 unfold r_;rw[kj];simp only[fX,if_false];rw[kd,bY,bN];have:=cR (sR x l) l
 constructor
 ·rintro (m|m|m)
  ·exact .inr (pB m)
  ·exact .inl m
  ·exact .inr (v9 m)
 ·rintro (m|m)
  ·exact .inr (.inl m)
  ·rw[← this] at m;rcases bY.1 m with m|m
   ·exact .inl m
   ·exact .inr (.inr m)
theorem EI {β:Type} (f:It->β) (h:List It) (y:It):cut (cut ([]++cut (h.map f) 0 h.length) 0 (0+h.length)++cut [f y] 0 1) 0 (0+h.length+1)=(h++[y]).map f:=by
 have e1:cut (h.map f) 0 h.length=h.map f:=fK (by simp)
 have e2:cut [f y] 0 1=[f y]:=rfl;rw[pz,e1,bW,e1,e2,fK (by simp),dM]
 rfl
theorem zj {α β:Type} (f:α->β) (k:List α) (y:α) (v:β) (hv:v=f y):cut (k.map f) 0 k.length++[v]=(k++[y]).map f:=by
 subst hv;rw[fK (by simp),dM]
 rfl
theorem ale {β:Type} (f:It->β) (h:List It):[]++cut (h.map f) 1 (h.length-1)=h.tail.map f:=by
 rw[pz];unfold cut;rw[jw (by simp),List.drop_one,List.map_tail]
def TRu {R:Type}:eM R:=[(59,s_ z0 2 (a9 aak))]
theorem adb {R:Type} {D:fR R}:cN D Tryz.prog (TRu:eM R):=⟨nE _ _ agQ,trivial⟩
def aaF {R:Type}:Prim R:=fun args hh=>match args,hh with
 |[.slice (aa ⟨0,0,aa 4000⟩) n c],[aa (.inr (.inr (.inl r)))]=>aa ⟨r=oR (uO r)/\n=(uO r).length/\(uO r).length≤100/\(gB (uO r)).Nodup,.tuple ⟨[.slice (aa ⟨1,0,aa 2000⟩) (fin [] (uO r)).length 0,.slice (aa ⟨2,0,aa 2000⟩) (mY (tk [] (uO r))).length 0,.int .i64 (gE [] (uO r)),.slice (aa ⟨3,0,aa 3000⟩) (ko [] (uO r)).length 0]⟩,aj,[aa (.inr (.inr (.inl r))),oI (fin [] (uO r)),oI (mY (tk [] (uO r))),oT' (ko [] (uO r))],[],[(0,0)]⟩
 |_,_=>aj
theorem aby {R:Type} {D:fR R}:b8 D Tryz.prog 19 (a9 aaF):=by
 refine fx Tryz.f19 fun args hh x hx=>?_
 unfold aaF at hx;split at hx
 ·rename_i n c r;cases hx;refine q4 fun _ hv=>?_
  obtain⟨hr,rfl,hb,hnd⟩:=hv;generalize uO r=l at *;subst hr
  generalize hG:cj (R:=R) _ _=G;refine cK (T:=TRu) adb mixed 200 ?_;refine bM (q:=let Z1:=bk ar;At D Tryz.prog (dI Tryz.f19) 1 (iB Tryz.prog (dw (dx Tryz.f19)) G) [.inl [1,1,1,1,0,1,0],.inr (.inl 0),.inl [1,1,1,1,1]] (SS.mk (aa (br (aa ⟨0,0,aa 4000⟩) l.length c)::aj::aa (br (aa ⟨1,0,aa 2000⟩) 0 0)::aa (br (aa ⟨2,0,aa 2000⟩) 0 0)::aa (Z1 0)::aa (br (aa ⟨3,0,aa 3000⟩) 0 0)::aa (br (aa ⟨4,0,aa 2000⟩) 0 0)::aa (br (aa ⟨5,0,aa 2000⟩) 0 0)::aa (br (aa ⟨6,0,aa 3000⟩) 0 0)::aa (Z1 0)::aa (Z1 0)::nH (nH (nH (n4 ([]))))) [] [aa (.inr (.inr (.inl (oR l)))),aa (.inr (.inl (31,Row.mk [Z1 0,Z1 0] 0 [aW.mk [] [] [],aW.mk [] [] []]))),aa (.inr (.inl (31,Row.mk [Z1 0,Z1 0] 0 [aW.mk [] [] [],aW.mk [] [] []]))),aa (.inr (.inl (47,Row.mk [.bool an,Z1 0,Z1 0] 0 [aW.mk [] [] [],aW.mk [] [] [],aW.mk [] [] []]))),aa (.inr (.inl (31,Row.mk [Z1 0,Z1 0] 0 [aW.mk [] [] [],aW.mk [] [] []]))),aa (.inr (.inl (31,Row.mk [Z1 0,Z1 0] 0 [aW.mk [] [] [],aW.mk [] [] []]))),aa (.inr (.inl (47,Row.mk [.bool an,Z1 0,Z1 0] 0 [aW.mk [] [] [],aW.mk [] [] [],aW.mk [] [] []])))])) ?_ (by kernel_rfl)
  intro Z1;subst Z1;refine kC (by kernel_rfl) (ι:=Nat) (fun i=>i≤l.length) [0,6,7,8,9,10] (fun i=>[.slice (aa ⟨0,0,aa 4000⟩) l.length c,.slice (aa ⟨1,0,aa 2000⟩) (fin [] (l.take i)).length 0,.slice (aa ⟨2,0,aa 2000⟩) (tk [] (l.take i)).length 0,.slice (aa ⟨3,0,aa 3000⟩) (ko [] (l.take i)).length 0,.int .i64 (gE [] (l.take i)),.int .i64 i]) (fun i=>[vO l,oI (fin [] (l.take i)),oI (tk [] (l.take i)),oT' (ko [] (l.take i))]) (fun i=>l.length-i) 63 (fun i hi=>⟨rfl,rfl,by simp⟩) ⟨0,dv _,⟨[0,4,5,6],rfl,⟨rfl,⟨_,rfl,.inl rfl⟩,⟨_,rfl,.inl rfl⟩,⟨_,rfl,.inl rfl⟩,trivial⟩,rfl,rfl,rfl,rfl⟩⟩ fun i hi=>?_
  generalize hh:fin [] (l.take i)=h at *
  generalize hk:tk [] (l.take i)=k at *
  generalize hs:ko [] (l.take i)=s at *
  generalize hf:gE [] (l.take i)=f at *
  refine cK (T:=TRu) adb mixed 200 ?_;refine bM (q:=let cq:=bk ar;let Z1:=(0:Int);let Z2:=(aw It.k h);let Z3:=(aw It.i h);let Z4:=(ae s+1);let Z5:=(br (aa ⟨0,0,aa 4000⟩) l.length c);let Z6:=(br (aa ⟨2,0,aa 2000⟩) k.length 0);let Z7:=(cq ((↑i:Int)+(1:Int)));let Z8:=s.length;let Z9:=(↑h.length:Int);let dJ:=(gu (nR k 0 k.length));(decide ((↑i:Int)<(↑l.length:Int))=ao->Vc (Z1≤(↑i:Int)/\(↑i:Int)<(↑l.length:Int)/\0+ae l≤ae l)/\Vc (0+(i:Int).toNat<ae l)/\(aB (aw Op.ins l) (0+(i:Int).toNat) an=ao->Vc (0≤0/\0+ae h≤ae h/\(0+ae h)*16≤140737488355328/\0+ae h≤140737488355328)/\Vc (Z1≤(↑i:Int)/\(↑i:Int)<(↑l.length:Int)/\0+ae l≤ae l)/\Vc (0+(i:Int).toNat<ae l)/\Vc (0+(0+ae h)≤0+ae h/\1≤1/\(0+ae h+1)*16≤140737488355328/\0+ae h+1≤140737488355328)/\Vc ((0+(0+ae h+1)≤0+ae h+1/\True)/\Row.mk [cq 0,cq 0] (0+ae h+1) [aW.mk (cut (cut ([]++cut Z2 0 h.length) 0 (0+ae h)++cut [aB (aw (fun o=>It.k (Op.it o)) l) (0+(i:Int).toNat) Z1] 0 1) 0 (0+ae h+1)) [] [],aW.mk (cut (cut ([]++cut Z3 0 h.length) 0 (0+ae h)++cut [aB (aw (fun o=>It.i (Op.it o)) l) (0+(i:Int).toNat) Z1] 0 1) 0 (0+ae h+1)) [] []]=iR (gu (Row.mk [cq 0,cq 0] (0+ae h+1) [aW.mk (cut (cut ([]++cut Z2 0 h.length) 0 (0+ae h)++cut [aB (aw (fun o=>It.k (Op.it o)) l) (0+(i:Int).toNat) Z1] 0 1) 0 (0+ae h+1)) [] [],aW.mk (cut (cut ([]++cut Z3 0 h.length) 0 (0+ae h)++cut [aB (aw (fun o=>It.i (Op.it o)) l) (0+(i:Int).toNat) Z1] 0 1) 0 (0+ae h+1)) [] []]))/\0+ae h+1=ae (gu (Row.mk [cq 0,cq 0] (0+ae h+1) [aW.mk (cut (cut ([]++cut Z2 0 h.length) 0 (0+ae h)++cut [aB (aw (fun o=>It.k (Op.it o)) l) (0+(i:Int).toNat) Z1] 0 1) 0 (0+ae h+1)) [] [],aW.mk (cut (cut ([]++cut Z3 0 h.length) 0 (0+ae h)++cut [aB (aw (fun o=>It.i (Op.it o)) l) (0+(i:Int).toNat) Z1] 0 1) 0 (0+ae h+1)) [] []]))/\ae (gu (Row.mk [cq 0,cq 0] (0+ae h+1) [aW.mk (cut (cut ([]++cut Z2 0 h.length) 0 (0+ae h)++cut [aB (aw (fun o=>It.k (Op.it o)) l) (0+(i:Int).toNat) Z1] 0 1) 0 (0+ae h+1)) [] [],aW.mk (cut (cut ([]++cut Z3 0 h.length) 0 (0+ae h)++cut [aB (aw (fun o=>It.i (Op.it o)) l) (0+(i:Int).toNat) Z1] 0 1) 0 (0+ae h+1)) [] []]))≤100000)/\Vc (0+ae s≤ae s/\1≤1/\Z4*24≤140737488355328/\ae s+1≤140737488355328)/\Vc (fits ((↑i:Int)+(1:Int)))/\aY (∃ j,j≤ae l/\ae l-j<ae l-i/\jJ R 1 63 [0,6,7,8,9,10] [.slice (aa ⟨0,0,aa 4000⟩) l.length c,.slice (aa ⟨1,0,aa 2000⟩) (ae (fin [] (h_ j l))) 0,.slice (aa ⟨2,0,aa 2000⟩) (ae (tk [] (h_ j l))) 0,.slice (aa ⟨3,0,aa 3000⟩) (ae (ko [] (h_ j l))) 0,cq (↑(gE [] (h_ j l)):Int),cq (↑j:Int)] [vO l,oI (fin [] (h_ j l)),oI (tk [] (h_ j l)),oT' (ko [] (h_ j l))] [aa Z5,aa (br (aa ⟨10,0,aa 2000⟩) (ae (mY (gu (Row.mk [cq 0,cq 0] (0+ae h+1) [aW.mk (cut (cut ([]++cut Z2 0 h.length) 0 (0+ae h)++cut [aB (aw (fun o=>It.k (Op.it o)) l) (0+(i:Int).toNat) Z1] 0 1) 0 (0+ae h+1)) [] [],aW.mk (cut (cut ([]++cut Z3 0 h.length) 0 (0+ae h)++cut [aB (aw (fun o=>It.i (Op.it o)) l) (0+(i:Int).toNat) Z1] 0 1) 0 (0+ae h+1)) [] []])))) 0),aa Z6,aa (br (aa ⟨12,0,aa 3000⟩) Z4 0),aa (cq (↑f:Int)),aa Z7] [aa (.inr (.inr (.inl (oR l)))),aa (.inr (.inl (31,iR h))),aa (.inr (.inl (31,iR k))),aj,aa (.inl (47,[.bool an,cq 0,cq 0])),aj,aj,aa (.inr (.inl (31,Row.mk [cq 0,cq 0] 1 [aW.mk [aB (aw (fun o=>It.k (Op.it o)) l) (0+(i:Int).toNat) Z1] [] [],aW.mk [aB (aw (fun o=>It.i (Op.it o)) l) (0+(i:Int).toNat) Z1] [] []]))),aa (.inr (.inl (31,Row.mk [cq 0,cq 0] (0+ae h+1) [aW.mk (cut ([]++cut Z2 0 h.length) 0 (0+ae h)++cut [aB (aw (fun o=>It.k (Op.it o)) l) (0+(i:Int).toNat) Z1] 0 1) [] [],aW.mk (cut ([]++cut Z3 0 h.length) 0 (0+ae h)++cut [aB (aw (fun o=>It.i (Op.it o)) l) (0+(i:Int).toNat) Z1] 0 1) [] []]))),aj,aa (.inr (.inl (31,iR (mY (gu (Row.mk [cq 0,cq 0] (0+ae h+1) [aW.mk (cut (cut ([]++cut Z2 0 h.length) 0 (0+ae h)++cut [aB (aw (fun o=>It.k (Op.it o)) l) (0+(i:Int).toNat) Z1] 0 1) 0 (0+ae h+1)) [] [],aW.mk (cut (cut ([]++cut Z3 0 h.length) 0 (0+ae h)++cut [aB (aw (fun o=>It.i (Op.it o)) l) (0+(i:Int).toNat) Z1] 0 1) 0 (0+ae h+1)) [] []])))))),aa (.inr (.inl (47,Row.mk [.bool an,cq 0,cq 0] 1 [aW.mk [] [an] [],aW.mk [Z1] [] [],aW.mk [Z1] [] []]))),aa (.inr (.inl (47,Row.mk [.bool an,cq 0,cq 0] Z4 [aW.mk [] (cut (aw iy s) 0 Z8++[an]) [],aW.mk (cut (aw (fun x=>It.k (gU x (It.mk Z1 Z1))) s) 0 Z8++[Z1]) [] [],aW.mk (cut (aw (fun x=>It.i (gU x (It.mk Z1 Z1))) s) 0 Z8++[Z1]) [] []])))] 63))/\(aB (aw Op.ins l) (0+(i:Int).toNat) an=an->(decide (Z9>Z1)=ao->Vc (Z1≤Z1/\Z1<Z9/\0+ae h≤ae h)/\Vc (0<ae h)/\Vc (Z1≤Z1/\Z1<Z9/\0+ae h≤ae h)/\Vc (0<ae h)/\Vc (0+ae k≤ae k/\1≤1/\(ae k+1)*16≤140737488355328/\ae k+1≤140737488355328)/\Vc (0=0/\Z1≤(1:Int)/\(1:Int)≤Z9/\Z9≤Z9/\0+ae h≤ae h)/\Vc (0≤0/\1+aD (Z9-(1:Int))≤ae h/\(0+aD (Z9-(1:Int)))*16≤140737488355328/\0+aD (Z9-(1:Int))≤140737488355328)/\Vc (0+ae s≤ae s/\1≤1/\Z4*24≤140737488355328/\ae s+1≤140737488355328)/\Vc (fits ((↑i:Int)+(1:Int)))/\aY (∃ j,j≤ae l/\ae l-j<ae l-i/\jJ R 1 63 [0,6,7,8,9,10] [.slice (aa ⟨0,0,aa 4000⟩) l.length c,.slice (aa ⟨1,0,aa 2000⟩) (ae (fin [] (h_ j l))) 0,.slice (aa ⟨2,0,aa 2000⟩) (ae (tk [] (h_ j l))) 0,.slice (aa ⟨3,0,aa 3000⟩) (ae (ko [] (h_ j l))) 0,cq (↑(gE [] (h_ j l)):Int),cq (↑j:Int)] [vO l,oI (fin [] (h_ j l)),oI (tk [] (h_ j l)),oT' (ko [] (h_ j l))] [aa Z5,aa (br (aa ⟨8,0,aa 2000⟩) (0+aD (Z9-(1:Int))) 0),aa (br (aa ⟨6,0,aa 2000⟩) (ae k+1) 0),aa (br (aa ⟨10,0,aa 3000⟩) Z4 0),aa (cq (↑f:Int)),aa Z7] [aa (.inr (.inr (.inl (oR l)))),aa (.inr (.inl (31,iR h))),aj,aj,aa (.inl (47,[.bool ao,cq (aB Z2 0 Z1),cq (aB Z3 0 Z1)])),aa (.inr (.inl (31,Row.mk [cq 0,cq 0] 1 [aW.mk [aB Z2 0 Z1] [] [],aW.mk [aB Z3 0 Z1] [] []]))),aa (.inr (.inl (31,Row.mk [cq 0,cq 0] (ae k+1) [aW.mk (cut (aw It.k k) 0 k.length++cut [aB Z2 0 Z1] 0 1) [] [],aW.mk (cut (aw It.i k) 0 k.length++cut [aB Z3 0 Z1] 0 1) [] []]))),aj,aa (.inr (.inl (31,Row.mk [cq 0,cq 0] (0+aD (Z9-(1:Int))) [aW.mk ([]++cut Z2 1 (aD (Z9-(1:Int)))) [] [],aW.mk ([]++cut Z3 1 (aD (Z9-(1:Int)))) [] []]))),aa (.inr (.inl (47,Row.mk [.bool an,cq 0,cq 0] 1 [aW.mk [] [ao] [],aW.mk [aB Z2 0 Z1] [] [],aW.mk [aB Z3 0 Z1] [] []]))),aa (.inr (.inl (47,Row.mk [.bool an,cq 0,cq 0] Z4 [aW.mk [] (cut (aw iy s) 0 Z8++[ao]) [],aW.mk (cut (aw (fun x=>It.k (gU x (It.mk Z1 Z1))) s) 0 Z8++cut [aB Z2 0 Z1] 0 1) [] [],aW.mk (cut (aw (fun x=>It.i (gU x (It.mk Z1 Z1))) s) 0 Z8++cut [aB Z3 0 Z1] 0 1) [] []])))] 63))/\(decide (Z9>Z1)=an->Vc (fits ((↑f:Int)+(1:Int)))/\Vc (0+ae s≤ae s/\1≤1/\Z4*24≤140737488355328/\ae s+1≤140737488355328)/\Vc (fits ((↑i:Int)+(1:Int)))/\aY (∃ j,j≤ae l/\ae l-j<ae l-i/\jJ R 1 63 [0,6,7,8,9,10] [.slice (aa ⟨0,0,aa 4000⟩) l.length c,.slice (aa ⟨1,0,aa 2000⟩) (ae (fin [] (h_ j l))) 0,.slice (aa ⟨2,0,aa 2000⟩) (ae (tk [] (h_ j l))) 0,.slice (aa ⟨3,0,aa 3000⟩) (ae (ko [] (h_ j l))) 0,cq (↑(gE [] (h_ j l)):Int),cq (↑j:Int)] [vO l,oI (fin [] (h_ j l)),oI (tk [] (h_ j l)),oT' (ko [] (h_ j l))] [aa Z5,aa (br (aa ⟨1,0,aa 2000⟩) h.length 0),aa Z6,aa (br (aa ⟨6,0,aa 3000⟩) Z4 0),aa (cq ((↑f:Int)+(1:Int))),aa Z7] [aa (.inr (.inr (.inl (oR l)))),aa (.inr (.inl (31,iR h))),aa (.inr (.inl (31,iR k))),aj,aa (.inl (47,[.bool an,cq 0,cq 0])),aa (.inr (.inl (47,Row.mk [.bool an,cq 0,cq 0] 1 [aW.mk [] [an] [],aW.mk [Z1] [] [],aW.mk [Z1] [] []]))),aa (.inr (.inl (47,Row.mk [.bool an,cq 0,cq 0] Z4 [aW.mk [] (cut (aw iy s) 0 Z8++[an]) [],aW.mk (cut (aw (fun x=>It.k (gU x (It.mk Z1 Z1))) s) 0 Z8++[Z1]) [] [],aW.mk (cut (aw (fun x=>It.i (gU x (It.mk Z1 Z1))) s) 0 Z8++[Z1]) [] []])))] 63))))/\(decide ((↑i:Int)<(↑l.length:Int))=an->Vc ((0+ae k≤ae k/\True)/\nR k 0 k.length=iR dJ/\ae k=ae dJ/\ae dJ≤100000)/\aY (G (cr (aP [.slice (aa ⟨1,0,aa 2000⟩) h.length 0,.slice (aa ⟨5,0,aa 2000⟩) (ae (mY dJ)) 0,cq (↑f:Int),.slice (aa ⟨3,0,aa 3000⟩) Z8 0])) [aa (.inr (.inr (.inl (oR l)))),aa (.inr (.inl (31,iR h))),aa (.inr (.inl (31,iR k))),aa (.inr (.inl (47,Row.mk [.bool an,cq 0,cq 0] Z8 [aW.mk [] (aw iy s) [],aW.mk (aw (fun x=>It.k (gU x (It.mk Z1 Z1))) s) [] [],aW.mk (aw (fun x=>It.i (gU x (It.mk Z1 Z1))) s) [] []]))),aj,aa (.inr (.inl (31,iR (mY dJ))))]))) ?_ (by kernel_rfl)
  intro cq Z1 Z2 Z3 Z4 Z5 Z6 Z7 Z8 Z9 dJ;subst dJ Z9 Z8 Z7 Z6 Z5 Z4 Z3 Z2 Z1 cq;have hhl:h.length≤i:=by rw[← hh];have:=Rj (l.take i) [];rw[ej] at this;simp only[jX] at this;omega
  have UH:k.length+f≤i:=by rw[← hk,← hf];have:=Pn (l.take i) [];rw[ej] at this;omega
  have GC:s.length≤i:=by rw[← hs,XP,ej];omega
  simp only[SO,yv Op.ins an rfl,yv (fun o=>o.it.k) 0 rfl,yv (fun o=>o.it.i) 0 rfl,MI It.k 0 rfl,MI It.i 0 rfl,Cr,CP]
  refine⟨fun hc=>?_,fun hc=>?_⟩
  ·have cd:i<l.length:=by have:=of_decide_eq_true hc;omega
   have b1:(0:Int)≤(i:Int)/\(i:Int)<(l.length:Int)/\0+l.length≤l.length:=⟨by omega,by omega,by omega⟩
   have hd:l.drop i=l.getD i oz::l.drop (i+1):=by
    rw[List.drop_eq_getElem_cons cd,au,bc cd];rfl
   have ap:Ap (fin [] (l.take i)) (l.drop i):=EH (by rw[cR];exact mc hnd)
   rw[hh] at ap;have S0:∀ y:Option It,s.length+1=(s++[y]).length:=fun y=>by simp
   refine⟨⟨b1⟩,⟨cd⟩,fun e=>?_,fun e=>⟨fun h0=>?_,fun h0=>?_⟩⟩
   ·obtain⟨r1,r2,r3,r4⟩:=agT cd e;rw[hh] at r1;rw[hk] at r2;rw[hf] at r3;rw[hs] at r4;rw[hd] at ap;have hn:=(ap.ins e).2.1;have hsi:=aeE ap.ord hn;have N:0+h.length+1=(h++[(l.getD i oz).it]).length:=by simp
    have K1:=zj iy s aj an rfl;have K2:=zj (fun x:Option It=>(x.getD ⟨0,0⟩).k) s aj 0 rfl
    have K3:=zj (fun x:Option It=>(x.getD ⟨0,0⟩).i) s aj 0 rfl
    have S1:=S0 aj;simp only[EI It.k h (l.getD i oz).it,EI It.i h (l.getD i oz).it,K1,K2,K3,S0 aj];simp only[N,CP,hsi];refine⟨⟨by omega,by omega,by omega,by omega⟩,⟨b1⟩,⟨cd⟩,⟨by omega,by omega,by omega,by omega⟩,⟨⟨Nat.le_of_eq (bW _),trivial⟩,by trivial,by trivial,by simp;omega⟩,⟨by omega,by omega,by omega,by omega⟩,⟨by omega,by omega⟩,⟨i+1,cd,by omega,?_⟩⟩
    rw[r1,r2,r3,r4];exact⟨[0,10,2,12],rfl,⟨rfl,⟨_,rfl,.inl rfl⟩,⟨_,rfl,.inl rfl⟩,⟨_,rfl,.inl rfl⟩,trivial⟩,rfl,rfl,rfl,rfl⟩
   ·have h1:0<h.length:=by have:=of_decide_eq_true h0;omega
    obtain⟨r1,r2,r3,r4⟩:=agF cd e (by rw[hh];exact Ef h1)
    rw[hh] at r1 r2 r4;rw[hk] at r2;rw[hf] at r3;rw[hs] at r4;have N:0+(h.length-1)=h.tail.length:=by rw[F3];omega
    have N2:((h.length:Int)-1).toNat=h.length-1:=by omega
    have NK:k.length+1=(k++[h.getD 0 iz]).length:=by simp
    have c1:∀ v:Int,cut [v] 0 1=[v]:=fun _=>rfl
    have G1:=zj It.k k (h.getD 0 iz) _ rfl;have G2:=zj It.i k (h.getD 0 iz) _ rfl;have K1:=zj iy s (aa (h.getD 0 iz)) ao rfl;have K2:=zj (fun x:Option It=>(x.getD ⟨0,0⟩).k) s (aa (h.getD 0 iz)) (h.getD 0 iz).k rfl
    have K3:=zj (fun x:Option It=>(x.getD ⟨0,0⟩).i) s (aa (h.getD 0 iz)) (h.getD 0 iz).i rfl
    have T1:=ale It.k h;have T2:=ale It.i h;refine⟨⟨by omega,by omega,by omega⟩,⟨h1⟩,⟨by omega,by omega,by omega⟩,⟨h1⟩,⟨by omega,by omega,by omega,by omega⟩,⟨by trivial,by omega,by omega,by omega,by omega⟩,⟨by omega,by omega,by omega,by omega⟩,⟨by omega,by omega,by omega,by omega⟩,⟨by omega,by omega⟩,⟨i+1,cd,by omega,?_⟩⟩
    rw[r1,r2,r3,r4];simp only[N,N2,NK,c1,G1,G2,K1,K2,K3,T1,T2,S0 (aa (h.getD 0 iz))];exact⟨[0,8,6,10],rfl,⟨rfl,⟨_,rfl,.inl rfl⟩,⟨_,rfl,.inl rfl⟩,⟨_,rfl,.inl rfl⟩,trivial⟩,rfl,rfl,rfl,rfl⟩
   ·have h1:h=[]:=jd (by have:=of_decide_eq_false h0;omega)
    obtain⟨r1,r2,r3,r4⟩:=aez cd e (by rw[hh];exact h1)
    rw[hk] at r2;rw[hf] at r3;rw[hs] at r4;have K1:=zj iy s aj an rfl;have K2:=zj (fun x:Option It=>(x.getD ⟨0,0⟩).k) s aj 0 rfl
    have K3:=zj (fun x:Option It=>(x.getD ⟨0,0⟩).i) s aj 0 rfl
    have S1:=S0 aj;simp only[K1,K2,K3,S0 aj];subst h1;refine⟨⟨by omega,by omega⟩,⟨by omega,by omega,by omega,by omega⟩,⟨by omega,by omega⟩,⟨i+1,cd,by omega,?_⟩⟩
    rw[r1,r2,r3,r4];exact⟨[0,1,2,6],rfl,⟨rfl,⟨_,rfl,.inl rfl⟩,⟨_,rfl,.inl rfl⟩,⟨_,rfl,.inl rfl⟩,trivial⟩,rfl,rfl,rfl,rfl⟩
  ·obtain rfl:i=l.length:=by have:=of_decide_eq_false hc;omega
   rw[jB] at hh hk hs hf;refine⟨⟨⟨by omega,trivial⟩,by trivial,by trivial,by omega⟩,⟨?_⟩⟩
   subst hh hk hs hf;subst hG;exact⟨[0,1,5,3],rfl,rfl,⟨rfl,⟨_,rfl,.inl rfl⟩,⟨_,rfl,.inl rfl⟩,⟨_,rfl,.inl rfl⟩,trivial⟩,rfl,rfl,rfl,rfl⟩
 ·cases hx
def hasB (l:List Op) (x:It):Bool:=l.any fun o=>o.ins&&decide (o.it=x)
theorem agu {l:List Op} {i:Nat} (h:i<l.length) (x:It):hasB (l.take (i+1)) x=(hasB (l.take i) x||((l.getD i oz).ins&&decide ((l.getD i oz).it=x))):=by
 rw[take_one h];unfold hasB;rw[List.any_append];simp
theorem QX {l:List Op} {x:It}:hasB l x=ao↔x∈gB l:=by
 rw[BX];unfold hasB;rw[OL]
 constructor
 ·rintro ⟨o,h1,h2⟩
  rw[aM,decide_eq_true_eq] at h2;exact⟨o,h1,h2.1,h2.2⟩
 ·rintro ⟨o,h1,h2,h3⟩
  exact⟨o,h1,by rw[h2,decide_eq_true h3];rfl⟩
abbrev bX {R:Type} (x:It):Option (SB R):=aa (.inl (31,[.int .i64 x.k,.int .i64 x.i]))
theorem Op.KD {a b:Op} (h:a.t=b.t) (h1:a.ins=b.ins) (h2:a.it=b.it):a=b:=by cases a;cases b;cases h;cases h1;cases h2;rfl
instance:DecidableEq Op:=fun a b=>decidable_of_iff (a.t=b.t/\a.ins=b.ins/\a.it=b.it) ⟨fun h=>Op.KD h.1 h.2.1 h.2.2,fun h=>by subst h;exact⟨rfl,rfl,rfl⟩⟩
theorem alE {a b:Op}:(a.t==b.t&&(a.ins==b.ins&&(a.it.k==b.it.k&&(a.it.i==b.it.i&&ao)&&ao)))=decide (a=b):=by
 rw[Bool.and_true,Ua,Bool.eq_iff_iff];simp only[aM,beq_iff_eq,decide_eq_true_eq];exact⟨fun h=>Op.KD h.1 h.2.1 h.2.2,fun h=>by subst h;exact⟨rfl,rfl,rfl⟩⟩
def aew {R:Type}:Prim R:=fun args hh=>match args,hh with
 |[.slice (aa ⟨0,0,aa 4000⟩) n c,.agg ⟨[.int .i64 a,.int .i64 b]⟩],[aa (.inr (.inr (.inl r)))]=>aa ⟨r=oR (uO r)/\n=(uO r).length/\(uO r).length≤100,.bool (hasB (uO r) ⟨a,b⟩),aj,hh,[],[]⟩
 |_,_=>aj
theorem aik {R:Type} {D:fR R}:b8 D Tryz.prog 55 (a9 aew):=by
 refine fx Tryz.f55 fun args hh x hx=>?_
 unfold aew at hx;split at hx
 ·rename_i n c a b r;cases hx;refine q4 fun _ hv=>?_
  obtain⟨hr,rfl,hb⟩:=hv;generalize uO r=l at *;subst hr
  generalize hG:cj (R:=R) _ _=G;refine cK (T:=[]) trivial mixed 200 ?_;refine bM (q:=let Z1:=bk ar;At D Tryz.prog (dI Tryz.f55) 1 (iB Tryz.prog (dw (dx Tryz.f55)) G) [.inl [1,0,1,0],.inr (.inl 0),.inl [1,1]] (SS.mk (aa (br (aa ⟨0,0,aa 4000⟩) l.length c)::aa (bG (aP [Z1 a,Z1 b]))::aj::aa (aC (aa ⟨1,0,aj⟩))::aa (aE an)::aa (Z1 0)::nH (n4 ([]))) [(4,an)] [aa (.inr (.inr (.inl (oR l)))),aa (.inl (31,[Z1 a,Z1 b]))])) ?_ (by kernel_rfl)
  intro Z1;subst Z1;refine kC (by kernel_rfl) (ι:=Nat) (fun i=>i≤l.length/\hasB (l.take i) ⟨a,b⟩=an) [0,3,5] (fun i=>[.slice (aa ⟨0,0,aa 4000⟩) l.length c,.pointer (aa ⟨1,0,aj⟩),.int .i64 i]) (fun i=>[vO l,bX ⟨a,b⟩]) (fun i=>l.length-i) 26 (fun i hi=>⟨rfl,rfl,by simp⟩) ⟨0,⟨dv _,rfl⟩,⟨[0,1],rfl,⟨rfl,.inl rfl,trivial⟩,rfl,rfl,rfl,rfl⟩⟩ fun i hi=>?_
  obtain⟨hi,hn⟩:=hi;refine cK (T:=[]) trivial mixed 200 ?_;refine bM (q:=let Z2:=aC (aa ⟨1,0,aj⟩);let Z3:=bk ar;let Z1:=(aB (aw Op.ins l) (0+(i:Int).toNat) an);(decide ((↑i:Int)<(↑l.length:Int))=ao->Vc ((0:Int)≤(↑i:Int)/\(↑i:Int)<(↑l.length:Int)/\0+ae l≤ae l)/\Vc (0+(i:Int).toNat<ae l)/\(aB (aw Op.ins l) (0+(i:Int).toNat) an=ao->Vc ((0:Int)≤(↑i:Int)/\(↑i:Int)<(↑l.length:Int)/\0+ae l≤ae l)/\Vc (0+(i:Int).toNat<ae l)/\Vc (aE Z1=aE ao)/\Vc ((0:Int)≤(↑i:Int)/\(↑i:Int)<(↑l.length:Int)/\0+ae l≤ae l)/\Vc (0+(i:Int).toNat<ae l)/\((if an=ao then !(aB (aw (fun o=>It.k (Op.it o)) l) (0+(i:Int).toNat) (0:Int)==a&&(aB (aw (fun o=>It.i (Op.it o)) l) (0+(i:Int).toNat) (0:Int)==b&&ao)) else aB (aw (fun o=>It.k (Op.it o)) l) (0+(i:Int).toNat) (0:Int)==a&&(aB (aw (fun o=>It.i (Op.it o)) l) (0+(i:Int).toNat) (0:Int)==b&&ao))=ao->aY (G (aE ao) [aa (.inr (.inr (.inl (oR l)))),aa (.inl (31,[Z3 a,Z3 b]))]))/\((if an=ao then !(aB (aw (fun o=>It.k (Op.it o)) l) (0+(i:Int).toNat) (0:Int)==a&&(aB (aw (fun o=>It.i (Op.it o)) l) (0+(i:Int).toNat) (0:Int)==b&&ao)) else aB (aw (fun o=>It.k (Op.it o)) l) (0+(i:Int).toNat) (0:Int)==a&&(aB (aw (fun o=>It.i (Op.it o)) l) (0+(i:Int).toNat) (0:Int)==b&&ao))=an->Vc (fits ((↑i:Int)+(1:Int)))/\aY (∃ j,(j≤ae l/\hasB (h_ j l) (It.mk a b)=an)/\ae l-j<ae l-i/\jJ R 1 26 [0,3,5] [.slice (aa ⟨0,0,aa 4000⟩) l.length c,Z2,Z3 (↑j:Int)] [vO l,bX (It.mk a b)] [aa (br (aa ⟨0,0,aa 4000⟩) l.length c),aa (Z2),aa (Z3 ((↑i:Int)+(1:Int)))] [aa (.inr (.inr (.inl (oR l)))),aa (.inl (31,[Z3 a,Z3 b]))] 26)))/\(aB (aw Op.ins l) (0+(i:Int).toNat) an=an->Vc ((0:Int)≤(↑i:Int)/\(↑i:Int)<(↑l.length:Int)/\0+ae l≤ae l)/\Vc (0+(i:Int).toNat<ae l)/\Vc (aE Z1=aE an)/\Vc (fits ((↑i:Int)+(1:Int)))/\aY (∃ j,(j≤ae l/\hasB (h_ j l) (It.mk a b)=an)/\ae l-j<ae l-i/\jJ R 1 26 [0,3,5] [.slice (aa ⟨0,0,aa 4000⟩) l.length c,Z2,Z3 (↑j:Int)] [vO l,bX (It.mk a b)] [aa (br (aa ⟨0,0,aa 4000⟩) l.length c),aa (Z2),aa (Z3 ((↑i:Int)+(1:Int)))] [aa (.inr (.inr (.inl (oR l)))),aa (.inl (31,[Z3 a,Z3 b]))] 26)))/\(decide ((↑i:Int)<(↑l.length:Int))=an->aY (G (aE an) [aa (.inr (.inr (.inl (oR l)))),aa (.inl (31,[Z3 a,Z3 b]))]))) ?_ (by kernel_rfl)
  intro Z2 Z3 Z1;subst Z1 Z3 Z2;have hx:=Ua (a:=(l.getD i oz).it) (b:=⟨a,b⟩);simp only at hx;simp only[SO,yv Op.ins an rfl,yv (fun o=>o.it.k) 0 rfl,yv (fun o=>o.it.i) 0 rfl,fX,if_false,hx]
  refine⟨fun h=>?_,fun h=>⟨?_⟩⟩
  ·have cd:i<l.length:=by have:=of_decide_eq_true h;omega
   have b1:(0:Int)≤(i:Int)/\(i:Int)<(l.length:Int)/\0+l.length≤l.length:=⟨by omega,by omega,by omega⟩
   have h1:=agu cd ⟨a,b⟩;rw[hn,Bool.false_or] at h1;refine⟨⟨b1⟩,⟨cd⟩,fun h2=>⟨⟨b1⟩,⟨cd⟩,⟨congrArg aE h2⟩,⟨b1⟩,⟨cd⟩,fun h3=>⟨?_⟩,fun h3=>⟨⟨by omega,by omega⟩,⟨i+1,⟨cd,by rw[h1,h2,h3];rfl⟩,by omega,⟨[0,1],rfl,⟨rfl,.inl rfl,trivial⟩,rfl,rfl,rfl,rfl⟩⟩⟩⟩,fun h2=>⟨⟨b1⟩,⟨cd⟩,⟨congrArg aE h2⟩,⟨by omega,by omega⟩,⟨i+1,⟨cd,by rw[h1,h2];rfl⟩,by omega,⟨[0,1],rfl,⟨rfl,.inl rfl,trivial⟩,rfl,rfl,rfl,rfl⟩⟩⟩⟩
   have e:hasB l ⟨a,b⟩=ao:=by
    have:hasB (l.take (i+1)) ⟨a,b⟩=ao:=by rw[h1,h2,h3];rfl
    unfold hasB at this ⊢;rw[OL] at this ⊢;obtain⟨o,g1,g2⟩:=this;exact⟨o,pB g1,g2⟩
   subst hG;rw[e];exact⟨[0],rfl,rfl,⟨rfl,trivial⟩,rfl,rfl,rfl,rfl⟩
  ·obtain rfl:i=l.length:=by have:=of_decide_eq_false h;omega
   rw[jB] at hn;subst hG;rw[hn];exact⟨[0],rfl,rfl,⟨rfl,trivial⟩,rfl,rfl,rfl,rfl⟩
 ·cases hx
def adD {R:Type}:Prim R:=fun args hh=>match args,hh with
 |[.slice (aa ⟨0,0,aa 4000⟩) n c,.slice (aa ⟨1,0,aa 4000⟩) n' c'],[aa (.inr (.inr (.inl r))),aa (.inr (.inr (.inl r')))]=>aa ⟨r=oR (uO r)/\n=(uO r).length/\r'=oR (uO r')/\n'=(uO r').length/\(uO r).length≤100000,.bool (decide (uO r=uO r')),aj,hh,[],[]⟩
 |_,_=>aj
theorem ajL {R:Type} {D:fR R}:b8 D Tryz.prog 28 (a9 adD):=by
 refine fx Tryz.f28 fun args hh x hx=>?_
 unfold adD at hx;split at hx
 ·rename_i n c n' c' r r';cases hx;refine q4 fun _ hv=>?_
  obtain⟨hr,rfl,um,rfl,hb⟩:=hv;generalize uO r=l at *;generalize uO r'=l' at *;subst hr;subst um
  generalize hG:cj (R:=R) _ _=G;refine cK (T:=[]) trivial mixed 200 ?_;refine bM (q:=let Z1:=(br (aa ⟨0,0,aa 4000⟩) l.length c);let Z2:=(br (aa ⟨1,0,aa 4000⟩) (ae l') c');(((↑l.length:Int) != (↑(ae l'):Int))=ao->aY (G (aE an) [aa (.inr (.inr (.inl (oR l)))),aa (.inr (.inr (.inl (oR l'))))]))/\(((↑l.length:Int) != (↑(ae l'):Int))=an->At D Tryz.prog (dI Tryz.f28) 2 (iB Tryz.prog (dw (dx Tryz.f28)) G) [.inl [1,1,0,1,0],.inr (.inl 0),.inl [1,1,1]] (SS.mk (aa Z1::aa Z2::aj::aj::aa (aE an)::aa (bk ar 0)::aa Z1::aa (bk ar (↑l.length:Int))::aa Z2::aa (bk ar (↑(ae l'):Int))::aa (aE an)::n4 (n4 (n4 (aj::aj::aj::[])))) [(10,an),(4,an)] [aa (.inr (.inr (.inl (oR l)))),aa (.inr (.inr (.inl (oR l'))))]))) ?_ (by kernel_rfl)
  intro Z1 Z2;subst Z2 Z1;refine⟨fun h=>⟨?_⟩,fun h=>?_⟩
  ·have h2:¬ l=l':=fun e=>by rw[e,bne_self_eq_false] at h;cases h
   subst hG;rw[decide_eq_false h2];exact⟨[0,1],rfl,rfl,⟨rfl,rfl,trivial⟩,rfl,rfl,rfl,rfl⟩
  have hl:l.length=l'.length:=by have:=(bne_eq_false_iff_eq).1 h;omega
  clear h;refine kC (by kernel_rfl) (ι:=Nat) (fun i=>i≤l.length/\∀ j,j<i->l.getD j oz=l'.getD j oz) [0,1,5] (fun i=>[.slice (aa ⟨0,0,aa 4000⟩) l.length c,.slice (aa ⟨1,0,aa 4000⟩) l'.length c',.int .i64 i]) (fun i=>[vO l,vO l']) (fun i=>l.length-i) 26 (fun i hi=>⟨rfl,rfl,by simp⟩) ⟨0,⟨dv _,fun j hj=>by omega⟩,⟨[0,1],rfl,⟨rfl,rfl,trivial⟩,rfl,rfl,rfl,rfl⟩⟩ fun i hi=>?_
  obtain⟨hi,hn⟩:=hi;refine cK (T:=[]) trivial mixed 200 ?_;refine bM (q:=(decide ((↑i:Int)<(↑l.length:Int))=ao->Vc ((0:Int)≤(↑i:Int)/\(↑i:Int)<(↑l.length:Int)/\0+ae l≤ae l)/\Vc (0+(i:Int).toNat<ae l)/\Vc ((0:Int)≤(↑i:Int)/\(↑i:Int)<(↑(ae l'):Int)/\0+ae l'≤ae l')/\Vc (0+(i:Int).toNat<ae l')/\((if ao=ao then !(aB (aw Op.t l) (0+(i:Int).toNat) (0:Int)==aB (aw Op.t l') (0+(i:Int).toNat) (0:Int)&&(aB (aw Op.ins l) (0+(i:Int).toNat) an==aB (aw Op.ins l') (0+(i:Int).toNat) an&&(aB (aw (fun o=>It.k (Op.it o)) l) (0+(i:Int).toNat) (0:Int)==aB (aw (fun o=>It.k (Op.it o)) l') (0+(i:Int).toNat) (0:Int)&&(aB (aw (fun o=>It.i (Op.it o)) l) (0+(i:Int).toNat) (0:Int)==aB (aw (fun o=>It.i (Op.it o)) l') (0+(i:Int).toNat) (0:Int)&&ao)&&ao))) else aB (aw Op.t l) (0+(i:Int).toNat) (0:Int)==aB (aw Op.t l') (0+(i:Int).toNat) (0:Int)&&(aB (aw Op.ins l) (0+(i:Int).toNat) an==aB (aw Op.ins l') (0+(i:Int).toNat) an&&(aB (aw (fun o=>It.k (Op.it o)) l) (0+(i:Int).toNat) (0:Int)==aB (aw (fun o=>It.k (Op.it o)) l') (0+(i:Int).toNat) (0:Int)&&(aB (aw (fun o=>It.i (Op.it o)) l) (0+(i:Int).toNat) (0:Int)==aB (aw (fun o=>It.i (Op.it o)) l') (0+(i:Int).toNat) (0:Int)&&ao)&&ao)))=ao->aY (G (aE an) [aa (.inr (.inr (.inl (oR l)))),aa (.inr (.inr (.inl (oR l'))))]))/\((if ao=ao then !(aB (aw Op.t l) (0+(i:Int).toNat) (0:Int)==aB (aw Op.t l') (0+(i:Int).toNat) (0:Int)&&(aB (aw Op.ins l) (0+(i:Int).toNat) an==aB (aw Op.ins l') (0+(i:Int).toNat) an&&(aB (aw (fun o=>It.k (Op.it o)) l) (0+(i:Int).toNat) (0:Int)==aB (aw (fun o=>It.k (Op.it o)) l') (0+(i:Int).toNat) (0:Int)&&(aB (aw (fun o=>It.i (Op.it o)) l) (0+(i:Int).toNat) (0:Int)==aB (aw (fun o=>It.i (Op.it o)) l') (0+(i:Int).toNat) (0:Int)&&ao)&&ao))) else aB (aw Op.t l) (0+(i:Int).toNat) (0:Int)==aB (aw Op.t l') (0+(i:Int).toNat) (0:Int)&&(aB (aw Op.ins l) (0+(i:Int).toNat) an==aB (aw Op.ins l') (0+(i:Int).toNat) an&&(aB (aw (fun o=>It.k (Op.it o)) l) (0+(i:Int).toNat) (0:Int)==aB (aw (fun o=>It.k (Op.it o)) l') (0+(i:Int).toNat) (0:Int)&&(aB (aw (fun o=>It.i (Op.it o)) l) (0+(i:Int).toNat) (0:Int)==aB (aw (fun o=>It.i (Op.it o)) l') (0+(i:Int).toNat) (0:Int)&&ao)&&ao)))=an->Vc (fits ((↑i:Int)+(1:Int)))/\aY (∃ j,(j≤ae l/\∀ (MH:Nat),MH<j->aB l MH oz=aB l' MH oz)/\ae l-j<ae l-i/\jJ R 2 26 [0,1,5] [.slice (aa ⟨0,0,aa 4000⟩) l.length c,.slice (aa ⟨1,0,aa 4000⟩) (ae l') c',.int ar (↑j:Int)] [vO l,vO l'] [aa (br (aa ⟨0,0,aa 4000⟩) l.length c),aa (br (aa ⟨1,0,aa 4000⟩) (ae l') c'),aa (bk ar ((↑i:Int)+(1:Int)))] [aa (.inr (.inr (.inl (oR l)))),aa (.inr (.inr (.inl (oR l'))))] 26)))/\(decide ((↑i:Int)<(↑l.length:Int))=an->aY (G (aE ao) [aa (.inr (.inr (.inl (oR l)))),aa (.inr (.inr (.inl (oR l'))))]))) ?_ (by kernel_rfl)
  have hx:=alE (a:=l.getD i oz) (b:=l'.getD i oz);simp only[SO,yv Op.t 0 rfl,yv Op.ins an rfl,yv (fun o=>o.it.k) 0 rfl,yv (fun o=>o.it.i) 0 rfl,if_true,hx]
  refine⟨fun h=>?_,fun h=>?_⟩
  ·have cd:i<l.length:=by have:=of_decide_eq_true h;omega
   have Vk:i<l'.length:=by omega
   refine⟨⟨by omega,by omega,by omega⟩,⟨cd⟩,⟨by omega,by omega,by omega⟩,⟨Vk⟩,fun h2=>⟨?_⟩,fun h2=>⟨⟨by omega,by omega⟩,⟨i+1,⟨cd,fun j hj=>?_⟩,by omega,⟨[0,1],rfl,⟨rfl,rfl,trivial⟩,rfl,rfl,rfl,rfl⟩⟩⟩⟩
   ·have h3:¬ l.getD i oz=l'.getD i oz:=by simpa using h2
    have h4:¬ l=l':=fun e=>h3 (by rw[e])
    subst hG;rw[decide_eq_false h4];exact⟨[0,1],rfl,rfl,⟨rfl,rfl,trivial⟩,rfl,rfl,rfl,rfl⟩
   ·have h3:l.getD i oz=l'.getD i oz:=by simpa using h2
    rcases ct j i with c|c
    ·exact hn j c
    ·rw[show j=i by omega];exact h3
  ·obtain rfl:i=l.length:=by have:=of_decide_eq_false h;omega
   have e:l=l':=List.ext_getElem hl fun j h1 h2=>by
    have:=hn j h1
    rwa [au,bc h1,au,bc h2] at this
   refine⟨?_⟩;subst hG;rw[decide_eq_true e];exact⟨[0,1],rfl,rfl,⟨rfl,rfl,trivial⟩,rfl,rfl,rfl,rfl⟩
 ·cases hx
def ku (old now:List It) (i:Nat):List It:=(now.take i).filter fun x=>!n3 x old
abbrev qB (old now:List It):List It:=ku old now now.length
theorem PX {old now:List It} {i:Nat} (h:i<now.length):ku old now (i+1)=if n3 (now.getD i iz) old=ao then ku old now i else ku old now i++[now.getD i iz]:=by
 unfold ku;rw[zG h,mB,au,bc h];simp only[Option.getD_some,j5,List.filter_nil];cases n3 now[i] old<;>simp
theorem Qu (old now:List It) (i:Nat):(ku old now i).length≤now.length:=by
 unfold ku;have h1:=rD (fun x=>!n3 x old) (now.take i)
 rw[ej] at h1;omega
theorem Km {l:List It} {x:It}:Qr l x<0↔n3 x l=an:=by
 unfold Qr;cases n3 x l
 ·simp
 ·simp
abbrev bC {R:Type} (a b:Value):Option (SB R):=aa (.inl (59,[a,b]))
def TCh {R:Type}:eM R:=[(50,s_ z0 2 (a9 atP))]
theorem Ux {R:Type} {D:fR R}:cN D Tryz.prog (TCh:eM R):=⟨nE _ _ al7,trivial⟩
def aeX {R:Type}:Prim R:=fun args hh=>match args,hh with
 |[.slice (aa ⟨0,0,aa 2000⟩) n c,.slice (aa ⟨1,0,aa 2000⟩) n' c'],[aa (.inr (.inr (.inl r))),aa (.inr (.inr (.inl r')))]=>aa ⟨r=iR (gu r)/\n=(gu r).length/\r'=iR (gu r')/\n'=(gu r').length/\(gu r).length≤100/\(gu r').length≤100,.agg ⟨[.slice (aa ⟨2,0,aa 2000⟩) (qB (gu r) (gu r')).length 0,.slice (aa ⟨3,0,aa 2000⟩) (qB (gu r') (gu r)).length 0]⟩,aj,[aa (.inr (.inr (.inl r))),aa (.inr (.inr (.inl r'))),oI (qB (gu r) (gu r')),oI (qB (gu r') (gu r))],[],[(0,0)]⟩
 |_,_=>aj
theorem akM {R:Type} {D:fR R}:b8 D Tryz.prog 58 (a9 aeX):=by
 refine fx Tryz.f58 fun args hh x hx=>?_
 unfold aeX at hx;split at hx
 ·rename_i n c n' c' r r';cases hx;refine q4 fun _ hv=>?_
  obtain⟨hr,rfl,um,rfl,hb,qC⟩:=hv;generalize gu r=l at *;generalize gu r'=l' at *;subst hr;subst um
  generalize hG:cj (R:=R) _ _=G;refine cK (T:=TCh) Ux mixed 200 ?_;refine bM (q:=At D Tryz.prog (dI Tryz.f58) 2 (iB Tryz.prog (dw (dx Tryz.f58)) G) [.inl [1,1,0,1,0],.inr (.inl 0),.inl [1,1,1]] (SS.mk (aa (br (aa ⟨0,0,aa 2000⟩) l.length c)::aa (br (aa ⟨1,0,aa 2000⟩) (ae l') c')::aj::aj::aa (aC (aa ⟨2,0,aj⟩))::aa (aC (aa ⟨3,0,aj⟩))::aa (bk ar 0)::nH (nH (n4 (n4 (n4 (aj::aj::[])))))) [] [aa (.inr (.inr (.inl (iR l)))),aa (.inr (.inr (.inl (iR l')))),aa (.inl (59,[.slice aj 0 0,.slice aj 0 0])),aa (.inl (59,[.slice aj 0 0,.slice aj 0 0]))])) ?_ (by kernel_rfl)
  refine kC (by kernel_rfl) (ι:=Nat) (fun i=>i≤l'.length) [0,1,4,5,6] (fun i=>[.slice (aa ⟨0,0,aa 2000⟩) l.length c,.slice (aa ⟨1,0,aa 2000⟩) l'.length c',.pointer (aa ⟨2,0,aj⟩),.pointer (aa ⟨3,0,aj⟩),.int .i64 i]) (fun i=>[vI l,vI l',bC (.slice aj 0 0) (.slice aj 0 0),bC (.slice (aa ⟨4,0,aa 2000⟩) (ku l l' i).length 0) (.slice aj 0 0),oI (ku l l' i)]) (fun i=>l'.length-i) 53 (fun i hi=>⟨rfl,rfl,by simp⟩) ⟨0,dv _,⟨[0,1,2,3,99],rfl,⟨rfl,rfl,.inl rfl,.inl rfl,⟨rfl,iT _,rfl⟩,trivial⟩,rfl,rfl,rfl,rfl⟩⟩ fun i hi=>?_
  refine cK (T:=TCh) Ux mixed 200 ?_;refine bM (q:=let Z8:=aC (aa ⟨3,0,aj⟩);let Z9:=aC (aa ⟨2,0,aj⟩);let dJ:=bk ar;let Z1:=(gu (nR l 0 l.length));let Z2:=(Qr Z1 (It.mk (aB (aw It.k l') (0+(i:Int).toNat) (0:Int)) (aB (aw It.i l') (0+(i:Int).toNat) (0:Int)))<(0:Int));let Z3:=(br aj 0 0);let Z4:=(br (aa ⟨0,0,aa 2000⟩) l.length c);let Z5:=(br (aa ⟨1,0,aa 2000⟩) (ae l') c');let Z6:=(Z9);let Z7:=(Z8);(decide ((↑i:Int)<(↑(ae l'):Int))=ao->Vc ((0:Int)≤(↑i:Int)/\(↑i:Int)<(↑(ae l'):Int)/\0+ae l'≤ae l')/\Vc (0+(i:Int).toNat<ae l')/\Vc ((0+ae l≤ae l/\True)/\nR l 0 l.length=iR Z1/\ae l=ae Z1/\ae Z1≤100000)/\(decide Z2=ao->Vc ((0:Int)≤(↑i:Int)/\(↑i:Int)<(↑(ae l'):Int)/\0+ae l'≤ae l')/\Vc (0+(i:Int).toNat<ae l')/\Vc (0+ae (ku l l' i)≤ae (ku l l' i)/\1≤1/\(ae (ku l l' i)+1)*16≤140737488355328/\ae (ku l l' i)+1≤140737488355328)/\Vc (fits ((↑i:Int)+(1:Int)))/\aY (∃ j,j≤ae l'/\ae l'-j<ae l'-i/\jJ R 2 53 [0,1,4,5,6] [.slice (aa ⟨0,0,aa 2000⟩) l.length c,.slice (aa ⟨1,0,aa 2000⟩) (ae l') c',Z9,Z8,dJ (↑j:Int)] [Jv l,Jv l',bC Z3 Z3,bC (br (aa ⟨4,0,aa 2000⟩) (ae (ku l l' j)) 0) Z3,oI (ku l l' j)] [aa Z4,aa Z5,aa Z6,aa Z7,aa (dJ ((↑i:Int)+(1:Int)))] [aa (.inr (.inr (.inl (iR l)))),aa (.inr (.inr (.inl (iR l')))),aa (.inl (59,[.slice aj 0 0,.slice aj 0 0])),aa (.inl (59,[.slice (aa ⟨6,0,aa 2000⟩) (ae (ku l l' i)+1) 0,.slice aj 0 0])),aj,aa (.inr (.inl (31,Row.mk [dJ 0,dJ 0] 1 [aW.mk [aB (aw It.k l') (0+(i:Int).toNat) (0:Int)] [] [],aW.mk [aB (aw It.i l') (0+(i:Int).toNat) (0:Int)] [] []]))),aa (.inr (.inl (31,Row.mk [dJ 0,dJ 0] (ae (ku l l' i)+1) [aW.mk (cut (aw It.k (ku l l' i)) 0 (ae (ku l l' i))++cut [aB (aw It.k l') (0+(i:Int).toNat) (0:Int)] 0 1) [] [],aW.mk (cut (aw It.i (ku l l' i)) 0 (ae (ku l l' i))++cut [aB (aw It.i l') (0+(i:Int).toNat) (0:Int)] 0 1) [] []])))] 53))/\(decide Z2=an->Vc (fits ((↑i:Int)+(1:Int)))/\aY (∃ j,j≤ae l'/\ae l'-j<ae l'-i/\jJ R 2 53 [0,1,4,5,6] [.slice (aa ⟨0,0,aa 2000⟩) l.length c,.slice (aa ⟨1,0,aa 2000⟩) (ae l') c',Z9,Z8,dJ (↑j:Int)] [Jv l,Jv l',bC Z3 Z3,bC (br (aa ⟨4,0,aa 2000⟩) (ae (ku l l' j)) 0) Z3,oI (ku l l' j)] [aa Z4,aa Z5,aa Z6,aa Z7,aa (dJ ((↑i:Int)+(1:Int)))] [aa (.inr (.inr (.inl (iR l)))),aa (.inr (.inr (.inl (iR l')))),aa (.inl (59,[.slice aj 0 0,.slice aj 0 0])),aa (.inl (59,[.slice (aa ⟨4,0,aa 2000⟩) (ae (ku l l' i)) 0,.slice aj 0 0])),aa (.inr (.inl (31,iR (ku l l' i))))] 53)))/\(decide ((↑i:Int)<(↑(ae l'):Int))=an->At D Tryz.prog (dI Tryz.f58) 2 (iB Tryz.prog (dw (dx Tryz.f58)) G) [.inl [1,1,1,0,1,0],.inr (.inl 2),.inl [1,1,1,1]] (SS.mk (aa Z4::aa Z5::aj::aj::aa Z6::aa Z7::aa (dJ (↑i:Int))::aa (dJ 0)::aa (dJ (↑i:Int))::aa Z5::aa (dJ (↑(ae l'):Int))::aa (aE an)::nH (nH (n4 (n4 (aj::[]))))) [(11,an)] [aa (.inr (.inr (.inl (iR l)))),aa (.inr (.inr (.inl (iR l')))),aa (.inl (59,[.slice aj 0 0,.slice aj 0 0])),aa (.inl (59,[.slice (aa ⟨4,0,aa 2000⟩) (ae (ku l l' i)) 0,.slice aj 0 0])),aa (.inr (.inl (31,iR (ku l l' i))))]))) ?_ (by kernel_rfl)
  intro Z8 Z9 dJ Z1 Z2 Z3 Z4 Z5 Z6 Z7;subst Z7 Z6 Z5 Z4 Z3 Z2 Z1 dJ Z9 Z8;have ce:∀ v:Int,cut [v] 0 1=[v]:=fun _=>rfl
  have SN:=Qu l l' i;simp only[V9,MI It.k 0 rfl,MI It.i 0 rfl,ahn,Cr,CP,ce];refine⟨fun h=>?_,fun h=>?_⟩
  ·skip
   have cd:i<l'.length:=by have:=of_decide_eq_true h;omega
   have b1:(0:Int)≤(i:Int)/\(i:Int)<(l'.length:Int)/\0+l'.length≤l'.length:=⟨by omega,by omega,by omega⟩
   refine⟨⟨b1⟩,⟨cd⟩,⟨⟨by omega,trivial⟩,by trivial,by trivial,by omega⟩,fun h2=>⟨⟨b1⟩,⟨cd⟩,⟨by omega,by omega,by omega,by omega⟩,⟨by omega,by omega⟩,⟨i+1,cd,by omega,?_⟩⟩,fun h2=>⟨⟨by omega,by omega⟩,⟨i+1,cd,by omega,?_⟩⟩⟩
   ·have kj:=Km.1 (of_decide_eq_true h2);have e:ku l l' (i+1)=ku l l' i++[l'.getD i iz]:=by rw[PX cd,if_neg (by rw[kj];decide)]
    have G1:=zj It.k (ku l l' i) (l'.getD i iz) _ rfl;have G2:=zj It.i (ku l l' i) (l'.getD i iz) _ rfl;have NK:(ku l l' i).length+1=(ku l l' i++[l'.getD i iz]).length:=by simp
    rw[e];simp only[G1,G2,NK];exact⟨[0,1,2,3,6],rfl,⟨rfl,rfl,.inl rfl,.inl rfl,⟨_,rfl,.inl rfl⟩,trivial⟩,rfl,rfl,rfl,rfl⟩
   ·have kj:n3 (l'.getD i iz) l=ao:=by
     cases c:n3 (l'.getD i iz) l
     ·exact absurd (Km.2 c) (of_decide_eq_false h2)
     ·rfl
    rw[PX cd,if_pos kj];exact⟨[0,1,2,3,4],rfl,⟨rfl,rfl,.inl rfl,.inl rfl,⟨_,rfl,.inl rfl⟩,trivial⟩,rfl,rfl,rfl,rfl⟩
  obtain rfl:i=l'.length:=by have:=of_decide_eq_false h;omega
  refine kC (by kernel_rfl) (ι:=Nat) (fun i=>i≤l.length) [0,1,4,5,7] (fun i=>[.slice (aa ⟨0,0,aa 2000⟩) l.length c,.slice (aa ⟨1,0,aa 2000⟩) l'.length c',.pointer (aa ⟨2,0,aj⟩),.pointer (aa ⟨3,0,aj⟩),.int .i64 i]) (fun i=>[vI l,vI l',bC (.slice aj 0 0) (.slice aj 0 0),bC (.slice (aa ⟨4,0,aa 2000⟩) (ku l l' l'.length).length 0) (.slice (aa ⟨5,0,aa 2000⟩) (ku l' l i).length 0),oI (ku l l' l'.length),oI (ku l' l i)]) (fun i=>l.length-i) 53 (fun i hi=>⟨rfl,rfl,by simp⟩) ⟨0,dv _,⟨[0,1,2,3,4,99],rfl,⟨rfl,rfl,.inl rfl,.inl rfl,⟨_,rfl,.inl rfl⟩,⟨rfl,iT _,rfl⟩,trivial⟩,rfl,rfl,rfl,rfl⟩⟩ fun i hi=>?_
  refine cK (T:=TCh) Ux mixed 200 ?_;refine bM (q:=let Z6:=aC (aa ⟨3,0,aj⟩);let Z7:=aC (aa ⟨2,0,aj⟩);let Z8:=bk ar;let Z1:=(ae l');let Z2:=(Qr (gu (nR l' 0 Z1)) (It.mk (aB (aw It.k l) (0+(i:Int).toNat) (0:Int)) (aB (aw It.i l) (0+(i:Int).toNat) (0:Int)))<(0:Int));let Z3:=(ae (ku l l' Z1));let Z4:=(br (aa ⟨0,0,aa 2000⟩) l.length c);let Z5:=(ae (ku l' l i));(decide ((↑i:Int)<(↑l.length:Int))=ao->Vc ((0:Int)≤(↑i:Int)/\(↑i:Int)<(↑l.length:Int)/\0+ae l≤ae l)/\Vc (0+(i:Int).toNat<ae l)/\Vc ((0+ae l'≤ae l'/\True)/\nR l' 0 Z1=iR (gu (nR l' 0 Z1))/\ae l'=ae (gu (nR l' 0 Z1))/\ae (gu (nR l' 0 Z1))≤100000)/\(decide Z2=ao->Vc ((0:Int)≤(↑i:Int)/\(↑i:Int)<(↑l.length:Int)/\0+ae l≤ae l)/\Vc (0+(i:Int).toNat<ae l)/\Vc (0+ae (ku l' l i)≤ae (ku l' l i)/\1≤1/\(ae (ku l' l i)+1)*16≤140737488355328/\ae (ku l' l i)+1≤140737488355328)/\Vc (fits ((↑i:Int)+(1:Int)))/\aY (∃ j,j≤ae l/\ae l-j<ae l-i/\jJ R 2 53 [0,1,4,5,7] [.slice (aa ⟨0,0,aa 2000⟩) l.length c,.slice (aa ⟨1,0,aa 2000⟩) Z1 c',Z7,Z6,Z8 (↑j:Int)] [Jv l,Jv l',bC (br aj 0 0) (br aj 0 0),bC (br (aa ⟨4,0,aa 2000⟩) Z3 0) (br (aa ⟨5,0,aa 2000⟩) (ae (ku l' l j)) 0),oI (ku l l' Z1),oI (ku l' l j)] [aa Z4,aa (br (aa ⟨1,0,aa 2000⟩) Z1 c'),aa (Z7),aa (Z6),aa (Z8 ((↑i:Int)+(1:Int)))] [aa (.inr (.inr (.inl (iR l)))),aa (.inr (.inr (.inl (iR l')))),aa (.inl (59,[.slice aj 0 0,.slice aj 0 0])),aa (.inl (59,[.slice (aa ⟨4,0,aa 2000⟩) Z3 0,.slice (aa ⟨7,0,aa 2000⟩) (ae (ku l' l i)+1) 0])),aa (.inr (.inl (31,iR (ku l l' Z1)))),aj,aa (.inr (.inl (31,Row.mk [Z8 0,Z8 0] 1 [aW.mk [aB (aw It.k l) (0+(i:Int).toNat) (0:Int)] [] [],aW.mk [aB (aw It.i l) (0+(i:Int).toNat) (0:Int)] [] []]))),aa (.inr (.inl (31,Row.mk [Z8 0,Z8 0] (ae (ku l' l i)+1) [aW.mk (cut (aw It.k (ku l' l i)) 0 Z5++cut [aB (aw It.k l) (0+(i:Int).toNat) (0:Int)] 0 1) [] [],aW.mk (cut (aw It.i (ku l' l i)) 0 Z5++cut [aB (aw It.i l) (0+(i:Int).toNat) (0:Int)] 0 1) [] []])))] 53))/\(decide Z2=an->Vc (fits ((↑i:Int)+(1:Int)))/\aY (∃ j,j≤ae l/\ae l-j<ae l-i/\jJ R 2 53 [0,1,4,5,7] [.slice (aa ⟨0,0,aa 2000⟩) l.length c,.slice (aa ⟨1,0,aa 2000⟩) Z1 c',Z7,Z6,Z8 (↑j:Int)] [Jv l,Jv l',bC (br aj 0 0) (br aj 0 0),bC (br (aa ⟨4,0,aa 2000⟩) Z3 0) (br (aa ⟨5,0,aa 2000⟩) (ae (ku l' l j)) 0),oI (ku l l' Z1),oI (ku l' l j)] [aa Z4,aa (br (aa ⟨1,0,aa 2000⟩) Z1 c'),aa (Z7),aa (Z6),aa (Z8 ((↑i:Int)+(1:Int)))] [aa (.inr (.inr (.inl (iR l)))),aa (.inr (.inr (.inl (iR l')))),aa (.inl (59,[.slice aj 0 0,.slice aj 0 0])),aa (.inl (59,[.slice (aa ⟨4,0,aa 2000⟩) Z3 0,.slice (aa ⟨5,0,aa 2000⟩) Z5 0])),aa (.inr (.inl (31,iR (ku l l' Z1)))),aa (.inr (.inl (31,iR (ku l' l i))))] 53)))/\(decide ((↑i:Int)<(↑l.length:Int))=an->aY (G (bG (aP [.slice (aa ⟨4,0,aa 2000⟩) Z3 0,.slice (aa ⟨5,0,aa 2000⟩) Z5 0])) [aa (.inr (.inr (.inl (iR l)))),aa (.inr (.inr (.inl (iR l')))),aa (.inl (59,[.slice (aa ⟨4,0,aa 2000⟩) Z3 0,.slice (aa ⟨5,0,aa 2000⟩) Z5 0])),aa (.inl (59,[.slice (aa ⟨4,0,aa 2000⟩) Z3 0,.slice (aa ⟨5,0,aa 2000⟩) Z5 0])),aa (.inr (.inl (31,iR (ku l l' Z1)))),aa (.inr (.inl (31,iR (ku l' l i))))]))) ?_ (by kernel_rfl)
  intro Z6 Z7 Z8 Z1 Z2 Z3 Z4 Z5;subst Z5 Z4 Z3 Z2 Z1 Z8 Z7 Z6;have SN:=Qu l' l i;simp only[V9,MI It.k 0 rfl,MI It.i 0 rfl,Cr,CP,ce];refine⟨fun h=>?_,fun h=>⟨?_⟩⟩
  ·have cd:i<l.length:=by have:=of_decide_eq_true h;omega
   have b1:(0:Int)≤(i:Int)/\(i:Int)<(l.length:Int)/\0+l.length≤l.length:=⟨by omega,by omega,by omega⟩
   refine⟨⟨b1⟩,⟨cd⟩,⟨⟨by omega,trivial⟩,by trivial,by trivial,by omega⟩,fun h2=>⟨⟨b1⟩,⟨cd⟩,⟨by omega,by omega,by omega,by omega⟩,⟨by omega,by omega⟩,⟨i+1,cd,by omega,?_⟩⟩,fun h2=>⟨⟨by omega,by omega⟩,⟨i+1,cd,by omega,?_⟩⟩⟩
   ·have kj:=Km.1 (of_decide_eq_true h2);have e:ku l' l (i+1)=ku l' l i++[l.getD i iz]:=by rw[PX cd,if_neg (by rw[kj];decide)]
    have G1:=zj It.k (ku l' l i) (l.getD i iz) _ rfl;have G2:=zj It.i (ku l' l i) (l.getD i iz) _ rfl;have NK:(ku l' l i).length+1=(ku l' l i++[l.getD i iz]).length:=by simp
    rw[e];simp only[G1,G2,NK];exact⟨[0,1,2,3,4,7],rfl,⟨rfl,rfl,.inl rfl,.inl rfl,⟨_,rfl,.inl rfl⟩,⟨_,rfl,.inl rfl⟩,trivial⟩,rfl,rfl,rfl,rfl⟩
   ·have kj:n3 (l.getD i iz) l'=ao:=by
     cases c:n3 (l.getD i iz) l'
     ·exact absurd (Km.2 c) (of_decide_eq_false h2)
     ·rfl
    rw[PX cd,if_pos kj];exact⟨[0,1,2,3,4,5],rfl,⟨rfl,rfl,.inl rfl,.inl rfl,⟨_,rfl,.inl rfl⟩,⟨_,rfl,.inl rfl⟩,trivial⟩,rfl,rfl,rfl,rfl⟩
  ·obtain rfl:i=l.length:=by have:=of_decide_eq_false h;omega
   subst hG;exact⟨[0,1,4,5],rfl,rfl,⟨rfl,rfl,⟨_,rfl,.inl rfl⟩,⟨_,rfl,.inl rfl⟩,trivial⟩,rfl,rfl,rfl,rfl⟩
 ·cases hx
end Pa
namespace Rx
set_option maxRecDepth 100000
def wR (a n:Int):Int:=((a.tmod n)+n).tmod n
theorem MO {a n:Int} (h:0<n):0≤wR a n/\wR a n<n:=by
 have h1:0≤a.tmod n+n:=by have:=Dz a h;have:=Lp a h;omega
 exact⟨Int.tmod_nonneg _ h1,Dz _ h⟩
def Ub {R:Type}:Prim R:=fun args hh=>match args,hh with
 |[.int .i64 a,.int .i64 n],[]=>aa ⟨0<n/\n<1000000,.int .i64 (wR a n),aj,hh,[],[]⟩
 |_,_=>aj
theorem Ym {R:Type} {D:fR R}:b8 D Tryz.prog 33 (a9 Ub):=by
 refine fx Tryz.f33 fun args hh x hx=>?_
 unfold Ub at hx;split at hx
 ·rename_i a n;cases hx;refine q4 fun _ hv=>?_
  generalize hG:cj (R:=R) _ _=G;refine cK (T:=[]) trivial mixed 200 ?_;refine bM (q:=Vc (n≠(0:Int))/\Vc (fits (fm a n+n))/\Vc (n≠(0:Int))/\aY (G (bk ar (fm (fm a n+n) n)) [])) ?_ (by kernel_rfl)
  subst hG;have h1:=Dz a hv.1;have h2:=Lp a hv.1;refine⟨⟨by omega⟩,⟨⟨by omega,by omega⟩⟩,⟨by omega⟩,⟨⟨[],rfl,rfl,trivial,rfl,rfl,rfl,rfl⟩⟩⟩
 ·cases hx
end Rx
namespace Pa
open Rx Wv Sh
set_option maxRecDepth 100000
set_option maxHeartbeats 8000000
def z01:Nat->Bool:=fun i=>match i with|0=>ao|1=>ao|_=>an
def TSm {R:Type}:eM R:=[(26,s_ z01 2 (a9 TT))]
theorem aju {R:Type} {D:fR R}:cN D Tryz.prog (TSm:eM R):=⟨nE _ _ XR,trivial⟩
def ZB {R:Type}:Prim R:=fun args hh=>match args,hh with
 |[.agg ⟨[.slice (aa ⟨0,0,aa 2000⟩) a y0,.slice (aa ⟨1,0,aa 2000⟩) b y1]⟩,.agg ⟨[.slice (aa ⟨2,0,aa 2000⟩) c y2,.slice (aa ⟨3,0,aa 2000⟩) d y3]⟩],[aa (.inr (.inl (q0,r0))),aa (.inr (.inl (q1,r1))),aa (.inr (.inl (q2,r2))),aa (.inr (.inl (q3,r3)))]=>aa ⟨(q0=31/\q1=31/\q2=31/\q3=31)/\(r0=iR (gu r0)/\a=(gu r0).length/\(gu r0).length≤1000)/\(r1=iR (gu r1)/\b=(gu r1).length/\(gu r1).length≤1000)/\(r2=iR (gu r2)/\c=(gu r2).length/\(gu r2).length≤1000)/\(r3=iR (gu r3)/\d=(gu r3).length/\(gu r3).length≤1000),.bool (decide (gu r0=gu r2)&&decide (gu r1=gu r3)),aj,hh,[],[]⟩
 |_,_=>aj
theorem ag3 {R:Type} {D:fR R}:b8 D Tryz.prog 57 (a9 ZB):=by
 refine fx Tryz.f57 fun args hh x hx=>?_
 unfold ZB at hx;split at hx
 ·rename_i a y0 b y1 c y2 d y3 q0 r0 q1 r1 q2 r2 q3 r3;cases hx;refine q4 fun _ hv=>?_
  obtain⟨⟨rfl,rfl,rfl,rfl⟩,⟨e0,rfl,h0⟩,⟨e1,rfl,h1⟩,⟨e2,rfl,h2⟩,⟨e3,rfl,h3⟩⟩:=hv;generalize gu r0=w0 at *;subst e0;generalize gu r1=w1 at *;subst e1;generalize gu r2=w2 at *;subst e2;generalize gu r3=w3 at *;subst e3
  generalize hG:cj (R:=R) _ _=G;refine cK (T:=TSm) aju mixed 200 ?_;refine bM (q:=let Z1:=(gu (nR w0 0 w0.length));let Z2:=(gu (nR w0 0 w0.length)=gu (nR w2 0 w2.length));let Z3:=(gu (nR w1 0 w1.length));Vc ((0+ae w0≤ae w0/\0+ae w2≤ae w2/\True)/\nR w0 0 w0.length=iR Z1/\ae w0=ae Z1/\nR w2 0 w2.length=iR (gu (nR w2 0 w2.length))/\ae w2=ae (gu (nR w2 0 w2.length))/\ae Z1≤100000)/\(decide Z2=ao->Vc ((0+ae w1≤ae w1/\0+ae w3≤ae w3/\True)/\nR w1 0 w1.length=iR Z3/\ae w1=ae Z3/\nR w3 0 w3.length=iR (gu (nR w3 0 w3.length))/\ae w3=ae (gu (nR w3 0 w3.length))/\ae Z3≤100000)/\aY (G (aE (decide (gu (nR w1 0 w1.length)=gu (nR w3 0 w3.length)))) [aa (.inr (.inl (31,iR w0))),aa (.inr (.inl (31,iR w1))),aa (.inr (.inl (31,iR w2))),aa (.inr (.inl (31,iR w3))),aa (.inl (59,[.slice (aa ⟨0,0,aa 2000⟩) w0.length y0,.slice (aa ⟨1,0,aa 2000⟩) w1.length y1])),aa (.inl (59,[.slice (aa ⟨2,0,aa 2000⟩) w2.length y2,.slice (aa ⟨3,0,aa 2000⟩) w3.length y3]))]))/\(decide Z2=an->aY (G (aE an) [aa (.inr (.inl (31,iR w0))),aa (.inr (.inl (31,iR w1))),aa (.inr (.inl (31,iR w2))),aa (.inr (.inl (31,iR w3))),aa (.inl (59,[.slice (aa ⟨0,0,aa 2000⟩) w0.length y0,.slice (aa ⟨1,0,aa 2000⟩) w1.length y1])),aa (.inl (59,[.slice (aa ⟨2,0,aa 2000⟩) w2.length y2,.slice (aa ⟨3,0,aa 2000⟩) w3.length y3]))]))) ?_ (by kernel_rfl)
  intro Z1 Z2 Z3;subst Z3 Z2 Z1;simp only[Cr,CP];have done:∀ (v:Bool) (rest:Hp R),v=(decide (w0=w2)&&decide (w1=w3))->G (.bool v) (oI w0::oI w1::oI w2::oI w3::rest):=by
   intro v rest e;subst e;subst hG;exact⟨[0,1,2,3],rfl,rfl,⟨⟨_,rfl,.inl rfl⟩,⟨_,rfl,.inl rfl⟩,⟨_,rfl,.inl rfl⟩,⟨_,rfl,.inl rfl⟩,trivial⟩,rfl,rfl,rfl,rfl⟩
  clear hG;refine⟨⟨⟨by omega,by omega,trivial⟩,by trivial,by trivial,by trivial,by trivial,by omega⟩,fun h=>⟨⟨⟨by omega,by omega,trivial⟩,by trivial,by trivial,by trivial,by trivial,by omega⟩,⟨done _ _ (by rw[h];rfl)⟩⟩,fun h=>⟨done _ _ (by rw[h];rfl)⟩⟩
 ·cases hx
structure Act where
 k:Int
 t:Int
 d:Bool
 x:It
def fy (a:Act) (l:List Op):Int:=if a.d=ao/\l≠[] then(l.getD (wR a.t l.length).toNat oz).t else a.t
def TTm {R:Type}:eM R:=[(33,bJ zN 2 (a9 Ub))]
theorem aks {R:Type} {D:fR R}:cN D Tryz.prog (TTm:eM R):=⟨aT _ _ Ym,trivial⟩
def aek {R:Type}:Prim R:=fun args hh=>match args,hh with
 |[.agg ⟨[.int .i64 k0,.int .i64 k1,.bool k2,.int .i64 k3,.int .i64 k4]⟩,.slice (aa ⟨0,0,aa 4000⟩) n c],[aa (.inr (.inr (.inl r)))]=>aa ⟨r=oR (uO r)/\n=(uO r).length/\(uO r).length≤100,.int .i64 (fy ⟨k0,k1,k2,⟨k3,k4⟩⟩ (uO r)),aj,hh,[],[]⟩
 |_,_=>aj
theorem alp {R:Type} {D:fR R}:b8 D Tryz.prog 32 (a9 aek):=by
 refine fx Tryz.f32 fun args hh x hx=>?_
 unfold aek at hx;split at hx
 ·rename_i k0 k1 k2 k3 k4 n c r;cases hx;refine q4 fun _ hv=>?_
  obtain⟨hr,rfl,hb⟩:=hv;generalize uO r=l at *;subst hr
  generalize hG:cj (R:=R) _ _=G;refine cK (T:=TTm) aks mixed 200 ?_;refine bM (q:=let Z2:=bk ar;let Z1:=(↑l.length:Int);((!k2)=an->((Z1==(0:Int))=ao->aY (G (Z2 k1) [aa (.inr (.inr (.inl (oR l)))),aa (.inl (33,[Z2 k0,Z2 k1,.bool k2,Z2 k3,Z2 k4]))]))/\((Z1==(0:Int))=an->Vc ((0:Int)<Z1/\Z1<(1000000:Int))/\Vc ((0:Int)≤wR k1 Z1/\wR k1 Z1<Z1/\0+ae l≤ae l)/\Vc (0+aD (wR k1 Z1)<ae l)/\aY (G (Z2 (aB (aw Op.t l) (0+aD (wR k1 Z1)) (0:Int))) [aa (.inr (.inr (.inl (oR l)))),aa (.inl (33,[Z2 k0,Z2 k1,.bool k2,Z2 k3,Z2 k4]))])))/\((!k2)=ao->aY (G (Z2 k1) [aa (.inr (.inr (.inl (oR l)))),aa (.inl (33,[Z2 k0,Z2 k1,.bool k2,Z2 k3,Z2 k4]))]))) ?_ (by kernel_rfl)
  intro Z2 Z1;subst Z1 Z2;have done:∀ (v:Int) (rest:Hp R),v=fy ⟨k0,k1,k2,⟨k3,k4⟩⟩ l->G (.int .i64 v) (vO l::rest):=by
   intro v rest e;subst e;subst hG;exact⟨[0],rfl,rfl,⟨rfl,trivial⟩,rfl,rfl,rfl,rfl⟩
  clear hG;refine⟨fun h=>⟨fun h2=>⟨?_⟩,fun h2=>?_⟩,fun h=>⟨?_⟩⟩
  ·have h3:l=[]:=jd (by have:=eq_of_beq h2;omega)
   exact done _ _ (by unfold fy;rw[if_neg (fun c=>c.2 h3)])
  ·have h3:0<l.length:=by have:=ne_of_beq_false h2;omega
   have hr:=MO (a:=k1) (n:=l.length) (by omega)
   have hk:k2=ao:=by simpa using h
   refine⟨⟨by omega,by omega⟩,⟨hr.1,hr.2,by omega⟩,⟨by omega⟩,⟨done _ _ ?_⟩⟩
   unfold fy;rw[if_pos ⟨hk,Ef h3⟩,yv Op.t 0 rfl,bW]
  ·have hk:k2=an:=by simpa using h
   exact done _ _ (by unfold fy;rw[if_neg (fun c=>by rw[hk] at c;cases c.1)])
 ·cases hx
end Pa
namespace Pa
open Rx Wv Br
open Sh (r_ wT mM sl n3)
def opM (m:Mk):Op:=⟨m.t,m.ins,m.it⟩
def QS.ops (q:QS):List Op:=q.mt.l.map opM
theorem aji (H:List It) (l:List Op):(gw H l).map opM=l:=by
 unfold gw;rw[W5];exact List.map_id'' (fun o=>rfl) l
theorem HQ.ops {q:QS} {l:List Op} {c:Int} {n:Nat} (h:HQ q l c n):q.ops=l:=by
 unfold QS.ops;rw[h.m0,vJ,aji]
theorem HQ.mono {q:QS} {l:List Op} {c:Int} {n n':Nat} (h:HQ q l c n) (hn:n≤n'):HQ q l c n':=by
 obtain⟨v1,v2,v3⟩:=h.vb;exact⟨h.mq.up hn (nN _),h.tm,h.nd,h.dl,h.len,h.FO,by omega,by omega,by omega⟩
theorem HQ.cap {q:QS} {l:List Op} {c:Int} {n:Nat} (h:HQ q l c n):q.cap=c:=h.mq.cap
abbrev QS.Ok (q:QS):Prop:=HQ q q.ops q.cap 90000
theorem HQ.ok {q:QS} {l:List Op} {c:Int} (h:HQ q l c 90000):q.Ok:=by
 unfold QS.Ok;rw[h.ops,h.cap];exact h
theorem HQ.mb {q:QS} {l:List Op} {c:Int} {n:Nat} (h:HQ q l c n) (hn:n≤90000):q.gv:=h.mq.mb (by omega)
theorem HQ.pk {q:QS} {l:List Op} {c:Int} {n:Nat} (h:HQ q l c n):rK q=pk l:=MQ.pk (H:=fin [] l) h.mq
def QS.qZ (q:QS):Int:=q.mt.m.cY+q.pr.m.cY+q.gn.m.cY
def mo (l:List Op) (c t:Int) (x:It):Int:=if(l.length:Int)=c then 10 else if 0≤k_ l t then 11 else if hasB l x=ao then 2 else 0
def nD (l:List Op) (c t:Int):Int:=if(l.length:Int)=c then 10 else if 0≤k_ l t then 11 else 0
def vF (l:List Op) (t:Int):Int:=if k_ l t<0 then 14 else 0
def iC (l:List Op) (c t:Int) (x:It):List Op:=if mo l c t x=0 then sg l ⟨t,ao,x⟩ else l
def iL (l:List Op) (c t:Int):List Op:=if nD l c t=0 then sg l ⟨t,an,iz⟩ else l
def ly (l:List Op) (t:Int):List Op:=if vF l t=0 then sr l (k_ l t).toNat else l
abbrev dd (l l':List Op):List It:=qB (fin [] l) (fin [] l')
theorem Hk {l:List Op} {t:Int} (h:DF l t):k_ l t = -1:=by
 unfold k_;rw[if_neg];intro k;rw[List.findIdx_lt_length] at k;obtain⟨o,ho,e⟩:=k;exact h o ho (by simpa using e)
theorem Zn {l:List Op} {t:Int} {k:Nat} (h:Tm l) (hk:k<l.length) (ht:(og l k).t=t):k_ l t=k:=by
 unfold k_;have e:l.findIdx (fun o=>o.t==t)=k:=by
  rw[List.findIdx_eq hk];have eg:∀ j (hj:j<l.length),l[j]=og l j:=fun j hj=>by rw[og,au,bc hj];rfl
  refine⟨by rw[eg,ht];simp,fun j hj=>?_⟩
  have h2:=List.pairwise_iff_getElem.1 h j k (by omega) hk hj
  rw[eg,eg,ht] at h2;rw[eg];simp only[beq_eq_false_iff_ne];omega
 rw[e,if_pos hk]
theorem qs (a:List It):qB a a=[]:=by
 unfold qB ku;rw[jB,ug];intro x hx;rw[uT.2 hx];decide
theorem Ls {a b:List It} (h:∀ x,x∈b->x∈a):qB a b=[]:=by
 unfold qB ku;rw[jB,ug];intro x hx;rw[uT.2 (h x hx)];decide
theorem nin {x:It} {a:List It} (h:x∉a):n3 x a=an:=by
 rw[Ml];exact fun c=>h (uT.1 c)
theorem aba {z:It} {a:List It} (h:z∉a):qB a (ig z a)=[z]:=by
 have key:∀ r:List It,(∀ x,x∈r->x∈a)->(ig z r).filter (fun x=>!n3 x a)=[z]:=fun r=>by
  induction r with
  |nil=>intro _;unfold ig;rw[j5,nin h];rfl
  |cons y r ih =>
   intro hr;have h0:(y::r).filter (fun x=>!n3 x a)=[]:=by
    rw[ug];intro x hx;rw[uT.2 (hr x hx)];decide
   unfold ig;split
   ·rw[j5,nin h,h0];rfl
   ·rw[j5,uT.2 (hr y List.mem_cons_self),ih fun x hx=>hr x (List.mem_cons_of_mem _ hx)];rfl
 unfold qB ku;rw[jB];exact key a fun x hx=>hx
theorem abJ {z:It} {a:List It} (ho:Ord a) (h:z∈a):qB (qb z a) a=[z]:=by
 have e:a.filter (fun x=>!n3 x (qb z a))=a.filter (fun x=>decide (x=z)):=List.filter_congr fun x hx=>by
  by_cases c:x=z
  ·rw[nin (fun k=>(pE.1 k).2 c),decide_eq_true c];rfl
  ·rw[uT.2 (pE.2 ⟨hx,c⟩),decide_eq_false c];rfl
 have key:∀ r:List It,Ord r->z∈r->r.filter (fun x=>decide (x=z))=[z]:=fun r=>by
  induction r with
  |nil=>intro _ h;cases h
  |cons y r ih =>
   intro ho h;rw[j5]
   by_cases c:y=z
   ·subst c;rw[decide_eq_true rfl,if_pos rfl]
    congr 1
    rw[ug];intro x hx;rw[decide_eq_false];· decide
    intro e;subst e;exact yJ ho hx
   ·rw[decide_eq_false c,if_neg (by decide)]
    exact ih (EW ho) ((bN.1 h).resolve_left fun e=>c e.symm)
 unfold qB ku;rw[jB,e];exact key a ho h
theorem Pc {q q':QS} {k:Int} (h:q'.mt.m.cY≤q.mt.m.cY+k/\q'.pr.m.cY≤q.pr.m.cY+k/\q'.gn.m.cY≤q.gn.m.cY+k) (hk:k≤20000) (l:List Op):q'.qZ≤q.qZ+10000*(vl l.length+4:Nat):=by
 have:2≤vl l.length:=by unfold vl;omega
 unfold QS.qZ;omega
theorem HQ.look {q q':QS} {l:List Op} {c:Int} {n:Nat} {k:Int} (h:HQ q l c n) (m:MQ q' (jO l) (fin [] l) (gn l) c n q k) (hk:k≤20000) :
  HQ q' l c (n+1)/\q'.qZ≤q.qZ+10000*(vl l.length+4:Nat):=by
 have v1:=m.v1;have v2:=m.v2;have v3:=m.v3;exact⟨HQ.mk' (m.up (n':=n+1) (k':=90000) (by omega) (by omega)) h.vb (by omega) (by omega) h.tm h.nd h.dl h.len h.FO,Pc ⟨v1.2,v2.2,v3.2⟩ hk l⟩
theorem Ek {q:QS} {l:List Op} {c:Int} {n:Nat} {t:Int} {x:It} (h:HQ q l c n) (xa:l.length≤59) (hn:n≤90000) :
  TU q t x/\EF q t x=mo l c t x/\HQ (iZ q t x) (iC l c t x) c (n+10)/\(iZ q t x).qZ≤q.qZ+10000*(vl l.length+4:Nat)/\wS q t x=dd l (iC l c t x)/\dd (iC l c t x) l=[]:=by
 have hB:=h.MT (by omega)
 have fq:=h.mb hn;obtain⟨r1,r2,r3⟩:=h.ref t;have m1:=h.mq.Zx hB (by omega) t
 have no:∀ {e:Int},nk q t=e->e≠0->mo l c t x=e->TU q t x/\EF q t x=mo l c t x/\HQ (iZ q t x) (iC l c t x) c (n+10)/\(iZ q t x).qZ≤q.qZ+10000*(vl l.length+4:Nat)/\wS q t x=dd l (iC l c t x)/\dd (iC l c t x) l=[]:=fun {e} h1 h2 h3=>by
  have h0:¬ nk q t=0:=by rw[h1];exact h2
  have eL:iC l c t x=l:=by unfold iC;rw[h3,if_neg h2]
  have eQ:iZ q t x=n9 q t:=by unfold iZ;rw[if_neg h0]
  have L:=h.look m1 (by omega)
  rw[eL,eQ];refine⟨⟨fq,fun c=>absurd c h0⟩,?_,L.1.mono (by omega),L.2,?_,qs _⟩
  ·unfold EF;rw[if_neg h0,h1,h3]
  ·unfold wS dd;rw[if_neg h0,qs]
 by_cases c1:(l.length:Int)=c
 ·exact no (r1 c1) (by decide) (by unfold mo;rw[if_pos c1])
 ·rcases LW l t with c2|⟨k,hk,ht⟩
  ·by_cases c3:x∈gB l
   ·have h0:=r3 c1 c2;have kQ:Bu (n9 q t) x=ao:=(h.ind x).2 c3;have eE:mo l c t x=2:=by unfold mo;rw[if_neg c1,Hk c2,if_neg (by decide),if_pos (QX.2 c3)]
    have eL:iC l c t x=l:=by unfold iC;rw[eE,if_neg (by decide)]
    have eQ:iZ q t x=MZ q t x:=by unfold iZ;rw[if_pos h0,if_pos kQ]
    have m2:=m1.ajF hB (by omega) x
    have L:=h.look m2 (by omega)
    rw[eL,eQ,eE];refine⟨⟨fq,fun _ k=>absurd (kQ.symm.trans k) (by decide)⟩,?_,L.1.mono (by omega),L.2,?_,qs _⟩
    ·unfold EF;rw[if_pos h0,if_pos kQ]
    ·unfold wS dd;rw[if_pos h0,if_pos kQ,qs]
   ·obtain⟨g1,g2,g3,v1,v2,v3,g4,g5⟩:=aiR h xa hn c1 c2 c3;have eE:mo l c t x=0:=by unfold mo;rw[if_neg c1,Hk c2,if_neg (by decide),if_neg (fun k=>c3 (QX.1 k))]
    have eL:iC l c t x=ld l (nc t l) ⟨t,ao,x⟩:=by unfold iC;rw[eE,if_pos rfl];rfl
    rw[eL,eE];refine⟨g1,g2,g3,Pc ⟨v1,v2,v3⟩ (by omega) l,?_,?_⟩
    ·unfold dd
     by_cases hb:qR l (nc t l)<0
     ·rw[(g4 hb).1,(g4 hb).2,qs]
     ·obtain⟨z,a1,a2,a3⟩:=g5 hb;rw[a2,a3,aba a1]
    ·unfold dd
     by_cases hb:qR l (nc t l)<0
     ·rw[(g4 hb).2,qs]
     ·obtain⟨z,a1,a2,a3⟩:=g5 hb;rw[a3];exact Ls fun w hw=>kd.2 (.inr hw)
  ·have nf:¬ DF l t:=fun f=>f _ (KT hk) ht
   exact no (r2 c1 nf) (by decide) (by unfold mo;rw[if_neg c1,Zn h.tm hk ht,if_pos (by omega)])
theorem El {q:QS} {l:List Op} {c:Int} {n:Nat} {t:Int} (h:HQ q l c n) (xa:l.length≤59) (hn:n≤90000) :
  Uf q t/\nk q t=nD l c t/\HQ (iK q t) (iL l c t) c (n+10)/\(iK q t).qZ≤q.qZ+10000*(vl l.length+4:Nat)/\dd l (iL l c t)=[]/\DE q t=dd (iL l c t) l:=by
 have hB:=h.MT (by omega)
 have fq:=h.mb hn;obtain⟨r1,r2,r3⟩:=h.ref t;have m1:=h.mq.Zx hB (by omega) t
 have no:∀ {e:Int},nk q t=e->e≠0->nD l c t=e->Uf q t/\nk q t=nD l c t/\HQ (iK q t) (iL l c t) c (n+10)/\(iK q t).qZ≤q.qZ+10000*(vl l.length+4:Nat)/\dd l (iL l c t)=[]/\DE q t=dd (iL l c t) l:=fun {e} h1 h2 h3=>by
  have h0:¬ nk q t=0:=by rw[h1];exact h2
  have eL:iL l c t=l:=by unfold iL;rw[h3,if_neg h2]
  have eQ:iK q t=n9 q t:=by unfold iK;rw[if_neg h0]
  have L:=h.look m1 (by omega)
  rw[eL,eQ];refine⟨⟨fq,fun c=>absurd c h0⟩,by rw[h1,h3],L.1.mono (by omega),L.2,qs _,?_⟩
  unfold DE dd;rw[if_neg h0,qs]
 by_cases c1:(l.length:Int)=c
 ·exact no (r1 c1) (by decide) (by unfold nD;rw[if_pos c1])
 ·rcases LW l t with c2|⟨k,hk,ht⟩
  ·obtain⟨g1,g3,v1,v2,v3,g4⟩:=ail h xa hn c1 c2;have eE:nD l c t=0:=by unfold nD;rw[if_neg c1,Hk c2,if_neg (by decide)]
   have eL:iL l c t=ld l (nc t l) ⟨t,an,iz⟩:=by unfold iL;rw[eE,if_pos rfl];rfl
   rw[eL,eE];refine⟨g1,r3 c1 c2,g3,Pc ⟨v1,v2,v3⟩ (by omega) l,?_,?_⟩
   ·unfold dd;rcases g4 with⟨a1,a2⟩|⟨z,a1,a2,a3⟩
    ·rw[a2,qs]
    ·rw[a3];exact Ls fun w hw=>(pE.1 hw).1
   ·unfold dd;rcases g4 with⟨a1,a2⟩|⟨z,a1,a2,a3⟩
    ·rw[a1,a2,qs]
    ·rw[a2,a3,abJ (zX h.nd) a1]
  ·have nf:¬ DF l t:=fun f=>f _ (KT hk) ht
   exact no (r2 c1 nf) (by decide) (by unfold nD;rw[if_neg c1,Zn h.tm hk ht,if_pos (by omega)])
theorem L0 {q:QS} {l:List Op} {c:Int} {n:Nat} {t:Int} (h:HQ q l c n) (hn:n≤90000) :
  aam q t/\KM q t=vF l t/\HQ (j9 q t) (ly l t) c (n+10)/\(j9 q t).qZ≤q.qZ+10000*(vl l.length+4:Nat)/\xB q t=dd l (ly l t)/\w9 q t=dd (ly l t) l:=by
 have hB:=h.MT (by omega)
 have fq:=h.mb hn;rcases LW l t with c2|⟨k,hk,ht⟩
 ·have hb:Gw q t=an:=by
   unfold Gw;rw[h.m0];exact Ou (H:=fin [] l) (e:=kY t) c2
  have nb:¬ Gw q t=ao:=by rw[hb];decide
  have eE:vF l t=14:=by unfold vF;rw[Hk c2,if_pos (by decide)]
  have eL:ly l t=l:=by unfold ly;rw[eE,if_neg (by decide)]
  have eQ:j9 q t=BL q t:=by unfold j9;rw[if_neg nb]
  have L:=h.look (h.mq.ajc hB (by omega) (kY t)) (by omega)
  rw[eL,eQ,eE];refine⟨⟨fq,fun k=>absurd k nb⟩,?_,L.1.mono (by omega),L.2,?_,?_⟩
  ·unfold KM;rw[if_neg nb]
  ·unfold xB dd;rw[if_neg nb,qs]
  ·unfold w9 dd;rw[if_neg nb,qs]
 ·obtain⟨g1,g2,g3,v1,v2,v3,g4⟩:=alg h hn hk ht;have eA:=Zn h.tm hk ht;have eE:vF l t=0:=by unfold vF;rw[eA,if_neg (by omega)]
  have eL:ly l t=kn l k:=by unfold ly;rw[eE,if_pos rfl,eA,iS];rfl
  rw[eL,eE];refine⟨g1,g2,g3,Pc ⟨v1,v2,v3⟩ (by omega) l,?_,?_⟩
  ·unfold dd;rcases g4 with⟨a1,a2,a3⟩|⟨z,a0,a1,a2,a3⟩|⟨z,a0,a1,a2,a3⟩
   ·rw[a1,a3,qs]
   ·rw[a1,a3,aba a0]
   ·rw[a1,a3];exact(Ls fun w hw=>(pE.1 hw).1).symm
  ·unfold dd;rcases g4 with⟨a1,a2,a3⟩|⟨z,a0,a1,a2,a3⟩|⟨z,a0,a1,a2,a3⟩
   ·rw[a2,a3,qs]
   ·rw[a2,a3];exact(Ls fun w hw=>kd.2 (.inr hw)).symm
   ·rw[a2,a3,abJ (zX h.nd) a0]
end Pa
namespace Pa
open Rx Wv Br
open Sh (r_ wT mM sl n3)
set_option maxRecDepth 100000
set_option maxHeartbeats 8000000
abbrev Rt:=Uj ⊕ Uk
abbrev D2:fR Rt:=Vl G8.D2 G9.D2
abbrev E8:HB Uj Rt:=akV Uj Uk
abbrev E9:HB Uk Rt:=alA Uj Uk
abbrev c8 (c:W6 Uj):W6 Rt:=eC E8 c
abbrev c9 (c:W6 Uk):W6 Rt:=eC E9 c
abbrev oM (s:T8):Option (SB Rt):=aa (.inr (.inr (.inr (.inl (.tree s)))))
abbrev oS (s:T9):Option (SB Rt):=aa (.inr (.inr (.inr (.inr (.tree s)))))
abbrev bQ (q:QS):Option (SB Rt):=aa (.inl (98,[.int .i64 q.cap,.pointer (aa ⟨1,0,aj⟩),.pointer (aa ⟨2,0,aj⟩),.pointer (aa ⟨3,0,aj⟩)]))
theorem EB {R:Type} {D:fR R} {P:Program} {f:FuncId} {p q:Prim R} (h:b8 D P f (a9 p))
  (H:∀ args hh x,q args hh=aa x->∃ y,p args hh=aa y/\hh.length≤x.hp.length/\(∀ b,x.lit=aa b->x.v=.bool b)/\(x.wr=[]->x.hp=hh)/\(x.vc->y.vc/\y.v=x.v/\y.hp=x.hp)):b8 D P f (a9 q):=by
 refine qm ⟨(h ao).known,fun args hh x _ hx C ρ ft w hm hv hi=>?_,fun args hh x hx=>?_,fun args hh x hx=>?_,fun args hh x hx=>?_⟩
 ·obtain⟨y,h1,_,_,_,h5⟩:=H args hh x hx;obtain⟨a1,a2,a3⟩:=h5 hv;rw[← a2,← a3];exact(h ao).run args hh y (.inl ⟨rfl,rfl⟩) h1 C ρ ft w hm a1 hi
 ·obtain⟨y,_,h2,_⟩:=H args hh x hx;exact h2
 ·obtain⟨y,_,_,h3,_⟩:=H args hh x hx;exact h3
 ·obtain⟨y,_,_,_,h4,_⟩:=H args hh x hx;exact h4
def TQn:eM Rt:=[(52,bJ zN 2 (c8 (a9 NG))),(53,bJ zN 2 (c9 (a9 G9.NG)))]
theorem ai6:cN D2 Tryz.prog TQn:=⟨aT _ _ (oi Wj),aT _ _ (wH G9.Wj),trivial⟩
def yA (c:Int):Int:=min (max c 0) 65536
def t_ (c:Int):QS:=⟨rj G8.k8 (yA c),rj G9.k9 (yA c),rj G9.k9 (yA c),yA c⟩
def T7:Prim Rt:=fun args hh=>match args,hh with
 |[.int .i64 c],[]=>aa ⟨True,.pointer (aa ⟨0,0,aj⟩),aj,[bQ (t_ c),oM (t_ c).mt,oS (t_ c).pr,oS (t_ c).gn],[],[(0,0)]⟩
 |_,_=>aj
theorem X5:b8 D2 Tryz.prog 15 (a9 T7):=by
 refine fx Tryz.f15 fun args hh x hx=>?_
 unfold T7 at hx;split at hx
 ·rename_i c;cases hx;refine q4 fun _ hv=>?_
  generalize hG:cj (R:=Rt) _ _=G;refine cK (T:=TQn) ai6 mixed 200 ?_;refine bM (q:=let Z1:=(if(65536:Int)<if(0:Int)>c then(0:Int) else c then(65536:Int) else if(0:Int)>c then(0:Int) else c);Vc True/\Vc True/\Vc True/\aY (G (aC (aa ⟨3,0,aj⟩)) [aa (.inr (.inr (.inr (.inl (BF (rj G8.k8 Z1)))))),aa (.inr (.inr (.inr (.inr (pD (rj G9.k9 Z1)))))),aa (.inr (.inr (.inr (.inr (pD (rj G9.k9 Z1)))))),aa (.inl (98,[.int ar Z1,.pointer (aa ⟨0,0,aj⟩),.pointer (aa ⟨1,0,aj⟩),.pointer (aa ⟨2,0,aj⟩)]))])) ?_ (by kernel_rfl)
  intro Z1;subst Z1;have e:(if 65536<if 0>c then 0 else c then(65536:Int) else if 0>c then 0 else c)=yA c:=by unfold yA;split<;>split at *<;>omega
  rw[e];subst hG;exact⟨⟨trivial⟩,⟨trivial⟩,⟨trivial⟩,⟨⟨[3,0,1,2],rfl,rfl,⟨.inl rfl,rfl,rfl,rfl,trivial⟩,rfl,rfl,rfl,rfl⟩⟩⟩
 ·cases hx
def TQm:eM Rt:=[(40,bJ zN 2 (c8 (a9 G8.AK))),(78,bJ zN 2 (c8 (a9 G8.Qv))),(21,bJ zN 2 (c8 (a9 G8.IU))),(76,bJ zN 2 (c8 (a9 G8.I_))),(77,bJ zN 2 (c9 (a9 G9.I_))),(38,bJ zN 2 (c9 (a9 G9.AK)))]
theorem PO:cN D2 Tryz.prog TQm:=⟨aT _ _ (oi G8.Ck),aT _ _ (oi G8.RO),aT _ _ (oi G8.QV),aT _ _ (oi G8.RQ),aT _ _ (wH G9.RQ),aT _ _ (wH G9.Ck),trivial⟩
def PU:Prim Rt:=fun args hh=>match args,hh with
 |[.pointer (aa ⟨0,0,aj⟩)],[aa (.inl (98,[.int .i64 c,.pointer (aa ⟨1,0,aj⟩),.pointer (aa ⟨2,0,aj⟩),.pointer (aa ⟨3,0,aj⟩)])),aa (.inr (.inr (.inr (.inl (.tree s))))),aa (.inr (.inr (.inr (.inr (.tree g))))),aa (.inr (.inr (.inr (.inr (.tree h)))))]=>aa ⟨s.gv,.int .i64 s.l.length,aj,[bQ (yC (⟨s,g,h,c⟩:QS)),oM (yC (⟨s,g,h,c⟩:QS)).mt,oS (yC (⟨s,g,h,c⟩:QS)).pr,oS (yC (⟨s,g,h,c⟩:QS)).gn],[],[(0,0)]⟩
 |_,_=>aj
theorem YK:b8 D2 Tryz.prog 35 (a9 PU):=by
 refine fx Tryz.f35 fun args hh x hx=>?_
 unfold PU at hx;split at hx
 ·rename_i c s g h;cases hx;refine q4 fun _ hv=>?_
  generalize hG:cj (R:=Rt) _ _=G;refine cK (T:=TQm) PO mixed 200 ?_;refine bM (q:=Vc (fa s)/\aY (G (bk ar (↑(ae (eY s)):Int)) [aa (.inl (98,[.int ar c,.pointer (aa ⟨1,0,aj⟩),.pointer (aa ⟨2,0,aj⟩),.pointer (aa ⟨3,0,aj⟩)])),aa (.inr (.inr (.inr (.inl (BF (dC s)))))),aa (.inr (.inr (.inr (.inr (pD g))))),aa (.inr (.inr (.inr (.inr (pD h)))))])) ?_ (by kernel_rfl)
  subst hG;exact⟨⟨hv⟩,⟨⟨[0,1,2,3],rfl,rfl,⟨.inl rfl,rfl,rfl,rfl,trivial⟩,rfl,rfl,rfl,rfl⟩⟩⟩
 ·cases hx
theorem aaW:Lx [0,2,3] (a9 PU):=by
 intro b args h x hx i hi hl;cases b with
 |false=>cases hx
 |true =>
  simp only[a9,jo.go,PU] at hx;split at hx
  ·injection hx with hx
   subst hx;simp only[bN,v7,or_false] at hi;rcases hi with rfl|rfl|rfl<;>rfl
  ·cases hx
def Pp:Prim Rt:=fun args hh=>match args,hh with
 |[.pointer (aa ⟨0,0,aj⟩)],[aa (.inl (98,[.int .i64 c,.pointer (aa ⟨1,0,aj⟩),.pointer (aa ⟨2,0,aj⟩),.pointer (aa ⟨3,0,aj⟩)])),aa (.inr (.inr (.inr (.inl (.tree s))))),aa (.inr (.inr (.inr (.inr (.tree g))))),aa (.inr (.inr (.inr (.inr (.tree h)))))]=>aa ⟨s.gv,.int .i64 (IA (⟨s,g,h,c⟩:QS)),aj,[bQ (sh (⟨s,g,h,c⟩:QS)),oM (sh (⟨s,g,h,c⟩:QS)).mt,oS (sh (⟨s,g,h,c⟩:QS)).pr,oS (sh (⟨s,g,h,c⟩:QS)).gn],[],[(0,0)]⟩
 |_,_=>aj
theorem Y3:b8 D2 Tryz.prog 36 (a9 Pp):=by
 refine fx Tryz.f36 fun args hh x hx=>?_
 unfold Pp at hx;split at hx
 ·rename_i c s g h;cases hx;refine q4 fun _ hv=>?_
  generalize hG:cj (R:=Rt) _ _=G;refine cK (T:=TQm) PO mixed 200 ?_;refine bM (q:=Vc (fa s)/\Vc (fa (dC s))/\aY (G (bk ar (Sw.d (S8 (nj (eY (dC s)) 0 (aD (↑(ae (eY s)):Int)))))) [aa (.inl (98,[.int ar c,.pointer (aa ⟨1,0,aj⟩),.pointer (aa ⟨2,0,aj⟩),.pointer (aa ⟨3,0,aj⟩)])),aa (.inr (.inr (.inr (.inl (BF (Gv.TS.GM (dC s) (0:Int) (↑(ae (eY s)):Int))))))),aa (.inr (.inr (.inr (.inr (pD g))))),aa (.inr (.inr (.inr (.inr (pD h)))))])) ?_ (by kernel_rfl)
  have e:(S8 (nj s.seen.l 0 (s.l.length:Int).toNat)).d=IA (⟨s,g,h,c⟩:QS):=by
   show(S8 (nj s.l 0 (s.l.length:Int).toNat)).d=((vw s.l).length:Int)
   rw[iS];show(S8 ((s.l.drop 0).take (s.l.length-0))).d=_
   rw[sG,Nat.sub_zero,jB]
   rfl
  rw[e];subst hG;exact⟨⟨hv⟩,⟨zB hv⟩,⟨⟨[0,1,2,3],rfl,rfl,⟨.inl rfl,rfl,rfl,rfl,trivial⟩,rfl,rfl,rfl,rfl⟩⟩⟩
 ·cases hx
def Zk:Prim Rt:=fun args hh=>match args,hh with
 |[.pointer (aa ⟨0,0,aj⟩)],[aa (.inl (98,[.int .i64 c,.pointer (aa ⟨1,0,aj⟩),.pointer (aa ⟨2,0,aj⟩),.pointer (aa ⟨3,0,aj⟩)])),aa (.inr (.inr (.inr (.inl (.tree s))))),aa (.inr (.inr (.inr (.inr (.tree g))))),aa (.inr (.inr (.inr (.inr (.tree h)))))]=>aa ⟨True,.pointer (aa ⟨2,0,aj⟩),aj,hh,[],[]⟩
 |_,_=>aj
theorem ah4:b8 D2 Tryz.prog 23 (a9 Zk):=by
 refine fx Tryz.f23 fun args hh x hx=>?_
 unfold Zk at hx;split at hx
 ·rename_i c s g h;cases hx;refine q4 fun _ hv=>?_
  generalize hG:cj (R:=Rt) _ _=G;refine cK (T:=[]) trivial mixed 200 ?_;refine bM (q:=aY (G (aC (aa ⟨2,0,aj⟩)) [aa (.inl (98,[.int ar c,.pointer (aa ⟨1,0,aj⟩),.pointer (aa ⟨2,0,aj⟩),.pointer (aa ⟨3,0,aj⟩)])),aa (.inr (.inr (.inr (.inl (BF s))))),aa (.inr (.inr (.inr (.inr (pD g))))),aa (.inr (.inr (.inr (.inr (pD h)))))])) ?_ (by kernel_rfl)
  subst hG;exact⟨⟨[0,1,2,3],rfl,rfl,⟨.inl rfl,rfl,rfl,rfl,trivial⟩,rfl,rfl,rfl,rfl⟩⟩
 ·cases hx
def ZD:Prim Rt:=fun args hh=>match args,hh with
 |[.pointer (aa ⟨0,0,aj⟩)],[aa (.inl (98,[.int .i64 c,.pointer (aa ⟨1,0,aj⟩),.pointer (aa ⟨2,0,aj⟩),.pointer (aa ⟨3,0,aj⟩)])),aa (.inr (.inr (.inr (.inl (.tree s))))),aa (.inr (.inr (.inr (.inr (.tree g))))),aa (.inr (.inr (.inr (.inr (.tree h)))))]=>aa ⟨True,.pointer (aa ⟨3,0,aj⟩),aj,hh,[],[]⟩
 |_,_=>aj
theorem agK:b8 D2 Tryz.prog 37 (a9 ZD):=by
 refine fx Tryz.f37 fun args hh x hx=>?_
 unfold ZD at hx;split at hx
 ·rename_i c s g h;cases hx;refine q4 fun _ hv=>?_
  generalize hG:cj (R:=Rt) _ _=G;refine cK (T:=[]) trivial mixed 200 ?_;refine bM (q:=aY (G (aC (aa ⟨3,0,aj⟩)) [aa (.inl (98,[.int ar c,.pointer (aa ⟨1,0,aj⟩),.pointer (aa ⟨2,0,aj⟩),.pointer (aa ⟨3,0,aj⟩)])),aa (.inr (.inr (.inr (.inl (BF s))))),aa (.inr (.inr (.inr (.inr (pD g))))),aa (.inr (.inr (.inr (.inr (pD h)))))])) ?_ (by kernel_rfl)
  subst hG;exact⟨⟨[0,1,2,3],rfl,rfl,⟨.inl rfl,rfl,rfl,rfl,trivial⟩,rfl,rfl,rfl,rfl⟩⟩
 ·cases hx
theorem acR:Lx [0,2,3] (a9 Pp):=by
 intro b args h x hx i hi hl;cases b with
 |false=>cases hx
 |true =>
  simp only[a9,jo.go,Pp] at hx;split at hx
  ·injection hx with hx
   subst hx;simp only[bN,v7,or_false] at hi;rcases hi with rfl|rfl|rfl<;>rfl
  ·cases hx
def TQe:eM Rt:=[(36,Dk [0,2,3] 2 (a9 Pp)),(38,bJ zN 2 (c9 (a9 G9.AK)))]
theorem aj_:cN D2 Tryz.prog TQe:=⟨Dw _ _ Y3 acR,aT _ _ (wH G9.Ck),trivial⟩
def PT:Prim Rt:=fun args hh=>match args,hh with
 |[.pointer (aa ⟨0,0,aj⟩)],[aa (.inl (98,[.int .i64 c,.pointer (aa ⟨1,0,aj⟩),.pointer (aa ⟨2,0,aj⟩),.pointer (aa ⟨3,0,aj⟩)])),aa (.inr (.inr (.inr (.inl (.tree s))))),aa (.inr (.inr (.inr (.inr (.tree g))))),aa (.inr (.inr (.inr (.inr (.tree h)))))]=>aa ⟨(⟨s,g,h,c⟩:QS).gv,.int .i64 (rK (⟨s,g,h,c⟩:QS)),aj,[bQ (nJ (⟨s,g,h,c⟩:QS)),oM (nJ (⟨s,g,h,c⟩:QS)).mt,oS (nJ (⟨s,g,h,c⟩:QS)).pr,oS (nJ (⟨s,g,h,c⟩:QS)).gn],[],[(0,0)]⟩
 |_,_=>aj
theorem XN:b8 D2 Tryz.prog 39 (a9 PT):=by
 refine fx Tryz.f39 fun args hh x hx=>?_
 unfold PT at hx;split at hx
 ·rename_i c s g h;cases hx;refine q4 fun _ hv=>?_
  generalize hG:cj (R:=Rt) _ _=G;refine cK (T:=TQe) aj_ mixed 200 ?_;refine bM (q:=Vc (fa s)/\Vc (fa h)/\Vc (fits (IA (QS.mk s g h c)-(↑(ae (eY h)):Int)))/\aY (G (bk ar (IA (QS.mk s g h c)-(↑(ae (eY h)):Int))) [aa (.inl (98,[.int ar c,.pointer (aa ⟨1,0,aj⟩),.pointer (aa ⟨2,0,aj⟩),.pointer (aa ⟨3,0,aj⟩)])),aa (.inr (.inr (.inr (.inl (BF (QS.mt (sh (QS.mk s g h c)))))))),aa (.inr (.inr (.inr (.inr (pD g))))),aa (.inr (.inr (.inr (.inr (pD (dC h))))))])) ?_ (by kernel_rfl)
  subst hG;obtain⟨f1,f2,f3⟩:=hv;have hb:-1099511627776≤IA (⟨s,g,h,c⟩:QS)-(h.l.length:Int)/\IA (⟨s,g,h,c⟩:QS)-(h.l.length:Int)≤1099511627776:=OV (⟨s,g,h,c⟩:QS);exact⟨⟨f1⟩,⟨f3⟩,⟨by omega,by omega⟩,⟨⟨[0,1,2,3],rfl,rfl,⟨.inl rfl,rfl,rfl,rfl,trivial⟩,rfl,rfl,rfl,rfl⟩⟩⟩
 ·cases hx
theorem abE:Lx [0,2] (a9 PT):=by
 intro b args h x hx i hi hl;cases b with
 |false=>cases hx
 |true =>
  simp only[a9,jo.go,PT] at hx;split at hx
  ·injection hx with hx
   subst hx;simp only[bN,v7,or_false] at hi;rcases hi with rfl|rfl<;>rfl
  ·cases hx
end Pa
namespace Pa
open Rx Wv Br
open Sh (r_ wT mM sl n3)
set_option maxRecDepth 100000
set_option maxHeartbeats 8000000
def TQr:eM Rt:=[(35,Dk [0,2,3] 2 (a9 PU)),(73,bJ zN 2 (c8 (a9 G8.AM))),(66,bJ zN 2 (a9 Zr))]
theorem akt:cN D2 Tryz.prog TQr:=⟨Dw _ _ YK aaW,aT _ _ (oi XK),aT _ _ aa8,trivial⟩
def ZQ:Prim Rt:=fun args hh=>match args,hh with
 |[.pointer (aa ⟨0,0,aj⟩),.int .i64 t],[aa (.inl (98,[.int .i64 c,.pointer (aa ⟨1,0,aj⟩),.pointer (aa ⟨2,0,aj⟩),.pointer (aa ⟨3,0,aj⟩)])),aa (.inr (.inr (.inr (.inl (.tree s))))),aa (.inr (.inr (.inr (.inr (.tree g))))),aa (.inr (.inr (.inr (.inr (.tree h)))))]=>aa ⟨s.gv,.int .i64 (nk (⟨s,g,h,c⟩:QS) t),aj,[bQ (n9 (⟨s,g,h,c⟩:QS) t),oM (n9 (⟨s,g,h,c⟩:QS) t).mt,oS (n9 (⟨s,g,h,c⟩:QS) t).pr,oS (n9 (⟨s,g,h,c⟩:QS) t).gn],[],[(0,0)]⟩
 |_,_=>aj
theorem ahl:b8 D2 Tryz.prog 62 (a9 ZQ):=by
 refine fx Tryz.f62 fun args hh x hx=>?_
 unfold ZQ at hx;split at hx
 ·rename_i t c s g h;cases hx;refine q4 fun _ hv=>?_
  generalize hG:cj (R:=Rt) _ _=G;refine cK (T:=TQr) akt mixed 200 ?_;refine bM (q:=let Z4:=aC (aa ⟨2,0,aj⟩);let Z5:=aC (aa ⟨1,0,aj⟩);let Z6:=aC (aa ⟨3,0,aj⟩);let Z7:=bk ar;let Z1:=(QS.mt (yC (QS.mk s g h c)));let Z2:=(Mk.mk t an (It.mk (0:Int) (0:Int)) an an (It.mk (0:Int) (0:Int)));let Z3:=(ay (fG O8 Z2 (eY Z1)));Vc (fa s)/\(((↑(ae (eY s)):Int)==c)=ao->aY (G (Z7 10) [aa (.inl (98,[Z7 c,Z5,Z4,Z6])),oM Z1,oS g,oS h]))/\(((↑(ae (eY s)):Int)==c)=an->Vc True/\Vc (fa Z1)/\(av (fG O8 Z2 (eY Z1))=ao->aY (G (Z7 11) [aa (.inl (98,[Z7 c,Z5,Z4,Z6])),oM (oE Z1 Z2),oS g,oS h,aa (.inl (49,[Z7 (Mk.t Z3),.bool (Mk.ins Z3),Z7 (It.k (Mk.it Z3)),Z7 (It.i (Mk.it Z3)),.bool (Mk.here Z3),.bool (Mk.tf Z3),Z7 (It.k (Mk.tk Z3)),Z7 (It.i (Mk.tk Z3))]))]))/\(av (fG O8 Z2 (eY Z1))=an->aY (G (Z7 0) [aa (.inl (98,[Z7 c,Z5,Z4,Z6])),oM (oE Z1 Z2),oS g,oS h,aa (.inl (49,[Z7 (Mk.t Z3),.bool (Mk.ins Z3),Z7 (It.k (Mk.it Z3)),Z7 (It.i (Mk.it Z3)),.bool (Mk.here Z3),.bool (Mk.tf Z3),Z7 (It.k (Mk.tk Z3)),Z7 (It.i (Mk.tk Z3))]))])))) ?_ (by kernel_rfl)
  intro Z4 Z5 Z6 Z7 Z1 Z2 Z3;subst Z3 Z2 Z1 Z7 Z6 Z5 Z4;have done:∀ (x:Int) (s':T8) (g' h':T9) (rest:Hp Rt),x=nk (⟨s,g,h,c⟩:QS) t->s'=(n9 (⟨s,g,h,c⟩:QS) t).mt->g'=g->h'=h->G (.int .i64 x) (aa (.inl (98,[.int .i64 c,.pointer (aa ⟨1,0,aj⟩),.pointer (aa ⟨2,0,aj⟩),.pointer (aa ⟨3,0,aj⟩)]))::oM s'::oS g'::oS h'::rest):=by
   intro x s' g' h' rest e1 e2 e3 e4;subst e1 e2 e3 e4;subst hG;exact⟨[0,1,2,3],rfl,rfl,⟨.inl rfl,rfl,rfl,rfl,trivial⟩,rfl,rfl,rfl,rfl⟩
  clear hG;refine⟨⟨hv⟩,fun h1=>⟨?_⟩,fun h1=>⟨⟨trivial⟩,⟨hv⟩,fun h2=>⟨?_⟩,fun h2=>⟨?_⟩⟩⟩
  ·have h1:(s.l.length:Int)=c:=eq_of_beq h1;exact done _ _ _ _ _ (by unfold nk;rw[if_pos (show(s.l.length:Int)=c from h1)]) (by unfold n9;exact(if_pos (show(s.l.length:Int)=c from h1)).symm) rfl rfl
  all_goals
   have h1:¬ (s.l.length:Int)=c:=fun e=>by rw[beq_eq_false_iff_ne] at h1;exact h1 e
  ·exact done _ _ _ _ _ (by unfold nk;rw[if_neg (show ¬ (s.l.length:Int)=c from h1),if_pos (show(fG O8 (kY t) s.l).2=ao from h2)]) (by unfold n9;exact(if_neg (show ¬ (s.l.length:Int)=c from h1)).symm) rfl rfl
  ·exact done _ _ _ _ _ (by unfold nk;rw[if_neg (show ¬ (s.l.length:Int)=c from h1),if_neg (show ¬ (fG O8 (kY t) s.l).2=ao from by rw[show(fG O8 (kY t) s.l).2=an from h2];decide)]) (by unfold n9;exact(if_neg (show ¬ (s.l.length:Int)=c from h1)).symm) rfl rfl
 ·cases hx
def TQi:eM Rt:=[(94,bJ zN 2 (c9 (a9 G9.AM))),(69,bJ zN 2 (a9 Y6))]
theorem ak_:cN D2 Tryz.prog TQi:=⟨aT _ _ (wH G9.Fc),aT _ _ Tc,trivial⟩
def aaq:Prim Rt:=fun args hh=>match args,hh with
 |[.pointer (aa ⟨0,0,aj⟩),.agg ⟨[.int .i64 a,.int .i64 b]⟩],[aa (.inl (98,[.int .i64 c,.pointer (aa ⟨1,0,aj⟩),.pointer (aa ⟨2,0,aj⟩),.pointer (aa ⟨3,0,aj⟩)])),aa (.inr (.inr (.inr (.inl (.tree s))))),aa (.inr (.inr (.inr (.inr (.tree g))))),aa (.inr (.inr (.inr (.inr (.tree h)))))]=>aa ⟨(⟨s,g,h,c⟩:QS).gv,.bool (Bu (⟨s,g,h,c⟩:QS) ⟨a,b⟩),aj,[bQ (BQ (⟨s,g,h,c⟩:QS) ⟨a,b⟩),oM (BQ (⟨s,g,h,c⟩:QS) ⟨a,b⟩).mt,oS (BQ (⟨s,g,h,c⟩:QS) ⟨a,b⟩).pr,oS (BQ (⟨s,g,h,c⟩:QS) ⟨a,b⟩).gn],[],[(0,0)]⟩
 |_,_=>aj
theorem aha:b8 D2 Tryz.prog 63 (a9 aaq):=by
 refine fx Tryz.f63 fun args hh x hx=>?_
 unfold aaq at hx;split at hx
 ·rename_i a b c s g h;cases hx;refine q4 fun _ hv=>?_
  generalize hG:cj (R:=Rt) _ _=G;refine cK (T:=TQi) ak_ mixed 200 ?_;refine bM (q:=let Z4:=bk ar;let Z1:=(jD (It.mk a b) an (0:Int));let Z2:=(ay (fG aN Z1 (eY g)));let Z3:=(ay (fG aN Z1 (eY h)));Vc True/\Vc (fa g)/\Vc True/\Vc (fa h)/\(av (fG aN Z1 (eY g))=an->aY (G (aE (av (fG aN Z1 (eY h)))) [aa (.inl (98,[Z4 c,.pointer (aa ⟨1,0,aj⟩),.pointer (aa ⟨2,0,aj⟩),.pointer (aa ⟨3,0,aj⟩)])),oM s,oS (oE g Z1),oS (oE h Z1),aa (.inl (31,[Z4 a,Z4 b])),aa (.inl (75,[Z4 (It.k (lU Z2)),Z4 (It.i (lU Z2)),.bool (po Z2),Z4 (qO Z2)])),aa (.inl (75,[Z4 (It.k (lU Z3)),Z4 (It.i (lU Z3)),.bool (po Z3),Z4 (qO Z3)]))]))/\(av (fG aN Z1 (eY g))=ao->aY (G (aE ao) [aa (.inl (98,[Z4 c,.pointer (aa ⟨1,0,aj⟩),.pointer (aa ⟨2,0,aj⟩),.pointer (aa ⟨3,0,aj⟩)])),oM s,oS (oE g Z1),oS (oE h Z1),aa (.inl (31,[Z4 a,Z4 b])),aa (.inl (75,[Z4 (It.k (lU Z2)),Z4 (It.i (lU Z2)),.bool (po Z2),Z4 (qO Z2)])),aa (.inl (75,[Z4 (It.k (lU Z3)),Z4 (It.i (lU Z3)),.bool (po Z3),Z4 (qO Z3)]))]))) ?_ (by kernel_rfl)
  intro Z4 Z1 Z2 Z3;subst Z3 Z2 Z1 Z4;have done:∀ (x:Bool) (s':T8) (g' h':T9) (rest:Hp Rt),x=Bu (⟨s,g,h,c⟩:QS) ⟨a,b⟩->s'=s->g'=g.find (sl ⟨a,b⟩)->h'=h.find (sl ⟨a,b⟩)->G (.bool x) (aa (.inl (98,[.int .i64 c,.pointer (aa ⟨1,0,aj⟩),.pointer (aa ⟨2,0,aj⟩),.pointer (aa ⟨3,0,aj⟩)]))::oM s'::oS g'::oS h'::rest):=by
   intro x s' g' h' rest e1 e2 e3 e4;subst e1 e2 e3 e4;subst hG;exact⟨[0,1,2,3],rfl,rfl,⟨.inl rfl,rfl,rfl,rfl,trivial⟩,rfl,rfl,rfl,rfl⟩
  clear hG;obtain⟨f1,f2,f3⟩:=hv;refine⟨⟨trivial⟩,⟨f2⟩,⟨trivial⟩,⟨f3⟩,fun h1=>⟨done _ _ _ _ _ ?_ rfl rfl rfl⟩,fun h1=>⟨done _ _ _ _ _ ?_ rfl rfl rfl⟩⟩
  ·show _=((fG aN (sl ⟨a,b⟩) g.l).2||_)
   rw[show(fG aN (sl ⟨a,b⟩) g.l).2=an from h1];rfl
  ·show _=((fG aN (sl ⟨a,b⟩) g.l).2||_)
   rw[show(fG aN (sl ⟨a,b⟩) g.l).2=ao from h1];rfl
 ·cases hx
def TQb:eM Rt:=[(39,Dk [0,2] 2 (a9 PT)),(95,bJ zN 2 (c8 (a9 aeO))),(112,bJ zN 2 (c8 (a9 aeo)))]
theorem ack:cN D2 Tryz.prog TQb:=⟨Dw _ _ XN abE,aT _ _ (oi aki),aT _ _ (oi aj8),trivial⟩
def ad1:Prim Rt:=fun args hh=>match args,hh with
 |[.pointer (aa ⟨0,0,aj⟩),.int .i64 p],[aa (.inl (98,[.int .i64 c,.pointer (aa ⟨1,0,aj⟩),.pointer (aa ⟨2,0,aj⟩),.pointer (aa ⟨3,0,aj⟩)])),aa (.inr (.inr (.inr (.inl (.tree s))))),aa (.inr (.inr (.inr (.inr (.tree g))))),aa (.inr (.inr (.inr (.inr (.tree h)))))]=>aa ⟨(⟨s,g,h,c⟩:QS).gv,.int .i64 (GI (⟨s,g,h,c⟩:QS) p),aj,[bQ (BO (⟨s,g,h,c⟩:QS) p),oM (BO (⟨s,g,h,c⟩:QS) p).mt,oS (BO (⟨s,g,h,c⟩:QS) p).pr,oS (BO (⟨s,g,h,c⟩:QS) p).gn],[],[(0,0)]⟩
 |_,_=>aj
theorem aj9:b8 D2 Tryz.prog 64 (a9 ad1):=by
 refine fx Tryz.f64 fun args hh x hx=>?_
 unfold ad1 at hx;split at hx
 ·rename_i p c s g h;cases hx;refine q4 fun _ hv=>?_
  generalize hG:cj (R:=Rt) _ _=G;refine cK (T:=TQb) ack mixed 200 ?_;refine bM (q:=Vc (QS.gv (QS.mk s g h c))/\Vc (fa (QS.mt (nJ (QS.mk s g h c)))/\(-1099511627776:Int)≤rK (QS.mk s g h c)/\rK (QS.mk s g h c)≤(1099511627776:Int))/\aY (G (bk ar (FF (eY (QS.mt (nJ (QS.mk s g h c)))) p (rK (QS.mk s g h c)))) [aa (.inl (98,[.int ar c,.pointer (aa ⟨1,0,aj⟩),.pointer (aa ⟨2,0,aj⟩),.pointer (aa ⟨3,0,aj⟩)])),oM (Uw (QS.mt (nJ (QS.mk s g h c))) p (rK (QS.mk s g h c))),oS g,oS (QS.gn (nJ (QS.mk s g h c)))])) ?_ (by kernel_rfl)
  subst hG;have hb:=OV (⟨s,g,h,c⟩:QS);exact⟨⟨hv⟩,⟨hv.1,hb.1,hb.2⟩,⟨⟨[0,1,2,3],rfl,rfl,⟨.inl rfl,rfl,rfl,rfl,trivial⟩,rfl,rfl,rfl,rfl⟩⟩⟩
 ·cases hx
def ad6:Prim Rt:=fun args hh=>match args,hh with
 |[.pointer (aa ⟨0,0,aj⟩),.int .i64 p],[aa (.inl (98,[.int .i64 c,.pointer (aa ⟨1,0,aj⟩),.pointer (aa ⟨2,0,aj⟩),.pointer (aa ⟨3,0,aj⟩)])),aa (.inr (.inr (.inr (.inl (.tree s))))),aa (.inr (.inr (.inr (.inr (.tree g))))),aa (.inr (.inr (.inr (.inr (.tree h)))))]=>aa ⟨(⟨s,g,h,c⟩:QS).gv,.int .i64 (Kq (⟨s,g,h,c⟩:QS) p),aj,[bQ (Hm (⟨s,g,h,c⟩:QS) p),oM (Hm (⟨s,g,h,c⟩:QS) p).mt,oS (Hm (⟨s,g,h,c⟩:QS) p).pr,oS (Hm (⟨s,g,h,c⟩:QS) p).gn],[],[(0,0)]⟩
 |_,_=>aj
theorem ai2:b8 D2 Tryz.prog 72 (a9 ad6):=by
 refine fx Tryz.f72 fun args hh x hx=>?_
 unfold ad6 at hx;split at hx
 ·rename_i p c s g h;cases hx;refine q4 fun _ hv=>?_
  generalize hG:cj (R:=Rt) _ _=G;refine cK (T:=TQb) ack mixed 200 ?_;refine bM (q:=Vc (QS.gv (QS.mk s g h c))/\Vc (fa (QS.mt (nJ (QS.mk s g h c)))/\(-1099511627776:Int)≤rK (QS.mk s g h c)/\rK (QS.mk s g h c)≤(1099511627776:Int))/\aY (G (bk ar (Qx (eY (QS.mt (nJ (QS.mk s g h c)))) p (rK (QS.mk s g h c)))) [aa (.inl (98,[.int ar c,.pointer (aa ⟨1,0,aj⟩),.pointer (aa ⟨2,0,aj⟩),.pointer (aa ⟨3,0,aj⟩)])),oM (FJ (QS.mt (nJ (QS.mk s g h c))) p (rK (QS.mk s g h c))),oS g,oS (QS.gn (nJ (QS.mk s g h c)))])) ?_ (by kernel_rfl)
  subst hG;have hb:=OV (⟨s,g,h,c⟩:QS);exact⟨⟨hv⟩,⟨hv.1,hb.1,hb.2⟩,⟨⟨[0,1,2,3],rfl,rfl,⟨.inl rfl,rfl,rfl,rfl,trivial⟩,rfl,rfl,rfl,rfl⟩⟩⟩
 ·cases hx
def TQt:eM Rt:=[(141,bJ zN 2 (c8 (a9 G8.RU))),(67,bJ zN 2 (c8 (a9 G8.Ea)))]
theorem aj6:cN D2 Tryz.prog TQt:=⟨aT _ _ (oi G8.ac3),aT _ _ (oi G8.HV),trivial⟩
def Zu:Prim Rt:=fun args hh=>match args,hh with
 |[.pointer (aa ⟨0,0,aj⟩),.int .i64 i,.bool b],[aa (.inl (98,[.int .i64 c,.pointer (aa ⟨1,0,aj⟩),.pointer (aa ⟨2,0,aj⟩),.pointer (aa ⟨3,0,aj⟩)])),aa (.inr (.inr (.inr (.inl (.tree s))))),aa (.inr (.inr (.inr (.inr (.tree g))))),aa (.inr (.inr (.inr (.inr (.tree h)))))]=>aa ⟨s.gv/\(s.at_ i).ls (ED s i b),.tuple #[],aj,[bQ (⟨Bj s i b,g,h,c⟩:QS),oM (⟨Bj s i b,g,h,c⟩:QS).mt,oS (⟨Bj s i b,g,h,c⟩:QS).pr,oS (⟨Bj s i b,g,h,c⟩:QS).gn],[],[(0,0)]⟩
 |_,_=>aj
theorem agW:b8 D2 Tryz.prog 107 (a9 Zu):=by
 refine fx Tryz.f107 fun args hh x hx=>?_
 unfold Zu at hx;split at hx
 ·rename_i i b c s g h;cases hx;refine q4 fun _ hv=>?_
  generalize hG:cj (R:=Rt) _ _=G;refine cK (T:=TQt) aj6 mixed 200 ?_;refine bM (q:=let Z3:=bk ar;let Z1:=(ay (Gv.qj O8 i (eY s)));let Z2:=(Mk.mk (Mk.t Z1) (Mk.ins Z1) (Mk.it Z1) b (Mk.tf Z1) (Mk.tk Z1));Vc (fa s)/\Vc (uh (Lq s i) Z2)/\aY (G (cr (aP [])) [aa (.inl (98,[Z3 c,.pointer (aa ⟨1,0,aj⟩),.pointer (aa ⟨2,0,aj⟩),.pointer (aa ⟨3,0,aj⟩)])),oM (DA (Lq s i) Z2),oS g,oS h,aa (.inl (49,[Z3 (Mk.t Z1),.bool (Mk.ins Z1),Z3 (It.k (Mk.it Z1)),Z3 (It.i (Mk.it Z1)),.bool b,.bool (Mk.tf Z1),Z3 (It.k (Mk.tk Z1)),Z3 (It.i (Mk.tk Z1))]))])) ?_ (by kernel_rfl)
  intro Z3 Z1 Z2;subst Z2 Z1 Z3;subst hG;exact⟨⟨hv.1⟩,⟨hv.2⟩,⟨⟨[0,1,2,3],rfl,rfl,⟨.inl rfl,rfl,rfl,rfl,trivial⟩,rfl,rfl,rfl,rfl⟩⟩⟩
 ·cases hx
end Pa
namespace Pa
open Rx Wv Br
open Sh (r_ wT mM sl n3)
set_option maxRecDepth 100000
set_option maxHeartbeats 8000000
def TQg:eM Rt:=[(104,bJ zN 2 (c8 (a9 adH))),(109,bJ zN 2 (c8 (a9 adV))),(69,bJ zN 2 (a9 Y6)),(108,bJ zN 2 (c8 (a9 G8.M5))),(111,bJ zN 2 (c8 (a9 G8.RZ))),(107,bJ zN 2 (a9 Zu)),(75,bJ zN 2 (c9 (a9 G9.Dh))),(68,bJ zN 2 (c9 (a9 G9.Ea)))]
theorem acP:cN D2 Tryz.prog TQg:=⟨aT _ _ (oi alh),aT _ _ (oi aij),aT _ _ Tc,aT _ _ (oi G8.Zf),aT _ _ (oi G8.ab5),aT _ _ agW,aT _ _ (wH XL),aT _ _ (wH G9.HV),trivial⟩
def adQ:Prim Rt:=fun args hh=>match args,hh with
 |[.pointer (aa ⟨0,0,aj⟩),.int .i64 f],[aa (.inl (98,[.int .i64 c,.pointer (aa ⟨1,0,aj⟩),.pointer (aa ⟨2,0,aj⟩),.pointer (aa ⟨3,0,aj⟩)])),aa (.inr (.inr (.inr (.inl (.tree s))))),aa (.inr (.inr (.inr (.inr (.tree g))))),aa (.inr (.inr (.inr (.inr (.tree h)))))]=>aa ⟨JZ (⟨s,g,h,c⟩:QS) f,.agg ⟨[.slice (aa ⟨4,0,aa 2000⟩) (yR (⟨s,g,h,c⟩:QS) f).length (yR (⟨s,g,h,c⟩:QS) f).length,.slice (aa ⟨5,0,aa 2000⟩) ([]:List It).length ([]:List It).length]⟩,aj,[bQ (wx (⟨s,g,h,c⟩:QS) f),oM (wx (⟨s,g,h,c⟩:QS) f).mt,oS (wx (⟨s,g,h,c⟩:QS) f).pr,oS (wx (⟨s,g,h,c⟩:QS) f).gn,oI (yR (⟨s,g,h,c⟩:QS) f),oI []],[],[(0,0)]⟩
 |_,_=>aj
theorem ak6:b8 D2 Tryz.prog 70 (a9 adQ):=by
 refine fx Tryz.f70 fun args hh x hx=>?_
 unfold adQ at hx;split at hx
 ·rename_i f c s g h;cases hx;refine q4 fun _ hv=>?_
  generalize hG:cj (R:=Rt) _ _=G;refine cK (T:=TQg) acP mixed 200 ?_;refine bM (q:=let Z4:=bk ar;let Z1:=(gU (uJ (eY s) f) iz);let Z2:=(Gv.TS.first (qf Z1) (Hq s f) f);let Z3:=(Gv.TS.uI (qf Z1) (Hq s f) f);(decide (f<(0:Int))=ao->aY (G (bG (aP [.slice aj 0 0,.slice aj 0 0])) [aa (.inl (98,[Z4 c,.pointer (aa ⟨1,0,aj⟩),.pointer (aa ⟨2,0,aj⟩),.pointer (aa ⟨3,0,aj⟩)])),oM s,oS g,oS h,aa (.inl (59,[.slice aj 0 0,.slice aj 0 0]))]))/\(decide (f<(0:Int))=an->Vc (fa s)/\Vc True/\Vc True/\Vc (fa (Hq s f))/\Vc (fa Z2/\uh (Lq Z2 Z3) (ED Z2 Z3 ao))/\Vc (fa h)/\Vc (uh g (jD Z1 an (0:Int)))/\aY (G (bG (aP [.slice (aa ⟨7,0,aa 2000⟩) 1 1,.slice aj 0 0])) [aa (.inl (98,[Z4 c,.pointer (aa ⟨1,0,aj⟩),.pointer (aa ⟨2,0,aj⟩),.pointer (aa ⟨3,0,aj⟩)])),oM (Bj Z2 Z3 ao),oS (DA g (jD Z1 an (0:Int))),oS (yq h (jD Z1 an (0:Int))),aa (.inl (59,[.slice (aa ⟨7,0,aa 2000⟩) 1 1,.slice aj 0 0])),aa (.inl (47,[.bool (iy (uJ (eY s) f)),Z4 (It.k Z1),Z4 (It.i Z1)])),aa (.inl (75,[Z4 (It.k Z1),Z4 (It.i Z1),.bool an,Z4 0])),aa (.inr (.inl (31,Row.mk [Z4 0,Z4 0] 1 [aW.mk [It.k Z1] [] [],aW.mk [It.i Z1] [] []])))]))) ?_ (by kernel_rfl)
  intro Z4 Z1 Z2 Z3;subst Z3 Z2 Z1 Z4;obtain⟨f1,f2,f3,f4⟩:=hv;refine⟨fun h1=>?_,fun h1=>?_⟩
  ·have h1:f<0:=of_decide_eq_true h1;subst hG;rw[show wx (⟨s,g,h,c⟩:QS) f=(⟨s,g,h,c⟩:QS) from if_pos h1,show yR (⟨s,g,h,c⟩:QS) f=[] from if_pos h1]
   exact⟨⟨[0,1,2,3,90,91],rfl,rfl,⟨.inl rfl,rfl,rfl,rfl,⟨rfl,iT _,rfl⟩,⟨rfl,iT _,rfl⟩,trivial⟩,rfl,rfl,rfl,rfl⟩⟩
  ·have h1:¬ f<0:=of_decide_eq_false h1;obtain⟨g1,g2⟩:=f4 h1;subst hG;rw[show wx (⟨s,g,h,c⟩:QS) f=⟨Bj (SD (⟨s,g,h,c⟩:QS) f) (Ul (⟨s,g,h,c⟩:QS) f) ao,g.put (sl (JH (⟨s,g,h,c⟩:QS) f)),h.drop (sl (JH (⟨s,g,h,c⟩:QS) f)),c⟩ from if_neg h1,show yR (⟨s,g,h,c⟩:QS) f=[JH (⟨s,g,h,c⟩:QS) f] from if_neg h1]
   exact⟨⟨f1⟩,⟨trivial⟩,⟨trivial⟩,⟨f1⟩,⟨f1,g1⟩,⟨f3⟩,⟨g2⟩,⟨⟨[0,1,2,3,7,91],rfl,rfl,⟨.inl rfl,rfl,rfl,rfl,⟨_,rfl,.inl rfl⟩,⟨rfl,iT _,rfl⟩,trivial⟩,rfl,rfl,rfl,rfl⟩⟩⟩
 ·cases hx
def adz:Prim Rt:=fun args hh=>match args,hh with
 |[.pointer (aa ⟨0,0,aj⟩),.int .i64 u],[aa (.inl (98,[.int .i64 c,.pointer (aa ⟨1,0,aj⟩),.pointer (aa ⟨2,0,aj⟩),.pointer (aa ⟨3,0,aj⟩)])),aa (.inr (.inr (.inr (.inl (.tree s))))),aa (.inr (.inr (.inr (.inr (.tree g))))),aa (.inr (.inr (.inr (.inr (.tree h)))))]=>aa ⟨KH (⟨s,g,h,c⟩:QS) u,.agg ⟨[.slice (aa ⟨4,0,aa 2000⟩) ([]:List It).length ([]:List It).length,.slice (aa ⟨5,0,aa 2000⟩) (Dq (⟨s,g,h,c⟩:QS) u).length (Dq (⟨s,g,h,c⟩:QS) u).length]⟩,aj,[bQ (GF (⟨s,g,h,c⟩:QS) u),oM (GF (⟨s,g,h,c⟩:QS) u).mt,oS (GF (⟨s,g,h,c⟩:QS) u).pr,oS (GF (⟨s,g,h,c⟩:QS) u).gn,oI [],oI (Dq (⟨s,g,h,c⟩:QS) u)],[],[(0,0)]⟩
 |_,_=>aj
theorem aln:b8 D2 Tryz.prog 71 (a9 adz):=by
 refine fx Tryz.f71 fun args hh x hx=>?_
 unfold adz at hx;split at hx
 ·rename_i u c s g h;cases hx;refine q4 fun _ hv=>?_
  generalize hG:cj (R:=Rt) _ _=G;refine cK (T:=TQg) acP mixed 200 ?_;refine bM (q:=let Z4:=bk ar;let Z1:=(gU (qh (eY s) u) iz);let Z2:=(Gv.TS.last (qi Z1) (CT s u) u);let Z3:=(Gv.TS.AJ (qi Z1) (CT s u) u);Vc (fa s)/\((!iy (qh (eY s) u))=ao->aY (G (bG (aP [.slice aj 0 0,.slice aj 0 0])) [aa (.inl (98,[Z4 c,.pointer (aa ⟨1,0,aj⟩),.pointer (aa ⟨2,0,aj⟩),.pointer (aa ⟨3,0,aj⟩)])),oM (CT s u),oS g,oS h,aa (.inl (59,[.slice aj 0 0,.slice aj 0 0])),aa (.inl (47,[.bool (iy (qh (eY s) u)),Z4 (It.k Z1),Z4 (It.i Z1)]))]))/\((!iy (qh (eY s) u))=an->Vc True/\Vc True/\Vc (fa (CT s u))/\Vc (fa Z2/\uh (Lq Z2 Z3) (ED Z2 Z3 an))/\Vc (fa g)/\Vc (uh h (jD Z1 an (0:Int)))/\aY (G (bG (aP [.slice aj 0 0,.slice (aa ⟨7,0,aa 2000⟩) 1 1])) [aa (.inl (98,[Z4 c,.pointer (aa ⟨1,0,aj⟩),.pointer (aa ⟨2,0,aj⟩),.pointer (aa ⟨3,0,aj⟩)])),oM (Bj Z2 Z3 an),oS (yq g (jD Z1 an (0:Int))),oS (DA h (jD Z1 an (0:Int))),aa (.inl (59,[.slice aj 0 0,.slice (aa ⟨7,0,aa 2000⟩) 1 1])),aa (.inl (47,[.bool (iy (qh (eY s) u)),Z4 (It.k Z1),Z4 (It.i Z1)])),aa (.inl (75,[Z4 (It.k Z1),Z4 (It.i Z1),.bool an,Z4 0])),aa (.inr (.inl (31,Row.mk [Z4 0,Z4 0] 1 [aW.mk [It.k Z1] [] [],aW.mk [It.i Z1] [] []])))]))) ?_ (by kernel_rfl)
  intro Z4 Z1 Z2 Z3;subst Z3 Z2 Z1 Z4;obtain⟨f1,f2,f3,f4⟩:=hv;refine⟨⟨f1⟩,fun h1=>?_,fun h1=>?_⟩
  ·have h1:¬ PZ (⟨s,g,h,c⟩:QS) u=ao:=by
    intro e;rw[show(qh s.l u).isSome=ao from e] at h1;cases h1
   subst hG;rw[show GF (⟨s,g,h,c⟩:QS) u=⟨CT s u,g,h,c⟩ from if_neg h1,show Dq (⟨s,g,h,c⟩:QS) u=[] from if_neg h1]
   exact⟨⟨[0,1,2,3,90,91],rfl,rfl,⟨.inl rfl,rfl,rfl,rfl,⟨rfl,iT _,rfl⟩,⟨rfl,iT _,rfl⟩,trivial⟩,rfl,rfl,rfl,rfl⟩⟩
  ·have h1:PZ (⟨s,g,h,c⟩:QS) u=ao:=by
    show(qh s.l u).isSome=ao
    cases e:(qh s.l u).isSome
    ·rw[e] at h1;cases h1
    ·rfl
   obtain⟨g1,g2⟩:=f4 h1;subst hG;rw[show GF (⟨s,g,h,c⟩:QS) u=⟨Bj (Sr (⟨s,g,h,c⟩:QS) u) (Vd (⟨s,g,h,c⟩:QS) u) an,g.drop (sl (JA (⟨s,g,h,c⟩:QS) u)),h.put (sl (JA (⟨s,g,h,c⟩:QS) u)),c⟩ from if_pos h1,show Dq (⟨s,g,h,c⟩:QS) u=[JA (⟨s,g,h,c⟩:QS) u] from if_pos h1]
   exact⟨⟨trivial⟩,⟨trivial⟩,⟨f1⟩,⟨f1,g1⟩,⟨f2⟩,⟨g2⟩,⟨⟨[0,1,2,3,90,7],rfl,rfl,⟨.inl rfl,rfl,rfl,rfl,⟨rfl,iT _,rfl⟩,⟨_,rfl,.inl rfl⟩,trivial⟩,rfl,rfl,rfl,rfl⟩⟩⟩
 ·cases hx
end Pa
namespace Pa
open Rx Wv Br
open Sh (r_ wT mM sl n3)
set_option maxRecDepth 100000
set_option maxHeartbeats 8000000
def TQI:eM Rt:=[(62,bJ zN 2 (a9 ZQ)),(63,bJ zN 2 (a9 aaq)),(64,bJ zN 2 (a9 ad1)),(72,bJ zN 2 (a9 ad6)),(70,bJ zN 2 (a9 adQ)),(71,bJ zN 2 (a9 adz)),(65,bJ zN 2 (c8 (a9 G8.Hx))),(67,bJ zN 2 (c8 (a9 G8.Ea))),(74,bJ zN 2 (c8 (a9 G8.Dh))),(73,bJ zN 2 (c8 (a9 G8.AM))),(68,bJ zN 2 (c9 (a9 G9.Ea))),(75,bJ zN 2 (c9 (a9 G9.Dh))),(66,bJ zN 2 (a9 Zr)),(69,bJ zN 2 (a9 Y6))]
theorem V5:cN D2 Tryz.prog TQI:=⟨aT _ _ ahl,aT _ _ aha,aT _ _ aj9,aT _ _ ai2,aT _ _ ak6,aT _ _ aln,aT _ _ (oi G8.Wy),aT _ _ (oi G8.HV),aT _ _ (oi G8.IC),aT _ _ (oi XK),aT _ _ (wH G9.HV),aT _ _ (wH XL),aT _ _ aa8,aT _ _ Tc,trivial⟩
def aga:Prim Rt:=fun args hh=>match args,hh with
 |[.pointer (aa ⟨0,0,aj⟩),.int .i64 t,.agg ⟨[.int .i64 a,.int .i64 b]⟩],[aa (.inl (98,[.int .i64 c,.pointer (aa ⟨1,0,aj⟩),.pointer (aa ⟨2,0,aj⟩),.pointer (aa ⟨3,0,aj⟩)])),aa (.inr (.inr (.inr (.inl (.tree s))))),aa (.inr (.inr (.inr (.inr (.tree g))))),aa (.inr (.inr (.inr (.inr (.tree h)))))]=>aa ⟨TU (⟨s,g,h,c⟩:QS) t ⟨a,b⟩,.tuple #[.agg ⟨[.slice (aa ⟨4,0,aa 2000⟩) (wS (⟨s,g,h,c⟩:QS) t ⟨a,b⟩).length (wS (⟨s,g,h,c⟩:QS) t ⟨a,b⟩).length,.slice (aa ⟨5,0,aa 2000⟩) ([]:List It).length ([]:List It).length]⟩,.int .i64 (EF (⟨s,g,h,c⟩:QS) t ⟨a,b⟩)],aj,[bQ (iZ (⟨s,g,h,c⟩:QS) t ⟨a,b⟩),oM (iZ (⟨s,g,h,c⟩:QS) t ⟨a,b⟩).mt,oS (iZ (⟨s,g,h,c⟩:QS) t ⟨a,b⟩).pr,oS (iZ (⟨s,g,h,c⟩:QS) t ⟨a,b⟩).gn,oI (wS (⟨s,g,h,c⟩:QS) t ⟨a,b⟩),oI []],[],[(0,0)]⟩
 |_,_=>aj
theorem agv:b8 D2 Tryz.prog 24 (a9 aga):=by
 refine fx Tryz.f24 fun args hh x hx=>?_
 unfold aga at hx;split at hx
 ·rename_i t a b c s g h;cases hx;refine q4 fun _ hv=>?_
  generalize hG:cj (R:=Rt) _ _=G;refine cK (T:=TQI) V5 mixed 200 ?_;refine bM (q:=let dJ:=aC (aa ⟨3,0,aj⟩);let cq:=aC (aa ⟨2,0,aj⟩);let dD:=aC (aa ⟨1,0,aj⟩);let fC:=bk ar;let Z1:=(n9 (QS.mk s g h c) t);let Z2:=(QS.mt (BQ Z1 (It.mk a b)));let Z3:=(Mk.mk t an (It.mk (0:Int) (0:Int)) an an (It.mk (0:Int) (0:Int)));let Z4:=(QS.mk (QQ Z2 Z3) (QS.pr (BQ Z1 (It.mk a b))) (QS.gn (BQ Z1 (It.mk a b))) (QS.cap (BQ Z1 (It.mk a b))));let Z5:=(BO Z4 (↑(ae (ze O8 Z3 (eY Z2))):Int));let Z6:=(Mk.mk t ao (It.mk a b) an an (It.mk (0:Int) (0:Int)));let Z7:=(QS.mk (DA (QS.mt Z5) Z6) (QS.pr Z5) (DA (QS.gn Z5) (jD (It.mk a b) an (0:Int))) (QS.cap Z5));let Z8:=(GI Z4 (↑(ae (ze O8 Z3 (eY Z2))):Int));let Z9:=(ae (yR Z7 Z8));Vc (fa s)/\((nk (QS.mk s g h c) t != (0:Int))=ao->aY (G (cr (aP [.agg (aP [.slice aj 0 0,.slice aj 0 0]),fC (nk (QS.mk s g h c) t)])) [aa (.inl (98,[fC (QS.cap Z1),dD,cq,dJ])),oM (QS.mt Z1),oS (QS.pr Z1),oS (QS.gn Z1),aa (.inl (31,[fC a,fC b])),aa (.inl (59,[.slice aj 0 0,.slice aj 0 0]))]))/\((nk (QS.mk s g h c) t != (0:Int))=an->Vc (QS.gv Z1)/\(Bu Z1 (It.mk a b)=ao->aY (G (cr (aP [.agg (aP [.slice aj 0 0,.slice aj 0 0]),fC 2])) [aa (.inl (98,[fC (QS.cap (BQ Z1 (It.mk a b))),dD,cq,dJ])),oM Z2,oS (QS.pr (BQ Z1 (It.mk a b))),oS (QS.gn (BQ Z1 (It.mk a b))),aa (.inl (31,[fC a,fC b])),aa (.inl (59,[.slice aj 0 0,.slice aj 0 0]))]))/\(Bu Z1 (It.mk a b)=an->Vc True/\Vc (fa Z2)/\Vc (QS.gv Z4)/\Vc (uh (QS.mt Z5) Z6)/\Vc True/\Vc (uh (QS.gn Z5) (jD (It.mk a b) an (0:Int)))/\Vc (JZ Z7 Z8)/\aY (G (cr (aP [.agg (aP [.slice (aa ⟨6,0,aa 2000⟩) Z9 Z9,.slice (aa ⟨7,0,aa 2000⟩) 0 0]),fC 0])) [aa (.inl (98,[fC (QS.cap (wx Z7 Z8)),dD,cq,dJ])),oM (QS.mt (wx Z7 Z8)),oS (QS.pr (wx Z7 Z8)),oS (QS.gn (wx Z7 Z8)),aa (.inl (31,[fC a,fC b])),aa (.inl (59,[.slice (aa ⟨6,0,aa 2000⟩) Z9 Z9,.slice (aa ⟨7,0,aa 2000⟩) 0 0])),aa (.inr (.inl (31,Row.mk [fC 0,fC 0] Z9 [aW.mk (aw It.k (yR Z7 Z8)) [] [],aW.mk (aw It.i (yR Z7 Z8)) [] []]))),aa (.inr (.inl (31,Row.mk [fC 0,fC 0] 0 [aW.mk [] [] [],aW.mk [] [] []])))])))) ?_ (by kernel_rfl)
  intro dJ cq dD fC Z1 Z2 Z3 Z4 Z5 Z6 Z7 Z8 Z9;subst Z9 Z8 Z7 Z6 Z5 Z4 Z3 Z2 Z1 fC dD cq dJ;obtain⟨⟨f1,f2,f3⟩,ok⟩:=hv;have fr:=YJ (t:=t) (q:=(⟨s,g,h,c⟩:QS)) ⟨f1,f2,f3⟩;refine⟨⟨f1⟩,fun h1=>?_,fun h1=>⟨⟨fr⟩,fun h2=>?_,fun h2=>?_⟩⟩
  ·have h1:¬ nk (⟨s,g,h,c⟩:QS) t=0:=fun e=>by rw[e] at h1;cases h1
   subst hG;rw[show iZ (⟨s,g,h,c⟩:QS) t ⟨a,b⟩=n9 (⟨s,g,h,c⟩:QS) t from if_neg h1,show wS (⟨s,g,h,c⟩:QS) t ⟨a,b⟩=[] from if_neg h1,show EF (⟨s,g,h,c⟩:QS) t ⟨a,b⟩=nk (⟨s,g,h,c⟩:QS) t from if_neg h1]
   exact⟨⟨[0,1,2,3,90,91],rfl,rfl,⟨.inl rfl,rfl,rfl,rfl,⟨rfl,iT _,rfl⟩,⟨rfl,iT _,rfl⟩,trivial⟩,rfl,rfl,rfl,rfl⟩⟩
  ·have h1:nk (⟨s,g,h,c⟩:QS) t=0:=by simpa using h1
   subst hG;rw[show iZ (⟨s,g,h,c⟩:QS) t ⟨a,b⟩=MZ (⟨s,g,h,c⟩:QS) t ⟨a,b⟩ from(if_pos h1).trans (if_pos h2),show wS (⟨s,g,h,c⟩:QS) t ⟨a,b⟩=[] from(if_pos h1).trans (if_pos h2),show EF (⟨s,g,h,c⟩:QS) t ⟨a,b⟩=2 from(if_pos h1).trans (if_pos h2)]
   exact⟨⟨[0,1,2,3,90,91],rfl,rfl,⟨.inl rfl,rfl,rfl,rfl,⟨rfl,iT _,rfl⟩,⟨rfl,iT _,rfl⟩,trivial⟩,rfl,rfl,rfl,rfl⟩⟩
  ·have h1:nk (⟨s,g,h,c⟩:QS) t=0:=by simpa using h1
   have h3:¬ Bu (n9 (⟨s,g,h,c⟩:QS) t) ⟨a,b⟩=ao:=by rw[h2];decide
   obtain⟨g1,g2,g3⟩:=ok h1 h2;subst hG;rw[show iZ (⟨s,g,h,c⟩:QS) t ⟨a,b⟩=wx (MB (⟨s,g,h,c⟩:QS) t ⟨a,b⟩) (Pd (⟨s,g,h,c⟩:QS) t ⟨a,b⟩) from(if_pos h1).trans (if_neg h3),show wS (⟨s,g,h,c⟩:QS) t ⟨a,b⟩=yR (MB (⟨s,g,h,c⟩:QS) t ⟨a,b⟩) (Pd (⟨s,g,h,c⟩:QS) t ⟨a,b⟩) from(if_pos h1).trans (if_neg h3),show EF (⟨s,g,h,c⟩:QS) t ⟨a,b⟩=0 from(if_pos h1).trans (if_neg h3)]
   exact⟨⟨trivial⟩,⟨fr.1⟩,⟨fr⟩,⟨g1⟩,⟨trivial⟩,⟨g2⟩,⟨g3⟩,⟨⟨[0,1,2,3,6,7],rfl,rfl,⟨.inl rfl,rfl,rfl,rfl,⟨_,rfl,.inl rfl⟩,⟨_,rfl,.inl rfl⟩,trivial⟩,rfl,rfl,rfl,rfl⟩⟩⟩
 ·cases hx
def afO:Prim Rt:=fun args hh=>match args,hh with
 |[.pointer (aa ⟨0,0,aj⟩),.int .i64 t],[aa (.inl (98,[.int .i64 c,.pointer (aa ⟨1,0,aj⟩),.pointer (aa ⟨2,0,aj⟩),.pointer (aa ⟨3,0,aj⟩)])),aa (.inr (.inr (.inr (.inl (.tree s))))),aa (.inr (.inr (.inr (.inr (.tree g))))),aa (.inr (.inr (.inr (.inr (.tree h)))))]=>aa ⟨Uf (⟨s,g,h,c⟩:QS) t,.tuple #[.agg ⟨[.slice (aa ⟨4,0,aa 2000⟩) ([]:List It).length ([]:List It).length,.slice (aa ⟨5,0,aa 2000⟩) (DE (⟨s,g,h,c⟩:QS) t).length (DE (⟨s,g,h,c⟩:QS) t).length]⟩,.int .i64 (nk (⟨s,g,h,c⟩:QS) t)],aj,[bQ (iK (⟨s,g,h,c⟩:QS) t),oM (iK (⟨s,g,h,c⟩:QS) t).mt,oS (iK (⟨s,g,h,c⟩:QS) t).pr,oS (iK (⟨s,g,h,c⟩:QS) t).gn,oI [],oI (DE (⟨s,g,h,c⟩:QS) t)],[],[(0,0)]⟩
 |_,_=>aj
theorem ah8:b8 D2 Tryz.prog 25 (a9 afO):=by
 refine fx Tryz.f25 fun args hh x hx=>?_
 unfold afO at hx;split at hx
 ·rename_i t c s g h;cases hx;refine q4 fun _ hv=>?_
  generalize hG:cj (R:=Rt) _ _=G;refine cK (T:=TQI) V5 mixed 200 ?_;refine bM (q:=let Z7:=bk ar;let Z1:=(n9 (QS.mk s g h c) t);let Z2:=(Mk.mk t an (It.mk (0:Int) (0:Int)) an an (It.mk (0:Int) (0:Int)));let Z3:=(QS.mk (QQ (QS.mt Z1) Z2) (QS.pr Z1) (QS.gn Z1) (QS.cap Z1));let Z4:=(↑(ae (ze O8 Z2 (eY (QS.mt Z1)))):Int);let Z5:=(GF (Hm Z3 Z4) (Kq Z3 Z4));let Z6:=(Dq (Hm Z3 Z4) (Kq Z3 Z4));Vc (fa s)/\((nk (QS.mk s g h c) t != (0:Int))=ao->aY (G (cr (aP [.agg (aP [.slice aj 0 0,.slice aj 0 0]),Z7 (nk (QS.mk s g h c) t)])) [aa (.inl (98,[Z7 (QS.cap Z1),.pointer (aa ⟨1,0,aj⟩),.pointer (aa ⟨2,0,aj⟩),.pointer (aa ⟨3,0,aj⟩)])),oM (QS.mt Z1),oS (QS.pr Z1),oS (QS.gn Z1),aa (.inl (59,[.slice aj 0 0,.slice aj 0 0]))]))/\((nk (QS.mk s g h c) t != (0:Int))=an->Vc True/\Vc (fa (QS.mt Z1))/\Vc (QS.gv Z3)/\Vc (KH (Hm Z3 Z4) (Kq Z3 Z4))/\Vc (uh (QS.mt Z5) Z2)/\aY (G (cr (aP [.agg (aP [.slice (aa ⟨6,0,aa 2000⟩) 0 0,.slice (aa ⟨7,0,aa 2000⟩) (ae Z6) (ae Z6)]),Z7 0])) [aa (.inl (98,[Z7 (QS.cap Z5),.pointer (aa ⟨1,0,aj⟩),.pointer (aa ⟨2,0,aj⟩),.pointer (aa ⟨3,0,aj⟩)])),oM (DA (QS.mt Z5) Z2),oS (QS.pr Z5),oS (QS.gn Z5),aa (.inl (59,[.slice (aa ⟨6,0,aa 2000⟩) 0 0,.slice (aa ⟨7,0,aa 2000⟩) (ae Z6) (ae Z6)])),aa (.inl (49,[Z7 t,.bool an,Z7 0,Z7 0,.bool an,.bool an,Z7 0,Z7 0])),aa (.inr (.inl (31,Row.mk [Z7 0,Z7 0] 0 [aW.mk [] [] [],aW.mk [] [] []]))),aa (.inr (.inl (31,Row.mk [Z7 0,Z7 0] (ae Z6) [aW.mk (aw It.k Z6) [] [],aW.mk (aw It.i Z6) [] []]))),aa (.inl (59,[.slice (aa ⟨6,0,aa 2000⟩) 0 0,.slice (aa ⟨7,0,aa 2000⟩) (ae Z6) (ae Z6)]))]))) ?_ (by kernel_rfl)
  intro Z7 Z1 Z2 Z3 Z4 Z5 Z6;subst Z6 Z5 Z4 Z3 Z2 Z1 Z7;obtain⟨⟨f1,f2,f3⟩,ok⟩:=hv;have fr:=YJ (t:=t) (q:=(⟨s,g,h,c⟩:QS)) ⟨f1,f2,f3⟩;refine⟨⟨f1⟩,fun h1=>?_,fun h1=>?_⟩
  ·have h1:¬ nk (⟨s,g,h,c⟩:QS) t=0:=fun e=>by rw[e] at h1;cases h1
   subst hG;rw[show iK (⟨s,g,h,c⟩:QS) t=n9 (⟨s,g,h,c⟩:QS) t from if_neg h1,show DE (⟨s,g,h,c⟩:QS) t=[] from if_neg h1]
   exact⟨⟨[0,1,2,3,90,91],rfl,rfl,⟨.inl rfl,rfl,rfl,rfl,⟨rfl,iT _,rfl⟩,⟨rfl,iT _,rfl⟩,trivial⟩,rfl,rfl,rfl,rfl⟩⟩
  ·have h1:nk (⟨s,g,h,c⟩:QS) t=0:=by simpa using h1
   obtain⟨g1,g2⟩:=ok h1;subst hG;rw[show iK (⟨s,g,h,c⟩:QS) t=⟨(uF (⟨s,g,h,c⟩:QS) t).mt.put (kY t),(uF (⟨s,g,h,c⟩:QS) t).pr,(uF (⟨s,g,h,c⟩:QS) t).gn,(uF (⟨s,g,h,c⟩:QS) t).cap⟩ from if_pos h1,show DE (⟨s,g,h,c⟩:QS) t=Dq (XZ (⟨s,g,h,c⟩:QS) t) (Qh (⟨s,g,h,c⟩:QS) t) from if_pos h1,h1]
   exact⟨⟨trivial⟩,⟨fr.1⟩,⟨fr⟩,⟨g1⟩,⟨g2⟩,⟨⟨[0,1,2,3,6,7],rfl,rfl,⟨.inl rfl,rfl,rfl,rfl,⟨_,rfl,.inl rfl⟩,⟨_,rfl,.inl rfl⟩,trivial⟩,rfl,rfl,rfl,rfl⟩⟩⟩
 ·cases hx
def agj:Prim Rt:=fun args hh=>match args,hh with
 |[.pointer (aa ⟨0,0,aj⟩),.int .i64 t],[aa (.inl (98,[.int .i64 c,.pointer (aa ⟨1,0,aj⟩),.pointer (aa ⟨2,0,aj⟩),.pointer (aa ⟨3,0,aj⟩)])),aa (.inr (.inr (.inr (.inl (.tree s))))),aa (.inr (.inr (.inr (.inr (.tree g))))),aa (.inr (.inr (.inr (.inr (.tree h)))))]=>aa ⟨aam (⟨s,g,h,c⟩:QS) t,.tuple #[.agg ⟨[.slice (aa ⟨4,0,aa 2000⟩) (xB (⟨s,g,h,c⟩:QS) t).length (xB (⟨s,g,h,c⟩:QS) t).length,.slice (aa ⟨5,0,aa 2000⟩) (w9 (⟨s,g,h,c⟩:QS) t).length (w9 (⟨s,g,h,c⟩:QS) t).length]⟩,.int .i64 (KM (⟨s,g,h,c⟩:QS) t)],aj,[bQ (j9 (⟨s,g,h,c⟩:QS) t),oM (j9 (⟨s,g,h,c⟩:QS) t).mt,oS (j9 (⟨s,g,h,c⟩:QS) t).pr,oS (j9 (⟨s,g,h,c⟩:QS) t).gn,oI (xB (⟨s,g,h,c⟩:QS) t),oI (w9 (⟨s,g,h,c⟩:QS) t)],[],[(0,0)]⟩
 |_,_=>aj
theorem ah1:b8 D2 Tryz.prog 27 (a9 agj):=by
 refine fx Tryz.f27 fun args hh x hx=>?_
 unfold agj at hx;split at hx
 ·rename_i t c s g h;cases hx;refine q4 fun _ hv=>?_
  generalize hG:cj (R:=Rt) _ _=G;refine cK (T:=TQI) V5 mixed 200 ?_;refine bM (q:=let Z9:=aC (aa ⟨3,0,aj⟩);let dJ:=aC (aa ⟨2,0,aj⟩);let cq:=aC (aa ⟨1,0,aj⟩);let dD:=bk ar;let Z1:=(Mk.mk t an (It.mk (0:Int) (0:Int)) an an (It.mk (0:Int) (0:Int)));let Z2:=(ay (fG O8 Z1 (eY s)));let Z3:=(QS.mk (QQ (oE s Z1) Z2) g h c);let Z4:=(↑(ae (ze O8 Z2 (eY (oE s Z1)))):Int);let Z5:=(QS.mk (yq (QS.mt (BO Z3 Z4)) Z2) (QS.pr (BO Z3 Z4)) (QS.gn (BO Z3 Z4)) (QS.cap (BO Z3 Z4)));let Z6:=(ae (yR Z5 (GI Z3 Z4)));let Z7:=(GF (Hm Z3 (Z4+(1:Int))) (Kq Z3 (Z4+(1:Int))));let Z8:=(Dq (Hm Z3 (Z4+(1:Int))) (Kq Z3 (Z4+(1:Int))));Vc True/\Vc (fa s)/\((!av (fG O8 Z1 (eY s)))=ao->aY (G (cr (aP [.agg (aP [.slice aj 0 0,.slice aj 0 0]),dD 14])) [aa (.inl (98,[dD c,cq,dJ,Z9])),oM (oE s Z1),oS g,oS h,aa (.inl (59,[.slice aj 0 0,.slice aj 0 0])),aa (.inl (49,[dD (Mk.t Z2),.bool (Mk.ins Z2),dD (It.k (Mk.it Z2)),dD (It.i (Mk.it Z2)),.bool (Mk.here Z2),.bool (Mk.tf Z2),dD (It.k (Mk.tk Z2)),dD (It.i (Mk.tk Z2))]))]))/\((!av (fG O8 Z1 (eY s)))=an->((!Mk.ins Z2)=ao->Vc (fa (oE s Z1))/\Vc (QS.gv Z3)/\Vc (fa (QS.mt (BO Z3 Z4)))/\Vc (JZ Z5 (GI Z3 Z4))/\aY (G (cr (aP [.agg (aP [.slice (aa ⟨6,0,aa 2000⟩) Z6 Z6,.slice (aa ⟨7,0,aa 2000⟩) 0 0]),dD 0])) [aa (.inl (98,[dD (QS.cap (wx Z5 (GI Z3 Z4))),cq,dJ,Z9])),oM (QS.mt (wx Z5 (GI Z3 Z4))),oS (QS.pr (wx Z5 (GI Z3 Z4))),oS (QS.gn (wx Z5 (GI Z3 Z4))),aa (.inl (59,[.slice (aa ⟨6,0,aa 2000⟩) Z6 Z6,.slice (aa ⟨7,0,aa 2000⟩) 0 0])),aa (.inl (49,[dD (Mk.t Z2),.bool (Mk.ins Z2),dD (It.k (Mk.it Z2)),dD (It.i (Mk.it Z2)),.bool (Mk.here Z2),.bool (Mk.tf Z2),dD (It.k (Mk.tk Z2)),dD (It.i (Mk.tk Z2))])),aa (.inr (.inl (31,Row.mk [dD 0,dD 0] Z6 [aW.mk (aw It.k (yR Z5 (GI Z3 Z4))) [] [],aW.mk (aw It.i (yR Z5 (GI Z3 Z4))) [] []]))),aa (.inr (.inl (31,Row.mk [dD 0,dD 0] 0 [aW.mk [] [] [],aW.mk [] [] []])))]))/\((!Mk.ins Z2)=an->(Mk.here Z2=ao->Vc (fa (oE s Z1))/\Vc True/\Vc (fa g)/\aY (G (cr (aP [.agg (aP [.slice aj 0 0,.slice (aa ⟨6,0,aa 2000⟩) 1 1]),dD 0])) [aa (.inl (98,[dD c,cq,dJ,Z9])),oM (yq (oE s Z1) Z2),oS (yq g (jD (Mk.it Z2) an (0:Int))),oS h,aa (.inl (59,[.slice aj 0 0,.slice (aa ⟨6,0,aa 2000⟩) 1 1])),aa (.inl (49,[dD (Mk.t Z2),.bool (Mk.ins Z2),dD (It.k (Mk.it Z2)),dD (It.i (Mk.it Z2)),.bool (Mk.here Z2),.bool (Mk.tf Z2),dD (It.k (Mk.tk Z2)),dD (It.i (Mk.tk Z2))])),aa (.inr (.inl (31,Row.mk [dD 0,dD 0] 1 [aW.mk [It.k (Mk.it Z2)] [] [],aW.mk [It.i (Mk.it Z2)] [] []])))]))/\(Mk.here Z2=an->Vc (fa (oE s Z1))/\Vc (fits (Z4+(1:Int)))/\Vc (QS.gv Z3)/\Vc (KH (Hm Z3 (Z4+(1:Int))) (Kq Z3 (Z4+(1:Int))))/\Vc (fa (QS.mt Z7))/\Vc True/\Vc (fa (QS.gn Z7))/\aY (G (cr (aP [.agg (aP [.slice (aa ⟨6,0,aa 2000⟩) 0 0,.slice (aa ⟨7,0,aa 2000⟩) (ae Z8) (ae Z8)]),dD 0])) [aa (.inl (98,[dD (QS.cap Z7),cq,dJ,Z9])),oM (yq (QS.mt Z7) Z2),oS (QS.pr Z7),oS (yq (QS.gn Z7) (jD (Mk.it Z2) an (0:Int))),aa (.inl (59,[.slice (aa ⟨6,0,aa 2000⟩) 0 0,.slice (aa ⟨7,0,aa 2000⟩) (ae Z8) (ae Z8)])),aa (.inl (49,[dD (Mk.t Z2),.bool (Mk.ins Z2),dD (It.k (Mk.it Z2)),dD (It.i (Mk.it Z2)),.bool (Mk.here Z2),.bool (Mk.tf Z2),dD (It.k (Mk.tk Z2)),dD (It.i (Mk.tk Z2))])),aa (.inr (.inl (31,Row.mk [dD 0,dD 0] 0 [aW.mk [] [] [],aW.mk [] [] []]))),aa (.inr (.inl (31,Row.mk [dD 0,dD 0] (ae Z8) [aW.mk (aw It.k Z8) [] [],aW.mk (aw It.i Z8) [] []]))),aa (.inl (59,[.slice (aa ⟨6,0,aa 2000⟩) 0 0,.slice (aa ⟨7,0,aa 2000⟩) (ae Z8) (ae Z8)]))]))))) ?_ (by kernel_rfl)
  intro Z9 dJ cq dD Z1 Z2 Z3 Z4 Z5 Z6 Z7 Z8;subst Z8 Z7 Z6 Z5 Z4 Z3 Z2 Z1 dD cq dJ Z9;obtain⟨⟨f1,f2,f3⟩,ok⟩:=hv;have bp:0≤EX (⟨s,g,h,c⟩:QS) t/\EX (⟨s,g,h,c⟩:QS) t≤60:=by
   have h1:=SA s;have h2:(ze O8 (mZ (⟨s,g,h,c⟩:QS) t) s.l).length≤s.l.length:=by rw[Gv.O3,ej];omega
   exact⟨Int.natCast_nonneg _,by show((ze O8 (mZ (⟨s,g,h,c⟩:QS) t) s.l).length:Int)≤60;omega⟩
  refine⟨⟨trivial⟩,⟨f1⟩,fun h1=>?_,fun h1=>⟨fun h2=>?_,fun h2=>⟨fun h3=>?_,fun h3=>?_⟩⟩⟩
  ·have h1:(!Gw (⟨s,g,h,c⟩:QS) t)=ao:=h1;have h1:¬ Gw (⟨s,g,h,c⟩:QS) t=ao:=by simpa using h1
   subst hG;rw[show j9 (⟨s,g,h,c⟩:QS) t=BL (⟨s,g,h,c⟩:QS) t from if_neg h1,show xB (⟨s,g,h,c⟩:QS) t=[] from if_neg h1,show w9 (⟨s,g,h,c⟩:QS) t=[] from if_neg h1,show KM (⟨s,g,h,c⟩:QS) t=14 from if_neg h1]
   exact⟨⟨[0,1,2,3,90,91],rfl,rfl,⟨.inl rfl,rfl,rfl,rfl,⟨rfl,iT _,rfl⟩,⟨rfl,iT _,rfl⟩,trivial⟩,rfl,rfl,rfl,rfl⟩⟩
  all_goals
   have h1:(!Gw (⟨s,g,h,c⟩:QS) t)=an:=h1;have h1:Gw (⟨s,g,h,c⟩:QS) t=ao:=by simpa using h1
   have hc:KM (⟨s,g,h,c⟩:QS) t=0:=if_pos h1
  ·have h2:(!(mZ (⟨s,g,h,c⟩:QS) t).ins)=ao:=h2;have h2:(mZ (⟨s,g,h,c⟩:QS) t).ins=an:=by simpa using h2
   have h3:¬ (mZ (⟨s,g,h,c⟩:QS) t).ins=ao:=by rw[h2];decide
   have g1:=(ok h1).1 h2;subst hG;rw[show j9 (⟨s,g,h,c⟩:QS) t=wx (SG (⟨s,g,h,c⟩:QS) t) (KA (⟨s,g,h,c⟩:QS) t) from(if_pos h1).trans (if_neg h3),show xB (⟨s,g,h,c⟩:QS) t=yR (SG (⟨s,g,h,c⟩:QS) t) (KA (⟨s,g,h,c⟩:QS) t) from(if_pos h1).trans (if_neg h3),show w9 (⟨s,g,h,c⟩:QS) t=[] from(if_pos h1).trans (if_neg h3),hc]
   exact⟨⟨f1⟩,⟨f1,f2,f3⟩,⟨f1⟩,⟨g1⟩,⟨⟨[0,1,2,3,6,7],rfl,rfl,⟨.inl rfl,rfl,rfl,rfl,⟨_,rfl,.inl rfl⟩,⟨_,rfl,.inl rfl⟩,trivial⟩,rfl,rfl,rfl,rfl⟩⟩⟩
  all_goals
   have h2:(!(mZ (⟨s,g,h,c⟩:QS) t).ins)=an:=h2;have h2:(mZ (⟨s,g,h,c⟩:QS) t).ins=ao:=by simpa using h2
  ·have h3:(mZ (⟨s,g,h,c⟩:QS) t).here=ao:=h3;subst hG;rw[show j9 (⟨s,g,h,c⟩:QS) t=⟨(BL (⟨s,g,h,c⟩:QS) t).mt.drop (mZ (⟨s,g,h,c⟩:QS) t),(BL (⟨s,g,h,c⟩:QS) t).pr.drop (sl (mZ (⟨s,g,h,c⟩:QS) t).it),(BL (⟨s,g,h,c⟩:QS) t).gn,(BL (⟨s,g,h,c⟩:QS) t).cap⟩ from(if_pos h1).trans ((if_pos h2).trans (if_pos h3)),show xB (⟨s,g,h,c⟩:QS) t=[] from(if_pos h1).trans (if_pos h2),show w9 (⟨s,g,h,c⟩:QS) t=[(mZ (⟨s,g,h,c⟩:QS) t).it] from(if_pos h1).trans ((if_pos h2).trans (if_pos h3)),hc]
   exact⟨⟨f1⟩,⟨trivial⟩,⟨f2⟩,⟨⟨[0,1,2,3,90,6],rfl,rfl,⟨.inl rfl,rfl,rfl,rfl,⟨rfl,iT _,rfl⟩,⟨_,rfl,.inl rfl⟩,trivial⟩,rfl,rfl,rfl,rfl⟩⟩⟩
  ·have h3:(mZ (⟨s,g,h,c⟩:QS) t).here=an:=h3;have h4:¬ (mZ (⟨s,g,h,c⟩:QS) t).here=ao:=by rw[h3];decide
   obtain⟨g1,g2,g3⟩:=(ok h1).2 h2 h3;subst hG;rw[show j9 (⟨s,g,h,c⟩:QS) t=⟨(Af (⟨s,g,h,c⟩:QS) t).mt.drop (mZ (⟨s,g,h,c⟩:QS) t),(Af (⟨s,g,h,c⟩:QS) t).pr,(Af (⟨s,g,h,c⟩:QS) t).gn.drop (sl (mZ (⟨s,g,h,c⟩:QS) t).it),(Af (⟨s,g,h,c⟩:QS) t).cap⟩ from(if_pos h1).trans ((if_pos h2).trans (if_neg h4)),show xB (⟨s,g,h,c⟩:QS) t=[] from(if_pos h1).trans (if_pos h2),show w9 (⟨s,g,h,c⟩:QS) t=Dq (Y4 (⟨s,g,h,c⟩:QS) t) (O4 (⟨s,g,h,c⟩:QS) t) from(if_pos h1).trans ((if_pos h2).trans (if_neg h4)),hc]
   exact⟨⟨f1⟩,⟨by show -9223372036854775808≤EX (⟨s,g,h,c⟩:QS) t+1;omega,by show EX (⟨s,g,h,c⟩:QS) t+1≤9223372036854775807;omega⟩,⟨f1,f2,f3⟩,⟨g1⟩,⟨g2⟩,⟨trivial⟩,⟨g3⟩,⟨⟨[0,1,2,3,6,7],rfl,rfl,⟨.inl rfl,rfl,rfl,rfl,⟨_,rfl,.inl rfl⟩,⟨_,rfl,.inl rfl⟩,trivial⟩,rfl,rfl,rfl,rfl⟩⟩⟩
 ·cases hx
end Pa
namespace Pa
open Rx Wv Br
open Sh (r_ wT mM sl n3)
set_option maxRecDepth 100000
set_option maxRecDepth 100000
set_option maxHeartbeats 8000000
abbrev anZ (l:List Mk):Row:=⟨[.int .i64 0,.bool an,.int .i64 0,.int .i64 0,.bool an,.bool an,.int .i64 0,.int .i64 0],l.length,[⟨l.map fun e=>e.t,[],[]⟩,⟨[],l.map fun e=>e.ins,[]⟩,⟨l.map fun e=>e.it.k,[],[]⟩,⟨l.map fun e=>e.it.i,[],[]⟩,⟨[],l.map fun e=>e.here,[]⟩,⟨[],l.map fun e=>e.tf,[]⟩,⟨l.map fun e=>e.tk.k,[],[]⟩,⟨l.map fun e=>e.tk.i,[],[]⟩]⟩
theorem aj2 {α:Type} (v:α):cut [v] 0 1=[v]:=rfl
abbrev oMk (l:List Mk):Option (SB Rt):=aa (.inr (.inl (49,anZ l)))
def agp:Prim Rt:=fun args hh=>match args,hh with
 |[.pointer (aa ⟨0,0,aj⟩)],[aa (.inl (98,[.int .i64 c,.pointer (aa ⟨1,0,aj⟩),.pointer (aa ⟨2,0,aj⟩),.pointer (aa ⟨3,0,aj⟩)])),aa (.inr (.inr (.inr (.inl (.tree s))))),aa (.inr (.inr (.inr (.inr (.tree g))))),aa (.inr (.inr (.inr (.inr (.tree h)))))]=>aa ⟨s.gv,.slice (aa ⟨4,0,aa 4000⟩) (⟨s,g,h,c⟩:QS).ops.length 0,aj,[bQ (mu (⟨s,g,h,c⟩:QS)),oM (mu (⟨s,g,h,c⟩:QS)).mt,oS (mu (⟨s,g,h,c⟩:QS)).pr,oS (mu (⟨s,g,h,c⟩:QS)).gn,oO (⟨s,g,h,c⟩:QS).ops],[],[(0,0)]⟩
 |_,_=>aj
theorem aho:b8 D2 Tryz.prog 29 (a9 agp):=by
 refine fx Tryz.f29 fun args hh x hx=>?_
 unfold agp at hx;split at hx
 ·rename_i c s g h;cases hx;refine q4 fun _ hv=>?_
  generalize hG:cj (R:=Rt) _ _=G;refine cK (T:=TQm) PO mixed 200 ?_;refine bM (q:=let Z5:=aC (aa ⟨1,0,aj⟩);let Z6:=bk ar;let Z1:=(↑(ae (eY s)):Int);let Z2:=(aC (aa ⟨0,0,aj⟩));let Z3:=(br (aa ⟨5,0,aa 4000⟩) 0 (aD Z1));let Z4:=(eY (dC s));Vc (fa s)/\Vc ((0:Int)≤(0:Int)/\(0:Int)≤Z1/\Z1*(32:Int)≤(140737488355328:Int)/\Z1≤(140737488355328:Int))/\Vc (fa (dC s))/\At D2 Tryz.prog (dI Tryz.f29) 4 (iB Tryz.prog (dw (dx Tryz.f29)) G) [.inl [1,1,0,1,0],.inr (.inl 0),.inl [1,1,1]] (SS.mk (aa Z2::aj::aa (br (aa ⟨4,0,aa 4000⟩) 0 0)::aa Z3::aj::aj::aa Z2::aa Z2::aa (aC (aa ⟨0,1,aj⟩))::aa (Z5)::aa (Z6 Z1)::aa Z3::aa Z2::aa Z2::aa (aC (aa ⟨0,1,aj⟩))::aa (Z5)::aa (br (aa ⟨6,0,aa 8000⟩) (ae Z4) 0)::aa (Z6 (↑(ae Z4):Int))::aa (Z6 0)::n4 (n4 (aj::aj::[]))) [] [aa (.inl (98,[Z6 c,Z5,.pointer (aa ⟨2,0,aj⟩),.pointer (aa ⟨3,0,aj⟩)])),oM (sx (dC s)),oS g,oS h,aa (.inr (.inl (45,Row.mk [Z6 0,.bool an,Z6 0,Z6 0] 0 [aW.mk [] [] [],aW.mk [] [] [],aW.mk [] [] [],aW.mk [] [] []]))),aa (.inr (.inl (45,Row.mk [Z6 0,.bool an,Z6 0,Z6 0] 0 [aW.mk [] [] [],aW.mk [] [] [],aW.mk [] [] [],aW.mk [] [] []]))),aa (.inr (.inl (49,Row.mk [Z6 0,.bool an,Z6 0,Z6 0,.bool an,.bool an,Z6 0,Z6 0] (ae Z4) [aW.mk (aw (fun e=>Mk.t e) Z4) [] [],aW.mk [] (aw (fun e=>Mk.ins e) Z4) [],aW.mk (aw (fun e=>It.k (Mk.it e)) Z4) [] [],aW.mk (aw (fun e=>It.i (Mk.it e)) Z4) [] [],aW.mk [] (aw (fun e=>Mk.here e) Z4) [],aW.mk [] (aw (fun e=>Mk.tf e) Z4) [],aW.mk (aw (fun e=>It.k (Mk.tk e)) Z4) [] [],aW.mk (aw (fun e=>It.i (Mk.tk e)) Z4) [] []])))])) ?_ (by kernel_rfl)
  intro Z5 Z6 Z1 Z2 Z3 Z4;subst Z4 Z3 Z2 Z1 Z6 Z5;have hb:=s.HR;refine⟨⟨hv⟩,⟨⟨by omega,by omega,by omega,by omega⟩⟩,⟨hv⟩,?_⟩
  have hL:(⟨s,g,h,c⟩:QS).ops.length=s.l.length:=fZ ..;refine kC (by kernel_rfl) (ι:=Nat×Nat) (fun x=>x.1≤s.l.length/\(x.1=s.l.length->x.2=0)) [3,16,17,18] (fun x=>[.slice (aa ⟨4,0,aa 4000⟩) ((⟨s,g,h,c⟩:QS).ops.take x.1).length x.2,.slice (aa ⟨5,0,aa 8000⟩) s.l.length 0,.int .i64 s.l.length,.int .i64 x.1]) (fun x=>[bQ (⟨s,g,h,c⟩:QS),oM s.seen.all,oS g,oS h,oO ((⟨s,g,h,c⟩:QS).ops.take x.1),oMk s.l]) (fun x=>s.l.length-x.1) 29 (fun i hi=>⟨rfl,rfl,by simp⟩) ⟨(0,(s.l.length:Int).toNat),⟨dv _,fun h=>by rw[← h];rfl⟩,⟨[0,1,2,3,5,6],rfl,⟨.inl rfl,rfl,rfl,rfl,⟨_,rfl,.inl rfl⟩,⟨_,rfl,.inl rfl⟩,trivial⟩,rfl,rfl,rfl,rfl⟩⟩ fun x hx=>?_
  obtain⟨i,cp⟩:=x;obtain⟨hi,UU⟩:=hx;simp only at hi UU ⊢;refine cK (T:=TQm) PO mixed 200 ?_;refine bM (q:=let Z4:=bk ar;let Z1:=(eY s);let Z2:=(↑(ae Z1):Int);let Z3:=(h_ i (QS.ops (QS.mk s g h c)));(decide ((↑i:Int)<Z2)=ao->Vc ((0:Int)≤(↑i:Int)/\(↑i:Int)<Z2/\0+ae Z1≤ae Z1)/\Vc (0+(i:Int).toNat<ae Z1)/\Vc (0+ae Z3≤ae Z3/\1≤1/\(ae Z3+1)*32≤140737488355328/\ae Z3+1≤140737488355328)/\Vc (fits ((↑i:Int)+(1:Int)))/\aY (∃ j,(ay j≤ae Z1/\(ay j=ae Z1->av j=0))/\ae Z1-ay j<ae Z1-i/\jJ Rt 4 29 [3,16,17,18] [.slice (aa ⟨4,0,aa 4000⟩) (ae (h_ (ay j) (QS.ops (QS.mk s g h c)))) (av j),.slice (aa ⟨5,0,aa 8000⟩) (ae Z1) 0,Z4 Z2,Z4 (↑(ay j):Int)] [bQ (QS.mk s g h c),oM (sx (dC s)),oS g,oS h,oO (h_ (ay j) (QS.ops (QS.mk s g h c))),oMk Z1] [aa (br (aa ⟨8,0,aa 4000⟩) (ae Z3+1) 0),aa (br (aa ⟨5,0,aa 8000⟩) (ae Z1) 0),aa (Z4 Z2),aa (Z4 ((↑i:Int)+(1:Int)))] [aa (.inl (98,[Z4 c,.pointer (aa ⟨1,0,aj⟩),.pointer (aa ⟨2,0,aj⟩),.pointer (aa ⟨3,0,aj⟩)])),oM (sx (dC s)),oS g,oS h,aj,aa (.inr (.inl (49,Row.mk [Z4 0,.bool an,Z4 0,Z4 0,.bool an,.bool an,Z4 0,Z4 0] (ae Z1) [aW.mk (aw (fun e=>Mk.t e) Z1) [] [],aW.mk [] (aw (fun e=>Mk.ins e) Z1) [],aW.mk (aw (fun e=>It.k (Mk.it e)) Z1) [] [],aW.mk (aw (fun e=>It.i (Mk.it e)) Z1) [] [],aW.mk [] (aw (fun e=>Mk.here e) Z1) [],aW.mk [] (aw (fun e=>Mk.tf e) Z1) [],aW.mk (aw (fun e=>It.k (Mk.tk e)) Z1) [] [],aW.mk (aw (fun e=>It.i (Mk.tk e)) Z1) [] []]))),aa (.inl (49,[Z4 (aB (aw (fun e=>Mk.t e) Z1) (0+(i:Int).toNat) (0:Int)),.bool (aB (aw (fun e=>Mk.ins e) Z1) (0+(i:Int).toNat) an),Z4 (aB (aw (fun e=>It.k (Mk.it e)) Z1) (0+(i:Int).toNat) (0:Int)),Z4 (aB (aw (fun e=>It.i (Mk.it e)) Z1) (0+(i:Int).toNat) (0:Int)),.bool (aB (aw (fun e=>Mk.here e) Z1) (0+(i:Int).toNat) an),.bool (aB (aw (fun e=>Mk.tf e) Z1) (0+(i:Int).toNat) an),Z4 (aB (aw (fun e=>It.k (Mk.tk e)) Z1) (0+(i:Int).toNat) (0:Int)),Z4 (aB (aw (fun e=>It.i (Mk.tk e)) Z1) (0+(i:Int).toNat) (0:Int))])),aa (.inr (.inl (45,Row.mk [Z4 0,.bool an,Z4 0,Z4 0] 1 [aW.mk [aB (aw (fun e=>Mk.t e) Z1) (0+(i:Int).toNat) (0:Int)] [] [],aW.mk [] [aB (aw (fun e=>Mk.ins e) Z1) (0+(i:Int).toNat) an] [],aW.mk [aB (aw (fun e=>It.k (Mk.it e)) Z1) (0+(i:Int).toNat) (0:Int)] [] [],aW.mk [aB (aw (fun e=>It.i (Mk.it e)) Z1) (0+(i:Int).toNat) (0:Int)] [] []]))),aa (.inr (.inl (45,Row.mk [Z4 0,.bool an,Z4 0,Z4 0] (ae Z3+1) [aW.mk (cut (aw Op.t Z3) 0 (ae Z3)++cut [aB (aw (fun e=>Mk.t e) Z1) (0+(i:Int).toNat) (0:Int)] 0 1) [] [],aW.mk [] (cut (aw Op.ins Z3) 0 (ae Z3)++cut [aB (aw (fun e=>Mk.ins e) Z1) (0+(i:Int).toNat) an] 0 1) [],aW.mk (cut (aw (fun o=>It.k (Op.it o)) Z3) 0 (ae Z3)++cut [aB (aw (fun e=>It.k (Mk.it e)) Z1) (0+(i:Int).toNat) (0:Int)] 0 1) [] [],aW.mk (cut (aw (fun o=>It.i (Op.it o)) Z3) 0 (ae Z3)++cut [aB (aw (fun e=>It.i (Mk.it e)) Z1) (0+(i:Int).toNat) (0:Int)] 0 1) [] []])))] 29))/\(decide ((↑i:Int)<Z2)=an->aY (G (br (aa ⟨4,0,aa 4000⟩) (ae Z3) cp) [aa (.inl (98,[Z4 c,.pointer (aa ⟨1,0,aj⟩),.pointer (aa ⟨2,0,aj⟩),.pointer (aa ⟨3,0,aj⟩)])),oM (sx (dC s)),oS g,oS h,aa (.inr (.inl (45,oR Z3))),aa (.inr (.inl (49,Row.mk [Z4 0,.bool an,Z4 0,Z4 0,.bool an,.bool an,Z4 0,Z4 0] (ae Z1) [aW.mk (aw (fun e=>Mk.t e) Z1) [] [],aW.mk [] (aw (fun e=>Mk.ins e) Z1) [],aW.mk (aw (fun e=>It.k (Mk.it e)) Z1) [] [],aW.mk (aw (fun e=>It.i (Mk.it e)) Z1) [] [],aW.mk [] (aw (fun e=>Mk.here e) Z1) [],aW.mk [] (aw (fun e=>Mk.tf e) Z1) [],aW.mk (aw (fun e=>It.k (Mk.tk e)) Z1) [] [],aW.mk (aw (fun e=>It.i (Mk.tk e)) Z1) [] []])))]))) ?_ (by kernel_rfl)
  intro Z4 Z1 Z2 Z3;subst Z3 Z2 Z1 Z4;have gS:∀ {β:Type} (f:Mk->β) (d:β),f mz=d->(s.l.map f).getD i d=f (s.l.getD i mz):=fun f d h=>by
   subst h;rw[au,au,fu];cases s.l[i]?<;>rfl
  have hS:i<s.l.length->(⟨s,g,h,c⟩:QS).ops.take (i+1)=(⟨s,g,h,c⟩:QS).ops.take i++[opM (s.l.getD i mz)]:=fun h=>by
   rw[take_one (by rw[hL];exact h)]
   unfold QS.ops;rw[au,fu,au,bc h];rfl
  have Gr:=List.length_take_le i (⟨s,g,h,c⟩:QS).ops;simp only[gS (fun e=>e.t) 0 rfl,gS (fun e=>e.ins) an rfl,gS (fun e=>e.it.k) 0 rfl,gS (fun e=>e.it.i) 0 rfl,gS (fun e=>e.here) an rfl,gS (fun e=>e.tf) an rfl,gS (fun e=>e.tk.k) 0 rfl,gS (fun e=>e.tk.i) 0 rfl,cm,aj2,SO]
  refine⟨fun h=>?_,fun h=>?_⟩
  ·have cd:i<s.l.length:=by have:=of_decide_eq_true h;omega
   refine⟨⟨by omega,by omega,by omega⟩,⟨by omega⟩,⟨by omega,by omega,by omega,by omega⟩,⟨by omega,by omega⟩,⟨(i+1,0),⟨cd,fun _=>rfl⟩,by simp only;omega,?_⟩⟩
   rw[hS cd];simp only[oO,oR,bE,cy,jX,dM,List.map_cons,List.map_nil,bW];exact⟨[0,1,2,3,8,5],rfl,⟨.inl rfl,rfl,rfl,rfl,⟨_,rfl,.inl rfl⟩,⟨_,rfl,.inl rfl⟩,trivial⟩,rfl,rfl,rfl,rfl⟩
  ·obtain rfl:i=s.l.length:=by have:=of_decide_eq_false h;omega
   obtain rfl:=UU rfl;refine⟨?_⟩;subst hG;rw[← hL,jB];exact⟨[0,1,2,3,4],rfl,rfl,⟨.inl rfl,rfl,rfl,rfl,⟨_,rfl,.inl rfl⟩,trivial⟩,rfl,rfl,rfl,rfl⟩
 ·cases hx
def ZV:Prim Rt:=fun args hh=>match args,hh with
 |[.pointer (aa ⟨0,0,aj⟩)],[aa (.inl (98,[.int .i64 c,.pointer (aa ⟨1,0,aj⟩),.pointer (aa ⟨2,0,aj⟩),.pointer (aa ⟨3,0,aj⟩)])),aa (.inr (.inr (.inr (.inl (.tree s))))),aa (.inr (.inr (.inr (.inr (.tree g))))),aa (.inr (.inr (.inr (.inr (.tree h)))))]=>aa ⟨(⟨s,g,h,c⟩:QS).Ok,.int .i64 (⟨s,g,h,c⟩:QS).ops.length,aj,[bQ (yC (⟨s,g,h,c⟩:QS)),oM (yC (⟨s,g,h,c⟩:QS)).mt,oS (yC (⟨s,g,h,c⟩:QS)).pr,oS (yC (⟨s,g,h,c⟩:QS)).gn],[],[(0,0)]⟩
 |_,_=>aj
theorem ahd:b8 D2 Tryz.prog 35 (a9 ZV):=by
 refine EB YK fun args hh x hx=>?_
 unfold ZV at hx;split at hx
 ·rename_i c s g h;cases hx;refine⟨_,rfl,by first|exact a_ _|exact kZ _|exact qz _ 2|exact(by decide:(4:Nat)≤6),lV rfl,(fun hw=>by first|rfl|cases hw),fun hv=>?_⟩
  have hq:HQ (⟨s,g,h,c⟩:QS) (⟨s,g,h,c⟩:QS).ops (⟨s,g,h,c⟩:QS).cap 90000:=hv;have e:s.l.length=(⟨s,g,h,c⟩:QS).ops.length:=(fZ ..).symm;refine⟨(hq.mb (by omega)).1,?_,rfl⟩
  show bk ar (s.l.length:Int)=_
  rw[e]
 ·cases hx
def aau:Prim Rt:=fun args hh=>match args,hh with
 |[.pointer (aa ⟨0,0,aj⟩)],[aa (.inl (98,[.int .i64 c,.pointer (aa ⟨1,0,aj⟩),.pointer (aa ⟨2,0,aj⟩),.pointer (aa ⟨3,0,aj⟩)])),aa (.inr (.inr (.inr (.inl (.tree s))))),aa (.inr (.inr (.inr (.inr (.tree g))))),aa (.inr (.inr (.inr (.inr (.tree h)))))]=>aa ⟨(⟨s,g,h,c⟩:QS).Ok,.int .i64 ((⟨s,g,h,c⟩:QS).ops.filter fun o=>!o.ins).length,aj,[bQ (sh (⟨s,g,h,c⟩:QS)),oM (sh (⟨s,g,h,c⟩:QS)).mt,oS (sh (⟨s,g,h,c⟩:QS)).pr,oS (sh (⟨s,g,h,c⟩:QS)).gn],[],[(0,0)]⟩
 |_,_=>aj
theorem ahu:b8 D2 Tryz.prog 36 (a9 aau):=by
 refine EB Y3 fun args hh x hx=>?_
 unfold aau at hx;split at hx
 ·rename_i c s g h;cases hx;refine⟨_,rfl,by first|exact a_ _|exact kZ _|exact qz _ 2|exact(by decide:(4:Nat)≤6),lV rfl,(fun hw=>by first|rfl|cases hw),fun hv=>?_⟩
  have hq:HQ (⟨s,g,h,c⟩:QS) (⟨s,g,h,c⟩:QS).ops (⟨s,g,h,c⟩:QS).cap 90000:=hv;refine⟨(hq.mb (by omega)).1,?_,rfl⟩
  show bk ar ((vw s.l).length:Int)=_
  rw[show s.l=gw (fin [] (⟨s,g,h,c⟩:QS).ops) (⟨s,g,h,c⟩:QS).ops from hq.m0,YS]
 ·cases hx
def Uh:Prim Rt:=fun args hh=>match args,hh with
 |[.pointer (aa ⟨0,0,aj⟩)],[aa (.inl (98,[.int .i64 c,.pointer (aa ⟨1,0,aj⟩),.pointer (aa ⟨2,0,aj⟩),.pointer (aa ⟨3,0,aj⟩)])),aa (.inr (.inr (.inr (.inl (.tree s))))),aa (.inr (.inr (.inr (.inr (.tree g))))),aa (.inr (.inr (.inr (.inr (.tree h)))))]=>aa ⟨(⟨s,g,h,c⟩:QS).Ok,.int .i64 (pk (⟨s,g,h,c⟩:QS).ops),aj,[bQ (nJ (⟨s,g,h,c⟩:QS)),oM (nJ (⟨s,g,h,c⟩:QS)).mt,oS (nJ (⟨s,g,h,c⟩:QS)).pr,oS (nJ (⟨s,g,h,c⟩:QS)).gn],[],[(0,0)]⟩
 |_,_=>aj
theorem X3:b8 D2 Tryz.prog 39 (a9 Uh):=by
 refine EB XN fun args hh x hx=>?_
 unfold Uh at hx;split at hx
 ·rename_i c s g h;cases hx;refine⟨_,rfl,by first|exact a_ _|exact kZ _|exact qz _ 2|exact(by decide:(4:Nat)≤6),lV rfl,(fun hw=>by first|rfl|cases hw),fun hv=>?_⟩
  have hq:HQ (⟨s,g,h,c⟩:QS) (⟨s,g,h,c⟩:QS).ops (⟨s,g,h,c⟩:QS).cap 90000:=hv;exact⟨hq.mb (by omega),by show bk ar (rK (⟨s,g,h,c⟩:QS))=_;rw[hq.pk],rfl⟩
 ·cases hx
def Zi:Prim Rt:=fun args hh=>match args,hh with
 |[.pointer (aa ⟨0,0,aj⟩)],[aa (.inl (98,[.int .i64 c,.pointer (aa ⟨1,0,aj⟩),.pointer (aa ⟨2,0,aj⟩),.pointer (aa ⟨3,0,aj⟩)])),aa (.inr (.inr (.inr (.inl (.tree s))))),aa (.inr (.inr (.inr (.inr (.tree g))))),aa (.inr (.inr (.inr (.inr (.tree h)))))]=>aa ⟨(⟨s,g,h,c⟩:QS).Ok,.slice (aa ⟨4,0,aa 4000⟩) (⟨s,g,h,c⟩:QS).ops.length 0,aj,[bQ (mu (⟨s,g,h,c⟩:QS)),oM (mu (⟨s,g,h,c⟩:QS)).mt,oS (mu (⟨s,g,h,c⟩:QS)).pr,oS (mu (⟨s,g,h,c⟩:QS)).gn,oO (⟨s,g,h,c⟩:QS).ops],[],[(0,0)]⟩
 |_,_=>aj
theorem ag9:b8 D2 Tryz.prog 29 (a9 Zi):=by
 refine EB aho fun args hh x hx=>?_
 unfold Zi at hx;split at hx
 ·rename_i c s g h;cases hx;refine⟨_,rfl,by first|exact a_ _|exact kZ _|exact qz _ 2|exact(by decide:(4:Nat)≤6),lV rfl,(fun hw=>by first|rfl|cases hw),fun hv=>?_⟩
  have hq:HQ (⟨s,g,h,c⟩:QS) (⟨s,g,h,c⟩:QS).ops (⟨s,g,h,c⟩:QS).cap 90000:=hv;exact⟨(hq.mb (by omega)).1,rfl,rfl⟩
 ·cases hx
def OY:Prim Rt:=fun args hh=>match args,hh with
 |[.pointer (aa ⟨0,0,aj⟩),.int .i64 t,.agg ⟨[.int .i64 a,.int .i64 b]⟩],[aa (.inl (98,[.int .i64 c,.pointer (aa ⟨1,0,aj⟩),.pointer (aa ⟨2,0,aj⟩),.pointer (aa ⟨3,0,aj⟩)])),aa (.inr (.inr (.inr (.inl (.tree s))))),aa (.inr (.inr (.inr (.inr (.tree g))))),aa (.inr (.inr (.inr (.inr (.tree h)))))]=>aa ⟨(⟨s,g,h,c⟩:QS).Ok/\(⟨s,g,h,c⟩:QS).ops.length≤59,.tuple #[.agg ⟨[.slice (aa ⟨4,0,aa 2000⟩) (dd (⟨s,g,h,c⟩:QS).ops (iC (⟨s,g,h,c⟩:QS).ops (⟨s,g,h,c⟩:QS).cap t ⟨a,b⟩)).length (dd (⟨s,g,h,c⟩:QS).ops (iC (⟨s,g,h,c⟩:QS).ops (⟨s,g,h,c⟩:QS).cap t ⟨a,b⟩)).length,.slice (aa ⟨5,0,aa 2000⟩) (dd (iC (⟨s,g,h,c⟩:QS).ops (⟨s,g,h,c⟩:QS).cap t ⟨a,b⟩) (⟨s,g,h,c⟩:QS).ops).length (dd (iC (⟨s,g,h,c⟩:QS).ops (⟨s,g,h,c⟩:QS).cap t ⟨a,b⟩) (⟨s,g,h,c⟩:QS).ops).length]⟩,.int .i64 (mo (⟨s,g,h,c⟩:QS).ops (⟨s,g,h,c⟩:QS).cap t ⟨a,b⟩)],aj,[bQ (iZ (⟨s,g,h,c⟩:QS) t ⟨a,b⟩),oM (iZ (⟨s,g,h,c⟩:QS) t ⟨a,b⟩).mt,oS (iZ (⟨s,g,h,c⟩:QS) t ⟨a,b⟩).pr,oS (iZ (⟨s,g,h,c⟩:QS) t ⟨a,b⟩).gn,oI (dd (⟨s,g,h,c⟩:QS).ops (iC (⟨s,g,h,c⟩:QS).ops (⟨s,g,h,c⟩:QS).cap t ⟨a,b⟩)),oI (dd (iC (⟨s,g,h,c⟩:QS).ops (⟨s,g,h,c⟩:QS).cap t ⟨a,b⟩) (⟨s,g,h,c⟩:QS).ops)],[],[(0,0)]⟩
 |_,_=>aj
theorem RW:b8 D2 Tryz.prog 24 (a9 OY):=by
 refine EB agv fun args hh x hx=>?_
 unfold OY at hx;split at hx
 ·rename_i t a b c s g h;cases hx;refine⟨_,rfl,by first|exact a_ _|exact kZ _|exact qz _ 2|exact(by decide:(4:Nat)≤6),lV rfl,(fun hw=>by first|rfl|cases hw),fun hv=>?_⟩
  have hq:HQ (⟨s,g,h,c⟩:QS) (⟨s,g,h,c⟩:QS).ops (⟨s,g,h,c⟩:QS).cap 90000:=hv.1;obtain⟨g1,g2,g3,g4,g5,g6⟩:=Ek (t:=t) (x:=⟨a,b⟩) hq hv.2 (a_ _);refine⟨g1,?_,?_⟩
  ·rw[← g5,g6,← g2]
  ·rw[← g5,g6]
 ·cases hx
def Qa:Prim Rt:=fun args hh=>match args,hh with
 |[.pointer (aa ⟨0,0,aj⟩),.int .i64 t],[aa (.inl (98,[.int .i64 c,.pointer (aa ⟨1,0,aj⟩),.pointer (aa ⟨2,0,aj⟩),.pointer (aa ⟨3,0,aj⟩)])),aa (.inr (.inr (.inr (.inl (.tree s))))),aa (.inr (.inr (.inr (.inr (.tree g))))),aa (.inr (.inr (.inr (.inr (.tree h)))))]=>aa ⟨(⟨s,g,h,c⟩:QS).Ok/\(⟨s,g,h,c⟩:QS).ops.length≤59,.tuple #[.agg ⟨[.slice (aa ⟨4,0,aa 2000⟩) (dd (⟨s,g,h,c⟩:QS).ops (iL (⟨s,g,h,c⟩:QS).ops (⟨s,g,h,c⟩:QS).cap t)).length (dd (⟨s,g,h,c⟩:QS).ops (iL (⟨s,g,h,c⟩:QS).ops (⟨s,g,h,c⟩:QS).cap t)).length,.slice (aa ⟨5,0,aa 2000⟩) (dd (iL (⟨s,g,h,c⟩:QS).ops (⟨s,g,h,c⟩:QS).cap t) (⟨s,g,h,c⟩:QS).ops).length (dd (iL (⟨s,g,h,c⟩:QS).ops (⟨s,g,h,c⟩:QS).cap t) (⟨s,g,h,c⟩:QS).ops).length]⟩,.int .i64 (nD (⟨s,g,h,c⟩:QS).ops (⟨s,g,h,c⟩:QS).cap t)],aj,[bQ (iK (⟨s,g,h,c⟩:QS) t),oM (iK (⟨s,g,h,c⟩:QS) t).mt,oS (iK (⟨s,g,h,c⟩:QS) t).pr,oS (iK (⟨s,g,h,c⟩:QS) t).gn,oI (dd (⟨s,g,h,c⟩:QS).ops (iL (⟨s,g,h,c⟩:QS).ops (⟨s,g,h,c⟩:QS).cap t)),oI (dd (iL (⟨s,g,h,c⟩:QS).ops (⟨s,g,h,c⟩:QS).cap t) (⟨s,g,h,c⟩:QS).ops)],[],[(0,0)]⟩
 |_,_=>aj
theorem Q8:b8 D2 Tryz.prog 25 (a9 Qa):=by
 refine EB ah8 fun args hh x hx=>?_
 unfold Qa at hx;split at hx
 ·rename_i t c s g h;cases hx;refine⟨_,rfl,by first|exact a_ _|exact kZ _|exact qz _ 2|exact(by decide:(4:Nat)≤6),lV rfl,(fun hw=>by first|rfl|cases hw),fun hv=>?_⟩
  have hq:HQ (⟨s,g,h,c⟩:QS) (⟨s,g,h,c⟩:QS).ops (⟨s,g,h,c⟩:QS).cap 90000:=hv.1;obtain⟨g1,g2,g3,g4,g5,g6⟩:=El (t:=t) hq hv.2 (a_ _);refine⟨g1,?_,?_⟩
  ·rw[← g6,g5,← g2]
  ·rw[← g6,g5]
 ·cases hx
def TZ:Prim Rt:=fun args hh=>match args,hh with
 |[.pointer (aa ⟨0,0,aj⟩),.int .i64 t],[aa (.inl (98,[.int .i64 c,.pointer (aa ⟨1,0,aj⟩),.pointer (aa ⟨2,0,aj⟩),.pointer (aa ⟨3,0,aj⟩)])),aa (.inr (.inr (.inr (.inl (.tree s))))),aa (.inr (.inr (.inr (.inr (.tree g))))),aa (.inr (.inr (.inr (.inr (.tree h)))))]=>aa ⟨(⟨s,g,h,c⟩:QS).Ok,.tuple #[.agg ⟨[.slice (aa ⟨4,0,aa 2000⟩) (dd (⟨s,g,h,c⟩:QS).ops (ly (⟨s,g,h,c⟩:QS).ops t)).length (dd (⟨s,g,h,c⟩:QS).ops (ly (⟨s,g,h,c⟩:QS).ops t)).length,.slice (aa ⟨5,0,aa 2000⟩) (dd (ly (⟨s,g,h,c⟩:QS).ops t) (⟨s,g,h,c⟩:QS).ops).length (dd (ly (⟨s,g,h,c⟩:QS).ops t) (⟨s,g,h,c⟩:QS).ops).length]⟩,.int .i64 (vF (⟨s,g,h,c⟩:QS).ops t)],aj,[bQ (j9 (⟨s,g,h,c⟩:QS) t),oM (j9 (⟨s,g,h,c⟩:QS) t).mt,oS (j9 (⟨s,g,h,c⟩:QS) t).pr,oS (j9 (⟨s,g,h,c⟩:QS) t).gn,oI (dd (⟨s,g,h,c⟩:QS).ops (ly (⟨s,g,h,c⟩:QS).ops t)),oI (dd (ly (⟨s,g,h,c⟩:QS).ops t) (⟨s,g,h,c⟩:QS).ops)],[],[(0,0)]⟩
 |_,_=>aj
theorem YN:b8 D2 Tryz.prog 27 (a9 TZ):=by
 refine EB ah1 fun args hh x hx=>?_
 unfold TZ at hx;split at hx
 ·rename_i t c s g h;cases hx;refine⟨_,rfl,by first|exact a_ _|exact kZ _|exact qz _ 2|exact(by decide:(4:Nat)≤6),lV rfl,(fun hw=>by first|rfl|cases hw),fun hv=>?_⟩
  have hq:HQ (⟨s,g,h,c⟩:QS) (⟨s,g,h,c⟩:QS).ops (⟨s,g,h,c⟩:QS).cap 90000:=hv;obtain⟨g1,g2,g3,g4,g5,g6⟩:=L0 (t:=t) hq (a_ _);refine⟨g1,?_,?_⟩
  ·rw[← g5,← g6,← g2]
  ·rw[← g5,← g6]
 ·cases hx
end Pa
namespace Pa
open Rx Wv Br Sh
set_option maxRecDepth 100000
set_option maxHeartbeats 8000000
def z1:Nat->Bool:=fun j=>fj j 1
abbrev sv (q:QS):Option (SB Rt):=aa (.inl (98,[.int .i64 q.cap,.pointer (aa ⟨2,0,aj⟩),.pointer (aa ⟨3,0,aj⟩),.pointer (aa ⟨4,0,aj⟩)]))
def OQ (a:Act):Int:=wR a.k 3
def yZ (l:List Op) (c:Int) (a:Act):Int:=if OQ a=2 then vF l (fy a l) else if OQ a=0 then mo l c (fy a l) a.x else nD l c (fy a l)
def uH (l:List Op) (c:Int) (a:Act):List Op:=if OQ a=2 then ly l (fy a l) else if OQ a=0 then iC l c (fy a l) a.x else iL l c (fy a l)
def lM (q:QS) (a:Act):QS:=if OQ a=2 then j9 q (fy a q.ops) else if OQ a=0 then iZ q (fy a q.ops) a.x else iK q (fy a q.ops)
theorem alD {q:QS} {l:List Op} {c:Int} {n:Nat} {a:Act} (h:HQ q l c n) (xa:l.length≤59) (hn:n≤90000):HQ (lM q a) (uH l c a) c (n+10)/\(lM q a).qZ≤q.qZ+10000*(vl l.length+4:Nat):=by
 unfold lM uH;rw[h.ops];split
 ·have:=L0 (t:=fy a l) h hn;exact⟨this.2.2.1,this.2.2.2.1⟩
 ·split
  ·have:=Ek (t:=fy a l) (x:=a.x) h xa hn;exact⟨this.2.2.1,this.2.2.2.1⟩
  ·have:=El (t:=fy a l) h xa hn;exact⟨this.2.2.1,this.2.2.2.1⟩
theorem abn {l:List Op} {c:Int} {a:Act} (h:yZ l c a≠0):uH l c a=l:=by
 unfold yZ at h;unfold uH;split
 ·rename_i k;rw[if_pos k] at h;unfold ly;rw[if_neg h]
 ·rename_i k;rw[if_neg k] at h;split
  ·rename_i k2;rw[if_pos k2] at h;unfold iC;rw[if_neg h]
  ·rename_i k2;rw[if_neg k2] at h;unfold iL;rw[if_neg h]
theorem aif {l:List Op} {c:Int} {a:Act}:(uH l c a).length≤l.length+1:=by
 unfold uH;split
 ·unfold ly;split
  ·unfold sr;rw[bE,ej,jC];omega
  ·omega
 ·split
  ·unfold iC;split
   ·rw[OB];exact a_ _
   ·omega
  ·unfold iL;split
   ·rw[OB];exact a_ _
   ·omega
def CR (l:List Op) (i:Nat):Nat:=((l.take i).filter fun o=>!o.ins).length
theorem ahg (l:List Op):CR l l.length=(l.filter fun o=>!o.ins).length:=by unfold CR;rw[jB]
theorem ak' (l:List Op) (i:Nat):CR l i≤l.length:=by
 unfold CR;have h1:=rD (fun o:Op=>!o.ins) (l.take i)
 rw[ej] at h1;omega
theorem ag2 {l:List Op} {i:Nat} (h:i<l.length):CR l (i+1)=CR l i+if(l.getD i oz).ins=ao then 0 else 1:=by
 unfold CR;rw[take_one h,mB,bE,j5];cases(l.getD i oz).ins<;>rfl
def anC (q:QS):QS:={ q with pr:=q.pr.seen.all }
def anp (q:QS):QS:={ q with gn:=q.gn.seen.all }
def yy (q:QS):QS:=anp (anC (mu (nJ (sh (yC q)))))
theorem ajM {q:QS} {l:List Op} {c:Int} {n:Nat} (h:HQ q l c n) (hn:n≤100000):HQ (yC q) l c (n+1):=(h.look (h.mq.len_ (h.MT hn) (by omega)) (by omega)).1
theorem ai5 {q:QS} {l:List Op} {c:Int} {n:Nat} (h:HQ q l c n) (hn:n≤100000):HQ (sh q) l c (n+1):=(h.look (h.mq.alu (h.MT hn) (by omega)) (by omega)).1
theorem aiD {q:QS} {l:List Op} {c:Int} {n:Nat} (h:HQ q l c n) (hn:n≤100000):HQ (nJ q) l c (n+1):=(h.look (h.mq.aex (h.MT hn) (by omega)) (by omega)).1
theorem ajp {q:QS} {l:List Op} {c:Int} {n:Nat} (h:HQ q l c n) (hn:n≤100000):HQ (mu q) l c (n+1):=(h.look (h.mq.ann (h.MT hn) (by omega)) (by omega)).1
abbrev QS.Hf (q:QS):Prop:=HQ q q.ops q.cap 80000
def THo:eM Rt:=[(19,s_ z0 2 (a9 aaF)),(35,bJ zN 2 (a9 ZV)),(36,bJ zN 2 (a9 aau)),(39,bJ zN 2 (a9 Uh)),(29,bJ zN 2 (a9 Zi)),(23,bJ zN 2 (a9 Zk)),(37,bJ zN 2 (a9 ZD)),(28,s_ z01 2 (a9 adD)),(22,bJ zN 2 (c9 (a9 G9.Ur))),(26,s_ z01 2 (a9 TT))]
theorem acD:cN D2 Tryz.prog THo:=⟨nE _ _ aby,aT _ _ ahd,aT _ _ ahu,aT _ _ X3,aT _ _ ag9,aT _ _ ah4,aT _ _ agK,nE _ _ ajL,aT _ _ (wH G9.aeN),nE _ _ XR,trivial⟩
def aaa:Prim Rt:=fun args hh=>match args,hh with
 |[.pointer (aa ⟨0,0,aj⟩),.slice (aa ⟨1,0,aa 4000⟩) n cc],[aa (.inl (98,[.int .i64 c,.pointer (aa ⟨2,0,aj⟩),.pointer (aa ⟨3,0,aj⟩),.pointer (aa ⟨4,0,aj⟩)])),aa (.inr (.inr (.inl r))),aa (.inr (.inr (.inr (.inl (.tree s))))),aa (.inr (.inr (.inr (.inr (.tree g))))),aa (.inr (.inr (.inr (.inr (.tree h)))))]=>aa ⟨(r=oR (⟨s,g,h,c⟩:QS).ops/\n=(⟨s,g,h,c⟩:QS).ops.length)/\(⟨s,g,h,c⟩:QS).Hf,.bool ao,aj,[sv (yy (⟨s,g,h,c⟩:QS)),vO (⟨s,g,h,c⟩:QS).ops,oM (yy (⟨s,g,h,c⟩:QS)).mt,oS (yy (⟨s,g,h,c⟩:QS)).pr,oS (yy (⟨s,g,h,c⟩:QS)).gn],[],[(0,0)]⟩
 |_,_=>aj
theorem ag5:b8 D2 Tryz.prog 18 (a9 aaa):=by
 refine fx Tryz.f18 fun args hh x hx=>?_
 unfold aaa at hx;split at hx
 ·rename_i n cc c r s g h;cases hx;refine q4 fun _ hv=>?_
  obtain⟨⟨hr,rfl⟩,hq⟩:=hv;have hq:HQ (⟨s,g,h,c⟩:QS) (⟨s,g,h,c⟩:QS).ops c 80000:=hq;generalize hO:(⟨s,g,h,c⟩:QS).ops=l at *;subst hr
  generalize hG:cj (R:=Rt) _ _=G;refine cK (T:=THo) acD mixed 200 ?_;refine bM (q:=let Z7:=bk ar;let Z1:=(uO (pR l 0 l.length));let Z2:=(br (aa ⟨1,0,aa 4000⟩) l.length cc);let Z3:=(br (aa ⟨6,0,aa 2000⟩) (ae (fin [] Z1)) 0);let Z4:=(br (aa ⟨7,0,aa 2000⟩) (ae (mY (tk [] Z1))) 0);let Z5:=(br (aa ⟨8,0,aa 3000⟩) (ae (ko [] Z1)) 0);let Z6:=(cr (aP [.slice (aa ⟨6,0,aa 2000⟩) (ae (fin [] Z1)) 0,.slice (aa ⟨7,0,aa 2000⟩) (ae (mY (tk [] Z1))) 0,Z7 (↑(gE [] Z1):Int),.slice (aa ⟨8,0,aa 3000⟩) (ae (ko [] Z1)) 0]));Vc ((0+ae l≤ae l/\True)/\pR l 0 l.length=oR Z1/\ae l=ae Z1/\ae Z1≤100/\List.Nodup (gB Z1))/\At D2 Tryz.prog (dI Tryz.f18) 5 (iB Tryz.prog (dw (dx Tryz.f18)) G) [.inl [1,1,1,0,1,0],.inr (.inl 0),.inl [1,1,1,1]] (SS.mk (aa (aC (aa ⟨0,0,aj⟩))::aa Z2::aj::aj::aa (aE an)::aa Z3::aa Z4::aa (Z7 (↑(gE [] Z1):Int))::aa Z5::aa (Z7 0)::aa (Z7 0)::aa Z6::aa Z2::aa Z6::aa Z3::aa Z4::aa (Z7 (↑(gE [] Z1):Int))::aa Z5::nH (nH (nH (aj::aj::aj::[])))) [(4,an)] [aa (.inl (98,[Z7 c,.pointer (aa ⟨2,0,aj⟩),.pointer (aa ⟨3,0,aj⟩),.pointer (aa ⟨4,0,aj⟩)])),aa (.inr (.inr (.inl (oR l)))),oM s,oS g,oS h,aj,aa (.inr (.inl (31,iR (fin [] Z1)))),aa (.inr (.inl (31,iR (mY (tk [] Z1))))),aa (.inr (.inl (47,Row.mk [.bool an,Z7 0,Z7 0] (ae (ko [] Z1)) [aW.mk [] (aw iy (ko [] Z1)) [],aW.mk (aw (fun x=>It.k (gU x (It.mk (0:Int) (0:Int)))) (ko [] Z1)) [] [],aW.mk (aw (fun x=>It.i (gU x (It.mk (0:Int) (0:Int)))) (ko [] Z1)) [] []])))])) ?_ (by kernel_rfl)
  intro Z7 Z1 Z2 Z3 Z4 Z5 Z6;subst Z6 Z5 Z4 Z3 Z2 Z1 Z7;simp only[uW,FB,CC];have hb:=hq.FO;refine⟨⟨⟨by omega,trivial⟩,trivial,trivial,by omega,hq.nd⟩,?_⟩
  refine kC (by kernel_rfl) (ι:=Nat) (fun i=>i≤l.length) [0,1,5,6,7,9,10] (fun i=>[.pointer (aa ⟨0,0,aj⟩),.slice (aa ⟨1,0,aa 4000⟩) l.length cc,.slice (aa ⟨5,0,aa 2000⟩) (fin [] l).length 0,.slice (aa ⟨6,0,aa 2000⟩) (mY (tk [] l)).length 0,.int .i64 (gE [] l),.int .i64 (CR l i),.int .i64 i]) (fun i=>[aa (.inl (98,[.int .i64 c,.pointer (aa ⟨2,0,aj⟩),.pointer (aa ⟨3,0,aj⟩),.pointer (aa ⟨4,0,aj⟩)])),vO l,oM s,oS g,oS h,oI (fin [] l),oI (mY (tk [] l))]) (fun i=>l.length-i) 69 (fun i hi=>⟨rfl,rfl,by simp⟩) ⟨0,dv _,⟨[0,1,2,3,4,6,7],rfl,⟨.inl rfl,rfl,rfl,rfl,rfl,⟨_,rfl,.inl rfl⟩,⟨_,rfl,.inl rfl⟩,trivial⟩,rfl,rfl,rfl,rfl⟩⟩ fun i hi=>?_
  refine cK (T:=THo) acD mixed 200 ?_;refine bM (q:=let gm:=aC (aa ⟨2,0,aj⟩);let me:=aC (aa ⟨0,0,aj⟩);let iI:=aC (aa ⟨4,0,aj⟩);let e8:=aC (aa ⟨3,0,aj⟩);let kS:=bk ar;let Z1:=(ae (fin [] l));let Z2:=(mY (tk [] l));let Z3:=(br (aa ⟨1,0,aa 4000⟩) l.length cc);let Z4:=(br (aa ⟨6,0,aa 2000⟩) (ae Z2) 0);let Z5:=(yC (QS.mk s g h c));let Z6:=(nJ (sh Z5));let Z7:=(uO (pR (QS.ops Z6) 0 (ae (QS.ops Z6))));let Z8:=(uO (pR (QS.ops Z6) 0 (ae (QS.ops Z6)))=uO (pR l 0 l.length));let Z9:=(G9.iW (QS.pr (mu Z6)));let dJ:=(gu (nR Z9 0 (ae (eY (QS.pr (mu Z6))))));let cq:=(gu (nR Z9 0 (ae (eY (QS.pr (mu Z6)))))=gu (nR (fin [] l) 0 Z1));let dD:=(G9.iW (QS.gn (mu Z6)));let fC:=(gu (nR dD 0 (ae (eY (QS.gn (mu Z6))))));(decide ((↑i:Int)<(↑l.length:Int))=ao->Vc ((0:Int)≤(↑i:Int)/\(↑i:Int)<(↑l.length:Int)/\0+ae l≤ae l)/\Vc (0+(i:Int).toNat<ae l)/\((!aB (aw Op.ins l) (0+(i:Int).toNat) an)=ao->Vc (fits ((↑(CR l i):Int)+(1:Int)))/\Vc (fits ((↑i:Int)+(1:Int)))/\aY (∃ j,j≤ae l/\ae l-j<ae l-i/\jJ Rt 5 69 [0,1,5,6,7,9,10] [me,.slice (aa ⟨1,0,aa 4000⟩) l.length cc,.slice (aa ⟨5,0,aa 2000⟩) Z1 0,.slice (aa ⟨6,0,aa 2000⟩) (ae Z2) 0,kS (↑(gE [] l):Int),kS (↑(CR l j):Int),kS (↑j:Int)] [aa (.inl ((98:TypeId),[kS c,gm,e8,iI])),vO l,oM s,oS g,oS h,oI (fin [] l),oI Z2] [aa (me),aa Z3,aa (br (aa ⟨5,0,aa 2000⟩) Z1 0),aa Z4,aa (kS (↑(gE [] l):Int)),aa (kS ((↑(CR l i):Int)+(1:Int))),aa (kS ((↑i:Int)+(1:Int)))] [aa (.inl (98,[kS c,gm,e8,iI])),aa (.inr (.inr (.inl (oR l)))),oM s,oS g,oS h,aa (.inr (.inl (31,iR (fin [] l)))),aa (.inr (.inl (31,iR Z2)))] 69))/\((!aB (aw Op.ins l) (0+(i:Int).toNat) an)=an->Vc (fits ((↑i:Int)+(1:Int)))/\aY (∃ j,j≤ae l/\ae l-j<ae l-i/\jJ Rt 5 69 [0,1,5,6,7,9,10] [me,.slice (aa ⟨1,0,aa 4000⟩) l.length cc,.slice (aa ⟨5,0,aa 2000⟩) Z1 0,.slice (aa ⟨6,0,aa 2000⟩) (ae Z2) 0,kS (↑(gE [] l):Int),kS (↑(CR l j):Int),kS (↑j:Int)] [aa (.inl ((98:TypeId),[kS c,gm,e8,iI])),vO l,oM s,oS g,oS h,oI (fin [] l),oI Z2] [aa (me),aa Z3,aa (br (aa ⟨5,0,aa 2000⟩) Z1 0),aa Z4,aa (kS (↑(gE [] l):Int)),aa (kS (↑(CR l i):Int)),aa (kS ((↑i:Int)+(1:Int)))] [aa (.inl (98,[kS c,gm,e8,iI])),aa (.inr (.inr (.inl (oR l)))),oM s,oS g,oS h,aa (.inr (.inl (31,iR (fin [] l)))),aa (.inr (.inl (31,iR Z2)))] 69)))/\(decide ((↑i:Int)<(↑l.length:Int))=an->Vc (QS.Ok (QS.mk s g h c))/\(((↑(ae (QS.ops (QS.mk s g h c))):Int)==(↑l.length:Int))=ao->Vc (QS.Ok Z5)/\(((↑(ae (XM (fun o=>!Op.ins o) (QS.ops Z5))):Int)==(↑(CR l i):Int))=ao->Vc (QS.Ok (sh Z5))/\((pk (QS.ops (sh Z5))==(↑(gE [] l):Int))=ao->Vc (QS.Ok Z6)/\Vc ((0+ae (QS.ops Z6)≤ae (QS.ops Z6)/\0+ae l≤ae l/\True)/\pR (QS.ops Z6) 0 (ae (QS.ops Z6))=oR Z7/\ae (QS.ops Z6)=ae Z7/\pR l 0 l.length=oR (uO (pR l 0 l.length))/\ae l=ae (uO (pR l 0 l.length))/\ae Z7≤100000)/\(decide Z8=ao->Vc True/\Vc (fa (QS.pr (mu Z6)))/\Vc ((0+ae (eY (QS.pr (mu Z6)))≤ae Z9/\0+ae (fin [] l)≤ae (fin [] l)/\True)/\nR Z9 0 (ae (eY (QS.pr (mu Z6))))=iR dJ/\ae (eY (QS.pr (mu Z6)))=ae dJ/\nR (fin [] l) 0 Z1=iR (gu (nR (fin [] l) 0 Z1))/\ae (fin [] l)=ae (gu (nR (fin [] l) 0 Z1))/\ae dJ≤100000)/\(decide cq=ao->Vc True/\Vc (fa (QS.gn (mu Z6)))/\Vc ((0+ae (eY (QS.gn (mu Z6)))≤ae dD/\0+ae Z2≤ae Z2/\True)/\nR dD 0 (ae (eY (QS.gn (mu Z6))))=iR fC/\ae (eY (QS.gn (mu Z6)))=ae fC/\nR Z2 0 (ae Z2)=iR (gu (nR Z2 0 (ae Z2)))/\ae Z2=ae (gu (nR Z2 0 (ae Z2)))/\ae fC≤100000)/\aY (G (aE (decide (gu (nR dD 0 (ae (eY (QS.gn (mu Z6)))))=gu (nR Z2 0 (ae Z2))))) [aa (.inl (98,[kS (QS.cap (mu Z6)),gm,e8,iI])),aa (.inr (.inr (.inl (oR l)))),oM (QS.mt (mu Z6)),oS (sx (dC (QS.pr (mu Z6)))),oS (sx (dC (QS.gn (mu Z6)))),aa (.inr (.inl (31,iR (fin [] l)))),aa (.inr (.inl (31,iR Z2))),aa (.inr (.inl (45,oR (QS.ops Z6)))),aa (.inr (.inl (31,iR Z9))),aa (.inr (.inl (31,iR dD)))]))/\(decide cq=an->aY (G (aE an) [aa (.inl (98,[kS (QS.cap (mu Z6)),gm,e8,iI])),aa (.inr (.inr (.inl (oR l)))),oM (QS.mt (mu Z6)),oS (sx (dC (QS.pr (mu Z6)))),oS (QS.gn (mu Z6)),aa (.inr (.inl (31,iR (fin [] l)))),aa (.inr (.inl (31,iR Z2))),aa (.inr (.inl (45,oR (QS.ops Z6)))),aa (.inr (.inl (31,iR Z9)))])))/\(decide Z8=an->aY (G (aE an) [aa (.inl (98,[kS (QS.cap (mu Z6)),gm,e8,iI])),aa (.inr (.inr (.inl (oR l)))),oM (QS.mt (mu Z6)),oS (QS.pr (mu Z6)),oS (QS.gn (mu Z6)),aa (.inr (.inl (31,iR (fin [] l)))),aa (.inr (.inl (31,iR Z2))),aa (.inr (.inl (45,oR (QS.ops Z6))))])))/\((pk (QS.ops (sh Z5))==(↑(gE [] l):Int))=an->aY (G (aE an) [aa (.inl (98,[kS (QS.cap Z6),gm,e8,iI])),aa (.inr (.inr (.inl (oR l)))),oM (QS.mt Z6),oS (QS.pr Z6),oS (QS.gn Z6),aa (.inr (.inl (31,iR (fin [] l)))),aa (.inr (.inl (31,iR Z2)))])))/\(((↑(ae (XM (fun o=>!Op.ins o) (QS.ops Z5))):Int)==(↑(CR l i):Int))=an->aY (G (aE an) [aa (.inl (98,[kS (QS.cap (sh Z5)),gm,e8,iI])),aa (.inr (.inr (.inl (oR l)))),oM (QS.mt (sh Z5)),oS (QS.pr (sh Z5)),oS (QS.gn (sh Z5)),aa (.inr (.inl (31,iR (fin [] l)))),aa (.inr (.inl (31,iR Z2)))])))/\(((↑(ae (QS.ops (QS.mk s g h c))):Int)==(↑l.length:Int))=an->aY (G (aE an) [aa (.inl (98,[kS (QS.cap Z5),gm,e8,iI])),aa (.inr (.inr (.inl (oR l)))),oM (QS.mt Z5),oS (QS.pr Z5),oS (QS.gn Z5),aa (.inr (.inl (31,iR (fin [] l)))),aa (.inr (.inl (31,iR Z2)))])))) ?_ (by kernel_rfl)
  intro gm me iI e8 kS Z1 Z2 Z3 Z4 Z5 Z6 Z7 Z8 Z9 dJ cq dD fC;subst fC dD cq dJ Z9 Z8 Z7 Z6 Z5 Z4 Z3 Z2 Z1 kS e8 iI me gm;have AO:=ak' l i;simp only[SO,yv Op.ins an rfl];refine⟨fun hh=>?_,fun hh=>?_⟩
  ·have cd:i<l.length:=by have:=of_decide_eq_true hh;omega
   have b1:(0:Int)≤(i:Int)/\(i:Int)<(l.length:Int)/\0+l.length≤l.length:=⟨by omega,by omega,by omega⟩
   have h1:=ag2 cd;refine⟨⟨b1⟩,⟨cd⟩,fun h2=>⟨⟨by omega,by omega⟩,⟨by omega,by omega⟩,⟨i+1,cd,by omega,?_⟩⟩,fun h2=>⟨⟨by omega,by omega⟩,⟨i+1,cd,by omega,?_⟩⟩⟩
   ·have h3:(l.getD i oz).ins=an:=by simpa using h2
    rw[if_neg (by rw[h3];decide)] at h1
    have h1:(CR l (i+1):Int)=CR l i+1:=by omega
    rw[h1];exact⟨[0,1,2,3,4,5,6],rfl,⟨.inl rfl,rfl,rfl,rfl,rfl,⟨_,rfl,.inl rfl⟩,⟨_,rfl,.inl rfl⟩,trivial⟩,rfl,rfl,rfl,rfl⟩
   ·have h3:(l.getD i oz).ins=ao:=by simpa using h2
    rw[if_pos h3,Nat.add_zero] at h1;rw[h1];exact⟨[0,1,2,3,4,5,6],rfl,⟨.inl rfl,rfl,rfl,rfl,rfl,⟨_,rfl,.inl rfl⟩,⟨_,rfl,.inl rfl⟩,trivial⟩,rfl,rfl,rfl,rfl⟩
  ·obtain rfl:i=l.length:=by have:=of_decide_eq_false hh;omega
   have q1:=ajM hq (by omega)
   have q2:=ai5 q1 (by omega)
   have q3:=aiD q2 (by omega)
   have q4:=ajp q3 (by omega)
   have i1:=G9.YF q4.p0;have i2:G9.iW (mu (nJ (sh (yC (⟨s,g,h,c⟩:QS))))).gn=mY (tk [] l):=G9.YF q4.g0;have n1:(mu (nJ (sh (yC (⟨s,g,h,c⟩:QS))))).pr.l.length=(fin [] l).length:=by rw[q4.p0];exact fZ ..
   have n2:(mu (nJ (sh (yC (⟨s,g,h,c⟩:QS))))).gn.l.length=(mY (tk [] l)).length:=by rw[q4.g0];exact fZ ..
   have l1:=Cq l;have l2:=TO l;have l2:(mY (tk [] l)).length≤l.length:=l2;have fw:∀ s:T9,s.n≤90000->s.gv:=fun s hs=>Nat.lt_of_le_of_lt hs (by decide)
   have f2:=(q4.mb (by omega)).2.1
   have f3:=(q4.mb (by omega)).2.2
   simp only[hO,q1.ops,q2.ops,q3.ops,i1,i2,n1,n2,ahg,uW,CC,Cr,CP,pk,beq_self_eq_true,eq_self,decide_true];refine⟨⟨(hq.mono (by omega)).ok⟩,fun _=>⟨⟨(q1.mono (by omega)).ok⟩,fun _=>⟨⟨(q2.mono (by omega)).ok⟩,fun _=>⟨⟨(q3.mono (by omega)).ok⟩,⟨⟨by omega,by omega,trivial⟩,trivial,trivial,trivial,trivial,by omega⟩,fun _=>⟨⟨trivial⟩,⟨f2⟩,⟨⟨by omega,by omega,trivial⟩,trivial,trivial,trivial,trivial,by omega⟩,fun _=>⟨⟨trivial⟩,⟨f3⟩,⟨⟨by omega,by omega,trivial⟩,trivial,trivial,trivial,trivial,by omega⟩,⟨?_⟩⟩,fun h=>by cases h⟩,fun h=>by cases h⟩,fun h=>by cases h⟩,fun h=>by cases h⟩,fun h=>by cases h⟩
   subst hG;exact⟨[0,1,2,3,4],rfl,rfl,⟨.inl rfl,rfl,rfl,rfl,rfl,trivial⟩,rfl,rfl,rfl,rfl⟩
 ·cases hx
end Pa
namespace Pa
open Go.RowKit Rx Wv Br Sh
set_option maxRecDepth 100000
set_option maxHeartbeats 16000000
theorem U7 (c:Int):HQ (t_ c) [] (yA c) 0:=by
 have hc:0≤yA c/\yA c≤65536:=by unfold yA;omega
 have e:min (max (yA c) 0) 16777216=yA c:=by omega
 exact⟨⟨rfl,rfl,rfl,rfl,e,e,e,a_ _,a_ _,a_ _,⟨nN _,nN _⟩,⟨nN _,nN _⟩,⟨nN _,nN _⟩⟩,r9,List.nodup_nil,(fun o h=>by cases h),⟨hc.1,hc.2⟩,dv _,nN _,nN _,nN _⟩
def SC:eM Rt:=[(15,bJ zN 2 (a9 T7)),(24,bJ zN 2 (a9 OY)),(25,bJ zN 2 (a9 Qa)),(27,bJ zN 2 (a9 TZ)),(39,bJ zN 2 (a9 Uh))]
theorem Fz:cN D2 Tryz.prog SC:=⟨aT _ _ X5,aT _ _ RW,aT _ _ Q8,aT _ _ YN,aT _ _ X3,trivial⟩
abbrev bCw (a b i j:Nat):Option (SB Rt):=aa (.inl (59,[.slice (aa ⟨i,0,aa 2000⟩) a a,.slice (aa ⟨j,0,aa 2000⟩) b b]))
theorem ahz {G:Value->Hp Rt->Prop} (hG:∀ rest,G (.bool ao) rest):At D2 Tryz.prog (dI Tryz.f14) 0 (iB Tryz.prog Tryz.f14.results.toList G) [.inl []] ⟨vG []++List.replicate (Tryz.f14.ntmps-0) aj,[],[]⟩:=by
 refine mP (T:=SC) [[1,1,1]] Fz mixed 200 ?_;refine bM (q:=let Z1:=(aC (aa ⟨0,0,aj⟩));Vc True/\At D2 Tryz.prog (dI Tryz.f14) 0 (iB Tryz.prog (dw (dx Tryz.f14)) G) [.inl [1,1,1]] (SS.mk (aa (aE an)::aa Z1::n4 (aa Z1::aa Z1::aa (aE an)::nH (nH (nH (n4 (aj::[])))))) [(8,an),(0,an)] [aa (.inl (98,[.int ar 9,.pointer (aa ⟨1,0,aj⟩),.pointer (aa ⟨2,0,aj⟩),.pointer (aa ⟨3,0,aj⟩)])),oM (QS.mt (t_ (9:Int))),oS (QS.pr (t_ (9:Int))),oS (QS.gn (t_ (9:Int)))])) ?_ (by kernel_rfl)
 intro Z1;subst Z1;refine⟨⟨trivial⟩,At.fit [1] [.pointer (aa ⟨0,0,aj⟩)] [bQ (t_ 9),oM (t_ 9).mt,oS (t_ 9).pr,oS (t_ 9).gn] 62 ⟨rfl,rfl,by simp⟩ ⟨[0,1,2,3],rfl,⟨.inl rfl,rfl,rfl,rfl,trivial⟩,rfl,rfl,rfl,rfl⟩ ?_⟩
 have h0:HQ (t_ 9) [] 9 0:=U7 9;generalize t_ 9=q at h0 ⊢;refine mP (T:=SC) [[1,1,1,1]] Fz mixed 200 ?_;refine bM (q:=let Z1:=(iC (QS.ops q) (QS.cap q) (1:Int) (It.mk (5:Int) (0:Int)));let Z2:=(iZ q (1:Int) (It.mk (5:Int) (0:Int)));Vc (QS.Ok q/\ae (QS.ops q)≤59)/\At D2 Tryz.prog (dI Tryz.f14) 0 (iB Tryz.prog (dw (dx Tryz.f14)) G) [.inl [1,1,1,1]] (SS.mk (aj::aa (aC (aa ⟨0,0,aj⟩))::n4 (aj::aj::aj::aa (aC (aa ⟨0,0,aj⟩))::aa (bG (aP [.int ar 5,.int ar 0]))::aa (cr (aP [.agg (aP [.slice (aa ⟨4,0,aa 2000⟩) (ae (dd (QS.ops q) Z1)) (ae (dd (QS.ops q) Z1)),.slice (aa ⟨5,0,aa 2000⟩) (ae (dd Z1 (QS.ops q))) (ae (dd Z1 (QS.ops q)))]),.int ar (mo (QS.ops q) (QS.cap q) (1:Int) (It.mk (5:Int) (0:Int)))]))::nH (nH (nH (aj::aj::[]))))) [] [aa (.inl (98,[.int ar (QS.cap Z2),.pointer (aa ⟨1,0,aj⟩),.pointer (aa ⟨2,0,aj⟩),.pointer (aa ⟨3,0,aj⟩)])),oM (QS.mt Z2),oS (QS.pr Z2),oS (QS.gn Z2),aa (.inr (.inl (31,iR (dd (QS.ops q) Z1)))),aa (.inr (.inl (31,iR (dd Z1 (QS.ops q)))))])) ?_ (by kernel_rfl)
 intro Z1 Z2;subst Z2 Z1;refine⟨⟨(h0.mono (by decide)).ok,by rw[h0.ops];decide⟩,At.fit [1] [.pointer (aa ⟨0,0,aj⟩)] [bQ (iZ q 1 ⟨5,0⟩),oM (iZ q 1 ⟨5,0⟩).mt,oS (iZ q 1 ⟨5,0⟩).pr,oS (iZ q 1 ⟨5,0⟩).gn] 62 ⟨rfl,rfl,by simp⟩ ⟨[0,1,2,3],rfl,⟨.inl rfl,rfl,rfl,rfl,trivial⟩,rfl,rfl,rfl,rfl⟩ ?_⟩
 have h1:HQ (iZ q 1 ⟨5,0⟩) ([⟨1,ao,⟨5,0⟩⟩]:List Op) 9 10:=(Ek (t:=1) (x:=⟨5,0⟩) h0 (by decide) (by decide)).2.2.1
 generalize(iZ q 1 ⟨5,0⟩)=q1 at h1 ⊢;refine mP (T:=SC) [[1,1,1,1,1]] Fz mixed 200 ?_;refine bM (q:=let Z1:=(iC (QS.ops q1) (QS.cap q1) (2:Int) (It.mk (3:Int) (0:Int)));let Z2:=(iZ q1 (2:Int) (It.mk (3:Int) (0:Int)));Vc (QS.Ok q1/\ae (QS.ops q1)≤59)/\At D2 Tryz.prog (dI Tryz.f14) 0 (iB Tryz.prog (dw (dx Tryz.f14)) G) [.inl [1,1,1,1,1]] (SS.mk (aj::aa (aC (aa ⟨0,0,aj⟩))::n4 (n4 (aj::aj::aa (aC (aa ⟨0,0,aj⟩))::aa (bG (aP [.int ar 3,.int ar 0]))::aa (cr (aP [.agg (aP [.slice (aa ⟨4,0,aa 2000⟩) (ae (dd (QS.ops q1) Z1)) (ae (dd (QS.ops q1) Z1)),.slice (aa ⟨5,0,aa 2000⟩) (ae (dd Z1 (QS.ops q1))) (ae (dd Z1 (QS.ops q1)))]),.int ar (mo (QS.ops q1) (QS.cap q1) (2:Int) (It.mk (3:Int) (0:Int)))]))::nH (nH (n4 (n4 (n4 (aj::aj::aj::[])))))))) [] [aa (.inl (98,[.int ar (QS.cap Z2),.pointer (aa ⟨1,0,aj⟩),.pointer (aa ⟨2,0,aj⟩),.pointer (aa ⟨3,0,aj⟩)])),oM (QS.mt Z2),oS (QS.pr Z2),oS (QS.gn Z2),aa (.inr (.inl (31,iR (dd (QS.ops q1) Z1)))),aa (.inr (.inl (31,iR (dd Z1 (QS.ops q1)))))])) ?_ (by kernel_rfl)
 intro Z1 Z2;subst Z2 Z1;refine⟨⟨(h1.mono (by decide)).ok,by rw[h1.ops];decide⟩,At.fit [1] [.pointer (aa ⟨0,0,aj⟩)] [bQ (iZ q1 2 ⟨3,0⟩),oM (iZ q1 2 ⟨3,0⟩).mt,oS (iZ q1 2 ⟨3,0⟩).pr,oS (iZ q1 2 ⟨3,0⟩).gn] 62 ⟨rfl,rfl,by simp⟩ ⟨[0,1,2,3],rfl,⟨.inl rfl,rfl,rfl,rfl,trivial⟩,rfl,rfl,rfl,rfl⟩ ?_⟩
 have h2:HQ (iZ q1 2 ⟨3,0⟩) ([⟨1,ao,⟨5,0⟩⟩,⟨2,ao,⟨3,0⟩⟩]:List Op) 9 20:=(Ek (t:=2) (x:=⟨3,0⟩) h1 (by decide) (by decide)).2.2.1
 generalize(iZ q1 2 ⟨3,0⟩)=q2 at h2 ⊢;refine mP (T:=SC) [[1,1,1,1,1,1]] Fz mixed 200 ?_;refine bM (q:=let Z1:=(ae (dd (QS.ops q2) (iL (QS.ops q2) (QS.cap q2) (3:Int))));let Z2:=(ae (dd (iL (QS.ops q2) (QS.cap q2) (3:Int)) (QS.ops q2)));Vc (QS.Ok q2/\ae (QS.ops q2)≤59)/\At D2 Tryz.prog (dI Tryz.f14) 0 (iB Tryz.prog (dw (dx Tryz.f14)) G) [.inl [1,1,1,1,1,1]] (SS.mk (aj::aa (aC (aa ⟨0,0,aj⟩))::n4 (n4 (n4 (aj::aa (aC (aa ⟨0,0,aj⟩))::aa (cr (aP [.agg (aP [.slice (aa ⟨4,0,aa 2000⟩) Z1 Z1,.slice (aa ⟨5,0,aa 2000⟩) Z2 Z2]),.int ar (nD (QS.ops q2) (QS.cap q2) (3:Int))]))::nH (nH (n4 (n4 (n4 (aj::[]))))))))) [] [aa (.inl (98,[.int ar (QS.cap (iK q2 (3:Int))),.pointer (aa ⟨1,0,aj⟩),.pointer (aa ⟨2,0,aj⟩),.pointer (aa ⟨3,0,aj⟩)])),oM (QS.mt (iK q2 (3:Int))),oS (QS.pr (iK q2 (3:Int))),oS (QS.gn (iK q2 (3:Int))),aa (.inr (.inl (31,iR (dd (QS.ops q2) (iL (QS.ops q2) (QS.cap q2) (3:Int)))))),aa (.inr (.inl (31,iR (dd (iL (QS.ops q2) (QS.cap q2) (3:Int)) (QS.ops q2)))))])) ?_ (by kernel_rfl)
 intro Z1 Z2;subst Z2 Z1;refine⟨⟨(h2.mono (by decide)).ok,by rw[h2.ops];decide⟩,At.fit [1] [.pointer (aa ⟨0,0,aj⟩)] [bQ (iK q2 3),oM (iK q2 3).mt,oS (iK q2 3).pr,oS (iK q2 3).gn] 62 ⟨rfl,rfl,by simp⟩ ⟨[0,1,2,3],rfl,⟨.inl rfl,rfl,rfl,rfl,trivial⟩,rfl,rfl,rfl,rfl⟩ ?_⟩
 have h3:HQ (iK q2 3) ([⟨1,ao,⟨5,0⟩⟩,⟨2,ao,⟨3,0⟩⟩,⟨3,an,⟨0,0⟩⟩]:List Op) 9 30:=(El (t:=3) h2 (by decide) (by decide)).2.2.1
 generalize(iK q2 3)=q3 at h3 ⊢;refine mP (T:=SC) [[1,1,1,1,1,1,1]] Fz mixed 200 ?_;refine bM (q:=let Z1:=(ae (dd (QS.ops q3) (ly (QS.ops q3) (2:Int))));let Z2:=(ae (dd (ly (QS.ops q3) (2:Int)) (QS.ops q3)));let Z3:=(cr (aP [.agg (aP [.slice (aa ⟨4,0,aa 2000⟩) Z1 Z1,.slice (aa ⟨5,0,aa 2000⟩) Z2 Z2]),.int ar (vF (QS.ops q3) (2:Int))]));Vc (QS.Ok q3)/\At D2 Tryz.prog (dI Tryz.f14) 0 (iB Tryz.prog (dw (dx Tryz.f14)) G) [.inl [1,1,1,1,1,1,1]] (SS.mk (aj::aa (aC (aa ⟨0,0,aj⟩))::aa (aC (aa ⟨6,0,aj⟩))::aa (bk ar (vF (QS.ops q3) (2:Int)))::n4 (n4 (n4 (aj::aa Z3::aa (aC (aa ⟨0,0,aj⟩))::aa Z3::aa (bG (aP [.slice (aa ⟨4,0,aa 2000⟩) Z1 Z1,.slice (aa ⟨5,0,aa 2000⟩) Z2 Z2]))::aa (bk ar (vF (QS.ops q3) (2:Int)))::nH (nH (n4 (n4 ([])))))))) [] [aa (.inl (98,[.int ar (QS.cap (j9 q3 (2:Int))),.pointer (aa ⟨1,0,aj⟩),.pointer (aa ⟨2,0,aj⟩),.pointer (aa ⟨3,0,aj⟩)])),oM (QS.mt (j9 q3 (2:Int))),oS (QS.pr (j9 q3 (2:Int))),oS (QS.gn (j9 q3 (2:Int))),aa (.inr (.inl (31,iR (dd (QS.ops q3) (ly (QS.ops q3) (2:Int)))))),aa (.inr (.inl (31,iR (dd (ly (QS.ops q3) (2:Int)) (QS.ops q3))))),aa (.inl (59,[.slice (aa ⟨4,0,aa 2000⟩) Z1 Z1,.slice (aa ⟨5,0,aa 2000⟩) Z2 Z2]))])) ?_ (by kernel_rfl)
 intro Z1 Z2 Z3;subst Z3 Z2 Z1;simp only[h3.ops,show vF ([⟨1,ao,⟨5,0⟩⟩,⟨2,ao,⟨3,0⟩⟩,⟨3,an,⟨0,0⟩⟩]:List Op) 2=0 by decide,show dd ([⟨1,ao,⟨5,0⟩⟩,⟨2,ao,⟨3,0⟩⟩,⟨3,an,⟨0,0⟩⟩]:List Op) (ly ([⟨1,ao,⟨5,0⟩⟩,⟨2,ao,⟨3,0⟩⟩,⟨3,an,⟨0,0⟩⟩]:List Op) 2)=[] by decide,show dd (ly ([⟨1,ao,⟨5,0⟩⟩,⟨2,ao,⟨3,0⟩⟩,⟨3,an,⟨0,0⟩⟩]:List Op) 2) ([⟨1,ao,⟨5,0⟩⟩,⟨2,ao,⟨3,0⟩⟩,⟨3,an,⟨0,0⟩⟩]:List Op)=[⟨5,0⟩] by decide]
 refine⟨⟨(h3.mono (by decide)).ok⟩,At.fit [1,2,3] [.pointer (aa ⟨0,0,aj⟩),.pointer (aa ⟨4,0,aj⟩),.int .i64 0] [bQ (j9 q3 2),oM (j9 q3 2).mt,oS (j9 q3 2).pr,oS (j9 q3 2).gn,bCw 0 1 5 6,oI [],oI [⟨5,0⟩]] 62 ⟨rfl,rfl,by simp⟩ ⟨[0,1,2,3,6,4,5],rfl,⟨.inl rfl,rfl,rfl,rfl,.inl rfl,⟨_,rfl,.inl rfl⟩,⟨_,rfl,.inl rfl⟩,trivial⟩,rfl,rfl,rfl,rfl⟩ ?_⟩
 have h4:HQ (j9 q3 2) ([⟨1,ao,⟨5,0⟩⟩,⟨3,an,⟨0,0⟩⟩]:List Op) 9 40:=(L0 (t:=2) h3 (by decide)).2.2.1
 generalize j9 q3 2=q4 at h4 ⊢;refine mP (T:=SC) [[1,1,1,1,1,1,1,1]] Fz mixed 200 ?_;refine bM (q:=let Z5:=bk ar;let Z1:=(Z5 (nD (QS.ops q4) (QS.cap q4) (0:Int)));let Z2:=(ae (dd (QS.ops q4) (iL (QS.ops q4) (QS.cap q4) (0:Int))));let Z3:=(ae (dd (iL (QS.ops q4) (QS.cap q4) (0:Int)) (QS.ops q4)));let Z4:=(cr (aP [.agg (aP [.slice (aa ⟨7,0,aa 2000⟩) Z2 Z2,.slice (aa ⟨8,0,aa 2000⟩) Z3 Z3]),Z5 (nD (QS.ops q4) (QS.cap q4) (0:Int))]));Vc (QS.Ok q4/\ae (QS.ops q4)≤59)/\At D2 Tryz.prog (dI Tryz.f14) 0 (iB Tryz.prog (dw (dx Tryz.f14)) G) [.inl [1,1,1,1,1,1,1,1]] (SS.mk (aj::aa (aC (aa ⟨0,0,aj⟩))::aa (aC (aa ⟨4,0,aj⟩))::aa (Z5 0)::aa (aC (aa ⟨9,0,aj⟩))::aa Z1::nH (aa Z4::aa (aC (aa ⟨0,0,aj⟩))::aa Z4::aa (bG (aP [.slice (aa ⟨7,0,aa 2000⟩) Z2 Z2,.slice (aa ⟨8,0,aa 2000⟩) Z3 Z3]))::aa Z1::nH (nH (aj::aj::aj::[])))) [] [aa (.inl (98,[Z5 (QS.cap (iK q4 (0:Int))),.pointer (aa ⟨1,0,aj⟩),.pointer (aa ⟨2,0,aj⟩),.pointer (aa ⟨3,0,aj⟩)])),oM (QS.mt (iK q4 (0:Int))),oS (QS.pr (iK q4 (0:Int))),oS (QS.gn (iK q4 (0:Int))),aa (.inl (59,[.slice (aa ⟨5,0,aa 2000⟩) 0 0,.slice (aa ⟨6,0,aa 2000⟩) 1 1])),aa (.inr (.inl (31,Row.mk [Z5 0,Z5 0] 0 [aW.mk [] [] [],aW.mk [] [] []]))),aa (.inr (.inl (31,Row.mk [Z5 0,Z5 0] 1 [aW.mk [(5:Int)] [] [],aW.mk [(0:Int)] [] []]))),aa (.inr (.inl (31,iR (dd (QS.ops q4) (iL (QS.ops q4) (QS.cap q4) (0:Int)))))),aa (.inr (.inl (31,iR (dd (iL (QS.ops q4) (QS.cap q4) (0:Int)) (QS.ops q4))))),aa (.inl (59,[.slice (aa ⟨7,0,aa 2000⟩) Z2 Z2,.slice (aa ⟨8,0,aa 2000⟩) Z3 Z3]))])) ?_ (by kernel_rfl)
 intro Z5 Z1 Z2 Z3 Z4;subst Z4 Z3 Z2 Z1 Z5;simp only[h4.ops,h4.cap,show nD ([⟨1,ao,⟨5,0⟩⟩,⟨3,an,⟨0,0⟩⟩]:List Op) 9 0=0 by decide,show dd ([⟨1,ao,⟨5,0⟩⟩,⟨3,an,⟨0,0⟩⟩]:List Op) (iL ([⟨1,ao,⟨5,0⟩⟩,⟨3,an,⟨0,0⟩⟩]:List Op) 9 0)=[] by decide,show dd (iL ([⟨1,ao,⟨5,0⟩⟩,⟨3,an,⟨0,0⟩⟩]:List Op) 9 0) ([⟨1,ao,⟨5,0⟩⟩,⟨3,an,⟨0,0⟩⟩]:List Op)=[] by decide]
 refine⟨⟨(h4.mono (by decide)).ok,by decide⟩,At.fit [1,2,3,4,5] [.pointer (aa ⟨0,0,aj⟩),.pointer (aa ⟨4,0,aj⟩),.int .i64 0,.pointer (aa ⟨7,0,aj⟩),.int .i64 0] [bQ (iK q4 0),oM (iK q4 0).mt,oS (iK q4 0).pr,oS (iK q4 0).gn,bCw 0 1 5 6,oI [],oI [⟨5,0⟩],bCw 0 0 8 9,oI [],oI []] 62 ⟨rfl,rfl,by simp⟩ ⟨[0,1,2,3,4,5,6,9,7,8],rfl,⟨.inl rfl,rfl,rfl,rfl,.inl rfl,⟨_,rfl,.inl rfl⟩,⟨_,rfl,.inl rfl⟩,.inl rfl,⟨_,rfl,.inl rfl⟩,⟨_,rfl,.inl rfl⟩,trivial⟩,rfl,rfl,rfl,rfl⟩ ?_⟩
 have h5:HQ (iK q4 0) ([⟨0,an,⟨0,0⟩⟩,⟨1,ao,⟨5,0⟩⟩,⟨3,an,⟨0,0⟩⟩]:List Op) 9 50:=(El (t:=0) h4 (by decide) (by decide)).2.2.1
 generalize iK q4 0=q5 at h5 ⊢;refine cK (T:=SC) Fz mixed 200 ?_;refine bM (q:=let Z1:=aC (aa ⟨2,0,aj⟩);let Z2:=aC (aa ⟨1,0,aj⟩);let Z3:=aC (aa ⟨3,0,aj⟩);let Z4:=bk ar;(ao=ao->(ao=ao->(ao=ao->Vc ((0:Int)≤(0:Int)/\(0:Int)<(1:Int)/\1≤1)/\Vc (0<1)/\(ao=ao->Vc (fits (0:Int))/\(ao=ao->Vc (QS.Ok q5)/\aY (G (aE (pk (QS.ops q5)==(1:Int))) [aa (.inl (98,[Z4 (QS.cap (nJ q5)),Z2,Z1,Z3])),oM (QS.mt (nJ q5)),oS (QS.pr (nJ q5)),oS (QS.gn (nJ q5)),aa (.inl (59,[.slice (aa ⟨5,0,aa 2000⟩) 0 0,.slice (aa ⟨6,0,aa 2000⟩) 1 1])),aa (.inr (.inl (31,Row.mk [Z4 0,Z4 0] 0 [aW.mk [] [] [],aW.mk [] [] []]))),aa (.inr (.inl (31,Row.mk [Z4 0,Z4 0] 1 [aW.mk [(5:Int)] [] [],aW.mk [(0:Int)] [] []]))),aa (.inl (59,[.slice (aa ⟨8,0,aa 2000⟩) 0 0,.slice (aa ⟨9,0,aa 2000⟩) 0 0])),aa (.inr (.inl (31,Row.mk [Z4 0,Z4 0] 0 [aW.mk [] [] [],aW.mk [] [] []]))),aa (.inr (.inl (31,Row.mk [Z4 0,Z4 0] 0 [aW.mk [] [] [],aW.mk [] [] []])))]))/\(ao=an->aY (G (aE an) [aa (.inl (98,[Z4 (QS.cap q5),Z2,Z1,Z3])),oM (QS.mt q5),oS (QS.pr q5),oS (QS.gn q5),aa (.inl (59,[.slice (aa ⟨5,0,aa 2000⟩) 0 0,.slice (aa ⟨6,0,aa 2000⟩) 1 1])),aa (.inr (.inl (31,Row.mk [Z4 0,Z4 0] 0 [aW.mk [] [] [],aW.mk [] [] []]))),aa (.inr (.inl (31,Row.mk [Z4 0,Z4 0] 1 [aW.mk [(5:Int)] [] [],aW.mk [(0:Int)] [] []]))),aa (.inl (59,[.slice (aa ⟨8,0,aa 2000⟩) 0 0,.slice (aa ⟨9,0,aa 2000⟩) 0 0])),aa (.inr (.inl (31,Row.mk [Z4 0,Z4 0] 0 [aW.mk [] [] [],aW.mk [] [] []]))),aa (.inr (.inl (31,Row.mk [Z4 0,Z4 0] 0 [aW.mk [] [] [],aW.mk [] [] []])))])))/\(ao=an->aY (G (aE an) [aa (.inl (98,[Z4 (QS.cap q5),Z2,Z1,Z3])),oM (QS.mt q5),oS (QS.pr q5),oS (QS.gn q5),aa (.inl (59,[.slice (aa ⟨5,0,aa 2000⟩) 0 0,.slice (aa ⟨6,0,aa 2000⟩) 1 1])),aa (.inr (.inl (31,Row.mk [Z4 0,Z4 0] 0 [aW.mk [] [] [],aW.mk [] [] []]))),aa (.inr (.inl (31,Row.mk [Z4 0,Z4 0] 1 [aW.mk [(5:Int)] [] [],aW.mk [(0:Int)] [] []]))),aa (.inl (59,[.slice (aa ⟨8,0,aa 2000⟩) 0 0,.slice (aa ⟨9,0,aa 2000⟩) 0 0])),aa (.inr (.inl (31,Row.mk [Z4 0,Z4 0] 0 [aW.mk [] [] [],aW.mk [] [] []]))),aa (.inr (.inl (31,Row.mk [Z4 0,Z4 0] 0 [aW.mk [] [] [],aW.mk [] [] []])))])))/\(ao=an->aY (G (aE an) [aa (.inl (98,[Z4 (QS.cap q5),Z2,Z1,Z3])),oM (QS.mt q5),oS (QS.pr q5),oS (QS.gn q5),aa (.inl (59,[.slice (aa ⟨5,0,aa 2000⟩) 0 0,.slice (aa ⟨6,0,aa 2000⟩) 1 1])),aa (.inr (.inl (31,Row.mk [Z4 0,Z4 0] 0 [aW.mk [] [] [],aW.mk [] [] []]))),aa (.inr (.inl (31,Row.mk [Z4 0,Z4 0] 1 [aW.mk [(5:Int)] [] [],aW.mk [(0:Int)] [] []]))),aa (.inl (59,[.slice (aa ⟨8,0,aa 2000⟩) 0 0,.slice (aa ⟨9,0,aa 2000⟩) 0 0])),aa (.inr (.inl (31,Row.mk [Z4 0,Z4 0] 0 [aW.mk [] [] [],aW.mk [] [] []]))),aa (.inr (.inl (31,Row.mk [Z4 0,Z4 0] 0 [aW.mk [] [] [],aW.mk [] [] []])))])))/\(ao=an->aY (G (aE an) [aa (.inl (98,[Z4 (QS.cap q5),Z2,Z1,Z3])),oM (QS.mt q5),oS (QS.pr q5),oS (QS.gn q5),aa (.inl (59,[.slice (aa ⟨5,0,aa 2000⟩) 0 0,.slice (aa ⟨6,0,aa 2000⟩) 1 1])),aa (.inr (.inl (31,Row.mk [Z4 0,Z4 0] 0 [aW.mk [] [] [],aW.mk [] [] []]))),aa (.inr (.inl (31,Row.mk [Z4 0,Z4 0] 1 [aW.mk [(5:Int)] [] [],aW.mk [(0:Int)] [] []]))),aa (.inl (59,[.slice (aa ⟨8,0,aa 2000⟩) 0 0,.slice (aa ⟨9,0,aa 2000⟩) 0 0])),aa (.inr (.inl (31,Row.mk [Z4 0,Z4 0] 0 [aW.mk [] [] [],aW.mk [] [] []]))),aa (.inr (.inl (31,Row.mk [Z4 0,Z4 0] 0 [aW.mk [] [] [],aW.mk [] [] []])))])))/\(ao=an->aY (G (aE an) [aa (.inl (98,[Z4 (QS.cap q5),Z2,Z1,Z3])),oM (QS.mt q5),oS (QS.pr q5),oS (QS.gn q5),aa (.inl (59,[.slice (aa ⟨5,0,aa 2000⟩) 0 0,.slice (aa ⟨6,0,aa 2000⟩) 1 1])),aa (.inr (.inl (31,Row.mk [Z4 0,Z4 0] 0 [aW.mk [] [] [],aW.mk [] [] []]))),aa (.inr (.inl (31,Row.mk [Z4 0,Z4 0] 1 [aW.mk [(5:Int)] [] [],aW.mk [(0:Int)] [] []]))),aa (.inl (59,[.slice (aa ⟨8,0,aa 2000⟩) 0 0,.slice (aa ⟨9,0,aa 2000⟩) 0 0])),aa (.inr (.inl (31,Row.mk [Z4 0,Z4 0] 0 [aW.mk [] [] [],aW.mk [] [] []]))),aa (.inr (.inl (31,Row.mk [Z4 0,Z4 0] 0 [aW.mk [] [] [],aW.mk [] [] []])))]))) ?_ (by kernel_rfl)
 intro Z1 Z2 Z3 Z4;subst Z4 Z3 Z2 Z1;simp only[h5.ops];refine⟨fun _=>?_,fun h=>by cases h⟩
 refine⟨fun _=>?_,fun h=>by cases h⟩
 refine⟨fun _=>⟨⟨by decide,by decide,by decide⟩,⟨by decide⟩,?_⟩,fun h=>by cases h⟩
 refine⟨fun _=>⟨⟨by decide,by decide⟩,?_⟩,fun h=>by cases h⟩
 refine⟨fun _=>⟨⟨(h5.mono (by decide)).ok⟩,⟨?_⟩⟩,fun h=>by cases h⟩
 rw[show(pk ([⟨0,an,⟨0,0⟩⟩,⟨1,ao,⟨5,0⟩⟩,⟨3,an,⟨0,0⟩⟩]:List Op)==1)=ao by decide]
 exact hG _
def aeU:Prim Rt:=fun args hh=>match args,hh with
 |[],[]=>aa ⟨True,.bool ao,aj,hh,[],[]⟩
 |_,_=>aj
theorem ajf:b8 D2 Tryz.prog 14 (a9 aeU):=by
 refine fx Tryz.f14 fun args hh x hx=>?_
 unfold aeU at hx;split at hx
 ·injection hx with hx
  subst hx;refine⟨a_ _,lV rfl,(fun hw=>rfl),fun _ hv=>?_⟩
  exact ahz fun rest=>⟨[],rfl,rfl,trivial,rfl,rfl,rfl,rfl⟩
 ·cases hx
abbrev az:Act:=⟨0,0,an,⟨0,0⟩⟩
abbrev aR (l:List Act):Row:=⟨[.int .i64 0,.int .i64 0,.bool an,.int .i64 0,.int .i64 0],l.length,[⟨l.map Act.k,[],[]⟩,⟨l.map Act.t,[],[]⟩,⟨[],l.map Act.d,[]⟩,⟨l.map fun a=>a.x.k,[],[]⟩,⟨l.map fun a=>a.x.i,[],[]⟩]⟩
abbrev vA (l:List Act):Option (SB Rt):=aa (.inr (.inr (.inl (aR l))))
theorem gA {β:Type} {l:List Act} {i:Nat} (f:Act->β) (d:β) (h:f az=d):(l.map f).getD i d=f (l.getD i az):=by
 subst h;rw[au,au,fu];cases l[i]?<;>rfl
abbrev tmA:List Value:=[.int .i64 0,.int .i64 0,.bool an,.int .i64 0,.int .i64 0]
theorem Ug {c:aW} {n:Nat} (h:c=zq c.i) (l:c.i.length=n):c=⟨(oD n).map fun i=>c.i.getD i 0,[],[]⟩:=by
 have e:(oD n).map (fun i=>c.i.getD i 0)=c.i:=by
  subst l;exact GA fun i hi=>by rw[au,bc hi];rfl
 rw[e];exact h
theorem alZ {c:aW} {n:Nat} (h:c=Bk c.b) (l:c.b.length=n):c=⟨[],(oD n).map fun i=>c.b.getD i an,[]⟩:=by
 have e:(oD n).map (fun i=>c.b.getD i an)=c.b:=by
  subst l;exact GA fun i hi=>by rw[au,bc hi];rfl
 rw[e];exact h
theorem ag0 {r:Row} (hr:r.tm=tmA) (hw:Bq tmA r.ew r.n):∃ l,r=aR l:=by
 obtain⟨tm,n,ew⟩:=r;simp only at hr hw;subst hr
 match ew,hw with
 |[a,b,c,d,e],hw =>
  simp only[Bq] at hw;obtain⟨h1,h2,h3,h4,h5⟩:=hw;refine⟨(oD n).map fun i=>⟨a.i.getD i 0,b.i.getD i 0,c.b.getD i an,⟨d.i.getD i 0,e.i.getD i 0⟩⟩,?_⟩
  unfold aR;simp only[W5,Function.comp_def,fZ,List.length_range];rw[← Ug h1.1 h1.2.1,← Ug h2.1 h2.2.1,← alZ h3.1 h3.2,← Ug h4.1 h4.2.1,← Ug h5.1.1 h5.1.2.1]
abbrev FG (i:Nat) (q:QS):Option (SB Rt):=aa (.inl (98,[.int .i64 q.cap,.pointer (aa ⟨i,0,aj⟩),.pointer (aa ⟨i+1,0,aj⟩),.pointer (aa ⟨i+2,0,aj⟩)]))
def yS (c:Int) (dL:List Act):Nat->List Op
 |0=>[]
 |i+1=>uH (yS c dL i) (yA c) (dL.getD i az)
def yV (c:Int) (dL:List Act):Nat->QS
 |0=>t_ c
 |i+1=>lM (yV c dL i) (dL.getD i az)
theorem RH (c:Int) (dL:List Act):∀ i,(yS c dL i).length≤i
 |0=>a_ _
 |i+1=>Nat.le_trans aif (Nat.succ_le_succ (RH c dL i))
theorem abA (c:Int) (dL:List Act):∀ i,i≤60->HQ (yV c dL i) (yS c dL i) (yA c) (10*i)
 |0,_=>U7 c
 |i+1,h=>by
  have l:=RH c dL i;exact(alD (a:=dL.getD i az) (abA c dL i (by omega)) (by omega) (by omega)).1
def z1':Nat->Bool:=fun j=>fj j 1
end Pa
end Go.Proofs.YtjlomlgdgpoepaaGreat
