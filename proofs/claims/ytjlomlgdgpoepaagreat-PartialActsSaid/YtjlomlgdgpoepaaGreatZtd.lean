import Derived.Test.YtjlomlgdgpoepaaGreatZtc
import Derived.Test.YtjlomlgdgpoepaaGreatZtb
set_option linter.unusedVariables false
set_option linter.unusedSimpArgs false
namespace Go.Proofs.YtjlomlgdgpoepaaGreat
open Gv renaming A5→Dg,BW→B_,DV→Bd,Deep→iY,Dv→Fs,Ref→bm,W→m7,Yc→KU,aF→aJ,cw→bY,dY→ew,dg→iZ,fW→gU,find→iB,first→kI,glue→sq,iH→kg,jM→jR,jh→gH,jw→z_,kW→nI,kZ→lJ,ky→lO,last→j3,level→gq,link→kz,lk→br,look→jQ,lu→rk,mY→iX,ma→lp,mj→mA,nS→uS,ng→Ca,oW→vD,oX→vC,one→nN,p7→oa,pick→jv,qF→lA,qv→sN,replace→nJ,rm→oU,sC→xj,sI→D3,su→qB,tD→vE,tE→vG,tie→sM,uc→vF,uf→LC,vh→uR
open Gv.Node renaming all→bt,e→bZ,h→cu,l→bc,mk→fy,r→bn
open Gv.PM renaming cap→ib,held→fM
open Gv.Part renaming mk→my,n→bM,sum→bG
open Gv.Ref renaming g→cB,i→cA,mk→aN
open Gv.iL renaming cmp→gW
open Rx renaming Ends→ch
open Ti renaming FZ→Wq,o3→z9,qs→IZ,yz→RF
open Ti.Td renaming mk→iM
open Wv renaming BU→xU,Im→IX,O8→ay
open Wv.It renaming i→na,k→m_,mk→cW
open Wv.Mk renaming here→xV,ins→z8,it→qg,mk→Ft,tf→B9,tk→qh,t→D4
open Wv.Sw renaming gf→Oa,lf→Ob,mk→xl
open _root_.And renaming intro→cY,right→ic
open _root_.Array renaming mk→aO,toList→dA
open _root_.Bool renaming and_eq_true→aL,and_false→uQ,eq_iff_iff→Qf,false_and→B8,false→an,true_and→je,true→ao
open _root_.Eq renaming symm→re
open _root_.False renaming elim→kK
open _root_.Go.Func renaming ntmps→pf,results→dC
open _root_.Go.IntKind renaming i64→ar,wrap→ck
open _root_.Go.Value renaming agg→bE,bool→aD,int→bk,pointer→aC,slice→bx,tuple→cq
open _root_.Iff renaming rfl→sk
open _root_.Int renaming natCast_nonneg→xm,not_le→IY,not_lt→IU
open _root_.List renaming append_assoc→rN,cons_append→mw,countP_cons→vJ,countP_eq_zero→Ju,countP_nil→Qg,countP_pos_iff→Jt,drop_drop→sn,drop_eq_getElem_cons→oY,drop_left'→Gl,filter_append→mh,filter_cons→jS,filter_eq_self→Bp,getD_cons_succ→wv,getD_eq_getElem?_getD→av,getElem?_append_left→c_,getElem?_append_right→dQ,getElem?_eq_getElem→bd,getElem?_map→fh,getElem_drop→LR,getElem_mem→Fu,getElem_of_mem→sS,getElem_take→LQ,length_append→bA,length_drop→jt,length_map→fR,length_pos_iff→Jv,length_take→dZ,length→ae,map_append→dG,map_congr_left→n3,map_cons→gr,map_drop→mH,map_take→nz,map→au,mem_append_right→uT,mem_append→b5,mem_cons_of_mem→ed,mem_cons_self→bL,mem_cons→bP,mem_filter→pc,mem_iff_getElem→vL,mem_map→pb,mem_of_mem_drop→vK,mem_of_mem_tail→Be,mem_of_mem_take→ph,nil_append→pd,nodup_append→cf,nodup_cons→fJ,not_mem_nil→vH,pairwise_append→nG,pairwise_cons→gB,pairwise_iff_getElem→DJ,pairwise_map→Dr,singleton_append→HK,tail_cons→oV,tail_drop→HL,take_add→wa,take_append_drop→cQ,take_left'→Gk,take_succ_cons→Js,take_zero→sm
open _root_.List.Pairwise renaming filter→aah,imp→LP,nil→rP,sublist→YD
open _root_.List.Sublist renaming refl→ac3
open _root_.Nat renaming eq_zero_or_pos→mi,le_add_left→tM,le_refl→a_,lt_of_le_of_lt→iW,lt_or_ge→cr,lt_succ_self→fC,lt_trichotomy→nW,zero_add→bV,zero_le→du
open _root_.Option renaming getD_some→lI,isSome_iff_exists→Fv,none→aj,some→aa
open _root_.Prod renaming ext→kf,fst→aA,snd→aw
open _root_.Sum renaming inl→df
namespace G8
open Rx
set_option maxRecDepth 100000
def Vj:ez Rs:=[(80,bJ zN 2 (a9 j9)),(155,bJ zN 2 (a9 AZ))]
theorem QF:cL D Tryz.prog Vj:=⟨aT _ _ look_ok,aT _ _ xy,trivial⟩
def Ii:Prim Rs:=fun args hh=>match args,hh with
 |[.pointer (aa ⟨0,0,aj⟩),.agg ⟨[.int .i64 ri,.int .i64 rg]⟩,.agg ⟨xN⟩],[aa (.inl (110,[.pointer (aa ⟨1,0,aj⟩),.int .i64 ti,.int .i64 tg])),aa (.inr (.inr (.inr (.da m))))]=>aa ⟨xN=bj (fU xN)/\(PP m),.agg ⟨[.int .i64 ri,.int .i64 rg]⟩,aj,[aa (.inl (110,[.pointer (aa ⟨1,0,aj⟩),.int .i64 ti,.int .i64 tg])),aa (.inr (.inr (.inr (.da (sM ay m ⟨ri,rg⟩ (fU xN))))))],[],[(0,0)]⟩
 |_,_=>aj
theorem AP:b6 D Tryz.prog 134 (a9 Ii):=by
 refine fj Tryz.f134 fun args hh x hx=>?_
 unfold Ii at hx;split at hx
 ·rename_i ri rg xN ti tg m;cases hx;refine q4 fun _ hv=>?_
  obtain⟨jU,hv⟩:=hv;generalize fU xN=xn at *;subst jU
  generalize hG:ch (R:=Rs) _ _=G;refine cJ (T:=Vj) QF mixed 200 ?_;refine bK (q:=let Z2:=bk ar;let Z1:=(br ay (aJ m (bc xn)) (bn xn));Vc (PP m)/\Vc (PP (aJ m (bc xn)))/\Vc ((bj xn)=bj xn/\(bj (br ay m (bc xn)))=bj (br ay m (bc xn))/\(bj Z1)=bj Z1/\PP (aJ (aJ m (bc xn)) (bn xn)))/\aW (G (bE (aO [Z2 ri,Z2 rg])) [dD 1 ti tg,oP (D3 ay (aJ (aJ m (bc xn)) (bn xn)) (aN ri rg) xn (br ay m (bc xn)) Z1),aa (.inl (108,[Z2 ri,Z2 rg])),aa (.inl (136,(bj xn))),aa (.inl (108,[Z2 ri,Z2 rg]))])) ?_ (by kernel_rfl)
  intro Z2 Z1;subst Z1 Z2;subst hG
  repeat' (first|apply cY|apply Vc.mk|apply fits.mk|intro h|apply aW.mk)
  all_goals (try simp only[sB] at *)
  all_goals first|contradiction|omega|exact jm ‹_›|exact jo ‹_›|exact jk ‹_›|exact⟨rfl,by omega⟩|exact rfl|(simp[*,-av];done)|skip
  all_goals first|assumption|(simp only[iX];assumption)|skip
  exact⟨[0,1],rfl,rfl,⟨.inl rfl,rfl,trivial⟩,rfl,rfl,rfl,rfl⟩
 ·cases hx
def Iv:ez Rs:=[(80,bJ zN 2 (a9 j9)),(134,bJ zN 2 (a9 Ii))]
theorem ET:cL D Tryz.prog Iv:=⟨aT _ _ look_ok,aT _ _ AP,trivial⟩
def Fb:Prim Rs:=fun args hh=>match args,hh with
 |[.pointer (aa ⟨0,0,aj⟩),.agg ⟨[.int .i64 ri,.int .i64 rg]⟩,.agg ⟨xN⟩],[aa (.inl (110,[.pointer (aa ⟨1,0,aj⟩),.int .i64 ti,.int .i64 tg])),aa (.inr (.inr (.inr (.da m))))]=>aa ⟨xN=bj (fU xN)/\(PP m),.agg ⟨[.int .i64 (fU xN).r.i,.int .i64 (fU xN).r.g]⟩,aj,[aa (.inl (110,[.pointer (aa ⟨1,0,aj⟩),.int .i64 ti,.int .i64 tg])),aa (.inr (.inr (.inr (.da (vC ay m ⟨ri,rg⟩ (fU xN))))))],[],[(0,0)]⟩
 |_,_=>aj
theorem By:b6 D Tryz.prog 156 (a9 Fb):=by
 refine fj Tryz.f156 fun args hh x hx=>?_
 unfold Fb at hx;split at hx
 ·rename_i ri rg xN ti tg m;cases hx;refine q4 fun _ hv=>?_
  obtain⟨jU,hv⟩:=hv;generalize fU xN=xn at *;subst jU
  generalize hG:ch (R:=Rs) _ _=G;refine cJ (T:=Iv) ET mixed 200 ?_;refine bK (q:=let Z5:=bk ar;let Z1:=(br ay m (bn xn));let Z2:=(fy (bZ xn) (bc xn) (bc Z1) (bt xn) (cu xn));let Z3:=(fy (bZ Z1) (aN ri rg) (bn Z1) (bt Z1) (cu Z1));let Z4:=(sM ay (aJ m (bn xn)) (aN ri rg) Z2);Vc (PP m)/\Vc ((bj Z2)=bj Z2/\PP (aJ m (bn xn)))/\Vc ((bj Z3)=bj Z3/\PP Z4)/\aW (G (bE (aO [Z5 (cA (bn xn)),Z5 (cB (bn xn))])) [dD 1 ti tg,oP (sM ay Z4 (bn xn) Z3),aa (.inl (108,[Z5 ri,Z5 rg])),aa (.inl (136,(bj Z2))),aa (.inl (108,[Z5 (cA (bn xn)),Z5 (cB (bn xn))])),aa (.inl (108,[Z5 (cA (bn xn)),Z5 (cB (bn xn))])),aa (.inl (136,(bj Z3)))])) ?_ (by kernel_rfl)
  intro Z5 Z1 Z2 Z3 Z4;subst Z4 Z3 Z2 Z1 Z5;subst hG
  repeat' (first|apply cY|apply Vc.mk|apply fits.mk|intro h|apply aW.mk)
  all_goals (try simp only[sB] at *)
  all_goals first|contradiction|omega|exact jm ‹_›|exact jo ‹_›|exact jk ‹_›|exact⟨rfl,by omega⟩|exact rfl|(simp[*,-av];done)|skip
  all_goals first|assumption|(simp only[iX];assumption)|skip
  exact⟨[0,1],rfl,rfl,⟨.inl rfl,rfl,trivial⟩,rfl,rfl,rfl,rfl⟩
 ·cases hx
def Eu:Prim Rs:=fun args hh=>match args,hh with
 |[.pointer (aa ⟨0,0,aj⟩),.agg ⟨[.int .i64 ri,.int .i64 rg]⟩,.agg ⟨xN⟩],[aa (.inl (110,[.pointer (aa ⟨1,0,aj⟩),.int .i64 ti,.int .i64 tg])),aa (.inr (.inr (.inr (.da m))))]=>aa ⟨xN=bj (fU xN)/\(PP m),.agg ⟨[.int .i64 (fU xN).l.i,.int .i64 (fU xN).l.g]⟩,aj,[aa (.inl (110,[.pointer (aa ⟨1,0,aj⟩),.int .i64 ti,.int .i64 tg])),aa (.inr (.inr (.inr (.da (vD ay m ⟨ri,rg⟩ (fU xN))))))],[],[(0,0)]⟩
 |_,_=>aj
theorem BD:b6 D Tryz.prog 157 (a9 Eu):=by
 refine fj Tryz.f157 fun args hh x hx=>?_
 unfold Eu at hx;split at hx
 ·rename_i ri rg xN ti tg m;cases hx;refine q4 fun _ hv=>?_
  obtain⟨jU,hv⟩:=hv;generalize fU xN=xn at *;subst jU
  generalize hG:ch (R:=Rs) _ _=G;refine cJ (T:=Iv) ET mixed 200 ?_;refine bK (q:=let Z5:=bk ar;let Z1:=(br ay m (bc xn));let Z2:=(fy (bZ xn) (bn Z1) (bn xn) (bt xn) (cu xn));let Z3:=(fy (bZ Z1) (bc Z1) (aN ri rg) (bt Z1) (cu Z1));let Z4:=(sM ay (aJ m (bc xn)) (aN ri rg) Z2);Vc (PP m)/\Vc ((bj Z2)=bj Z2/\PP (aJ m (bc xn)))/\Vc ((bj Z3)=bj Z3/\PP Z4)/\aW (G (bE (aO [Z5 (cA (bc xn)),Z5 (cB (bc xn))])) [dD 1 ti tg,oP (sM ay Z4 (bc xn) Z3),aa (.inl (108,[Z5 ri,Z5 rg])),aa (.inl (136,(bj Z2))),aa (.inl (108,[Z5 (cA (bc xn)),Z5 (cB (bc xn))])),aa (.inl (108,[Z5 (cA (bc xn)),Z5 (cB (bc xn))])),aa (.inl (136,(bj Z3)))])) ?_ (by kernel_rfl)
  intro Z5 Z1 Z2 Z3 Z4;subst Z4 Z3 Z2 Z1 Z5;subst hG
  repeat' (first|apply cY|apply Vc.mk|apply fits.mk|intro h|apply aW.mk)
  all_goals (try simp only[sB] at *)
  all_goals first|contradiction|omega|exact jm ‹_›|exact jo ‹_›|exact jk ‹_›|exact⟨rfl,by omega⟩|exact rfl|(simp[*,-av];done)|skip
  all_goals first|assumption|(simp only[iX];assumption)|skip
  exact⟨[0,1],rfl,rfl,⟨.inl rfl,rfl,trivial⟩,rfl,rfl,rfl,rfl⟩
 ·cases hx
def Vz:ez Rs:=[(1000000000,lL),(80,bJ zN 2 (a9 j9)),(155,bJ zN 2 (a9 AZ)),(156,bJ zN 2 (a9 Fb)),(157,bJ zN 2 (a9 Eu))]
theorem Ru:cL D Tryz.prog Vz:=⟨iu,aT _ _ look_ok,aT _ _ xy,aT _ _ By,aT _ _ BD,trivial⟩
def uL:Prim Rs:=fun args hh=>match args,hh with
 |[.pointer (aa ⟨0,0,aj⟩),.agg ⟨[.int .i64 ri,.int .i64 rg]⟩,.agg ⟨xN⟩],[aa (.inl (110,[.pointer (aa ⟨1,0,aj⟩),.int .i64 ti,.int .i64 tg])),aa (.inr (.inr (.inr (.da m))))]=>aa ⟨xN=bj (fU xN)/\(PP m),.agg ⟨[.int .i64 (gq ay m ⟨ri,rg⟩ (fU xN)).1.i,.int .i64 (gq ay m ⟨ri,rg⟩ (fU xN)).1.g]⟩,aj,[aa (.inl (110,[.pointer (aa ⟨1,0,aj⟩),.int .i64 ti,.int .i64 tg])),aa (.inr (.inr (.inr (.da (gq ay m ⟨ri,rg⟩ (fU xN)).2))))],[],[(0,0)]⟩
 |_,_=>aj
theorem sF:b6 D Tryz.prog 136 (a9 uL):=by
 refine fj Tryz.f136 fun args hh x hx=>?_
 unfold uL at hx;split at hx
 ·rename_i ri rg xN ti tg m;cases hx;refine q4 fun _ hv=>?_
  obtain⟨jU,hv⟩:=hv;generalize fU xN=xn at *;subst jU
  generalize hG:ch (R:=Rs) _ _=G;refine cJ (T:=Vz) Ru mixed 200 ?_;refine bK (q:=let dF:=bk ar;let Z1:=(br ay m (bc xn));let Z2:=(br ay (aJ m (bc xn)) (bn xn));let Z3:=(cu Z1>ck ar (cu Z2+(1:Int)));let Z4:=(aJ (aJ m (bc xn)) (bn xn));let Z5:=(cu (br ay Z4 (bn Z1))>cu (br ay (aJ Z4 (bn Z1)) (bc Z1)));let Z6:=(aJ (aJ Z4 (bn Z1)) (bc Z1));let Z7:=(fy (bZ xn) (bn Z1) (bn xn) (bt xn) (cu xn));let Z8:=(cu Z2>ck ar (cu Z1+(1:Int)));let Z9:=(cu (br ay Z4 (bc Z2))>cu (br ay (aJ Z4 (bc Z2)) (bn Z2)));let dX:=(aJ (aJ Z4 (bc Z2)) (bn Z2));let cx:=(fy (bZ xn) (bc xn) (bc Z2) (bt xn) (cu xn));Vc (PP m)/\Vc (PP (aJ m (bc xn)))/\Vc True/\(decide Z3=ao->Vc (PP Z4)/\Vc (PP (aJ Z4 (bn Z1)))/\(decide Z5=ao->Vc ((bj Z1)=bj Z1/\PP Z6)/\Vc ((bj Z7)=bj Z7/\PP (vC ay Z6 (bc xn) Z1))/\aW (G (bE (aO [dF (cA (bc Z7)),dF (cB (bc Z7))])) [dD 1 ti tg,oP (vD ay (vC ay Z6 (bc xn) Z1) (aN ri rg) Z7),aa (.inl (108,[dF ri,dF rg])),aa (.inl (136,(bj Z7))),aa (.inl (108,[dF (cA (bc Z7)),dF (cB (bc Z7))])),aa (.inl (136,(bj Z1))),aa (.inl (136,(bj Z2)))]))/\(decide Z5=an->Vc ((bj xn)=bj xn/\PP Z6)/\aW (G (bE (aO [dF (cA (bc xn)),dF (cB (bc xn))])) [dD 1 ti tg,oP (vD ay Z6 (aN ri rg) xn),aa (.inl (108,[dF ri,dF rg])),aa (.inl (136,(bj xn))),aa (.inl (108,[dF (cA (bc xn)),dF (cB (bc xn))])),aa (.inl (136,(bj Z1))),aa (.inl (136,(bj Z2)))])))/\(decide Z3=an->Vc True/\(decide Z8=ao->Vc (PP Z4)/\Vc (PP (aJ Z4 (bc Z2)))/\(decide Z9=ao->Vc ((bj Z2)=bj Z2/\PP dX)/\Vc ((bj cx)=bj cx/\PP (vD ay dX (bn xn) Z2))/\aW (G (bE (aO [dF (cA (bn cx)),dF (cB (bn cx))])) [dD 1 ti tg,oP (vC ay (vD ay dX (bn xn) Z2) (aN ri rg) cx),aa (.inl (108,[dF ri,dF rg])),aa (.inl (136,(bj cx))),aa (.inl (108,[dF (cA (bn cx)),dF (cB (bn cx))])),aa (.inl (136,(bj Z1))),aa (.inl (136,(bj Z2)))]))/\(decide Z9=an->Vc ((bj xn)=bj xn/\PP dX)/\aW (G (bE (aO [dF (cA (bn xn)),dF (cB (bn xn))])) [dD 1 ti tg,oP (vC ay dX (aN ri rg) xn),aa (.inl (108,[dF ri,dF rg])),aa (.inl (136,(bj xn))),aa (.inl (108,[dF (cA (bn xn)),dF (cB (bn xn))])),aa (.inl (136,(bj Z1))),aa (.inl (136,(bj Z2)))])))/\(decide Z8=an->Vc ((bj xn)=bj xn/\(bj Z1)=bj Z1/\(bj Z2)=bj Z2/\PP Z4)/\aW (G (bE (aO [dF ri,dF rg])) [dD 1 ti tg,oP (D3 ay Z4 (aN ri rg) xn Z1 Z2),aa (.inl (108,[dF ri,dF rg])),aa (.inl (136,(bj xn))),aa (.inl (108,[dF ri,dF rg])),aa (.inl (136,(bj Z1))),aa (.inl (136,(bj Z2)))])))) ?_ (by kernel_rfl)
  intro dF Z1 Z2 Z3 Z4 Z5 Z6 Z7 Z8 Z9 dX cx;subst cx dX Z9 Z8 Z7 Z6 Z5 Z4 Z3 Z2 Z1 dF;have done:∀ (i g:Int) (m':Pl) (rest:Hp Rs),gq ay m ⟨ri,rg⟩ xn=(⟨i,g⟩,m')->G (.agg ⟨[.int .i64 i,.int .i64 g]⟩) ([aa (.inl (110,[.pointer (aa ⟨1,0,aj⟩),.int .i64 ti,.int .i64 tg])),aa (.inr (.inr (.inr (.da m'))))]++rest):=by
   intro i g m' rest e;subst hG;refine⟨[0,1],?_,rfl,⟨.inl rfl,?_,trivial⟩,rfl,rfl,rfl,rfl⟩
   ·simp only[e];rfl
   ·simp only[e];rfl
  clear hG
  repeat' (first|apply cY|apply Vc.mk|apply fits.mk|intro h|apply aW.mk)
  all_goals (try simp only[sB] at *)
  all_goals first|contradiction|omega|exact jm ‹_›|exact jo ‹_›|exact jk ‹_›|exact⟨rfl,by omega⟩|exact rfl|(simp[*,-av];done)|skip
  all_goals first|assumption|(simp only[iX];assumption)|skip
  all_goals (refine done _ _ _ _ ?_;unfold gq;(try dsimp only [m7]);repeat' split)
  all_goals first|rfl|(exfalso;omega)
 ·cases hx
def AF  (k:Nat):Prim Rs:=fun args hh=>match args,hh with
 |[.pointer (aa ⟨0,0,aj⟩),.agg ⟨[.int .i64 ri,.int .i64 rg]⟩,.agg ⟨[.int .i64 fi,.int .i64 fg]⟩,.agg ⟨kE⟩],[aa (.inl (110,[.pointer (aa ⟨1,0,aj⟩),.int .i64 ti,.int .i64 tg])),aa (.inr (.inr (.inr (.da m))))]=>aa ⟨kE=dr (fP kE)/\(PP m/\iY ay k m ⟨ri,rg⟩),.agg ⟨[.int .i64 (nI ay k m ⟨ri,rg⟩ ⟨fi,fg⟩ (fP kE)).1.i,.int .i64 (nI ay k m ⟨ri,rg⟩ ⟨fi,fg⟩ (fP kE)).1.g]⟩,aj,[aa (.inl (110,[.pointer (aa ⟨1,0,aj⟩),.int .i64 ti,.int .i64 tg])),aa (.inr (.inr (.inr (.da (nI ay k m ⟨ri,rg⟩ ⟨fi,fg⟩ (fP kE)).2))))],[],[(0,0)]⟩
 |_,_=>aj
def OO (k:Nat):ez Rs:=[(222,bJ zN 2 (a9 IX)),(80,bJ zN 2 (a9 j9)),(136,bJ zN 2 (a9 uL)),(99,bJ zN 2 (a9 (AF k)))]
theorem xw:∀ k:Nat,b6 D Tryz.prog 99 (a9 (AF k))
 |0=>by
  refine fj Tryz.f99 fun args hh x hx=>?_
  unfold AF at hx;split at hx
  ·rename_i ri rg fi fg kE ti tg m;cases hx;refine q4 fun _ hv=>?_
   exact kK (ic (ic hv))
  ·cases hx
 |k+1=>by
  have ih:=xw k;refine fj Tryz.f99 fun args hh x hx=>?_
  unfold AF at hx;split at hx
  ·rename_i ri rg fi fg kE ti tg m;cases hx;refine q4 fun _ hv=>?_
   obtain⟨jU,hv⟩:=hv;generalize fP kE=ke at *;subst jU;obtain⟨hp,hd⟩:=hv
   generalize hG:ch (R:=Rs) _ _=G;refine cJ (T:=(OO k)) (show cL D Tryz.prog (OO k) from⟨aT _ _ xU,aT _ _ look_ok,aT _ _ sF,aT _ _ ih,trivial⟩) mixed 200 ?_
   refine bK (q:=let cx:=bk ar;let Z1:=(br ay m (aN ri rg));let Z2:=(aJ m (aN ri rg));let Z3:=(fy (bZ Z1) (aA (nI ay k Z2 (bc Z1) (aN fi fg) ke)) (bn Z1) (bt Z1) (cu Z1));let Z4:=(aw (nI ay k Z2 (bc Z1) (aN fi fg) ke));let Z5:=(cA (aA (gq ay Z4 (aN ri rg) Z3)));let Z6:=(cB (aA (gq ay Z4 (aN ri rg) Z3)));let Z7:=(fy (bZ Z1) (bc Z1) (aA (nI ay k Z2 (bn Z1) (aN fi fg) ke)) (bt Z1) (cu Z1));let Z8:=(aw (nI ay k Z2 (bn Z1) (aN fi fg) ke));let Z9:=(cA (aA (gq ay Z8 (aN ri rg) Z7)));let dX:=(cB (aA (gq ay Z8 (aN ri rg) Z7)));Vc (PP m)/\((cu Z1==(0:Int))=ao->aW (G (bE (aO [cx fi,cx fg])) [dD 1 ti tg,oP Z2,aa (.inl (108,[cx ri,cx rg])),aa (.inl (108,[cx fi,cx fg])),aa (.inl (49,(dr ke))),aa (.inl (108,[cx fi,cx fg])),aa (.inl (136,(bj Z1)))]))/\((cu Z1==(0:Int))=an->Vc True/\Vc True/\(decide (gW ay ke (bZ Z1)<(0:Int))=ao->Vc ((dr ke)=dr ke/\PP Z2/\iY ay k Z2 (bc Z1))/\Vc ((bj Z3)=bj Z3/\PP Z4)/\aW (G (bE (aO [cx Z5,cx Z6])) [dD 1 ti tg,oP (aw (gq ay Z4 (aN ri rg) Z3)),aa (.inl (108,[cx ri,cx rg])),aa (.inl (108,[cx fi,cx fg])),aa (.inl (49,(dr ke))),aa (.inl (108,[cx Z5,cx Z6])),aa (.inl (136,(bj Z3)))]))/\(decide (gW ay ke (bZ Z1)<(0:Int))=an->Vc ((dr ke)=dr ke/\PP Z2/\iY ay k Z2 (bn Z1))/\Vc ((bj Z7)=bj Z7/\PP Z8)/\aW (G (bE (aO [cx Z9,cx dX])) [dD 1 ti tg,oP (aw (gq ay Z8 (aN ri rg) Z7)),aa (.inl (108,[cx ri,cx rg])),aa (.inl (108,[cx fi,cx fg])),aa (.inl (49,(dr ke))),aa (.inl (108,[cx Z9,cx dX])),aa (.inl (136,(bj Z7)))])))) ?_ (by kernel_rfl)
   intro cx Z1 Z2 Z3 Z4 Z5 Z6 Z7 Z8 Z9 dX;subst dX Z9 Z8 Z7 Z6 Z5 Z4 Z3 Z2 Z1 cx;simp only[iY] at hd;have done:∀ (i g:Int) (m':Pl) (rest:Hp Rs),nI ay (k+1) m ⟨ri,rg⟩ ⟨fi,fg⟩ ke=(⟨i,g⟩,m')->G (.agg ⟨[.int .i64 i,.int .i64 g]⟩) ([aa (.inl (110,[.pointer (aa ⟨1,0,aj⟩),.int .i64 ti,.int .i64 tg])),aa (.inr (.inr (.inr (.da m'))))]++rest):=by
    intro i g m' rest e;subst hG;refine⟨[0,1],?_,rfl,⟨.inl rfl,?_,trivial⟩,rfl,rfl,rfl,rfl⟩
    ·simp only[e];rfl
    ·simp only[e];rfl
   clear hG
   repeat' (first|apply cY|apply Vc.mk|apply fits.mk|intro h|apply aW.mk)
   all_goals (try simp only[sB] at *)
   all_goals first|contradiction|omega|exact jm ‹_›|exact jo ‹_›|exact jk ‹_›|exact⟨rfl,by omega⟩|exact rfl|(simp[*,-av];done)|skip
   all_goals first|assumption|(simp only[iX];assumption)|skip
   all_goals first|(rw[qB];rcases hd with hd|hd;exfalso;omega;first|exact hd.1|exact hd.2)|skip
   all_goals (refine done _ _ _ _ ?_;rw[nI];(try dsimp only [m7]);repeat' split)
   all_goals first|rfl|(exfalso;omega)|contradiction|exact kf (re (by assumption)) rfl|(exfalso;simp_all;done)
  ·cases hx
def sv  (k:Nat):Prim Rs:=fun args hh=>match args,hh with
 |[.pointer (aa ⟨0,0,aj⟩),.agg ⟨[.int .i64 ri,.int .i64 rg]⟩,.agg ⟨kE⟩],[aa (.inl (110,[.pointer (aa ⟨1,0,aj⟩),.int .i64 ti,.int .i64 tg])),aa (.inr (.inr (.inr (.da m))))]=>aa ⟨kE=dr (fP kE)/\(PP m/\iY ay k m ⟨ri,rg⟩),.bool (nJ ay k m ⟨ri,rg⟩ (fP kE)).1,aj,[aa (.inl (110,[.pointer (aa ⟨1,0,aj⟩),.int .i64 ti,.int .i64 tg])),aa (.inr (.inr (.inr (.da (nJ ay k m ⟨ri,rg⟩ (fP kE)).2))))],[],[(0,0)]⟩
 |_,_=>aj
def Oh (k:Nat):ez Rs:=[(222,bJ zN 2 (a9 IX)),(80,bJ zN 2 (a9 j9)),(134,bJ zN 2 (a9 Ii)),(96,bJ zN 2 (a9 (sv k)))]
theorem rT:∀ k:Nat,b6 D Tryz.prog 96 (a9 (sv k))
 |0=>by
  refine fj Tryz.f96 fun args hh x hx=>?_
  unfold sv at hx;split at hx
  ·rename_i ri rg kE ti tg m;cases hx;refine q4 fun _ hv=>?_
   exact kK (ic (ic hv))
  ·cases hx
 |k+1=>by
  have ih:=rT k;refine fj Tryz.f96 fun args hh x hx=>?_
  unfold sv at hx;split at hx
  ·rename_i ri rg kE ti tg m;cases hx;refine q4 fun _ hv=>?_
   obtain⟨jU,hv⟩:=hv;generalize fP kE=ke at *;subst jU;obtain⟨hp,hd⟩:=hv
   generalize hG:ch (R:=Rs) _ _=G;refine cJ (T:=(Oh k)) (show cL D Tryz.prog (Oh k) from⟨aT _ _ xU,aT _ _ look_ok,aT _ _ AP,aT _ _ ih,trivial⟩) mixed 200 ?_
   refine bK (q:=let Z6:=bk ar;let Z1:=(br ay m (aN ri rg));let Z2:=(aJ m (aN ri rg));let Z3:=(nJ ay k Z2 (bc Z1) ke);let Z4:=(nJ ay k Z2 (bn Z1) ke);let Z5:=(fy ke (bc Z1) (bn Z1) (bt Z1) (cu Z1));Vc (PP m)/\((cu Z1==(0:Int))=ao->aW (G (aD an) [dD 1 ti tg,oP Z2,aa (.inl (108,[Z6 ri,Z6 rg])),aa (.inl (49,(dr ke))),aa (.inl (136,(bj Z1)))]))/\((cu Z1==(0:Int))=an->Vc True/\Vc True/\(decide (gW ay ke (bZ Z1)<(0:Int))=ao->Vc ((dr ke)=dr ke/\PP Z2/\iY ay k Z2 (bc Z1))/\(aA Z3=ao->Vc ((bj Z1)=bj Z1/\PP (aw Z3))/\aW (G (aD (aA Z3)) [dD 1 ti tg,oP (sM ay (aw Z3) (aN ri rg) Z1),aa (.inl (108,[Z6 ri,Z6 rg])),aa (.inl (49,(dr ke))),aa (.inl (136,(bj Z1)))]))/\(aA Z3=an->aW (G (aD (aA Z3)) [dD 1 ti tg,oP (aw Z3),aa (.inl (108,[Z6 ri,Z6 rg])),aa (.inl (49,(dr ke))),aa (.inl (136,(bj Z1)))])))/\(decide (gW ay ke (bZ Z1)<(0:Int))=an->(decide (gW ay ke (bZ Z1)>(0:Int))=ao->Vc ((dr ke)=dr ke/\PP Z2/\iY ay k Z2 (bn Z1))/\(aA Z4=ao->Vc ((bj Z1)=bj Z1/\PP (aw Z4))/\aW (G (aD (aA Z4)) [dD 1 ti tg,oP (sM ay (aw Z4) (aN ri rg) Z1),aa (.inl (108,[Z6 ri,Z6 rg])),aa (.inl (49,(dr ke))),aa (.inl (136,(bj Z1)))]))/\(aA Z4=an->aW (G (aD (aA Z4)) [dD 1 ti tg,oP (aw Z4),aa (.inl (108,[Z6 ri,Z6 rg])),aa (.inl (49,(dr ke))),aa (.inl (136,(bj Z1)))])))/\(decide (gW ay ke (bZ Z1)>(0:Int))=an->Vc ((bj Z5)=bj Z5/\PP Z2)/\aW (G (aD ao) [dD 1 ti tg,oP (sM ay Z2 (aN ri rg) Z5),aa (.inl (108,[Z6 ri,Z6 rg])),aa (.inl (49,(dr ke))),aa (.inl (136,(bj Z5)))]))))) ?_ (by kernel_rfl)
   intro Z6 Z1 Z2 Z3 Z4 Z5;subst Z5 Z4 Z3 Z2 Z1 Z6;simp only[iY] at hd;have done:∀ (b:Bool) (m':Pl) (rest:Hp Rs),nJ ay (k+1) m ⟨ri,rg⟩ ke=(b,m')->G (.bool b) ([aa (.inl (110,[.pointer (aa ⟨1,0,aj⟩),.int .i64 ti,.int .i64 tg])),aa (.inr (.inr (.inr (.da m'))))]++rest):=by
    intro b m' rest e;subst hG;refine⟨[0,1],?_,rfl,⟨.inl rfl,?_,trivial⟩,rfl,rfl,rfl,rfl⟩
    ·simp only[e];rfl
    ·simp only[e];rfl
   clear hG
   repeat' (first|apply cY|apply Vc.mk|apply fits.mk|intro h|apply aW.mk)
   all_goals (try simp only[sB] at *)
   all_goals first|contradiction|omega|exact jm ‹_›|exact jo ‹_›|exact jk ‹_›|exact⟨rfl,by omega⟩|exact rfl|(simp[*,-av];done)|skip
   all_goals first|assumption|(simp only[iX];assumption)|skip
   all_goals first|(rw[qB];rcases hd with hd|hd;exfalso;omega;first|exact hd.1|exact hd.2)|skip
   all_goals (refine done _ _ _ ?_;rw[nJ];(try dsimp only [m7]);repeat' split)
   all_goals first|rfl|(exfalso;omega)|contradiction|exact kf (re (by assumption)) rfl|(exfalso;simp_all;done)
  ·cases hx
def xa  (k:Nat):Prim Rs:=fun args hh=>match args,hh with
 |[.pointer (aa ⟨0,0,aj⟩),.agg ⟨[.int .i64 ri,.int .i64 rg]⟩],[aa (.inl (110,[.pointer (aa ⟨1,0,aj⟩),.int .i64 ti,.int .i64 tg])),aa (.inr (.inr (.inr (.da m))))]=>aa ⟨PP m/\xj ay k m ⟨ri,rg⟩,.tuple #[.agg ⟨[.int .i64 (kg ay k m ⟨ri,rg⟩).1.i,.int .i64 (kg ay k m ⟨ri,rg⟩).1.g]⟩,.agg ⟨[.int .i64 (kg ay k m ⟨ri,rg⟩).2.1.i,.int .i64 (kg ay k m ⟨ri,rg⟩).2.1.g]⟩],aj,[aa (.inl (110,[.pointer (aa ⟨1,0,aj⟩),.int .i64 ti,.int .i64 tg])),aa (.inr (.inr (.inr (.da (kg ay k m ⟨ri,rg⟩).2.2))))],[],[(0,0)]⟩
 |_,_=>aj
def JT (k:Nat):ez Rs:=[(80,bJ zN 2 (a9 j9)),(136,bJ zN 2 (a9 uL)),(163,bJ zN 2 (a9 (xa k)))]
theorem vl:∀ k:Nat,b6 D Tryz.prog 163 (a9 (xa k))
 |0=>by
  refine fj Tryz.f163 fun args hh x hx=>?_
  unfold xa at hx;split at hx
  ·rename_i ri rg ti tg m;cases hx;refine q4 fun _ hv=>?_
   exact kK (ic hv)
  ·cases hx
 |k+1=>by
  have ih:=vl k;refine fj Tryz.f163 fun args hh x hx=>?_
  unfold xa at hx;split at hx
  ·rename_i ri rg ti tg m;cases hx;refine q4 fun _ hv=>?_
   obtain⟨hp,hd⟩:=hv;generalize hG:ch (R:=Rs) _ _=G;refine cJ (T:=(JT k)) (show cL D Tryz.prog (JT k) from⟨aT _ _ look_ok,aT _ _ sF,aT _ _ ih,trivial⟩) mixed 200 ?_
   refine bK (q:=let Z9:=bk ar;let Z1:=(br ay m (aN ri rg));let Z2:=(if an=ao then !(cA (bc Z1)==(0:Int)&&(cB (bc Z1)==(0:Int)&&ao)) else cA (bc Z1)==(0:Int)&&(cB (bc Z1)==(0:Int)&&ao));let Z3:=(aJ m (aN ri rg));let Z4:=(fy (bZ Z1) (aA (kg ay k Z3 (bc Z1))) (bn Z1) (bt Z1) (cu Z1));let Z5:=(aw (aw (kg ay k Z3 (bc Z1))));let Z6:=(cA (aA (gq ay Z5 (aN ri rg) Z4)));let Z7:=(cB (aA (gq ay Z5 (aN ri rg) Z4)));let Z8:=(aA (aw (kg ay k Z3 (bc Z1))));Vc (PP m)/\(Z2=ao->aW (G (cq (aO [.agg (aO [Z9 (cA (bn Z1)),Z9 (cB (bn Z1))]),bE (aO [Z9 ri,Z9 rg])])) [dD 1 ti tg,oP Z3,aa (.inl (108,[Z9 ri,Z9 rg])),aa (.inl (108,[Z9 (cA (bn Z1)),Z9 (cB (bn Z1))])),aa (.inl (108,[Z9 ri,Z9 rg])),aa (.inl (136,(bj Z1)))]))/\(Z2=an->Vc (PP Z3/\xj ay k Z3 (bc Z1))/\Vc ((bj Z4)=bj Z4/\PP Z5)/\aW (G (cq (aO [.agg (aO [Z9 Z6,Z9 Z7]),bE (aO [Z9 (cA Z8),Z9 (cB Z8)])])) [dD 1 ti tg,oP (aw (gq ay Z5 (aN ri rg) Z4)),aa (.inl (108,[Z9 ri,Z9 rg])),aa (.inl (108,[Z9 Z6,Z9 Z7])),aa (.inl (108,[Z9 (cA Z8),Z9 (cB Z8)])),aa (.inl (136,(bj Z4)))]))) ?_ (by kernel_rfl)
   intro Z9 Z1 Z2 Z3 Z4 Z5 Z6 Z7 Z8;subst Z8 Z7 Z6 Z5 Z4 Z3 Z2 Z1 Z9;simp only[xj] at hd;have done:∀ (i g i2 g2:Int) (m':Pl) (rest:Hp Rs),kg ay (k+1) m ⟨ri,rg⟩=(⟨i,g⟩,⟨i2,g2⟩,m')->G (.tuple #[.agg ⟨[.int .i64 i,.int .i64 g]⟩,.agg ⟨[.int .i64 i2,.int .i64 g2]⟩]) ([aa (.inl (110,[.pointer (aa ⟨1,0,aj⟩),.int .i64 ti,.int .i64 tg])),aa (.inr (.inr (.inr (.da m'))))]++rest):=by
    intro i g i2 g2 m' rest e;subst hG;refine⟨[0,1],?_,rfl,⟨.inl rfl,?_,trivial⟩,rfl,rfl,rfl,rfl⟩
    ·simp only[e];rfl
    ·simp only[e];rfl
   clear hG
   try simp only[KU,Bd]
   repeat' (first|apply cY|apply Vc.mk|apply fits.mk|intro h|apply aW.mk)
   all_goals (try simp only[sB] at *)
   all_goals first|contradiction|omega|exact jm ‹_›|exact jo ‹_›|exact jk ‹_›|exact⟨rfl,by omega⟩|exact rfl|(simp[*,-av];done)|skip
   all_goals first|assumption|(simp only[iX];assumption)|skip
   all_goals first|(rw[Dg];first|assumption|(rw[if_neg (by assumption),Dg] at hd;exact hd))|skip
   all_goals (refine done _ _ _ _ _ _ ?_;rw[kg];(try dsimp only [m7]);repeat' split)
   all_goals first|rfl|(exfalso;omega)|contradiction|exact kf (re (by assumption)) rfl|(exfalso;simp_all;done)
  ·cases hx
def A4  (k:Nat):Prim Rs:=fun args hh=>match args,hh with
 |[.pointer (aa ⟨0,0,aj⟩),.agg ⟨[.int .i64 ai,.int .i64 ag]⟩,.agg ⟨[.int .i64 bi,.int .i64 bg]⟩,.agg ⟨[.int .i64 ci,.int .i64 cg]⟩],[aa (.inl (110,[.pointer (aa ⟨1,0,aj⟩),.int .i64 ti,.int .i64 tg])),aa (.inr (.inr (.inr (.da m))))]=>aa ⟨PP m/\vE ay k m ⟨ai,ag⟩ ⟨bi,bg⟩ ⟨ci,cg⟩,.agg ⟨[.int .i64 (kz ay k m ⟨ai,ag⟩ ⟨bi,bg⟩ ⟨ci,cg⟩).1.i,.int .i64 (kz ay k m ⟨ai,ag⟩ ⟨bi,bg⟩ ⟨ci,cg⟩).1.g]⟩,aj,[aa (.inl (110,[.pointer (aa ⟨1,0,aj⟩),.int .i64 ti,.int .i64 tg])),aa (.inr (.inr (.inr (.da (kz ay k m ⟨ai,ag⟩ ⟨bi,bg⟩ ⟨ci,cg⟩).2))))],[],[(0,0)]⟩
 |_,_=>aj
def O2 (k:Nat):ez Rs:=[(1000000000,lL),(80,bJ zN 2 (a9 j9)),(136,bJ zN 2 (a9 uL)),(155,bJ zN 2 (a9 AZ)),(164,bJ zN 2 (a9 (A4 k)))]
theorem xF:∀ k:Nat,b6 D Tryz.prog 164 (a9 (A4 k))
 |0=>by
  refine fj Tryz.f164 fun args hh x hx=>?_
  unfold A4 at hx;split at hx
  ·rename_i ai ag bi bg ci cg ti tg m;cases hx;refine q4 fun _ hv=>?_
   exact kK (ic hv)
  ·cases hx
 |k+1=>by
  have ih:=xF k;refine fj Tryz.f164 fun args hh x hx=>?_
  unfold A4 at hx;split at hx
  ·rename_i ai ag bi bg ci cg ti tg m;cases hx;refine q4 fun _ hv=>?_
   obtain⟨hp,hd⟩:=hv;generalize hG:ch (R:=Rs) _ _=G;refine cJ (T:=(O2 k)) (show cL D Tryz.prog (O2 k) from⟨iu,aT _ _ look_ok,aT _ _ sF,aT _ _ xy,aT _ _ ih,trivial⟩) mixed 200 ?_
   refine bK (q:=let gu:=bk ar;let Z1:=(aN ai ag);let Z2:=(br ay m Z1);let Z3:=(aN ci cg);let Z4:=(br ay (aJ m Z1) Z3);let Z5:=(cu Z2>ck ar (cu Z4+(1:Int)));let Z6:=(aJ (aJ m Z1) Z3);let Z7:=(aN bi bg);let Z8:=(fy (bZ Z2) (bc Z2) (aA (kz ay k Z6 (bn Z2) Z7 Z3)) (bt Z2) (cu Z2));let Z9:=(gq ay (aw (kz ay k Z6 (bn Z2) Z7 Z3)) Z1 Z8);let dX:=(cu Z4>ck ar (cu Z2+(1:Int)));let cx:=(fy (bZ Z4) (aA (kz ay k Z6 Z1 Z7 (bc Z4))) (bn Z4) (bt Z4) (cu Z4));let dF:=(gq ay (aw (kz ay k Z6 Z1 Z7 (bc Z4))) Z3 cx);let fx:=(fy (bZ (br ay Z6 Z7)) Z1 Z3 (bt (br ay Z6 Z7)) (cu (br ay Z6 Z7)));Vc (PP m)/\Vc (PP (aJ m Z1))/\Vc True/\(decide Z5=ao->Vc (PP Z6/\vE ay k Z6 (bn Z2) Z7 Z3)/\Vc ((bj Z8)=bj Z8/\PP (aw (kz ay k Z6 (bn Z2) Z7 Z3)))/\aW (G (bE (aO [gu (cA (aA Z9)),gu (cB (aA Z9))])) [dD 1 ti tg,oP (aw Z9),aa (.inl (108,[gu ai,gu ag])),aa (.inl (108,[gu bi,gu bg])),aa (.inl (108,[gu ci,gu cg])),aa (.inl (108,[gu (cA (aA Z9)),gu (cB (aA Z9))])),aa (.inl (136,(bj Z8))),aa (.inl (136,(bj Z4)))]))/\(decide Z5=an->Vc True/\(decide dX=ao->Vc (PP Z6/\vE ay k Z6 Z1 Z7 (bc Z4))/\Vc ((bj cx)=bj cx/\PP (aw (kz ay k Z6 Z1 Z7 (bc Z4))))/\aW (G (bE (aO [gu (cA (aA dF)),gu (cB (aA dF))])) [dD 1 ti tg,oP (aw dF),aa (.inl (108,[gu ai,gu ag])),aa (.inl (108,[gu bi,gu bg])),aa (.inl (108,[gu ci,gu cg])),aa (.inl (108,[gu (cA (aA dF)),gu (cB (aA dF))])),aa (.inl (136,(bj Z2))),aa (.inl (136,(bj cx)))]))/\(decide dX=an->Vc (PP Z6)/\Vc ((bj fx)=bj fx/\(bj Z2)=bj Z2/\(bj Z4)=bj Z4/\PP (aJ Z6 Z7))/\aW (G (bE (aO [gu bi,gu bg])) [dD 1 ti tg,oP (D3 ay (aJ Z6 Z7) Z7 fx Z2 Z4),aa (.inl (108,[gu ai,gu ag])),aa (.inl (108,[gu bi,gu bg])),aa (.inl (108,[gu ci,gu cg])),aa (.inl (108,[gu bi,gu bg])),aa (.inl (136,(bj Z2))),aa (.inl (136,(bj Z4))),aa (.inl (136,(bj fx)))])))) ?_ (by kernel_rfl)
   intro gu Z1 Z2 Z3 Z4 Z5 Z6 Z7 Z8 Z9 dX cx dF fx;subst fx dF cx dX Z9 Z8 Z7 Z6 Z5 Z4 Z3 Z2 Z1 gu;rw[vE] at hd
   dsimp only [m7] at hd
   have done:∀ (i g:Int) (m':Pl) (rest:Hp Rs),kz ay (k+1) m ⟨ai,ag⟩ ⟨bi,bg⟩ ⟨ci,cg⟩=(⟨i,g⟩,m')->G (.agg ⟨[.int .i64 i,.int .i64 g]⟩) ([aa (.inl (110,[.pointer (aa ⟨1,0,aj⟩),.int .i64 ti,.int .i64 tg])),aa (.inr (.inr (.inr (.da m'))))]++rest):=by
    intro i g m' rest e;subst hG;refine⟨[0,1],?_,rfl,⟨.inl rfl,?_,trivial⟩,rfl,rfl,rfl,rfl⟩
    ·simp only[e];rfl
    ·simp only[e];rfl
   clear hG
   repeat' (first|apply cY|apply Vc.mk|apply fits.mk|intro h|apply aW.mk)
   all_goals (try simp only[sB] at *)
   all_goals first|contradiction|omega|exact jm ‹_›|exact jo ‹_›|exact jk ‹_›|exact⟨rfl,by omega⟩|exact rfl|(simp[*,-av];done)|skip
   all_goals first|assumption|(simp only[iX];assumption)|skip
   all_goals first|(rw[if_pos (by assumption)] at hd;exact hd)|(rw[if_neg (by omega),if_pos (by assumption)] at hd;exact hd)|skip
   all_goals (refine done _ _ _ _ ?_;rw[kz];(try dsimp only [m7]);repeat' split)
   all_goals first|rfl|(exfalso;omega)|contradiction|exact kf (re (by assumption)) rfl|(exfalso;simp_all;done)
  ·cases hx
def IK (K:Nat):Prim Rs:=fun args hh=>match args,hh with
 |[.pointer (aa ⟨0,0,aj⟩),.agg ⟨[.int .i64 ai,.int .i64 ag]⟩,.agg ⟨[.int .i64 ci,.int .i64 cg]⟩],[aa (.inl (110,[.pointer (aa ⟨1,0,aj⟩),.int .i64 ti,.int .i64 tg])),aa (.inr (.inr (.inr (.da m))))]=>aa ⟨PP m/\Fs ay K m ⟨ai,ag⟩ ⟨ci,cg⟩,.agg ⟨[.int .i64 (sq ay K m ⟨ai,ag⟩ ⟨ci,cg⟩).1.i,.int .i64 (sq ay K m ⟨ai,ag⟩ ⟨ci,cg⟩).1.g]⟩,aj,[aa (.inl (110,[.pointer (aa ⟨1,0,aj⟩),.int .i64 ti,.int .i64 tg])),aa (.inr (.inr (.inr (.da (sq ay K m ⟨ai,ag⟩ ⟨ci,cg⟩).2))))],[],[(0,0)]⟩
 |_,_=>aj
def PH (K:Nat):ez Rs:=[(163,bJ zN 2 (a9 (xa K))),(164,bJ zN 2 (a9 (A4 K)))]
theorem HB (K:Nat):b6 D Tryz.prog 144 (a9 (IK K)):=by
 refine fj Tryz.f144 fun args hh x hx=>?_
 unfold IK at hx;split at hx
 ·rename_i ai ag ci cg ti tg m;cases hx;refine q4 fun _ hv=>?_
  obtain⟨hp,hd⟩:=hv;generalize hG:ch (R:=Rs) _ _=G;refine cJ (T:=(PH K)) (show cL D Tryz.prog (PH K) from⟨aT _ _ (vl K),aT _ _ (xF K),trivial⟩) mixed 200 ?_
  refine bK (q:=let Z7:=bk ar;let Z1:=(if an=ao then !(ci==(0:Int)&&(cg==(0:Int)&&ao)) else ci==(0:Int)&&(cg==(0:Int)&&ao));let Z2:=(aw (aw (kg ay K m (aN ci cg))));let Z3:=(aA (aw (kg ay K m (aN ci cg))));let Z4:=(aA (kg ay K m (aN ci cg)));let Z5:=(cA (aA (kz ay K Z2 (aN ai ag) Z3 Z4)));let Z6:=(cB (aA (kz ay K Z2 (aN ai ag) Z3 Z4)));(Z1=ao->aW (G (bE (aO [Z7 ai,Z7 ag])) [dD 1 ti tg,oP m,aa (.inl (108,[Z7 ai,Z7 ag])),aa (.inl (108,[Z7 ci,Z7 cg])),aa (.inl (108,[Z7 ai,Z7 ag]))]))/\(Z1=an->Vc (PP m/\xj ay K m (aN ci cg))/\Vc (PP Z2/\vE ay K Z2 (aN ai ag) Z3 Z4)/\aW (G (bE (aO [Z7 Z5,Z7 Z6])) [dD 1 ti tg,oP (aw (kz ay K Z2 (aN ai ag) Z3 Z4)),aa (.inl (108,[Z7 ai,Z7 ag])),aa (.inl (108,[Z7 ci,Z7 cg])),aa (.inl (108,[Z7 Z5,Z7 Z6])),aa (.inl (108,[Z7 (cA Z4),Z7 (cB Z4)])),aa (.inl (108,[Z7 (cA Z3),Z7 (cB Z3)]))]))) ?_ (by kernel_rfl)
  intro Z7 Z1 Z2 Z3 Z4 Z5 Z6;subst Z6 Z5 Z4 Z3 Z2 Z1 Z7;unfold Fs at hd;have done:∀ (i g:Int) (m':Pl) (rest:Hp Rs),sq ay K m ⟨ai,ag⟩ ⟨ci,cg⟩=(⟨i,g⟩,m')->G (.agg ⟨[.int .i64 i,.int .i64 g]⟩) ([aa (.inl (110,[.pointer (aa ⟨1,0,aj⟩),.int .i64 ti,.int .i64 tg])),aa (.inr (.inr (.inr (.da m'))))]++rest):=by
   intro i g m' rest e;subst hG;refine⟨[0,1],?_,rfl,⟨.inl rfl,?_,trivial⟩,rfl,rfl,rfl,rfl⟩
   ·simp only[e];rfl
   ·simp only[e];rfl
  clear hG
  try simp only[KU,Bd]
  repeat' (first|apply cY|apply Vc.mk|apply fits.mk|intro h|apply aW.mk)
  all_goals (try simp only[sB] at *)
  all_goals first|contradiction|omega|exact jm ‹_›|exact jo ‹_›|exact jk ‹_›|exact⟨rfl,by omega⟩|exact rfl|(simp[*,-av];done)|skip
  all_goals first|assumption|(simp only[iX];assumption)|skip
  all_goals first|(rw[if_neg (by assumption)] at hd;first|exact hd.1|exact hd.2)|skip
  all_goals (refine done _ _ _ _ ?_;unfold sq;(try dsimp only [m7]);repeat' split)
  all_goals first|rfl|(exfalso;omega)|contradiction|exact kf (re (by assumption)) rfl|(exfalso;simp_all;done)
 ·cases hx
def AR (K:Nat) (k:Nat):Prim Rs:=fun args hh=>match args,hh with
 |[.pointer (aa ⟨0,0,aj⟩),.agg ⟨[.int .i64 ri,.int .i64 rg]⟩,.agg ⟨kE⟩],[aa (.inl (110,[.pointer (aa ⟨1,0,aj⟩),.int .i64 ti,.int .i64 tg])),aa (.inr (.inr (.inr (.da m))))]=>aa ⟨kE=dr (fP kE)/\(PP m/\sN ay K k m ⟨ri,rg⟩ (fP kE)),.tuple #[.agg ⟨[.int .i64 (jv ay K k m ⟨ri,rg⟩ (fP kE)).1.i,.int .i64 (jv ay K k m ⟨ri,rg⟩ (fP kE)).1.g]⟩,.agg ⟨[.int .i64 (jv ay K k m ⟨ri,rg⟩ (fP kE)).2.1.i,.int .i64 (jv ay K k m ⟨ri,rg⟩ (fP kE)).2.1.g]⟩],aj,[aa (.inl (110,[.pointer (aa ⟨1,0,aj⟩),.int .i64 ti,.int .i64 tg])),aa (.inr (.inr (.inr (.da (jv ay K k m ⟨ri,rg⟩ (fP kE)).2.2))))],[],[(0,0)]⟩
 |_,_=>aj
def Oo (K:Nat) (k:Nat):ez Rs:=[(222,bJ zN 2 (a9 IX)),(80,bJ zN 2 (a9 j9)),(136,bJ zN 2 (a9 uL)),(144,bJ zN 2 (a9 (IK K))),(113,bJ zN 2 (a9 (AR K k)))]
theorem xv (K:Nat):∀ k:Nat,b6 D Tryz.prog 113 (a9 (AR K k))
 |0=>by
  refine fj Tryz.f113 fun args hh x hx=>?_
  unfold AR at hx;split at hx
  ·rename_i ri rg kE ti tg m;cases hx;refine q4 fun _ hv=>?_
   exact kK (ic (ic hv))
  ·cases hx
 |k+1=>by
  have ih:=xv K k;refine fj Tryz.f113 fun args hh x hx=>?_
  unfold AR at hx;split at hx
  ·rename_i ri rg kE ti tg m;cases hx;refine q4 fun _ hv=>?_
   obtain⟨jU,hv⟩:=hv;generalize fP kE=ke at *;subst jU;obtain⟨hp,hd⟩:=hv
   generalize hG:ch (R:=Rs) _ _=G;refine cJ (T:=(Oo K k)) (show cL D Tryz.prog (Oo K k) from⟨aT _ _ xU,aT _ _ look_ok,aT _ _ sF,aT _ _ (HB K),aT _ _ ih,trivial⟩) mixed 200 ?_
   refine bK (q:=let e9:=bk ar;let Z1:=(br ay m (aN ri rg));let Z2:=(aO [e9 ri,e9 rg]);let Z3:=(aJ m (aN ri rg));let Z4:=(aA (aw (jv ay K k Z3 (bc Z1) ke)));let Z5:=(if an=ao then !(cA Z4==(0:Int)&&(cB Z4==(0:Int)&&ao)) else cA Z4==(0:Int)&&(cB Z4==(0:Int)&&ao));let Z6:=(aw (aw (jv ay K k Z3 (bc Z1) ke)));let Z7:=(fy (bZ Z1) (aA (jv ay K k Z3 (bc Z1) ke)) (bn Z1) (bt Z1) (cu Z1));let Z8:=(cA (aA (gq ay Z6 (aN ri rg) Z7)));let Z9:=(cB (aA (gq ay Z6 (aN ri rg) Z7)));let dX:=(aA (aw (jv ay K k Z3 (bn Z1) ke)));let cx:=(if an=ao then !(cA dX==(0:Int)&&(cB dX==(0:Int)&&ao)) else cA dX==(0:Int)&&(cB dX==(0:Int)&&ao));let dF:=(aw (aw (jv ay K k Z3 (bn Z1) ke)));let fx:=(fy (bZ Z1) (bc Z1) (aA (jv ay K k Z3 (bn Z1) ke)) (bt Z1) (cu Z1));let gu:=(cA (aA (gq ay dF (aN ri rg) fx)));let mP:=(cB (aA (gq ay dF (aN ri rg) fx)));let kS:=(aA (sq ay K Z3 (bc Z1) (bn Z1)));Vc (PP m)/\((cu Z1==(0:Int))=ao->aW (G (cq (aO [.agg Z2,bE (aO [e9 0,e9 0])])) [dD 1 ti tg,oP Z3,aa (.inl (108,[e9 ri,e9 rg])),aa (.inl (49,(dr ke))),aa (.inl (108,[e9 ri,e9 rg])),aa (.inl (108,[e9 0,e9 0])),aa (.inl (136,(bj Z1)))]))/\((cu Z1==(0:Int))=an->Vc True/\Vc True/\(decide (gW ay ke (bZ Z1)<(0:Int))=ao->Vc ((dr ke)=dr ke/\PP Z3/\sN ay K k Z3 (bc Z1) ke)/\(Z5=ao->aW (G (cq (aO [.agg Z2,bE (aO [e9 (cA Z4),e9 (cB Z4)])])) [dD 1 ti tg,oP Z6,aa (.inl (108,[e9 ri,e9 rg])),aa (.inl (49,(dr ke))),aa (.inl (108,[e9 ri,e9 rg])),aa (.inl (108,[e9 (cA Z4),e9 (cB Z4)])),aa (.inl (136,(bj Z7)))]))/\(Z5=an->Vc ((bj Z7)=bj Z7/\PP Z6)/\aW (G (cq (aO [.agg (aO [e9 Z8,e9 Z9]),bE (aO [e9 (cA Z4),e9 (cB Z4)])])) [dD 1 ti tg,oP (aw (gq ay Z6 (aN ri rg) Z7)),aa (.inl (108,[e9 ri,e9 rg])),aa (.inl (49,(dr ke))),aa (.inl (108,[e9 Z8,e9 Z9])),aa (.inl (108,[e9 (cA Z4),e9 (cB Z4)])),aa (.inl (136,(bj Z7)))])))/\(decide (gW ay ke (bZ Z1)<(0:Int))=an->(decide (gW ay ke (bZ Z1)>(0:Int))=ao->Vc ((dr ke)=dr ke/\PP Z3/\sN ay K k Z3 (bn Z1) ke)/\(cx=ao->aW (G (cq (aO [.agg Z2,bE (aO [e9 (cA dX),e9 (cB dX)])])) [dD 1 ti tg,oP dF,aa (.inl (108,[e9 ri,e9 rg])),aa (.inl (49,(dr ke))),aa (.inl (108,[e9 ri,e9 rg])),aa (.inl (108,[e9 (cA dX),e9 (cB dX)])),aa (.inl (136,(bj fx)))]))/\(cx=an->Vc ((bj fx)=bj fx/\PP dF)/\aW (G (cq (aO [.agg (aO [e9 gu,e9 mP]),bE (aO [e9 (cA dX),e9 (cB dX)])])) [dD 1 ti tg,oP (aw (gq ay dF (aN ri rg) fx)),aa (.inl (108,[e9 ri,e9 rg])),aa (.inl (49,(dr ke))),aa (.inl (108,[e9 gu,e9 mP])),aa (.inl (108,[e9 (cA dX),e9 (cB dX)])),aa (.inl (136,(bj fx)))])))/\(decide (gW ay ke (bZ Z1)>(0:Int))=an->Vc (PP Z3/\Fs ay K Z3 (bc Z1) (bn Z1))/\aW (G (cq (aO [.agg (aO [e9 (cA kS),e9 (cB kS)]),bE Z2])) [dD 1 ti tg,oP (aw (sq ay K Z3 (bc Z1) (bn Z1))),aa (.inl (108,[e9 ri,e9 rg])),aa (.inl (49,(dr ke))),aa (.inl (108,[e9 (cA kS),e9 (cB kS)])),aa (.inl (108,[e9 ri,e9 rg])),aa (.inl (136,(bj Z1)))]))))) ?_ (by kernel_rfl)
   intro e9 Z1 Z2 Z3 Z4 Z5 Z6 Z7 Z8 Z9 dX cx dF fx gu mP kS;subst kS mP gu fx dF cx dX Z9 Z8 Z7 Z6 Z5 Z4 Z3 Z2 Z1 e9;rw[sN] at hd;have done:∀ (i g i2 g2:Int) (m':Pl) (rest:Hp Rs),jv ay K (k+1) m ⟨ri,rg⟩ ke=(⟨i,g⟩,⟨i2,g2⟩,m')->G (.tuple #[.agg ⟨[.int .i64 i,.int .i64 g]⟩,.agg ⟨[.int .i64 i2,.int .i64 g2]⟩]) ([aa (.inl (110,[.pointer (aa ⟨1,0,aj⟩),.int .i64 ti,.int .i64 tg])),aa (.inr (.inr (.inr (.da m'))))]++rest):=by
    intro i g i2 g2 m' rest e;subst hG;refine⟨[0,1],?_,rfl,⟨.inl rfl,?_,trivial⟩,rfl,rfl,rfl,rfl⟩
    ·simp only[e];rfl
    ·simp only[e];rfl
   clear hG
   try simp only[KU,Bd]
   repeat' (first|apply cY|apply Vc.mk|apply fits.mk|intro h|apply aW.mk)
   all_goals (try simp only[sB] at *)
   all_goals first|contradiction|omega|exact jm ‹_›|exact jo ‹_›|exact jk ‹_›|exact⟨rfl,by omega⟩|exact rfl|(simp[*,-av];done)|skip
   all_goals first|assumption|(simp only[iX];assumption)|skip
   all_goals first|(rw[if_neg (by assumption),if_pos (by assumption)] at hd;exact hd)|(rw[if_neg (by assumption),if_neg (by omega),if_pos (by assumption)] at hd;exact hd)|(rw[if_neg (by assumption),if_neg (by omega),if_neg (by omega)] at hd;exact hd)|skip
   all_goals (refine done _ _ _ _ _ _ ?_;rw[jv];(try dsimp only [m7]);repeat' split)
   all_goals first|rfl|(exfalso;omega)|contradiction|exact kf (re (by assumption)) rfl|(exfalso;simp_all;done)
  ·cases hx
def uw  (k:Nat):Prim Rs:=fun args hh=>match args,hh with
 |[.pointer (aa ⟨0,0,aj⟩),.slice (aa ⟨1,0,aa 8000⟩) n cp,.agg ⟨[.int .i64 ri,.int .i64 rg]⟩],[aa (.inl (110,[.pointer (aa ⟨2,0,aj⟩),.int .i64 ti,.int .i64 tg])),aa (.inr (.inl (49,⟨[.int .i64 0,.bool an,.int .i64 0,.int .i64 0,.bool an,.bool an,.int .i64 0,.int .i64 0],n2,[⟨a0,[],[]⟩,⟨[],a1,[]⟩,⟨a2,[],[]⟩,⟨a3,[],[]⟩,⟨[],a4,[]⟩,⟨[],a5,[]⟩,⟨a6,[],[]⟩,⟨a7,[],[]⟩]⟩))),aa (.inr (.inr (.inr (.da m))))]=>aa ⟨(PP m/\n2=n/\a0.length=n/\a1.length=n/\a2.length=n/\a3.length=n/\a4.length=n/\a5.length=n/\a6.length=n/\a7.length=n/\n+(bY ay k m ⟨ri,rg⟩).1.length<900000)/\iY ay k m ⟨ri,rg⟩,.slice (aa ⟨3,0,aa 8000⟩) (n+(bY ay k m ⟨ri,rg⟩).1.length) (if(bY ay k m ⟨ri,rg⟩).1.length=0 then cp else 0),aj,[aa (.inl (110,[.pointer (aa ⟨2,0,aj⟩),.int .i64 ti,.int .i64 tg])),aj,aa (.inr (.inr (.inr (.da (bY ay k m ⟨ri,rg⟩).2)))),aa (.inr (.inl (49,⟨[.int .i64 0,.bool an,.int .i64 0,.int .i64 0,.bool an,.bool an,.int .i64 0,.int .i64 0],(n+(bY ay k m ⟨ri,rg⟩).1.length),[⟨(a0++(bY ay k m ⟨ri,rg⟩).1.map fun e=>e.t),[],[]⟩,⟨[],(a1++(bY ay k m ⟨ri,rg⟩).1.map fun e=>e.ins),[]⟩,⟨(a2++(bY ay k m ⟨ri,rg⟩).1.map fun e=>e.it.k),[],[]⟩,⟨(a3++(bY ay k m ⟨ri,rg⟩).1.map fun e=>e.it.i),[],[]⟩,⟨[],(a4++(bY ay k m ⟨ri,rg⟩).1.map fun e=>e.here),[]⟩,⟨[],(a5++(bY ay k m ⟨ri,rg⟩).1.map fun e=>e.tf),[]⟩,⟨(a6++(bY ay k m ⟨ri,rg⟩).1.map fun e=>e.tk.k),[],[]⟩,⟨(a7++(bY ay k m ⟨ri,rg⟩).1.map fun e=>e.tk.i),[],[]⟩]⟩)))],[],[(0,0)]⟩
 |_,_=>aj
def GM (k:Nat):ez Rs:=[(80,bJ zN 2 (a9 j9)),(60,bJ zN 2 (a9 (uw k)))]
theorem qJ:∀ k:Nat,b6 D Tryz.prog 60 (a9 (uw k))
 |0=>by
  refine fj Tryz.f60 fun args hh x hx=>?_
  unfold uw at hx;split at hx
  ·rename_i n cp ri rg ti tg n2 a0 a1 a2 a3 a4 a5 a6 a7 m;cases hx;refine q4 fun _ hv=>?_
   exact kK (ic hv)
  ·cases hx
 |k+1=>by
  have ih:=qJ k;refine fj Tryz.f60 fun args hh x hx=>?_
  unfold uw at hx;split at hx
  ·rename_i n cp ri rg ti tg n2 a0 a1 a2 a3 a4 a5 a6 a7 m;cases hx;refine q4 fun _ hv=>?_
   obtain⟨⟨hp,rfl,ha0,ha1,ha2,ha3,ha4,ha5,ha6,ha7,hb⟩,hd⟩:=hv;generalize hG:ch (R:=Rs) _ _=G;refine cJ (T:=(GM k)) (show cL D Tryz.prog (GM k) from⟨aT _ _ look_ok,aT _ _ ih,trivial⟩) mixed 200 ?_
   refine bK (q:=let Z1:=(br ay m (aN ri rg));let Z2:=(dr (Ft 0 an (cW 0 0) an an (cW 0 0)));let Z3:=(aJ m (aN ri rg));let Z4:=(aA (bY ay k Z3 (bc Z1)));let Z5:=(n2+ae Z4);let Z6:=(aw (bY ay k Z3 (bc Z1)));let Z7:=(bZ Z1);let Z8:=(aA (bY ay k Z6 (bn Z1)));Vc (PP m)/\((cu Z1==(0:Int))=ao->aW (G (bx (aa ⟨1,0,aa 8000⟩) n2 cp) [dD 2 ti tg,aa (.inr (.inl (49,Row.mk Z2 n2 [aX.mk a0 [] [],aX.mk [] a1 [],aX.mk a2 [] [],aX.mk a3 [] [],aX.mk [] a4 [],aX.mk [] a5 [],aX.mk a6 [] [],aX.mk a7 [] []]))),oP Z3,aa (.inl (108,[.int ar ri,.int ar rg])),aa (.inr (.inl (49,Row.mk Z2 0 [aX.mk [] [] [],aX.mk [] [] [],aX.mk [] [] [],aX.mk [] [] [],aX.mk [] [] [],aX.mk [] [] [],aX.mk [] [] [],aX.mk [] [] []]))),aa (.inl (136,(bj Z1)))]))/\((cu Z1==(0:Int))=an->Vc ((PP Z3/\n2=n2/\ae a0=n2/\ae a1=n2/\ae a2=n2/\ae a3=n2/\ae a4=n2/\ae a5=n2/\ae a6=n2/\ae a7=n2/\n2+ae Z4<900000)/\iY ay k Z3 (bc Z1))/\Vc (0+Z5≤n2+ae Z4/\1≤1/\(n2+ae Z4+1)*64≤140737488355328/\n2+ae Z4+1≤140737488355328)/\Vc ((PP Z6/\n2+ae Z4+1=n2+ae Z4+1/\ae (cut (a0++au (fun e=>D4 e) Z4) 0 Z5++cut [D4 Z7] 0 1)=n2+ae Z4+1/\ae (cut (a1++au (fun e=>z8 e) Z4) 0 Z5++cut [z8 Z7] 0 1)=n2+ae Z4+1/\ae (cut (a2++au (fun e=>m_ (qg e)) Z4) 0 Z5++cut [m_ (qg Z7)] 0 1)=n2+ae Z4+1/\ae (cut (a3++au (fun e=>na (qg e)) Z4) 0 Z5++cut [na (qg Z7)] 0 1)=n2+ae Z4+1/\ae (cut (a4++au (fun e=>xV e) Z4) 0 Z5++cut [xV Z7] 0 1)=n2+ae Z4+1/\ae (cut (a5++au (fun e=>B9 e) Z4) 0 Z5++cut [B9 Z7] 0 1)=n2+ae Z4+1/\ae (cut (a6++au (fun e=>m_ (qh e)) Z4) 0 Z5++cut [m_ (qh Z7)] 0 1)=n2+ae Z4+1/\ae (cut (a7++au (fun e=>na (qh e)) Z4) 0 Z5++cut [na (qh Z7)] 0 1)=n2+ae Z4+1/\n2+ae Z4+1+ae Z8<900000)/\iY ay k Z6 (bn Z1))/\aW (G (bx (aa ⟨9,0,aa 8000⟩) (n2+ae Z4+1+ae Z8) (if ae Z8=0 then 0 else 0)) [dD 2 ti tg,aj,oP (aw (bY ay k Z6 (bn Z1))),aa (.inl (108,[.int ar ri,.int ar rg])),aa (.inr (.inl (49,Row.mk Z2 0 [aX.mk [] [] [],aX.mk [] [] [],aX.mk [] [] [],aX.mk [] [] [],aX.mk [] [] [],aX.mk [] [] [],aX.mk [] [] [],aX.mk [] [] []]))),aa (.inl (136,(bj Z1))),aj,aa (.inr (.inl (49,Row.mk Z2 1 [aX.mk [D4 Z7] [] [],aX.mk [] [z8 Z7] [],aX.mk [m_ (qg Z7)] [] [],aX.mk [na (qg Z7)] [] [],aX.mk [] [xV Z7] [],aX.mk [] [B9 Z7] [],aX.mk [m_ (qh Z7)] [] [],aX.mk [na (qh Z7)] [] []]))),aj,aa (.inr (.inl (49,Row.mk Z2 (n2+ae Z4+1+ae Z8) [aX.mk (cut (a0++au (fun e=>D4 e) Z4) 0 Z5++cut [D4 Z7] 0 1++au (fun e=>D4 e) Z8) [] [],aX.mk [] (cut (a1++au (fun e=>z8 e) Z4) 0 Z5++cut [z8 Z7] 0 1++au (fun e=>z8 e) Z8) [],aX.mk (cut (a2++au (fun e=>m_ (qg e)) Z4) 0 Z5++cut [m_ (qg Z7)] 0 1++au (fun e=>m_ (qg e)) Z8) [] [],aX.mk (cut (a3++au (fun e=>na (qg e)) Z4) 0 Z5++cut [na (qg Z7)] 0 1++au (fun e=>na (qg e)) Z8) [] [],aX.mk [] (cut (a4++au (fun e=>xV e) Z4) 0 Z5++cut [xV Z7] 0 1++au (fun e=>xV e) Z8) [],aX.mk [] (cut (a5++au (fun e=>B9 e) Z4) 0 Z5++cut [B9 Z7] 0 1++au (fun e=>B9 e) Z8) [],aX.mk (cut (a6++au (fun e=>m_ (qh e)) Z4) 0 Z5++cut [m_ (qh Z7)] 0 1++au (fun e=>m_ (qh e)) Z8) [] [],aX.mk (cut (a7++au (fun e=>na (qh e)) Z4) 0 Z5++cut [na (qh Z7)] 0 1++au (fun e=>na (qh e)) Z8) [] []])))]))) ?_ (by kernel_rfl)
   intro Z1 Z2 Z3 Z4 Z5 Z6 Z7 Z8;subst Z8 Z7 Z6 Z5 Z4 Z3 Z2 Z1;simp only[iY] at hd;subst hG;have c1:∀ x:Int,cut [x] 0 1=[x]:=fun x=>rfl
   have c2:∀ x:Bool,cut [x] 0 1=[x]:=fun x=>rfl
   have e0:(br ay m (⟨ri,rg⟩:bm)).h=0->bY ay (k+1) m (⟨ri,rg⟩:bm)=([],aJ m (⟨ri,rg⟩:bm)):=fun h=>by rw[bY,if_pos h]
   have e1:(br ay m (⟨ri,rg⟩:bm)).h≠0->bY ay (k+1) m (⟨ri,rg⟩:bm)=((bY ay k (aJ m (⟨ri,rg⟩:bm)) (br ay m (⟨ri,rg⟩:bm)).l).1++(br ay m (⟨ri,rg⟩:bm)).e::(bY ay k (bY ay k (aJ m (⟨ri,rg⟩:bm)) (br ay m (⟨ri,rg⟩:bm)).l).2 (br ay m (⟨ri,rg⟩:bm)).r).1,(bY ay k (bY ay k (aJ m (⟨ri,rg⟩:bm)) (br ay m (⟨ri,rg⟩:bm)).l).2 (br ay m (⟨ri,rg⟩:bm)).r).2):=fun h=>by rw[bY,if_neg h]
   have LX:(br ay m (⟨ri,rg⟩:bm)).h≠0->n2+((bY ay k (aJ m (⟨ri,rg⟩:bm)) (br ay m (⟨ri,rg⟩:bm)).l).1.length+((bY ay k (bY ay k (aJ m (⟨ri,rg⟩:bm)) (br ay m (⟨ri,rg⟩:bm)).l).2 (br ay m (⟨ri,rg⟩:bm)).r).1.length+1))<900000:=fun h=>by rw[e1 h] at hb;simpa using hb
   generalize hx:bY ay k (aJ m (⟨ri,rg⟩:bm)) (br ay m (⟨ri,rg⟩:bm)).l=x at *
   generalize hy:bY ay k x.2 (br ay m (⟨ri,rg⟩:bm)).r=y at *
   have hxp:PP x.2:=by rw[← hx];exact Gv.qJ.2 (iZ.2 hp)
   have wX:∀ q,iY ay k x.2 q↔iY ay k m q:=fun q=>by rw[← hx,Gv.L5,qB]
   simp only[fF (show(a0++x.1.map fun e=>e.t).length=n2+x.1.length by simp[ha0]),fF (show(a1++x.1.map fun e=>e.ins).length=n2+x.1.length by simp[ha1]),fF (show(a2++x.1.map fun e=>e.it.k).length=n2+x.1.length by simp[ha2]),fF (show(a3++x.1.map fun e=>e.it.i).length=n2+x.1.length by simp[ha3]),fF (show(a4++x.1.map fun e=>e.here).length=n2+x.1.length by simp[ha4]),fF (show(a5++x.1.map fun e=>e.tf).length=n2+x.1.length by simp[ha5]),fF (show(a6++x.1.map fun e=>e.tk.k).length=n2+x.1.length by simp[ha6]),fF (show(a7++x.1.map fun e=>e.tk.i).length=n2+x.1.length by simp[ha7]),c1,c2,qB,wX]
   repeat' (first|apply cY|apply Vc.mk|apply fits.mk|intro h|apply aW.mk)
   all_goals (try simp only[sB] at *)
   all_goals first|contradiction|omega|exact jm ‹_›|exact jo ‹_›|exact jk ‹_›|exact⟨rfl,by omega⟩|exact rfl|(simp[*,-av];done)|skip
   all_goals first|omega|assumption|exact iZ.2 hp|(rcases hd with hd|hd;exfalso;omega;first|exact hd.1|exact hd.2)|(have:=LX (by assumption);omega)|(simp;omega)|skip
   ·have h0:(br ay m (⟨ri,rg⟩:bm)).h=0:=by assumption
    rw[e0 h0];simp only[List.length_nil,if_true];refine⟨[0,1,2,1],?_,rfl,?_,rfl,rfl,rfl,(by kernel_rfl)⟩
    ·rfl
    ·simp[dr,ub,AY,nth,fS,wT,pA,lU,gg,vT,ui,B4,zP,Gd,yQ,AM]
   ·have h0:(br ay m (⟨ri,rg⟩:bm)).h≠0:=by assumption
    rw[e1 h0];have e2:n2+(x.1++(br ay m (⟨ri,rg⟩:bm)).e::y.1).length=n2+x.1.length+1+y.1.length:=by simp;omega
    have e3:(x.1++(br ay m (⟨ri,rg⟩:bm)).e::y.1).length≠0:=by simp
    simp only[e2,if_neg e3,ite_self];refine⟨[0,1,2,9],?_,rfl,?_,rfl,rfl,rfl,(by kernel_rfl)⟩
    ·rfl
    ·simp[dr,ub,AY,nth,fS,wT,pA,lU,gg,vT,ui,B4,zP,Gd,yQ,AM]
     all_goals first|rfl|omega|skip
  ·cases hx
set_option maxHeartbeats 16000000
def TU  (k:Nat):Prim Rs:=fun args hh=>match args,hh with
 |[.pointer (aa ⟨0,0,aj⟩),.agg ⟨xN⟩,.int .i64 x_,.int .i64 y_],[aa (.inl (110,[.pointer (aa ⟨1,0,aj⟩),.int .i64 ti,.int .i64 tg])),aa (.inr (.inr (.inr (.da m))))]=>aa ⟨xN=bj (fU xN)/\(PP m/\uR ay k m (fU xN) x_ y_),.agg ⟨bW (gU ay k m (fU xN) x_ y_).1⟩,aj,[aa (.inl (110,[.pointer (aa ⟨1,0,aj⟩),.int .i64 ti,.int .i64 tg])),aa (.inr (.inr (.inr (.da (gU ay k m (fU xN) x_ y_).2))))],[],[(0,0)]⟩
 |_,_=>aj
def aj5 (k:Nat):ez Rs:=[(1000000000,lL),(80,bJ zN 2 (a9 j9)),(98,bJ zN 2 (a9 AB)),(148,bJ zN 2 (a9 dY)),(119,bJ zN 2 (a9 (TU k)))]
theorem ab8:∀ k:Nat,b6 D Tryz.prog 119 (a9 (TU k))
 |0=>by
  refine fj Tryz.f119 fun args hh x hx=>?_
  unfold TU at hx;split at hx
  ·rename_i xN x_ y_ ti tg m;cases hx;refine q4 fun _ hv=>?_
   exact kK (ic (ic hv))
  ·cases hx
 |k+1=>by
  have ih:=ab8 k;refine fj Tryz.f119 fun args hh x hx=>?_
  unfold TU at hx;split at hx
  ·rename_i xN x_ y_ ti tg m;cases hx;refine q4 fun _ hv=>?_
   obtain⟨jU,hv⟩:=hv;generalize fU xN=xn at *;subst jU;obtain⟨hp,hd⟩:=hv
   generalize hG:ch (R:=Rs) _ _=G;refine cJ (T:=(aj5 k)) (show cL D Tryz.prog (aj5 k) from⟨iu,aT _ _ look_ok,aT _ _ yw,aT _ _ uz,aT _ _ ih,trivial⟩) mixed 200 ?_
   refine bK (q:=let Z1:=(if(0:Int)>x_ then(0:Int) else x_);let Z2:=(bt xn);let Z3:=(bW (my 0 (xl (iM 0 0 0) (iM 0 0 0) 0 0 (cW 0 0) an (cW 0 0) an (cW 0 0))));let Z4:=(if bM Z2<y_ then bM Z2 else y_);let Z5:=(br ay m (bc xn));let Z6:=(bM (bt Z5)<if bM Z2<y_ then bM Z2 else y_);let Z7:=(aA (gU ay k (aJ m (bc xn)) Z5 Z1 Z4));let Z8:=(ew ay Z7 (nN ay (bZ xn)));let Z9:=(aw (gU ay k (aJ m (bc xn)) Z5 Z1 Z4));let dX:=(br ay Z9 (bn xn));let cx:=(ck ar (ck ar (Z1-bM (bt Z5))-(1:Int)));let dF:=(ck ar (ck ar (Z4-bM (bt Z5))-(1:Int)));let fx:=(gU ay k (aJ Z9 (bn xn)) dX cx dF);(decide (Z1≥if bM Z2<y_ then bM Z2 else y_)=ao->aW (G (bE (aO Z3)) [dD 1 ti tg,oP m,aa (.inl (136,(bj xn))),aa (.inl (134,Z3))]))/\(decide (Z1≥if bM Z2<y_ then bM Z2 else y_)=an->((Z1==(0:Int))=ao->((Z4==bM Z2)=ao->aW (G (bE (aO (bW Z2))) [dD 1 ti tg,oP m,aa (.inl (136,(bj xn))),aa (.inl (134,(bW Z2)))]))/\((Z4==bM Z2)=an->Vc (PP m)/\Vc ((bj Z5)=bj Z5/\PP (aJ m (bc xn))/\uR ay k (aJ m (bc xn)) Z5 Z1 Z4)/\(decide (Z1≤bM (bt Z5))=ao->(decide Z6=ao->Vc ((dr (bZ xn))=dr (bZ xn)/\True)/\Vc ((bW Z7)=bW Z7/\(bW (nN ay (bZ xn)))=bW (nN ay (bZ xn))/\True)/\Vc True/\(decide (Z4≤ck ar (bM (bt Z5)+(1:Int)))=ao->aW (G (bE (aO (bW Z8))) [dD 1 ti tg,oP Z9,aa (.inl (136,(bj xn))),aa (.inl (134,(bW Z8))),aa (.inl (136,(bj Z5))),aa (.inl (134,(bW Z8)))]))/\(decide (Z4≤ck ar (bM (bt Z5)+(1:Int)))=an->Vc (PP Z9)/\Vc True/\Vc True/\Vc True/\Vc True/\Vc ((bj dX)=bj dX/\PP (aJ Z9 (bn xn))/\uR ay k (aJ Z9 (bn xn)) dX cx dF)/\Vc ((bW Z8)=bW Z8/\(bW (aA fx))=bW (aA fx)/\True)/\aW (G (bE (aO (bW (ew ay Z8 (aA fx))))) [dD 1 ti tg,oP (aw fx),aa (.inl (136,(bj xn))),aa (.inl (134,(bW (ew ay Z8 (aA fx))))),aa (.inl (136,(bj Z5))),aa (.inl (134,(bW Z8)))])))/\(decide Z6=an->Vc True/\(decide (Z4≤ck ar (bM (bt Z5)+(1:Int)))=ao->aW (G (bE (aO (bW Z7))) [dD 1 ti tg,oP Z9,aa (.inl (136,(bj xn))),aa (.inl (134,(bW Z7))),aa (.inl (136,(bj Z5))),aa (.inl (134,(bW Z7)))]))/\(decide (Z4≤ck ar (bM (bt Z5)+(1:Int)))=an->Vc (PP Z9)/\Vc True/\Vc True/\Vc True/\Vc True/\Vc ((bj dX)=bj dX/\PP (aJ Z9 (bn xn))/\uR ay k (aJ Z9 (bn xn)) dX cx dF)/\Vc ((bW Z7)=bW Z7/\(bW (aA fx))=bW (aA fx)/\True)/\aW (G (bE (aO (bW (ew ay Z7 (aA fx))))) [dD 1 ti tg,oP (aw fx),aa (.inl (136,(bj xn))),aa (.inl (134,(bW (ew ay Z7 (aA fx))))),aa (.inl (136,(bj Z5))),aa (.inl (134,(bW Z7)))]))))/\(decide (Z1≤bM (bt Z5))=an->Vc True/\(decide (Z4≤ck ar (bM (bt Z5)+(1:Int)))=ao->aW (G (bE (aO (bW Z7))) [dD 1 ti tg,oP Z9,aa (.inl (136,(bj xn))),aa (.inl (134,(bW Z7))),aa (.inl (136,(bj Z5))),aa (.inl (134,(bW Z7)))]))/\(decide (Z4≤ck ar (bM (bt Z5)+(1:Int)))=an->Vc (PP Z9)/\Vc True/\Vc True/\Vc True/\Vc True/\Vc ((bj dX)=bj dX/\PP (aJ Z9 (bn xn))/\uR ay k (aJ Z9 (bn xn)) dX cx dF)/\Vc ((bW Z7)=bW Z7/\(bW (aA fx))=bW (aA fx)/\True)/\aW (G (bE (aO (bW (ew ay Z7 (aA fx))))) [dD 1 ti tg,oP (aw fx),aa (.inl (136,(bj xn))),aa (.inl (134,(bW (ew ay Z7 (aA fx))))),aa (.inl (136,(bj Z5))),aa (.inl (134,(bW Z7)))])))))/\((Z1==(0:Int))=an->Vc (PP m)/\Vc ((bj Z5)=bj Z5/\PP (aJ m (bc xn))/\uR ay k (aJ m (bc xn)) Z5 Z1 Z4)/\(decide (Z1≤bM (bt Z5))=ao->(decide Z6=ao->Vc ((dr (bZ xn))=dr (bZ xn)/\True)/\Vc ((bW Z7)=bW Z7/\(bW (nN ay (bZ xn)))=bW (nN ay (bZ xn))/\True)/\Vc True/\(decide (Z4≤ck ar (bM (bt Z5)+(1:Int)))=ao->aW (G (bE (aO (bW Z8))) [dD 1 ti tg,oP Z9,aa (.inl (136,(bj xn))),aa (.inl (134,(bW Z8))),aa (.inl (136,(bj Z5))),aa (.inl (134,(bW Z8)))]))/\(decide (Z4≤ck ar (bM (bt Z5)+(1:Int)))=an->Vc (PP Z9)/\Vc True/\Vc True/\Vc True/\Vc True/\Vc ((bj dX)=bj dX/\PP (aJ Z9 (bn xn))/\uR ay k (aJ Z9 (bn xn)) dX cx dF)/\Vc ((bW Z8)=bW Z8/\(bW (aA fx))=bW (aA fx)/\True)/\aW (G (bE (aO (bW (ew ay Z8 (aA fx))))) [dD 1 ti tg,oP (aw fx),aa (.inl (136,(bj xn))),aa (.inl (134,(bW (ew ay Z8 (aA fx))))),aa (.inl (136,(bj Z5))),aa (.inl (134,(bW Z8)))])))/\(decide Z6=an->Vc True/\(decide (Z4≤ck ar (bM (bt Z5)+(1:Int)))=ao->aW (G (bE (aO (bW Z7))) [dD 1 ti tg,oP Z9,aa (.inl (136,(bj xn))),aa (.inl (134,(bW Z7))),aa (.inl (136,(bj Z5))),aa (.inl (134,(bW Z7)))]))/\(decide (Z4≤ck ar (bM (bt Z5)+(1:Int)))=an->Vc (PP Z9)/\Vc True/\Vc True/\Vc True/\Vc True/\Vc ((bj dX)=bj dX/\PP (aJ Z9 (bn xn))/\uR ay k (aJ Z9 (bn xn)) dX cx dF)/\Vc ((bW Z7)=bW Z7/\(bW (aA fx))=bW (aA fx)/\True)/\aW (G (bE (aO (bW (ew ay Z7 (aA fx))))) [dD 1 ti tg,oP (aw fx),aa (.inl (136,(bj xn))),aa (.inl (134,(bW (ew ay Z7 (aA fx))))),aa (.inl (136,(bj Z5))),aa (.inl (134,(bW Z7)))]))))/\(decide (Z1≤bM (bt Z5))=an->Vc True/\(decide (Z4≤ck ar (bM (bt Z5)+(1:Int)))=ao->aW (G (bE (aO (bW Z7))) [dD 1 ti tg,oP Z9,aa (.inl (136,(bj xn))),aa (.inl (134,(bW Z7))),aa (.inl (136,(bj Z5))),aa (.inl (134,(bW Z7)))]))/\(decide (Z4≤ck ar (bM (bt Z5)+(1:Int)))=an->Vc (PP Z9)/\Vc True/\Vc True/\Vc True/\Vc True/\Vc ((bj dX)=bj dX/\PP (aJ Z9 (bn xn))/\uR ay k (aJ Z9 (bn xn)) dX cx dF)/\Vc ((bW Z7)=bW Z7/\(bW (aA fx))=bW (aA fx)/\True)/\aW (G (bE (aO (bW (ew ay Z7 (aA fx))))) [dD 1 ti tg,oP (aw fx),aa (.inl (136,(bj xn))),aa (.inl (134,(bW (ew ay Z7 (aA fx))))),aa (.inl (136,(bj Z5))),aa (.inl (134,(bW Z7)))])))))) ?_ (by kernel_rfl)
   intro Z1 Z2 Z3 Z4 Z5 Z6 Z7 Z8 Z9 dX cx dF fx;subst fx dF cx dX Z9 Z8 Z7 Z6 Z5 Z4 Z3 Z2 Z1;rw[uR] at hd
   dsimp only [m7,Gv.mx,Gv.mn] at hd
   have done:∀ (o:Gv.Part Wv.Sw) (m':Pl) (rest:Hp Rs),gU ay (k+1) m xn x_ y_=(o,m')->G (.agg ⟨bW o⟩) ([aa (.inl (110,[.pointer (aa ⟨1,0,aj⟩),.int .i64 ti,.int .i64 tg])),aa (.inr (.inr (.inr (.da m'))))]++rest):=by
    intro o m' rest e;subst hG;refine⟨[0,1],?_,rfl,⟨.inl rfl,?_,trivial⟩,rfl,rfl,rfl,rfl⟩
    ·simp only[e];rfl
    ·simp only[e];rfl
   clear hG;rw[gU] at done
   dsimp only [m7,Gv.mx,Gv.mn] at done
   repeat' (first|apply cY|apply Vc.mk|apply fits.mk|intro h|apply aW.mk)
   all_goals (try simp only[sB] at *)
   all_goals first|contradiction|omega|exact jm ‹_›|exact jo ‹_›|exact jk ‹_›|exact⟨rfl,by omega⟩|exact rfl|(simp[*,-av];done)|skip
   all_goals first|assumption|(simp only[iX];assumption)|skip
   all_goals first|exact(hd (by omega) (by omega)).1|exact(hd (by omega) (by omega)).2 (by omega)|skip
   all_goals (refine done _ _ _ ?_;repeat' split)
   all_goals first|rfl|(exfalso;omega)
  ·cases hx
def V4:ez Rs:=[(130,bJ zN 2 (a9 MF))]
theorem Rf:cL D Tryz.prog V4:=⟨aT _ _ Wd,trivial⟩
def Ir:Prim Rs:=fun args hh=>match args,hh with
 |[.int .i64 c],[]=>aa ⟨True,.pointer (aa ⟨0,0,aj⟩),aj,[aa (.inl (110,[.pointer (aa ⟨1,0,aj⟩),.int .i64 Gv.r0.i,.int .i64 Gv.r0.g])),aa (.inr (.inr (.inr (.da ⟨[],[],[],[],0,min (max c 0) 16777216,0⟩))))],[],[(0,0)]⟩
 |_,_=>aj
theorem QW:b6 D Tryz.prog 90 (a9 Ir):=by
 refine fj Tryz.f90 fun args hh x hx=>?_
 unfold Ir at hx;split at hx
 ·rename_i c;cases hx;refine q4 fun _ hv=>?_
  generalize hG:ch (R:=Rs) _ _=G;refine cJ (T:=V4) Rf mixed 200 ?_;refine bK (q:=Vc True/\aW (G (aC (aa ⟨1,0,aj⟩)) [oP (Gv.PM.mk [] [] [] [] (0:Int) (min (max c (0:Int)) (16777216:Int)) (0:Int)),dD 0 0 0])) ?_ (by kernel_rfl)
  subst hG
  repeat' (first|apply cY|apply Vc.mk|apply fits.mk|intro h|apply aW.mk)
  all_goals (try simp only[sB] at *)
  all_goals first|contradiction|omega|exact jm ‹_›|exact jo ‹_›|exact jk ‹_›|exact⟨rfl,by omega⟩|exact rfl|(simp[*,-av];done)|skip
  exact⟨[1,0],rfl,rfl,⟨.inl rfl,rfl,trivial⟩,rfl,rfl,rfl,rfl⟩
 ·cases hx
def J9:ez Rs:=[(80,bJ zN 2 (a9 j9))]
theorem Kc:cL D Tryz.prog J9:=⟨aT _ _ look_ok,trivial⟩
def BO:Prim Rs:=fun args hh=>match args,hh with
 |[.pointer (aa ⟨0,0,aj⟩)],[aa (.inl (110,[.pointer (aa ⟨1,0,aj⟩),.int .i64 ti,.int .i64 tg])),aa (.inr (.inr (.inr (.da m))))]=>aa ⟨PP m,.int .i64 (br ay m (⟨ti,tg⟩:bm)).all.n,aj,[aa (.inl (110,[.pointer (aa ⟨1,0,aj⟩),.int .i64 ti,.int .i64 tg])),aa (.inr (.inr (.inr (.da (aJ m (⟨ti,tg⟩:bm))))))],[],[(0,0)]⟩
 |_,_=>aj
theorem Kj:b6 D Tryz.prog 40 (a9 BO):=by
 refine fj Tryz.f40 fun args hh x hx=>?_
 unfold BO at hx;split at hx
 ·rename_i ti tg m;cases hx;refine q4 fun _ hv=>?_
  generalize hG:ch (R:=Rs) _ _=G;refine cJ (T:=J9) Kc mixed 200 ?_;refine bK (q:=Vc (PP m)/\aW (G (bk ar (bM (bt (br ay m (aN ti tg))))) [dD 1 ti tg,oP (aJ m (aN ti tg))])) ?_ (by kernel_rfl)
  subst hG
  repeat' (first|apply cY|apply Vc.mk|apply fits.mk|intro h|apply aW.mk)
  all_goals (try simp only[sB] at *)
  all_goals first|contradiction|omega|exact jm ‹_›|exact jo ‹_›|exact jk ‹_›|exact⟨rfl,by omega⟩|exact rfl|(simp[*,-av];done)|skip
  all_goals first|assumption|(simp only[iX];assumption)|skip
  exact⟨[0,1],rfl,rfl,⟨.inl rfl,rfl,trivial⟩,rfl,rfl,rfl,rfl⟩
 ·cases hx
def UP:ez Rs:=[(117,bJ zN 2 (a9 Bu))]
theorem Ro:cL D Tryz.prog UP:=⟨aT _ _ JG,trivial⟩
def yT:Prim Rs:=fun args hh=>match args,hh with
 |[.pointer (aa ⟨0,0,aj⟩)],[aa (.inl (110,[.pointer (aa ⟨1,0,aj⟩),.int .i64 ti,.int .i64 tg])),aa (.inr (.inr (.inr (.da m))))]=>aa ⟨True,.int .i64 m.cX,aj,hh,[],[]⟩
 |_,_=>aj
theorem HR:b6 D Tryz.prog 76 (a9 yT):=by
 refine fj Tryz.f76 fun args hh x hx=>?_
 unfold yT at hx;split at hx
 ·rename_i ti tg m;cases hx;refine q4 fun _ hv=>?_
  generalize hG:ch (R:=Rs) _ _=G;refine cJ (T:=UP) Ro mixed 200 ?_;refine bK (q:=Vc True/\aW (G (bk ar (Gv.PM.cX m)) [dD 1 ti tg,oP m])) ?_ (by kernel_rfl)
  subst hG
  repeat' (first|apply cY|apply Vc.mk|apply fits.mk|intro h|apply aW.mk)
  all_goals (try simp only[sB] at *)
  all_goals first|contradiction|omega|exact jm ‹_›|exact jo ‹_›|exact jk ‹_›|exact⟨rfl,by omega⟩|exact rfl|(simp[*,-av];done)|skip
  exact⟨[0,1],rfl,rfl,⟨.inl rfl,rfl,trivial⟩,rfl,rfl,rfl,rfl⟩
 ·cases hx
def H_ (K:Nat):Prim Rs:=fun args hh=>match args,hh with
 |[.pointer (aa ⟨0,0,aj⟩),.agg ⟨kE⟩],[aa (.inl (110,[.pointer (aa ⟨1,0,aj⟩),.int .i64 ti,.int .i64 tg])),aa (.inr (.inr (.inr (.da m))))]=>aa ⟨kE=dr (fP kE)/\(PP m/\Gv.QH ay K m (⟨ti,tg⟩:bm) (fP kE)),.bool (uS ay K m (⟨ti,tg⟩:bm) (fP kE)).1,aj,[aa (.inl (110,[.pointer (aa ⟨1,0,aj⟩),.int .i64 (uS ay K m (⟨ti,tg⟩:bm) (fP kE)).2.1.i,.int .i64 (uS ay K m (⟨ti,tg⟩:bm) (fP kE)).2.1.g])),aa (.inr (.inr (.inr (.da (uS ay K m (⟨ti,tg⟩:bm) (fP kE)).2.2))))],[],[(0,0)]⟩
 |_,_=>aj
def PU (K:Nat):ez Rs:=[(96,bJ zN 2 (a9 (sv K))),(98,bJ zN 2 (a9 AB)),(97,bJ zN 2 (a9 Ic)),(99,bJ zN 2 (a9 (AF K)))]
theorem Q1 (K:Nat):b6 D Tryz.prog 67 (a9 (H_ K)):=by
 refine fj Tryz.f67 fun args hh x hx=>?_
 unfold H_ at hx;split at hx
 ·rename_i kE ti tg m;cases hx;refine q4 fun _ hv=>?_
  obtain⟨jU,hv⟩:=hv;generalize fP kE=ke at *;subst jU;obtain⟨hp,hd⟩:=hv
  generalize hG:ch (R:=Rs) _ _=G;refine cJ (T:=(PU K)) (show cL D Tryz.prog (PU K) from⟨aT _ _ (rT K),aT _ _ yw,aT _ _ tA,aT _ _ (xw K),trivial⟩) mixed 200 ?_
  refine bK (q:=let Z1:=(nJ ay K m (aN ti tg) ke);let Z2:=(fy ke (aN (0:Int) (0:Int)) (aN (0:Int) (0:Int)) (nN ay ke) (1:Int));let Z3:=(Gv.put zd (aw Z1) Z2);let Z4:=(aD !decide (fM (aw Z1)=ib (aw Z1)));let Z5:=(nI ay K Z3 (aN ti tg) (lp zd (aw Z1)) ke);Vc ((dr ke)=dr ke/\PP m/\iY ay K m (aN ti tg))/\(aA Z1=ao->aW (G (aD ao) [dD 1 ti tg,oP (aw Z1),aa (.inl (49,(dr ke)))]))/\(aA Z1=an->Vc ((dr ke)=dr ke/\True)/\Vc ((bj (fy ke (aN 0 0) (aN 0 0) (nN ay ke) 1))=bj Z2/\PP (aw Z1))/\((!decide (fM (aw Z1)=ib (aw Z1)))=ao->Vc ((dr ke)=dr ke/\PP Z3/\iY ay K Z3 (aN ti tg))/\aW (G Z4 [dD 1 (cA (aA Z5)) (cB (aA Z5)),oP (aw Z5),aa (.inl (49,(dr ke))),aa (.inl (108,[.int ar (cA (lp zd (aw Z1))),.int ar (cB (lp zd (aw Z1)))]))]))/\((!decide (fM (aw Z1)=ib (aw Z1)))=an->aW (G Z4 [dD 1 ti tg,oP Z3,aa (.inl (49,(dr ke))),aa (.inl (108,[.int ar (cA (lp zd (aw Z1))),.int ar (cB (lp zd (aw Z1)))]))])))) ?_ (by kernel_rfl)
  intro Z1 Z2 Z3 Z4 Z5;subst Z5 Z4 Z3 Z2 Z1;obtain⟨Vi,wX⟩:=hd;have done:∀ (b:Bool) (i g:Int) (m':Pl) (rest:Hp Rs),uS ay K m (⟨ti,tg⟩:bm) ke=(b,⟨i,g⟩,m')->G (.bool b) ([aa (.inl (110,[.pointer (aa ⟨1,0,aj⟩),.int .i64 (⟨i,g⟩:bm).i,.int .i64 (⟨i,g⟩:bm).g])),aa (.inr (.inr (.inr (.da m'))))]++rest):=by
   intro b i g m' rest e;subst hG;refine⟨[0,1],?_,rfl,⟨.inl ?_,?_,trivial⟩,rfl,rfl,rfl,rfl⟩
   ·simp only[e];rfl
   ·simp only[e];rfl
   ·simp only[e];rfl
  clear hG
  repeat' (first|apply cY|apply Vc.mk|apply fits.mk|intro h|apply aW.mk)
  all_goals (try simp only[sB] at *)
  all_goals first|contradiction|omega|exact jm ‹_›|exact jo ‹_›|exact jk ‹_›|exact⟨rfl,by omega⟩|exact rfl|(simp[*,-av];done)|skip
  all_goals first|assumption|(simp only[iX];assumption)|skip
  all_goals first|exact(wX (by assumption)).1|exact(wX (by assumption)).2|skip
  all_goals (refine done _ _ _ _ _ ?_;unfold uS;repeat' split)
  all_goals first|rfl|(exfalso;simp_all;done)|(refine kf ?_ rfl;simp[*];done)
 ·cases hx
def EU (K:Nat):Prim Rs:=fun args hh=>match args,hh with
 |[.pointer (aa ⟨0,0,aj⟩),.agg ⟨kE⟩],[aa (.inl (110,[.pointer (aa ⟨1,0,aj⟩),.int .i64 ti,.int .i64 tg])),aa (.inr (.inr (.inr (.da m))))]=>aa ⟨kE=dr (fP kE)/\(PP m/\sN ay K K m (⟨ti,tg⟩:bm) (fP kE)),.tuple #[.agg ⟨dr (jR ay K m (⟨ti,tg⟩:bm) (fP kE)).1⟩,.bool (jR ay K m (⟨ti,tg⟩:bm) (fP kE)).2.1],aj,[aa (.inl (110,[.pointer (aa ⟨1,0,aj⟩),.int .i64 (jR ay K m (⟨ti,tg⟩:bm) (fP kE)).2.2.1.i,.int .i64 (jR ay K m (⟨ti,tg⟩:bm) (fP kE)).2.2.1.g])),aa (.inr (.inr (.inr (.da (jR ay K m (⟨ti,tg⟩:bm) (fP kE)).2.2.2))))],[],[(0,0)]⟩
 |_,_=>aj
def JM (K:Nat):ez Rs:=[(113,bJ zN 2 (a9 (AR K K))),(114,bJ zN 2 (a9 Cc))]
theorem Np (K:Nat):b6 D Tryz.prog 74 (a9 (EU K)):=by
 refine fj Tryz.f74 fun args hh x hx=>?_
 unfold EU at hx;split at hx
 ·rename_i kE ti tg m;cases hx;refine q4 fun _ hv=>?_
  obtain⟨jU,hv⟩:=hv;generalize fP kE=ke at *;subst jU;obtain⟨hp,hd⟩:=hv
  generalize hG:ch (R:=Rs) _ _=G;refine cJ (T:=(JM K)) (show cL D Tryz.prog (JM K) from⟨aT _ _ (xv K K),aT _ _ tu,trivial⟩) mixed 200 ?_
  refine bK (q:=let Z1:=(aw (aw (jv ay K K m (aN ti tg) ke)));let Z2:=(aA (aw (jv ay K K m (aN ti tg) ke)));let Z3:=(cA (aA (jv ay K K m (aN ti tg) ke)));let Z4:=(cB (aA (jv ay K K m (aN ti tg) ke)));Vc ((dr ke)=dr ke/\PP m/\sN ay K K m (aN ti tg) ke)/\Vc (PP Z1)/\aW (G (cq (aO [.agg (aO (dr (bZ (jQ zd Z1 Z2)))),.bool (Gv.has Z1 Z2)])) [dD 1 Z3 Z4,oP (Gv.drop zd Z1 Z2),aa (.inl (49,(dr ke))),aa (.inl (49,(dr (bZ (jQ zd Z1 Z2))))),aa (.inl (108,[.int ar Z3,.int ar Z4])),aa (.inl (108,[.int ar (cA Z2),.int ar (cB Z2)])),aa (.inl (136,(bj (jQ zd Z1 Z2))))])) ?_ (by kernel_rfl)
  intro Z1 Z2 Z3 Z4;subst Z4 Z3 Z2 Z1;subst hG
  repeat' (first|apply cY|apply Vc.mk|apply fits.mk|intro h|apply aW.mk)
  all_goals (try simp only[sB] at *)
  all_goals first|contradiction|omega|exact jm ‹_›|exact jo ‹_›|exact jk ‹_›|exact⟨rfl,by omega⟩|exact rfl|(simp[*,-av];done)|skip
  all_goals first|assumption|(simp only[iX];assumption)|skip
  exact⟨[0,1],rfl,rfl,⟨.inl rfl,rfl,trivial⟩,rfl,rfl,rfl,rfl⟩
 ·cases hx
def Y9 (K:Nat):Prim Rs:=fun args hh=>match args,hh with
 |[.pointer (aa ⟨0,0,aj⟩),.int .i64 x_,.int .i64 y_],[aa (.inl (110,[.pointer (aa ⟨1,0,aj⟩),.int .i64 ti,.int .i64 tg])),aa (.inr (.inr (.inr (.da m))))]=>aa ⟨PP m/\uR ay K (aJ m (⟨ti,tg⟩:bm)) (br ay m (⟨ti,tg⟩:bm)) x_ y_,.agg ⟨km (gU ay K (aJ m (⟨ti,tg⟩:bm)) (br ay m (⟨ti,tg⟩:bm)) x_ y_).1.sum⟩,aj,[aa (.inl (110,[.pointer (aa ⟨1,0,aj⟩),.int .i64 ti,.int .i64 tg])),aa (.inr (.inr (.inr (.da (gU ay K (aJ m (⟨ti,tg⟩:bm)) (br ay m (⟨ti,tg⟩:bm)) x_ y_).2))))],[],[(0,0)]⟩
 |_,_=>aj
def afY (K:Nat):ez Rs:=[(80,bJ zN 2 (a9 j9)),(119,bJ zN 2 (a9 (TU K)))]
theorem ags (K:Nat):b6 D Tryz.prog 78 (a9 (Y9 K)):=by
 refine fj Tryz.f78 fun args hh x hx=>?_
 unfold Y9 at hx;split at hx
 ·rename_i x_ y_ ti tg m;cases hx;refine q4 fun _ hv=>?_
  obtain⟨hp,hd⟩:=hv;generalize hG:ch (R:=Rs) _ _=G;refine cJ (T:=(afY K)) (show cL D Tryz.prog (afY K) from⟨aT _ _ look_ok,aT _ _ (ab8 K),trivial⟩) mixed 200 ?_
  refine bK (q:=let Z1:=(br ay m (aN ti tg));let Z2:=(km (bG (aA (gU ay K (aJ m (aN ti tg)) Z1 x_ y_))));Vc (PP m)/\Vc ((bj Z1)=bj Z1/\PP (aJ m (aN ti tg))/\uR ay K (aJ m (aN ti tg)) Z1 x_ y_)/\aW (G (bE (aO Z2)) [dD 1 ti tg,oP (aw (gU ay K (aJ m (aN ti tg)) Z1 x_ y_)),aa (.inl (53,Z2))])) ?_ (by kernel_rfl)
  intro Z1 Z2;subst Z2 Z1;subst hG
  repeat' (first|apply cY|apply Vc.mk|apply fits.mk|intro h|apply aW.mk)
  all_goals (try simp only[sB] at *)
  all_goals first|contradiction|omega|exact jm ‹_›|exact jo ‹_›|exact jk ‹_›|exact⟨rfl,by omega⟩|exact rfl|(simp[*,-av];done)|skip
  all_goals first|assumption|(simp only[iX];assumption)|skip
  exact⟨[0,1],rfl,rfl,⟨.inl rfl,rfl,trivial⟩,rfl,rfl,rfl,rfl⟩
 ·cases hx
theorem N4:Ll [0] (a9 BO):=by
 intro b args h x hx i hi hl;cases b with
 |false=>cases hx
 |true =>
  simp only[a9,jb.go,BO] at hx;split at hx
  ·injection hx with hx
   subst hx;simp only[List.mem_singleton] at hi;subst hi
   rfl
  ·cases hx
def HY (K:Nat):Prim Rs:=fun args hh=>match args,hh with
 |[.pointer (aa ⟨0,0,aj⟩)],[aa (.inl (110,[.pointer (aa ⟨1,0,aj⟩),.int .i64 ti,.int .i64 tg])),aa (.inr (.inr (.inr (.da m))))]=>aa ⟨PP m/\iY ay K m (⟨ti,tg⟩:bm)/\(br ay m (⟨ti,tg⟩:bm)).all.n=(bY ay K (aJ m (⟨ti,tg⟩:bm)) (⟨ti,tg⟩:bm)).1.length/\(bY ay K (aJ m (⟨ti,tg⟩:bm)) (⟨ti,tg⟩:bm)).1.length<900000,.slice (aa ⟨2,0,aa 8000⟩) (bY ay K (aJ m (⟨ti,tg⟩:bm)) (⟨ti,tg⟩:bm)).1.length 0,aj,[aa (.inl (110,[.pointer (aa ⟨1,0,aj⟩),.int .i64 ti,.int .i64 tg])),aa (.inr (.inr (.inr (.da (bY ay K (aJ m (⟨ti,tg⟩:bm)) (⟨ti,tg⟩:bm)).2)))),aa (.inr (.inl (49,⟨[.int .i64 0,.bool an,.int .i64 0,.int .i64 0,.bool an,.bool an,.int .i64 0,.int .i64 0],(bY ay K (aJ m (⟨ti,tg⟩:bm)) (⟨ti,tg⟩:bm)).1.length,[⟨((bY ay K (aJ m (⟨ti,tg⟩:bm)) (⟨ti,tg⟩:bm)).1.map fun e=>e.t),[],[]⟩,⟨[],((bY ay K (aJ m (⟨ti,tg⟩:bm)) (⟨ti,tg⟩:bm)).1.map fun e=>e.ins),[]⟩,⟨((bY ay K (aJ m (⟨ti,tg⟩:bm)) (⟨ti,tg⟩:bm)).1.map fun e=>e.it.k),[],[]⟩,⟨((bY ay K (aJ m (⟨ti,tg⟩:bm)) (⟨ti,tg⟩:bm)).1.map fun e=>e.it.i),[],[]⟩,⟨[],((bY ay K (aJ m (⟨ti,tg⟩:bm)) (⟨ti,tg⟩:bm)).1.map fun e=>e.here),[]⟩,⟨[],((bY ay K (aJ m (⟨ti,tg⟩:bm)) (⟨ti,tg⟩:bm)).1.map fun e=>e.tf),[]⟩,⟨((bY ay K (aJ m (⟨ti,tg⟩:bm)) (⟨ti,tg⟩:bm)).1.map fun e=>e.tk.k),[],[]⟩,⟨((bY ay K (aJ m (⟨ti,tg⟩:bm)) (⟨ti,tg⟩:bm)).1.map fun e=>e.tk.i),[],[]⟩]⟩)))],[],[(0,0)]⟩
 |_,_=>aj
def Px (K:Nat):ez Rs:=[(40,Cs [0] 2 (a9 BO)),(60,bJ zN 2 (a9 (uw K)))]
theorem Rb (K:Nat):b6 D Tryz.prog 21 (a9 (HY K)):=by
 refine fj Tryz.f21 fun args hh x hx=>?_
 unfold HY at hx;split at hx
 ·rename_i ti tg m;cases hx;refine q4 fun _ hv=>?_
  obtain⟨hp,hd⟩:=hv;generalize hG:ch (R:=Rs) _ _=G;refine cJ (T:=(Px K)) (show cL D Tryz.prog (Px K) from⟨CL _ _ Kj N4,aT _ _ (qJ K),trivial⟩) mixed 200 ?_
  refine bK (q:=let Z1:=(bt (br ay m (aN ti tg)));let Z2:=(bY ay K (aJ m (aN ti tg)) (aN ti tg));let Z3:=(aA Z2);let Z4:=(dr (Ft 0 an (cW 0 0) an an (cW 0 0)));Vc (PP m)/\Vc ((0:Int)≤(0:Int)/\(0:Int)≤bM Z1/\bM Z1*(64:Int)≤(140737488355328:Int)/\bM Z1≤(140737488355328:Int))/\Vc ((PP (aJ m (aN ti tg))/\0=0/\0=0/\0=0/\0=0/\0=0/\0=0/\0=0/\0=0/\0=0/\0+ae Z3<900000)/\iY ay K (aJ m (aN ti tg)) (aN ti tg))/\aW (G (bx (aa ⟨4,0,aa 8000⟩) (0+ae Z3) (if ae Z3=0 then Int.toNat (bM Z1) else 0)) [dD 1 ti tg,oP (aw Z2),aa (.inr (.inl (49,Row.mk Z4 0 [aX.mk [] [] [],aX.mk [] [] [],aX.mk [] [] [],aX.mk [] [] [],aX.mk [] [] [],aX.mk [] [] [],aX.mk [] [] [],aX.mk [] [] []]))),aj,aa (.inr (.inl (49,Row.mk Z4 (0+ae Z3) [aX.mk ([]++au (fun e=>D4 e) Z3) [] [],aX.mk [] ([]++au (fun e=>z8 e) Z3) [],aX.mk ([]++au (fun e=>m_ (qg e)) Z3) [] [],aX.mk ([]++au (fun e=>na (qg e)) Z3) [] [],aX.mk [] ([]++au (fun e=>xV e) Z3) [],aX.mk [] ([]++au (fun e=>B9 e) Z3) [],aX.mk ([]++au (fun e=>m_ (qh e)) Z3) [] [],aX.mk ([]++au (fun e=>na (qh e)) Z3) [] []])))])) ?_ (by kernel_rfl)
  intro Z1 Z2 Z3 Z4;subst Z4 Z3 Z2 Z1;subst hG;obtain⟨Vi,wX,hd4⟩:=hd;have hd5:=(qB (s:=(⟨ti,tg⟩:bm))).2 Vi;have e2:(if(bY ay K (aJ m (⟨ti,tg⟩:bm)) (⟨ti,tg⟩:bm)).1.length=0 then(br ay m (⟨ti,tg⟩:bm)).all.n.toNat else 0)=0:=by rw[wX];split<;>omega
  simp only[e2,bV,pd]
  repeat' (first|apply cY|apply Vc.mk|apply fits.mk|intro h|apply aW.mk)
  all_goals (try simp only[sB] at *)
  all_goals first|contradiction|omega|exact jm ‹_›|exact jo ‹_›|exact jk ‹_›|exact⟨rfl,by omega⟩|exact rfl|(simp[*,-av];done)|skip
  all_goals first|omega|assumption|exact iZ.2 hp|(simp;done)|skip
  refine⟨[0,1,4],?_,rfl,?_,rfl,rfl,rfl,rfl⟩
  ·rfl
  ·simp[dr,ub,AY,nth,fS,wT,pA,lU,gg,vT,ui,B4,zP,Gd,yQ,AM]
   all_goals first|rfl|skip
 ·cases hx
def EI (K:Nat):Prim Rs:=fun args hh=>match args,hh with
 |[.pointer (aa ⟨0,0,aj⟩),.agg ⟨kE⟩],[aa (.inl (110,[.pointer (aa ⟨1,0,aj⟩),.int .i64 ti,.int .i64 tg])),aa (.inr (.inr (.inr (.da m))))]=>aa ⟨kE=dr (fP kE)/\(PP m/\vF ay K (aJ m (⟨ti,tg⟩:bm)) (br ay m (⟨ti,tg⟩:bm)) (fP kE)),.tuple #[.agg ⟨dr (iB ay K (aJ m (⟨ti,tg⟩:bm)) (br ay m (⟨ti,tg⟩:bm)) (fP kE)).1.1⟩,.bool (iB ay K (aJ m (⟨ti,tg⟩:bm)) (br ay m (⟨ti,tg⟩:bm)) (fP kE)).1.2],aj,[aa (.inl (110,[.pointer (aa ⟨1,0,aj⟩),.int .i64 ti,.int .i64 tg])),aa (.inr (.inr (.inr (.da (iB ay K (aJ m (⟨ti,tg⟩:bm)) (br ay m (⟨ti,tg⟩:bm)) (fP kE)).2))))],[],[(0,0)]⟩
 |_,_=>aj
def Am (K:Nat):ez Rs:=[(80,bJ zN 2 (a9 j9)),(222,bJ zN 2 (a9 IX))]
theorem M4 (K:Nat):b6 D Tryz.prog 73 (a9 (EI K)):=by
 refine fj Tryz.f73 fun args hh x hx=>?_
 unfold EI at hx;split at hx
 ·rename_i kE ti tg m;cases hx;refine q4 fun _ hv=>?_
  obtain⟨jU,hv⟩:=hv;generalize fP kE=ke at *;subst jU;obtain⟨hp,hd⟩:=hv
  generalize hG:ch (R:=Rs) _ _=G;refine cJ (T:=(Am K)) (show cL D Tryz.prog (Am K) from⟨aT _ _ look_ok,aT _ _ xU,trivial⟩) mixed 200 ?_
  refine bK (q:=let Z1:=(aC (aa ⟨0,0,aj⟩));Vc (PP m)/\At D Tryz.prog (dJ Tryz.f73) 2 (iE Tryz.prog (dA (dC Tryz.f73)) G) [.inl [1,1,0,0],.inr (.inl 0),.inl [1,1,1]] (SS.mk (aa Z1::aa (bE (aO (dr ke)))::aj::aa (aC (aa ⟨2,0,aj⟩))::aa (aC (aa ⟨3,0,aj⟩))::aa (aD an)::aa (aC (aa ⟨4,0,aj⟩))::aj::aj::aa Z1::aa Z1::aa Z1::aa (aC (aa ⟨0,1,aj⟩))::aa (bE (aO [.int ar ti,.int ar tg]))::aa (bE (aO (bj (br ay m (aN ti tg)))))::nH (n4 (aj::aj::aj::[]))) [(5,an)] [dD 1 ti tg,oP (aJ m (aN ti tg)),aa (.inl (49,(dr ke))),aa (.inl (49,(dr (Ft 0 an (cW 0 0) an an (cW 0 0))))),aa (.inl (136,(bj (br ay m (aN ti tg)))))])) ?_ (by kernel_rfl)
  intro Z1;subst Z1;refine⟨⟨hp⟩,?_⟩;refine kH (by kernel_rfl) (ι:=Nat×Nd×Pl) (fun s=>PP s.2.2/\vF ay s.1 s.2.2 s.2.1 ke/\iB ay s.1 s.2.2 s.2.1 ke=iB ay K (aJ m (⟨ti,tg⟩:bm)) (br ay m (⟨ti,tg⟩:bm)) ke) [0,3,4,5,6] (fun s=>[.pointer (aa ⟨0,0,aj⟩),.pointer (aa ⟨2,0,aj⟩),.pointer (aa ⟨3,0,aj⟩),.bool an,.pointer (aa ⟨4,0,aj⟩)]) (fun s=>[aa (.inl (110,[.pointer (aa ⟨1,0,aj⟩),.int .i64 ti,.int .i64 tg])),aa (.inr (.inr (.inr (.da s.2.2)))),aa (.inl (49,dr ke)),aa (.inl (49,[.int .i64 0,.bool an,.int .i64 0,.int .i64 0,.bool an,.bool an,.int .i64 0,.int .i64 0])),aa (.inl (136,bj s.2.1))]) (fun s=>s.1) (Tryz.f73).ntmps (fun s hs=>⟨rfl,rfl,tM _ _⟩) ⟨(K,br ay m (⟨ti,tg⟩:bm),aJ m (⟨ti,tg⟩:bm)),⟨iZ.2 hp,hd,rfl⟩,⟨[0,1,2,3,4],rfl,⟨.inl rfl,rfl,.inl rfl,.inl rfl,.inl rfl,trivial⟩,rfl,rfl,rfl,rfl⟩⟩ fun s hs=>?_
  obtain⟨k,n,m2⟩:=s;obtain⟨s1,s2,s3⟩:=hs;simp only at s1 s2 s3;rcases k with _|k
  ·exact s2.elim
  refine cJ (T:=Am K) (show cL D Tryz.prog (Am K) from⟨aT _ _ look_ok,aT _ _ xU,trivial⟩) mixed 200 ?_
  refine bK (q:=let Z5:=aC (aa ⟨2,0,aj⟩);let Z6:=aC (aa ⟨0,0,aj⟩);let Z7:=aC (aa ⟨4,0,aj⟩);let Z8:=aC (aa ⟨3,0,aj⟩);let Z1:=(gW ay ke (bZ (aA (n,m2)))==(0:Int));let Z2:=(aw (n,m2));let Z3:=(gW ay ke (bZ (aA (n,m2)))<(0:Int));let Z4:=(dr (Ft 0 an (cW 0 0) an an (cW 0 0)));(decide (cu (aA (n,m2))>(0:Int))=ao->Vc True/\Vc True/\(Z1=ao->aW (G (cq (aO [.agg (aO (dr (bZ (aA (n,m2))))),.bool ao])) [dD 1 ti tg,oP Z2,aa (.inl (49,(dr ke))),aa (.inl (49,(dr (bZ (aA (n,m2)))))),aa (.inl (136,(bj (aA (n,m2)))))]))/\(Z1=an->(decide Z3=ao->Vc (PP Z2)/\aW (∃ j,(PP (aw (aw j))/\vF ay (aA j) (aw (aw j)) (aA (aw j)) ke/\iB ay (aA j) (aw (aw j)) (aA (aw j)) ke=iB ay K (aJ m (aN ti tg)) (br ay m (aN ti tg)) ke)/\aA j<k+1/\j6 Rs 2 (pf Tryz.f73) [0,3,4,5,6] [Z6,Z5,Z8,.bool an,Z7] [dD 1 ti tg,oP (aw (aw j)),aa (.inl ((49:TypeId),dr ke)),aa (.inl ((49:TypeId),Z4)),aa (.inl ((136:TypeId),bj (aA (aw j))))] [aa (Z6),aa (Z5),aa (Z8),aa (aD an),aa (Z7)] [dD 1 ti tg,oP (aJ Z2 (bc (aA (n,m2)))),aa (.inl (49,(dr ke))),aa (.inl (49,Z4)),aa (.inl (136,(bj (br ay Z2 (bc (aA (n,m2)))))))] 38))/\(decide Z3=an->Vc (PP Z2)/\aW (∃ j,(PP (aw (aw j))/\vF ay (aA j) (aw (aw j)) (aA (aw j)) ke/\iB ay (aA j) (aw (aw j)) (aA (aw j)) ke=iB ay K (aJ m (aN ti tg)) (br ay m (aN ti tg)) ke)/\aA j<k+1/\j6 Rs 2 (pf Tryz.f73) [0,3,4,5,6] [Z6,Z5,Z8,.bool an,Z7] [dD 1 ti tg,oP (aw (aw j)),aa (.inl ((49:TypeId),dr ke)),aa (.inl ((49:TypeId),Z4)),aa (.inl ((136:TypeId),bj (aA (aw j))))] [aa (Z6),aa (Z5),aa (Z8),aa (aD an),aa (Z7)] [dD 1 ti tg,oP (aJ Z2 (bn (aA (n,m2)))),aa (.inl (49,(dr ke))),aa (.inl (49,Z4)),aa (.inl (136,(bj (br ay Z2 (bn (aA (n,m2)))))))] 38))))/\(decide (cu (aA (n,m2))>(0:Int))=an->aW (G (cq (aO [.agg (aO Z4),.bool an])) [dD 1 ti tg,oP Z2,aa (.inl (49,(dr ke))),aa (.inl (49,Z4)),aa (.inl (136,(bj (aA (n,m2))))),aa (.inl (49,Z4))]))) ?_ (by kernel_rfl)
  intro Z5 Z6 Z7 Z8 Z1 Z2 Z3 Z4;subst Z4 Z3 Z2 Z1 Z8 Z7 Z6 Z5;rw[vF] at s2;rw[iB] at s3;subst hG
  repeat' (first|apply cY|apply Vc.mk|apply fits.mk|intro h|apply aW.mk)
  all_goals (try simp only[sB] at *)
  all_goals first|contradiction|omega|exact jm ‹_›|exact jo ‹_›|exact jk ‹_›|exact⟨rfl,by omega⟩|exact rfl|(simp[*,-av];done)|skip
  all_goals first|assumption|skip
  ·have h1:n.h>0:=by assumption
   have h2:ay.cmp ke n.e=0:=by assumption
   rw[if_pos h1,if_pos h2] at s3;rw[← s3];exact⟨[0,1],rfl,rfl,⟨.inl rfl,rfl,trivial⟩,rfl,rfl,rfl,rfl⟩
  ·have h1:n.h>0:=by assumption
   have h2:ay.cmp ke n.e≠0:=by assumption
   have h3:ay.cmp ke n.e<0:=by assumption
   rw[if_pos h1,if_neg h2,if_pos h3] at s3;exact⟨(k,br ay m2 n.l,aJ m2 n.l),⟨iZ.2 s1,(s2 h1 h2).1 (by omega),s3⟩,fC _,⟨[0,1,2,3,4],rfl,⟨.inl rfl,rfl,.inl rfl,.inl rfl,.inl rfl,trivial⟩,rfl,rfl,rfl,rfl⟩⟩
  ·have h1:n.h>0:=by assumption
   have h2:ay.cmp ke n.e≠0:=by assumption
   have h3:¬ ay.cmp ke n.e<0:=by omega
   rw[if_pos h1,if_neg h2,if_neg h3] at s3;exact⟨(k,br ay m2 n.r,aJ m2 n.r),⟨iZ.2 s1,(s2 h1 h2).2 (by omega),s3⟩,fC _,⟨[0,1,2,3,4],rfl,⟨.inl rfl,rfl,.inl rfl,.inl rfl,.inl rfl,trivial⟩,rfl,rfl,rfl,rfl⟩⟩
  ·have h1:¬ n.h>0:=by omega
   rw[if_neg h1] at s3;rw[← s3];exact⟨[0,1],rfl,rfl,⟨.inl rfl,rfl,trivial⟩,rfl,rfl,rfl,rfl⟩
 ·cases hx
def D9 (K:Nat):Prim Rs:=fun args hh=>match args,hh with
 |[.pointer (aa ⟨0,0,aj⟩),.agg ⟨kE⟩],[aa (.inl (110,[.pointer (aa ⟨1,0,aj⟩),.int .i64 ti,.int .i64 tg])),aa (.inr (.inr (.inr (.da m))))]=>aa ⟨kE=dr (fP kE)/\(PP m/\vG ay K (aJ m (⟨ti,tg⟩:bm)) (br ay m (⟨ti,tg⟩:bm)) (fP kE) 0),.int .i64 (lO ay K (aJ m (⟨ti,tg⟩:bm)) (br ay m (⟨ti,tg⟩:bm)) (fP kE) 0).1,aj,[aa (.inl (110,[.pointer (aa ⟨1,0,aj⟩),.int .i64 ti,.int .i64 tg])),aa (.inr (.inr (.inr (.da (lO ay K (aJ m (⟨ti,tg⟩:bm)) (br ay m (⟨ti,tg⟩:bm)) (fP kE) 0).2))))],[],[(0,0)]⟩
 |_,_=>aj
def Au (K:Nat):ez Rs:=[(1000000000,lL),(80,bJ zN 2 (a9 j9)),(222,bJ zN 2 (a9 IX))]
theorem MT (K:Nat):b6 D Tryz.prog 65 (a9 (D9 K)):=by
 refine fj Tryz.f65 fun args hh x hx=>?_
 unfold D9 at hx;split at hx
 ·rename_i kE ti tg m;cases hx;refine q4 fun _ hv=>?_
  obtain⟨jU,hv⟩:=hv;generalize fP kE=ke at *;subst jU;obtain⟨hp,hd⟩:=hv
  generalize hG:ch (R:=Rs) _ _=G;refine cJ (T:=(Au K)) (show cL D Tryz.prog (Au K) from⟨iu,aT _ _ look_ok,aT _ _ xU,trivial⟩) mixed 200 ?_
  refine bK (q:=let Z1:=(aC (aa ⟨0,0,aj⟩));Vc (PP m)/\At D Tryz.prog (dJ Tryz.f65) 2 (iE Tryz.prog (dA (dC Tryz.f65)) G) [.inl [1,1,1,0,0],.inr (.inl 0),.inl [1,1,1,1]] (SS.mk (aa Z1::aa (bE (aO (dr ke)))::aj::aa (aC (aa ⟨2,0,aj⟩))::aa (bk ar 0)::aa (bk ar 0)::aa (aC (aa ⟨3,0,aj⟩))::aj::aa Z1::aa Z1::aa Z1::aa (aC (aa ⟨0,1,aj⟩))::aa (bE (aO [.int ar ti,.int ar tg]))::aa (bE (aO (bj (br ay m (aN ti tg)))))::nH (n4 (n4 (n4 ([]))))) [] [dD 1 ti tg,oP (aJ m (aN ti tg)),aa (.inl (49,(dr ke))),aa (.inl (136,(bj (br ay m (aN ti tg)))))])) ?_ (by kernel_rfl)
  intro Z1;subst Z1;refine⟨⟨hp⟩,?_⟩;refine kH (by kernel_rfl) (ι:=Nat×Nd×Pl×Int) (fun s=>PP s.2.2.1/\vG ay s.1 s.2.2.1 s.2.1 ke s.2.2.2/\lO ay s.1 s.2.2.1 s.2.1 ke s.2.2.2=lO ay K (aJ m (⟨ti,tg⟩:bm)) (br ay m (⟨ti,tg⟩:bm)) ke 0) [0,3,5,6] (fun s=>[.pointer (aa ⟨0,0,aj⟩),.pointer (aa ⟨2,0,aj⟩),.int .i64 s.2.2.2,.pointer (aa ⟨3,0,aj⟩)]) (fun s=>[aa (.inl (110,[.pointer (aa ⟨1,0,aj⟩),.int .i64 ti,.int .i64 tg])),aa (.inr (.inr (.inr (.da s.2.2.1)))),aa (.inl (49,dr ke)),aa (.inl (136,bj s.2.1))]) (fun s=>s.1) (Tryz.f65).ntmps (fun s hs=>⟨rfl,rfl,tM _ _⟩) ⟨(K,br ay m (⟨ti,tg⟩:bm),aJ m (⟨ti,tg⟩:bm),0),⟨iZ.2 hp,hd,rfl⟩,⟨[0,1,2,3],rfl,⟨.inl rfl,rfl,.inl rfl,.inl rfl,trivial⟩,rfl,rfl,rfl,rfl⟩⟩ fun s hs=>?_
  obtain⟨k,n,m2,c⟩:=s;obtain⟨s1,s2,s3⟩:=hs;simp only at s1 s2 s3;rcases k with _|k
  ·exact s2.elim
  refine cJ (T:=Au K) (show cL D Tryz.prog (Au K) from⟨iu,aT _ _ look_ok,aT _ _ xU,trivial⟩) mixed 200 ?_
  refine bK (q:=let Z3:=aC (aa ⟨2,0,aj⟩);let Z4:=aC (aa ⟨0,0,aj⟩);let Z5:=aC (aa ⟨3,0,aj⟩);let Z6:=bk ar;let Z1:=(aA (n,m2,c));let Z2:=(aA (aw (n,m2,c)));(decide (cu Z1>(0:Int))=ao->Vc True/\Vc True/\(decide (gW ay ke (bZ Z1)≤(0:Int))=ao->Vc (PP Z2)/\aW (∃ j,(PP (aA (aw (aw j)))/\vG ay (aA j) (aA (aw (aw j))) (aA (aw j)) ke (aw (aw (aw j)))/\lO ay (aA j) (aA (aw (aw j))) (aA (aw j)) ke (aw (aw (aw j)))=lO ay K (aJ m (aN ti tg)) (br ay m (aN ti tg)) ke (0:Int))/\aA j<k+1/\j6 Rs 2 (pf Tryz.f65) [0,3,5,6] [Z4,Z3,Z6 (aw (aw (aw j))),Z5] [dD 1 ti tg,oP (aA (aw (aw j))),aa (.inl ((49:TypeId),dr ke)),aa (.inl ((136:TypeId),bj (aA (aw j))))] [aa (Z4),aa (Z3),aa (Z6 (aw (aw (n,m2,c)))),aa (Z5)] [dD 1 ti tg,oP (aJ Z2 (bc Z1)),aa (.inl (49,(dr ke))),aa (.inl (136,(bj (br ay Z2 (bc Z1)))))] 42))/\(decide (gW ay ke (bZ Z1)≤(0:Int))=an->Vc (PP Z2)/\Vc True/\Vc True/\aW (∃ j,(PP (aA (aw (aw j)))/\vG ay (aA j) (aA (aw (aw j))) (aA (aw j)) ke (aw (aw (aw j)))/\lO ay (aA j) (aA (aw (aw j))) (aA (aw j)) ke (aw (aw (aw j)))=lO ay K (aJ m (aN ti tg)) (br ay m (aN ti tg)) ke (0:Int))/\aA j<k+1/\j6 Rs 2 (pf Tryz.f65) [0,3,5,6] [Z4,Z3,Z6 (aw (aw (aw j))),Z5] [dD 1 ti tg,oP (aA (aw (aw j))),aa (.inl ((49:TypeId),dr ke)),aa (.inl ((136:TypeId),bj (aA (aw j))))] [aa (Z4),aa (Z3),aa (Z6 (ck ar (aw (aw (n,m2,c))+ck ar (bM (bt Z1)-bM (bt (br ay Z2 (bn Z1))))))),aa (Z5)] [dD 1 ti tg,oP (aJ Z2 (bn Z1)),aa (.inl (49,(dr ke))),aa (.inl (136,(bj (br ay Z2 (bn Z1))))),aa (.inl (136,(bj (br ay Z2 (bn Z1)))))] 42)))/\(decide (cu Z1>(0:Int))=an->aW (G (Z6 (aw (aw (n,m2,c)))) [dD 1 ti tg,oP Z2,aa (.inl (49,(dr ke))),aa (.inl (136,(bj Z1)))]))) ?_ (by kernel_rfl)
  intro Z3 Z4 Z5 Z6 Z1 Z2;subst Z2 Z1 Z6 Z5 Z4 Z3;rw[vG] at s2;rw[lO] at s3;subst hG
  repeat' (first|apply cY|apply Vc.mk|apply fits.mk|intro h|apply aW.mk)
  all_goals (try simp only[sB] at *)
  all_goals first|contradiction|omega|exact jm ‹_›|exact jo ‹_›|exact jk ‹_›|exact⟨rfl,by omega⟩|exact rfl|(simp[*,-av];done)|skip
  all_goals first|assumption|skip
  ·have h1:n.h>0:=by assumption
   have h2:ay.cmp ke n.e≤0:=by assumption
   rw[if_pos h1,if_pos h2] at s3;exact⟨(k,br ay m2 n.l,aJ m2 n.l,c),⟨iZ.2 s1,(s2 h1).1 (by omega),s3⟩,fC _,⟨[0,1,2,3],rfl,⟨.inl rfl,rfl,.inl rfl,.inl rfl,trivial⟩,rfl,rfl,rfl,rfl⟩⟩
  ·have h1:n.h>0:=by assumption
   have h2:¬ ay.cmp ke n.e≤0:=by omega
   rw[if_pos h1,if_neg h2] at s3;exact⟨(k,br ay m2 n.r,aJ m2 n.r,m7 (c+m7 (n.all.n-(br ay m2 n.r).all.n))),⟨iZ.2 s1,(s2 h1).2 (by omega),s3⟩,fC _,⟨[0,1,2,3],rfl,⟨.inl rfl,rfl,.inl rfl,.inl rfl,trivial⟩,rfl,rfl,rfl,rfl⟩⟩
  ·have h1:¬ n.h>0:=by omega
   rw[if_neg h1] at s3;rw[← s3];exact⟨[0,1],rfl,rfl,⟨.inl rfl,rfl,trivial⟩,rfl,rfl,rfl,rfl⟩
 ·cases hx
def M1 (K:Nat):Prim Rs:=fun args hh=>match args,hh with
 |[.pointer (aa ⟨0,0,aj⟩),.int .i64 i_],[aa (.inl (110,[.pointer (aa ⟨1,0,aj⟩),.int .i64 ti,.int .i64 tg])),aa (.inr (.inr (.inr (.da m))))]=>aa ⟨PP m/\Gv.AtD ay K m (⟨ti,tg⟩:bm) i_,.tuple #[.agg ⟨dr (lA ay K m (⟨ti,tg⟩:bm) i_).1.1⟩,.bool (lA ay K m (⟨ti,tg⟩:bm) i_).1.2],aj,[aa (.inl (110,[.pointer (aa ⟨1,0,aj⟩),.int .i64 ti,.int .i64 tg])),aa (.inr (.inr (.inr (.da (lA ay K m (⟨ti,tg⟩:bm) i_).2))))],[],[(0,0)]⟩
 |_,_=>aj
def Ih (K:Nat):ez Rs:=[(1000000000,lL),(80,bJ zN 2 (a9 j9))]
theorem V3 (K:Nat):b6 D Tryz.prog 141 (a9 (M1 K)):=by
 refine fj Tryz.f141 fun args hh x hx=>?_
 unfold M1 at hx;split at hx
 ·rename_i i_ ti tg m;cases hx;refine q4 fun _ hv=>?_
  obtain⟨hp,hd⟩:=hv;generalize hG:ch (R:=Rs) _ _=G;refine cJ (T:=(Ih K)) (show cL D Tryz.prog (Ih K) from⟨iu,aT _ _ look_ok,trivial⟩) mixed 200 ?_
  refine bK (q:=let Z4:=bk ar;let Z1:=(i_≥bM (bt (br ay m (aN ti tg))));let Z2:=(dr (Ft 0 an (cW 0 0) an an (cW 0 0)));let Z3:=(aC (aa ⟨0,0,aj⟩));Vc (PP m)/\(decide (i_<(0:Int))=an->(decide Z1=ao->aW (G (cq (aO [.agg (aO Z2),.bool an])) [dD 1 ti tg,oP (aJ m (aN ti tg)),aa (.inl (49,Z2)),aa (.inl (49,Z2)),aa (.inl (136,(bj (br ay m (aN ti tg)))))]))/\(decide Z1=an->At D Tryz.prog (dJ Tryz.f141) 2 (iE Tryz.prog (dA (dC Tryz.f141)) G) [.inl [1,1,1,1,0],.inr (.inl 0)] (SS.mk (aa Z3::aa (Z4 i_)::aj::aj::aa (aC (aa ⟨2,0,aj⟩))::aa (aD an)::aa (aC (aa ⟨3,0,aj⟩))::aa (aC (aa ⟨4,0,aj⟩))::aj::aa Z3::aa Z3::aa Z3::aa (aC (aa ⟨0,1,aj⟩))::aa (bE (aO [Z4 ti,Z4 tg]))::aa (bE (aO (bj (br ay m (aN ti tg)))))::aa (Z4 i_)::aa (aD (decide (i_<(0:Int))))::aa (aD an)::aa (Z4 i_)::aa (aC (aa ⟨4,12,aj⟩))::aa (aC (aa ⟨4,12,aj⟩))::aa (Z4 (bM (bt (br ay m (aN ti tg)))))::aa (aD (decide Z1))::aa (aD an)::nH (n4 (n4 (n4 ([]))))) [(23,an),(17,an),(5,an)] [dD 1 ti tg,oP (aJ m (aN ti tg)),aa (.inl (49,Z2)),aa (.inl (49,Z2)),aa (.inl (136,(bj (br ay m (aN ti tg)))))])))/\(decide (i_<(0:Int))=ao->aW (G (cq (aO [.agg (aO Z2),.bool an])) [dD 1 ti tg,oP (aJ m (aN ti tg)),aa (.inl (49,Z2)),aa (.inl (49,Z2)),aa (.inl (136,(bj (br ay m (aN ti tg)))))]))) ?_ (by kernel_rfl)
  intro Z4 Z1 Z2 Z3;subst Z3 Z2 Z1 Z4;have n1:i_<0∨i_≥(br ay m (⟨ti,tg⟩:bm)).all.n->G (.tuple #[.agg ⟨[.int .i64 0,.bool an,.int .i64 0,.int .i64 0,.bool an,.bool an,.int .i64 0,.int .i64 0]⟩,.bool an])=G (.tuple #[.agg ⟨[.int .i64 0,.bool an,.int .i64 0,.int .i64 0,.bool an,.bool an,.int .i64 0,.int .i64 0]⟩,.bool an]):=fun _=>rfl
  have en:∀ rest,i_<0∨i_≥(br ay m (⟨ti,tg⟩:bm)).all.n->G (.tuple #[.agg ⟨[.int .i64 0,.bool an,.int .i64 0,.int .i64 0,.bool an,.bool an,.int .i64 0,.int .i64 0]⟩,.bool an]) ([aa (.inl (110,[.pointer (aa ⟨1,0,aj⟩),.int .i64 ti,.int .i64 tg])),aa (.inr (.inr (.inr (.da (aJ m (⟨ti,tg⟩:bm))))))]++rest):=by
   intro rest h;have e:lA ay K m (⟨ti,tg⟩:bm) i_=((ay.e0,an),aJ m (⟨ti,tg⟩:bm)):=by rw[lA,if_pos h]
   subst hG;rw[e];exact⟨[0,1],rfl,rfl,⟨.inl rfl,rfl,trivial⟩,rfl,rfl,rfl,rfl⟩
  refine⟨⟨hp⟩,fun h=>⟨fun h2=>⟨en _ (.inr (by simpa using h2))⟩,fun h2=>?_⟩,fun h=>⟨en _ (.inl (by simpa using h))⟩⟩
  have h3:¬ i_<0:=by simpa using h
  have h4:¬ i_≥(br ay m (⟨ti,tg⟩:bm)).all.n:=by simpa using h2
  have ee:lA ay K m (⟨ti,tg⟩:bm) i_=(((oU ay K (aJ m (⟨ti,tg⟩:bm)) (br ay m (⟨ti,tg⟩:bm)) i_).1,ao),(oU ay K (aJ m (⟨ti,tg⟩:bm)) (br ay m (⟨ti,tg⟩:bm)) i_).2):=by rw[lA,if_neg (by omega)]
  have wX:=hd h3 h4;refine kH (by kernel_rfl) (ι:=Nat×Nd×Pl×Int) (fun s=>PP s.2.2.1/\B_ ay s.1 s.2.2.1 s.2.1 s.2.2.2/\oU ay s.1 s.2.2.1 s.2.1 s.2.2.2=oU ay K (aJ m (⟨ti,tg⟩:bm)) (br ay m (⟨ti,tg⟩:bm)) i_) [0,1,4,7] (fun s=>[.pointer (aa ⟨0,0,aj⟩),.int .i64 s.2.2.2,.pointer (aa ⟨2,0,aj⟩),.pointer (aa ⟨3,0,aj⟩)]) (fun s=>[aa (.inl (110,[.pointer (aa ⟨1,0,aj⟩),.int .i64 ti,.int .i64 tg])),aa (.inr (.inr (.inr (.da s.2.2.1)))),aa (.inl (49,[.int .i64 0,.bool an,.int .i64 0,.int .i64 0,.bool an,.bool an,.int .i64 0,.int .i64 0])),aa (.inl (136,bj s.2.1))]) (fun s=>s.1) (Tryz.f141).ntmps (fun s hs=>⟨rfl,rfl,tM _ _⟩) ⟨(K,br ay m (⟨ti,tg⟩:bm),aJ m (⟨ti,tg⟩:bm),i_),⟨iZ.2 hp,wX,rfl⟩,⟨[0,1,2,4],rfl,⟨.inl rfl,rfl,.inl rfl,.inl rfl,trivial⟩,rfl,rfl,rfl,rfl⟩⟩ fun s hs=>?_
  obtain⟨k,n,m2,c⟩:=s;obtain⟨s1,s2,s3⟩:=hs;simp only at s1 s2 s3;rcases k with _|k
  ·exact s2.elim
  refine cJ (T:=Ih K) (show cL D Tryz.prog (Ih K) from⟨iu,aT _ _ look_ok,trivial⟩) mixed 200 ?_
  refine bK (q:=let Z5:=aC (aa ⟨2,0,aj⟩);let Z6:=aC (aa ⟨0,0,aj⟩);let Z7:=aC (aa ⟨3,0,aj⟩);let Z1:=(aw (n,m2,c));let Z2:=(br ay (aA Z1) (bc (aA (n,m2,c))));let Z3:=(aJ (aA Z1) (bc (aA (n,m2,c))));let Z4:=(dr (Ft 0 an (cW 0 0) an an (cW 0 0)));Vc (PP (aA Z1))/\((aw Z1==bM (bt Z2))=ao->aW (G (cq (aO [.agg (aO (dr (bZ (aA (n,m2,c))))),.bool ao])) [dD 1 ti tg,oP Z3,aa (.inl (49,(dr (bZ (aA (n,m2,c)))))),aa (.inl (136,(bj (aA (n,m2,c))))),aa (.inl (136,(bj Z2)))]))/\((aw Z1==bM (bt Z2))=an->(decide (aw Z1<bM (bt Z2))=ao->aW (∃ j,(PP (aA (aw (aw j)))/\B_ ay (aA j) (aA (aw (aw j))) (aA (aw j)) (aw (aw (aw j)))/\oU ay (aA j) (aA (aw (aw j))) (aA (aw j)) (aw (aw (aw j)))=oU ay K (aJ m (aN ti tg)) (br ay m (aN ti tg)) i_)/\aA j<k+1/\j6 Rs 2 (pf Tryz.f141) [0,1,4,7] [Z6,.int ar (aw (aw (aw j))),Z5,Z7] [dD 1 ti tg,oP (aA (aw (aw j))),aa (.inl ((49:TypeId),Z4)),aa (.inl ((136:TypeId),bj (aA (aw j))))] [aa (Z6),aa (bk ar (aw Z1)),aa (Z5),aa (Z7)] [dD 1 ti tg,oP Z3,aa (.inl (49,Z4)),aa (.inl (136,(bj Z2))),aa (.inl (136,(bj Z2)))] 52))/\(decide (aw Z1<bM (bt Z2))=an->Vc True/\Vc True/\Vc (PP Z3)/\aW (∃ j,(PP (aA (aw (aw j)))/\B_ ay (aA j) (aA (aw (aw j))) (aA (aw j)) (aw (aw (aw j)))/\oU ay (aA j) (aA (aw (aw j))) (aA (aw j)) (aw (aw (aw j)))=oU ay K (aJ m (aN ti tg)) (br ay m (aN ti tg)) i_)/\aA j<k+1/\j6 Rs 2 (pf Tryz.f141) [0,1,4,7] [Z6,.int ar (aw (aw (aw j))),Z5,Z7] [dD 1 ti tg,oP (aA (aw (aw j))),aa (.inl ((49:TypeId),Z4)),aa (.inl ((136:TypeId),bj (aA (aw j))))] [aa (Z6),aa (bk ar (ck ar (aw Z1-ck ar (bM (bt Z2)+(1:Int))))),aa (Z5),aa (Z7)] [dD 1 ti tg,oP (aJ Z3 (bn (aA (n,m2,c)))),aa (.inl (49,Z4)),aa (.inl (136,(bj (br ay Z3 (bn (aA (n,m2,c))))))),aa (.inl (136,(bj Z2)))] 52)))) ?_ (by kernel_rfl)
  intro Z5 Z6 Z7 Z1 Z2 Z3 Z4;subst Z4 Z3 Z2 Z1 Z7 Z6 Z5;rw[B_] at s2;rw[oU] at s3;subst hG
  repeat' (first|apply cY|apply Vc.mk|apply fits.mk|intro h|apply aW.mk)
  all_goals (try simp only[sB] at *)
  all_goals first|contradiction|omega|exact jm ‹_›|exact jo ‹_›|exact jk ‹_›|exact⟨rfl,by omega⟩|exact rfl|(simp[*,-av];done)|skip
  all_goals first|assumption|exact iZ.2 s1|skip
  ·have h1:c=(br ay m2 n.l).all.n:=by assumption
   rw[if_pos h1] at s3;rw[ee,← s3];exact⟨[0,1],rfl,rfl,⟨.inl rfl,rfl,trivial⟩,rfl,rfl,rfl,rfl⟩
  ·have h1:c≠(br ay m2 n.l).all.n:=by assumption
   have h2:c<(br ay m2 n.l).all.n:=by assumption
   rw[if_neg h1,if_pos h2] at s3;exact⟨(k,br ay m2 n.l,aJ m2 n.l,c),⟨iZ.2 s1,(s2 h1).1 (by omega),s3⟩,fC _,⟨[0,1,2,3],rfl,⟨.inl rfl,rfl,.inl rfl,.inl rfl,trivial⟩,rfl,rfl,rfl,rfl⟩⟩
  ·have h1:c≠(br ay m2 n.l).all.n:=by assumption
   have h2:¬ c<(br ay m2 n.l).all.n:=by omega
   rw[if_neg h1,if_neg h2] at s3;exact⟨(k,br ay (aJ m2 n.l) n.r,aJ (aJ m2 n.l) n.r,m7 (c-m7 ((br ay m2 n.l).all.n+1))),⟨iZ.2 (iZ.2 s1),(s2 h1).2 (by omega),s3⟩,fC _,⟨[0,1,2,3],rfl,⟨.inl rfl,rfl,.inl rfl,.inl rfl,trivial⟩,rfl,rfl,rfl,rfl⟩⟩
 ·cases hx
end G8
namespace Sh
open Rx Wv
structure Sl where
 it:It
 kA:Bool
 time:Int
structure Sz where
 n:Int
def Yp:Sl:=⟨⟨0,0⟩,an,0⟩
def O9:Gv.iL Sl Sz:=⟨Yp,⟨0⟩,fun a b=>kM a.it b.it,fun _=>⟨1⟩,fun a b=>⟨m7 (a.n+b.n)⟩⟩
def S9 (l:List Sl):Sz:=⟨l.length⟩
def Li (l:List Sl):Prop:=l.length≤1000
theorem Co (a b:It):kM a b=0↔a=b:=by
 constructor
 ·intro h;refine It.Q_ ?_ ?_<;>(unfold kM at h;repeat' split at h)<;>omega
 ·rintro rfl;unfold kM;repeat' split
  all_goals omega
theorem DM (a b:It):kM a b<0↔ah a b:=by unfold kM ah;repeat' split;all_goals omega
theorem Ve {a b c:It} (h:ah a b) (h':ah b c):ah a c:=by unfold ah at *;omega
theorem Zg:Gv.yZ O9 S9 Li where
 nil:=rfl
 one e:=rfl
 plus x y h _ _:=by
  unfold Li at h;unfold S9;rw[bA] at *
  show(⟨m7 ((x.length:Int)+(y.length:Int))⟩:Sz)=⟨((x.length+y.length:Nat):Int)⟩
  rw[Gv.uD (by omega)];push_cast;rfl
 left x y h:=by unfold Li at *;rw[bA] at h;omega
 right x y h:=by unfold Li at *;rw[bA] at h;omega
 len x h:=Nat.le_trans h (by decide)
 swap a b:=by show kM a.it b.it<0↔kM b.it a.it>0;rw[DM,wW]
 trans a b c h h':=by
  have h:kM a.it b.it<0:=h;have h':kM b.it c.it<0:=h';rw[DM] at h h';show kM a.it c.it<0
  rw[DM];exact Ve h h'
 eqv a b c h h':=by
  have h:kM a.it b.it=0:=h;rw[Co] at h;have h':kM b.it c.it<0:=h';show kM a.it c.it<0
  rw[h];exact h'
 Zt a b c h h':=by
  have h:kM a.it b.it=0:=h;rw[Co] at h;have h':kM c.it b.it<0:=h';show kM c.it a.it<0
  rw[h];exact h'
set_option maxRecDepth 100000
def M5 {R:Type}:Prim R:=fun args hh=>match args,hh with
 |[.agg ⟨[.int .i64 a,.int .i64 b]⟩],[]=>aa ⟨True,.agg ⟨[.int .i64 a,.int .i64 b,.bool an,.int .i64 0]⟩,aj,hh,[],[]⟩
 |_,_=>aj
theorem Kp {R:Type} {D:fH R}:b6 D Tryz.prog 69 (a9 M5):=by
 refine fj Tryz.f69 fun args hh x hx=>?_
 unfold M5 at hx;split at hx
 ·rename_i a b;cases hx;refine q4 fun _ hv=>?_
  generalize hG:ch (R:=R) _ _=G;refine ow (T:=[]) trivial mixed 200 (q:=let Z1:=bk ar;aW (G (bE (aO [Z1 a,Z1 b,.bool an,Z1 0])) [aa (df (31,[Z1 a,Z1 b])),aa (df (75,[Z1 a,Z1 b,.bool an,Z1 0]))])) ?_ (by kernel_rfl)
  intro Z1;subst Z1;subst hG
  repeat' (first|apply cY|apply Vc.mk|apply fits.mk|intro h|apply aW.mk)
  all_goals (try simp only[sB] at *)
  all_goals first|contradiction|omega|exact jm ‹_›|exact jo ‹_›|exact jk ‹_›|exact⟨rfl,by omega⟩|exact rfl|(simp[*,-av];done)|skip
  exact⟨[],rfl,rfl,trivial,rfl,rfl,rfl,rfl⟩
 ·cases hx
def TCi {R:Type}:ez R:=[(140,bJ zN 2 (a9 Zp))]
theorem ak6 {R:Type} {D:fH R}:cL D Tryz.prog (TCi:ez R):=⟨aT _ _ abB,trivial⟩
def FN {R:Type}:Prim R:=fun args hh=>match args,hh with
 |[.agg ⟨[.int .i64 a,.int .i64 b,.bool c,.int .i64 d]⟩,.agg ⟨[.int .i64 a',.int .i64 b',.bool c',.int .i64 d']⟩],[]=>aa ⟨True,.int .i64 (O9.cmp ⟨⟨a,b⟩,c,d⟩ ⟨⟨a',b'⟩,c',d'⟩),aj,hh,[],[]⟩
 |_,_=>aj
theorem zZ {R:Type} {D:fH R}:b6 D Tryz.prog 106 (a9 FN):=by
 refine fj Tryz.f106 fun args hh x hx=>?_
 unfold FN at hx;split at hx
 ·rename_i a b c d a' b' c' d';cases hx;refine q4 fun _ hv=>?_
  generalize hG:ch (R:=R) _ _=G;refine ow (T:=TCi) ak6 mixed 200 (q:=let Z1:=bk ar;Vc True/\aW (G (Z1 (kM (It.mk a b) (It.mk a' b'))) [aa (df (75,[Z1 a,Z1 b,.bool c,Z1 d])),aa (df (75,[Z1 a',Z1 b',.bool c',Z1 d']))])) ?_ (by kernel_rfl)
  intro Z1;subst Z1;subst hG
  repeat' (first|apply cY|apply Vc.mk|apply fits.mk|intro h|apply aW.mk)
  all_goals (try simp only[sB] at *)
  all_goals first|contradiction|omega|exact jm ‹_›|exact jo ‹_›|exact jk ‹_›|exact⟨rfl,by omega⟩|exact rfl|(simp[*,-av];done)|skip
  exact⟨[],rfl,rfl,trivial,rfl,rfl,rfl,rfl⟩
 ·cases hx
def Zw {R:Type}:Prim R:=fun args hh=>match args,hh with
 |[.agg ⟨[.int .i64 a,.int .i64 b,.bool c,.int .i64 d]⟩],[]=>aa ⟨True,.int .i64 (O9.sum ⟨⟨a,b⟩,c,d⟩).n,aj,hh,[],[]⟩
 |_,_=>aj
theorem agK {R:Type} {D:fH R}:b6 D Tryz.prog 241 (a9 Zw):=by
 refine fj Tryz.f241 fun args hh x hx=>?_
 unfold Zw at hx;split at hx
 ·rename_i a b c d;cases hx;refine q4 fun _ hv=>?_
  generalize hG:ch (R:=R) _ _=G;refine ow (T:=[]) trivial mixed 200 (q:=aW (G (bk ar 1) [aa (df (75,[.int ar a,.int ar b,.bool c,.int ar d]))])) ?_ (by kernel_rfl)
  subst hG
  repeat' (first|apply cY|apply Vc.mk|apply fits.mk|intro h|apply aW.mk)
  all_goals (try simp only[sB] at *)
  all_goals first|contradiction|omega|exact jm ‹_›|exact jo ‹_›|exact jk ‹_›|exact⟨rfl,by omega⟩|exact rfl|(simp[*,-av];done)|skip
  exact⟨[],rfl,rfl,trivial,rfl,rfl,rfl,rfl⟩
 ·cases hx
def ajn {R:Type}:ez R:=[(1000000000,lL)]
theorem agU {R:Type} {D:fH R}:cL D Tryz.prog (ajn:ez R):=⟨iu,trivial⟩
def Ut {R:Type}:Prim R:=fun args hh=>match args,hh with
 |[.int .i64 a,.int .i64 b],[]=>aa ⟨True,.int .i64 (O9.plus ⟨a⟩ ⟨b⟩).n,aj,hh,[],[]⟩
 |_,_=>aj
theorem aeC {R:Type} {D:fH R}:b6 D Tryz.prog 242 (a9 Ut):=by
 refine fj Tryz.f242 fun args hh x hx=>?_
 unfold Ut at hx;split at hx
 ·rename_i a b;cases hx;refine q4 fun _ hv=>?_
  generalize hG:ch (R:=R) _ _=G;refine ow (T:=ajn) agU mixed 200 (q:=Vc True/\aW (G (bk ar (ck ar (a+b))) [])) ?_ (by kernel_rfl)
  subst hG
  repeat' (first|apply cY|apply Vc.mk|apply fits.mk|intro h|apply aW.mk)
  all_goals (try simp only[sB] at *)
  all_goals first|contradiction|omega|exact jm ‹_›|exact jo ‹_›|exact jk ‹_›|exact⟨rfl,by omega⟩|exact rfl|(simp[*,-av];done)|skip
  exact⟨[],rfl,rfl,trivial,rfl,rfl,rfl,rfl⟩
 ·cases hx
end Sh
namespace Pa
open Rx Wv
def Ord (l:List It):Prop:=l.Pairwise ah
theorem GN (a:It):¬ ah a a:=fun h=>sG h h
theorem Oz {a b c:It} (h:ah a b) (h':ah b c):ah a c:=by unfold ah at *;omega
theorem alc {a b:It} (h:ah a b):a≠b:=fun e=>by subst e;exact GN _ h
theorem S5 {a b:It} (h:a≠b):ah a b∨ah b a:=by
 by_cases c:ah a b
 ·exact .inl c
 ·by_cases c':ah b a
  ·exact .inr c'
  ·exact absurd (ab0 c c') h
def gZ (x:It):List It->List It
 |[]=>[x]
 |y::l=>if ah x y then x::y::l else y::gZ x l
theorem jZ {x z:It}:∀ {l:List It},z∈gZ x l↔z=x∨z∈l
 |[]=>by simp[gZ]
 |y::l=>by
  rw[gZ];split
  ·simp
  ·simp only[bP,jZ (l:=l)]
   constructor
   ·rintro (h|h|h)
    ·exact .inr (.inl h)
    ·exact .inl h
    ·exact .inr (.inr h)
   ·rintro (h|h|h)
    ·exact .inr (.inl h)
    ·exact .inl h
    ·exact .inr (.inr h)
theorem pn {x:It}:∀ {l:List It},Ord l->x∉l->Ord (gZ x l)
 |[],_,_=>List.pairwise_singleton _ _
 |y::l,h,hx=>by
  have h1:=gB.1 h;have kv:x≠y:=fun e=>hx (e▸bL)
  rw[gZ];split
  ·rename_i c;exact gB.2 ⟨fun z hz=>by
    rcases bP.1 hz with e|e
    ·rw[e];exact c
    ·exact Oz c (h1.1 z e),h⟩
  ·rename_i c;refine gB.2 ⟨fun z hz=>?_,pn h1.2 (fun e=>hx (ed _ e))⟩
   rcases jZ.1 hz with e|e
   ·rw[e];rcases S5 kv with c'|c'
    ·exact absurd c' c
    ·exact c'
   ·exact h1.1 z e
theorem zY:∀ {a b:List It},Ord a->Ord b->(∀ x,x∈a↔x∈b)->a=b
 |[],[],_,_,_=>rfl
 |[],y::b,_,_,h=>by have:=(h y).2 bL;cases this
 |x::a,[],_,_,h=>by have:=(h x).1 bL;cases this
 |x::a,y::b,ha,hb,h=>by
  have OH:=gB.1 ha;have qm:=gB.1 hb;have e:x=y:=by
   rcases bP.1 ((h x).1 bL) with e|e
   ·exact e
   ·rcases bP.1 ((h y).2 bL) with e'|e'
    ·exact e'.symm
    ·exact absurd (OH.1 y e') (sG (qm.1 x e))
  subst e;have:a=b:=zY OH.2 qm.2 fun z=>by
   have hz:=h z;simp only[bP] at hz
   constructor
   ·intro m;rcases hz.1 (.inr m) with e|e
    ·subst e;exact absurd (OH.1 _ m) (GN _)
    ·exact e
   ·intro m;rcases hz.2 (.inr m) with e|e
    ·subst e;exact absurd (qm.1 _ m) (GN _)
    ·exact e
  rw[this]
theorem adS {x y:It} {l:List It} (h:Ord l) (hx:x∉l) (hy:y∉l) (kv:x≠y):gZ x (gZ y l)=gZ y (gZ x l):=by
 refine zY (pn (pn h hy) ?_) (pn (pn h hx) ?_) fun z=>?_
 ·rw[jZ];rintro (e|e);exact kv e;exact hx e
 ·rw[jZ];rintro (e|e);exact kv e.symm;exact hy e
 ·simp only[jZ]
  constructor<;>rintro (e|e|e)
  ·exact .inr (.inl e)
  ·exact .inl e
  ·exact .inr (.inr e)
  ·exact .inr (.inl e)
  ·exact .inl e
  ·exact .inr (.inr e)
def pU (z:It) (l:List It):List It:=l.filter fun y=>!decide (y=z)
theorem po {x z:It} {l:List It}:x∈pU z l↔x∈l/\x≠z:=by
 unfold pU;rw[pc]
 constructor
 ·rintro ⟨h1,h2⟩;exact⟨h1,fun e=>by rw[decide_eq_true e] at h2;cases h2⟩
 ·rintro ⟨h1,h2⟩;exact⟨h1,by rw[decide_eq_false h2];rfl⟩
theorem zi {z:It} {l:List It} (h:Ord l):Ord (pU z l):=aah _ h
theorem EN {y:It} {l:List It} (h:Ord (y::l)):Ord l:=(gB.1 h).2
theorem Cw {y z:It} {l:List It} (h:Ord (y::l)) (hz:z∈l):ah y z:=(gB.1 h).1 z hz
theorem yy {y:It} {l:List It} (h:Ord (y::l)):y∉l:=fun m=>GN _ (Cw h m)
def mx (x y:It):It:=if ah x y then y else x
def mn (x y:It):It:=if ah x y then x else y
theorem ad2 {x y:It} {l:List It} (h:Ord (y::l)) (hx:x∉y::l):gZ x (y::l)=mn x y::gZ (mx x y) l:=by
 unfold mn mx;rw[gZ];split
 ·rename_i c
  congr 1
  cases l with
  |nil=>rfl
  |cons w l=>rw[gZ,if_pos (Cw h bL)]
 ·rfl
structure Op where
 t:Int
 ins:Bool
 it:It
def gx (r:List Op):List It:=(r.filter Op.ins).map Op.it
theorem xA {o:Op} {r:List Op} (h:o.ins=ao):gx (o::r)=o.it::gx r:=by unfold gx;rw[jS,if_pos h];rfl
theorem q8 {o:Op} {r:List Op} (h:o.ins=an):gx (o::r)=gx r:=by unfold gx;rw[jS,if_neg (by rw[h];decide)]
def n6 (h:List It) (o:Op):List It:=if o.ins=ao then gZ o.it h else h.tail
def fin (h:List It):List Op->List It
 |[]=>h
 |o::r=>fin (n6 h o) r
def tk (h:List It):List Op->List It
 |[]=>[]
 |o::r=>if o.ins=ao then tk (gZ o.it h) r else h.take 1++tk h.tail r
def gw (h:List It):List Op->Nat
 |[]=>0
 |o::r=>if o.ins=ao then gw (gZ o.it h) r else(if h=[] then 1 else 0)+gw h.tail r
theorem tq {h:List It} {o:Op} {r:List Op} (e:o.ins=ao):fin h (o::r)=fin (gZ o.it h) r:=by rw[fin,n6,if_pos e]
theorem nD {h:List It} {o:Op} {r:List Op} (e:o.ins=an):fin h (o::r)=fin h.tail r:=by rw[fin,n6,if_neg (by rw[e];decide)]
theorem oB {h:List It} {o:Op} {r:List Op} (e:o.ins=ao):tk h (o::r)=tk (gZ o.it h) r:=by rw[tk,if_pos e]
theorem vP {h:List It} {o:Op} {r:List Op} (e:o.ins=an):tk h (o::r)=h.take 1++tk h.tail r:=by rw[tk,if_neg (by rw[e];decide)]
theorem ov {h:List It} {o:Op} {r:List Op} (e:o.ins=ao):gw h (o::r)=gw (gZ o.it h) r:=by rw[gw,if_pos e]
theorem zK {h:List It} {o:Op} {r:List Op} (e:o.ins=an):gw h (o::r)=(if h=[] then 1 else 0)+gw h.tail r:=by rw[gw,if_neg (by rw[e];decide)]
theorem sJ {o:Op} {r:List Op} (e:o.ins=an):gw [] (o::r)=1+gw [] r:=by rw[zK e,if_pos rfl];rfl
theorem np {y:It} {h:List It} {o:Op} {r:List Op} (e:o.ins=an):gw (y::h) (o::r)=gw h r:=by rw[zK e,if_neg (by simp),bV];rfl
theorem BH {o:Op} {r:List Op} (e:o.ins=an):tk [] (o::r)=tk [] r:=by rw[vP e];rfl
theorem oF {y:It} {h:List It} {o:Op} {r:List Op} (e:o.ins=an):tk (y::h) (o::r)=y::tk h r:=by rw[vP e];rfl
theorem iU (o:Op):o.ins=ao∨o.ins=an:=by cases o.ins<;>simp
structure Ap (h:List It) (r:List Op):Prop where
 ord:Ord h
 nd:(gx r).Nodup
 ap:∀ x,x∈h->x∉gx r
theorem Ap.ins {h:List It} {o:Op} {r:List Op} (a:Ap h (o::r)) (e:o.ins=ao):Ap (gZ o.it h) r/\o.it∉h/\o.it∉gx r:=by
 have h1:=a.nd;have h2:=a.ap;rw[xA e] at h1 h2;have n1:o.it∉h:=fun m=>h2 _ m bL
 have n2:=(fJ.1 h1).1;refine⟨⟨pn a.ord n1,(fJ.1 h1).2,fun x hx=>?_⟩,n1,n2⟩
 rcases jZ.1 hx with e'|e'
 ·rw[e'];exact n2
 ·exact fun m=>h2 x e' (ed _ m)
theorem Ap.del {h:List It} {o:Op} {r:List Op} (a:Ap h (o::r)) (e:o.ins=an):Ap h.tail r:=by
 have h1:=a.nd;have h2:=a.ap;rw[q8 e] at h1 h2;refine⟨?_,h1,fun x hx=>h2 x (Be hx)⟩
 cases h with
 |nil=>exact a.ord
 |cons y h=>exact EN a.ord
theorem Ap.n6 {h:List It} {o:Op} {r:List Op} (a:Ap h (o::r)):Ap (n6 h o) r:=by
 unfold Pa.n6;rcases iU o with e|e
 ·rw[if_pos e];exact(a.ins e).1
 ·rw[if_neg (by rw[e];decide)];exact a.del e
theorem q_:∀ {r:List Op} {h:List It},Ap h r->∀ z,z∈tk h r->z∈h∨z∈gx r
 |[],h,a,z,hz=>by cases hz
 |o::r,h,a,z,hz=>by
  rcases iU o with e|e
  ·rw[oB e] at hz;rw[xA e];rcases q_ (a.ins e).1 z hz with m|m
   ·rcases jZ.1 m with m|m
    ·exact .inr (m▸bL)
    ·exact .inl m
   ·exact .inr (ed _ m)
  ·rw[vP e] at hz;rw[q8 e];rcases b5.1 hz with m|m
   ·exact .inl (ph m)
   ·rcases q_ (a.del e) z m with m|m
    ·exact .inl (Be m)
    ·exact .inr m
theorem q7:∀ {r:List Op} {h:List It},Ap h r->∀ z,z∈fin h r↔(z∈h∨z∈gx r)/\z∉tk h r
 |[],h,a,z=>by simp[fin,tk,gx]
 |o::r,h,a,z=>by
  rcases iU o with e|e
  ·rw[tq e,oB e,xA e,q7 (a.ins e).1,jZ,bP]
   constructor
   ·rintro ⟨(m|m)|m,n⟩
    ·exact⟨.inr (.inl m),n⟩
    ·exact⟨.inl m,n⟩
    ·exact⟨.inr (.inr m),n⟩
   ·rintro ⟨m|m|m,n⟩
    ·exact⟨.inl (.inr m),n⟩
    ·exact⟨.inl (.inl m),n⟩
    ·exact⟨.inr m,n⟩
  ·rw[nD e,vP e,q8 e,q7 (a.del e)];cases h with
   |nil=>simp
   |cons y h =>
    have hy:=yy a.ord;have hy2:y∉gx r:=by have:=a.ap y bL;rwa [q8 e] at this
    have hy3:y∉tk h r:=fun m=>by
     rcases q_ (a.del e) y m with m|m
     ·exact hy m
     ·exact hy2 m
    simp only[oV,bP,Js,sm,b5,vH,or_false]
    constructor
    ·rintro ⟨m|m,n⟩
     ·exact⟨.inl (.inr m),fun c=>by rcases c with c|c;exact hy (c▸m);exact n c⟩
     ·exact⟨.inr m,fun c=>by rcases c with c|c;exact hy2 (c▸m);exact n c⟩
    ·rintro ⟨(m|m)|m,n⟩
     ·exact absurd (.inl m) n
     ·exact⟨.inl m,fun c=>n (.inr c)⟩
     ·exact⟨.inr m,fun c=>n (.inr c)⟩
theorem XM:∀ {r:List Op} {h:List It},Ap h r->Ord (fin h r)
 |[],h,a=>a.ord
 |o::r,h,a=>by rw[fin];exact XM a.n6
def th (x:It) (h:List It):List Op->Option It
 |[]=>aa x
 |o::r=>if o.ins=ao then th x (gZ o.it h) r else if h=[] then aj else th (mx x (h.headD iz)) h.tail r
theorem Ys {x:It} {h:List It} {o:Op} {r:List Op} (e:o.ins=ao):th x h (o::r)=th x (gZ o.it h) r:=by rw[th,if_pos e]
theorem Us {x:It} {o:Op} {r:List Op} (e:o.ins=an):th x [] (o::r)=aj:=by rw[th,if_neg (by rw[e];decide),if_pos rfl]
theorem XP {x y:It} {h:List It} {o:Op} {r:List Op} (e:o.ins=an):th x (y::h) (o::r)=th (mx x y) h r:=by rw[th,if_neg (by rw[e];decide),if_neg (by simp)];rfl
theorem Tp (x y:It):mx x y=x∨mx x y=y:=by unfold mx;split<;>simp
theorem ann (x y z:It):(z=mn x y∨z=mx x y)↔(z=x∨z=y):=by
 unfold mx mn;split
 ·rfl
 ·exact Or.comm
theorem Lp:∀ {r:List Op} {h:List It} {x:It},Ap h r->x∉h->x∉gx r ->
  fin (gZ x h) r=(match th x h r with|none=>fin h r|some z=>gZ z (fin h r)) /\
  gw h r=gw (gZ x h) r+(if th x h r=aj then 1 else 0) /\
  (∀ w,w∈tk (gZ x h) r↔(w∈tk h r∨w=x)/\th x h r≠aa w)/\(∀ z,th x h r=aa z->z∉fin h r/\(z=x∨z∈tk h r))
 |[],h,x,a,hx,hi=>by
  refine⟨rfl,rfl,fun w=>?_,fun z hz=>?_⟩
  ·show w∈([]:List It)↔(w∈([]:List It)∨w=x)/\aa x≠aa w
   constructor
   ·intro m;cases m
   ·rintro ⟨m|m,n⟩
    ·exact m
    ·exact absurd (by rw[m]) n
  ·cases hz;exact⟨hx,.inl rfl⟩
 |o::r,h,x,a,hx,hi=>by
  rcases iU o with e|e
  ·obtain⟨a',n1,n2⟩:=a.ins e;rw[xA e] at hi;have kv:x≠o.it:=fun c=>hi (c▸bL)
   have ih:=Lp (r:=r) (h:=gZ o.it h) (x:=x) a' (fun m=>by rcases jZ.1 m with m|m;exact kv m;exact hx m) (fun m=>hi (ed _ m))
   rw[tq e,tq e,ov e,ov e,oB e,oB e,Ys e,adS a.ord n1 hx kv.symm];exact ih
  ·rw[q8 e] at hi;have a':=a.del e;cases h with
   |nil =>
    rw[Us e,nD e,nD e,zK e,zK e,vP e,vP e];refine⟨rfl,?_,fun w=>?_,fun z hz=>by cases hz⟩
    ·show(if([]:List It)=[] then 1 else 0)+gw [] r=(if[x]=[] then 1 else 0)+gw [] r+1
     rw[if_pos rfl,if_neg (by simp)];omega
    ·show w∈[x]++tk [] r↔(w∈[]++tk [] r∨w=x)/\_
     simp only[pd,HK,bP]
     constructor
     ·rintro (m|m)
      ·exact⟨.inr m,by simp⟩
      ·exact⟨.inl m,by simp⟩
     ·rintro ⟨m|m,_⟩
      ·exact .inr m
      ·exact .inl m
   |cons y h =>
    have kv:x≠y:=fun c=>hx (c▸bL)
    have hxh:x∉h:=fun m=>hx (ed _ m)
    have hyh:=yy a.ord;have hyi:y∉gx r:=by have:=a.ap y bL;rwa [q8 e] at this
    have hm1:mx x y∉h:=by rcases Tp x y with c|c<;>rw[c]<;>assumption
    have JH:mx x y∉gx r:=by rcases Tp x y with c|c<;>rw[c]<;>assumption
    obtain⟨i1,i2,i3,i4⟩:=Lp (r:=r) (h:=h) (x:=mx x y) a' hm1 JH;have ytk:y∉tk h r:=fun m=>by
     rcases q_ a' y m with m|m
     ·exact hyh m
     ·exact hyi m
    rw[XP e,nD e,nD e,zK e,zK e,vP e,vP e,ad2 a.ord hx];simp only[oV,Js,sm,HK];rw[if_neg (by simp),if_neg (by simp),bV,bV]
    refine⟨i1,i2,fun w=>?_,fun z hz=>?_⟩
    ·rw[bP,i3,bP];have k:=ann x y w;have nmn:th (mx x y) h r≠aa (mn x y):=fun c=>by
      rcases(i4 _ c).2 with c2|c2
      ·unfold mx mn at c2;split at c2
       ·exact kv c2
       ·exact kv c2.symm
      ·have:mn x y=x∨mn x y=y:=by unfold mn;split<;>simp
       rcases this with c3|c3
       ·rw[c3] at c2;rcases q_ a' x c2 with m|m
        ·exact hxh m
        ·exact hi m
       ·rw[c3] at c2;exact ytk c2
     constructor
     ·rintro (m|⟨m,n⟩)
      ·have:=k.1 (.inl m);refine⟨?_,m▸nmn⟩;rcases this with c|c
       ·exact .inr c
       ·exact .inl (.inl c)
      ·refine⟨?_,n⟩;rcases m with m|m
       ·exact .inl (.inr m)
       ·rcases k.1 (.inr m) with c|c
        ·exact .inr c
        ·exact .inl (.inl c)
     ·rintro ⟨(m|m)|m,n⟩
      ·rcases k.2 (.inr m) with c|c
       ·exact .inl c
       ·exact .inr ⟨.inr c,n⟩
      ·exact .inr ⟨.inl m,n⟩
      ·rcases k.2 (.inl m) with c|c
       ·exact .inl c
       ·exact .inr ⟨.inr c,n⟩
    ·obtain⟨z1,z2⟩:=i4 z hz;refine⟨z1,?_⟩;rcases z2 with c|c
     ·rcases Tp x y with c2|c2
      ·exact .inl (c.trans c2)
      ·exact .inr (c.trans c2▸bL)
     ·exact .inr (ed _ c)
def tp (h:List It) (r:List Op):Option (Option It):=if gw h r=0 then aa (hi (tk h r)) else aj
def upO (x:It):Option (Option It)->Option It
 |none=>aj
 |some m=>up (aa x) m
theorem OL (x y:It):up (aa x) (aa y)=aa (mx x y):=by
 show(if ah x y then aa y else aa x)=aa (mx x y)
 unfold mx;split<;>rfl
theorem Pt:∀ {r:List Op} {h:List It} {x:It},th x h r=upO x (tp h r)
 |[],h,x=>rfl
 |o::r,h,x=>by
  rcases iU o with e|e
  ·rw[Ys e,Pt];unfold tp;rw[ov e,oB e]
  ·cases h with
   |nil =>
    rw[Us e];unfold tp;rw[sJ e,if_neg (by omega)]
    rfl
   |cons y h =>
    rw[XP e,Pt];unfold tp;rw[np e,oF e];split
    ·show up (aa (mx x y)) (hi (tk h r))=up (aa x) (up (aa y) (hi (tk h r)))
     rw[← VY,OL]
    ·rfl
def pE (g:It->Bool) (h:List It) (r:List Op):Nat:=gw h r+h.countP g
def wt (g:It->Bool) (o:Op):Int:=if o.ins=ao then if g o.it=ao then 1 else 0 else -1
def jb (g:It->Bool) (h:List It) (r:List Op):Prop:=∀ z,z∈h∨z∈gx r->(g z=ao↔z∈tk h r)
theorem jb.n6 {g:It->Bool} {h:List It} {o:Op} {r:List Op} (c:jb g h (o::r)) (a:Ap h (o::r)):jb g (n6 h o) r:=by
 intro z hz;unfold Pa.n6 at *
 rcases iU o with e|e
 ·rw[if_pos e] at *
  have := c z (by rw [xA e]; rcases hz with m | m
                  · rcases jZ.1 m with m|m
                    · exact .inr (m▸bL)
                    · exact .inl m
                  · exact .inr (ed _ m))
  rw[oB e] at this;exact this
 ·rw[if_neg (by rw[e];decide)] at *
  have := c z (by rw [q8 e]; rcases hz with m | m
                  · exact .inl (Be m)
                  · exact .inr m)
  rw[vP e] at this;rw[this];cases h with
  |nil=>simp
  |cons y h =>
   have kv:z≠y:=by
    rintro rfl
    rcases hz with m|m
    ·exact yy a.ord m
    ·have:=a.ap z bL;rw[q8 e] at this;exact this m
   simp[kv]
theorem OK (g:It->Bool) (x:It):∀ l:List It,(gZ x l).countP g=l.countP g+if g x=ao then 1 else 0
 |[]=>by simp[gZ,vJ]
 |y::l=>by
  rw[gZ];split
  ·rw[vJ]
  ·rw[vJ,OK g x l,vJ];omega
theorem aga {g:It->Bool} {h:List It} {o:Op} {r:List Op} (c:jb g h (o::r)) (a:Ap h (o::r)):(pE g (n6 h o) r:Int)=pE g h (o::r)+wt g o:=by
 unfold pE wt n6;rcases iU o with e|e
 ·rw[if_pos e,if_pos e,ov e,OK];split<;>omega
 ·rw[if_neg (by rw[e];decide),if_neg (by rw[e];decide)]
  cases h with
  |nil =>
   rw[sJ e];show((gw [] r+0:Nat):Int)=((1+gw [] r+0:Nat):Int) + -1
   omega
  |cons y h =>
   have hg:g y=ao:=(c y (.inl bL)).2 (by rw[vP e];simp)
   rw[np e,vJ,if_pos hg];show((gw h r+h.countP g:Nat):Int)=_
   omega
theorem OD {g:It->Bool} {h:List It} {r:List Op} (hp:0<pE g h r):0<gw h r∨∃ z,z∈h/\g z=ao:=by
 unfold pE at hp;rcases mi (gw h r) with e|e
 ·rw[e,bV] at hp;obtain⟨z,h1,h2⟩:=Jt.1 hp;exact .inr ⟨z,h1,h2⟩
 ·exact .inl e
theorem Hh {g:It->Bool} {h:List It} {r:List Op} (hp:pE g h r=0):gw h r=0/\∀ z,z∈h->g z=an:=by
 unfold pE at hp;refine⟨by omega,fun z hz=>?_⟩
 have:=Ju.1 (show h.countP g=0 by omega) z hz
 simpa using this
theorem Iq:∀ {l:List It} {z:It},z∈l->∃ m,hi l=aa m/\(m=z∨ah z m)
 |a::l,z,hz=>by
  rcases bP.1 hz with e|e
  ·subst e;show ∃ m,up (aa z) (hi l)=aa m/\_
   cases hi l with
   |none=>exact⟨z,rfl,.inl rfl⟩
   |some b =>
    rw[OL];refine⟨_,rfl,?_⟩;unfold mx;split
    ·rename_i c;exact .inr c
    ·exact .inl rfl
  ·obtain⟨m,h1,h2⟩:=Iq e;show ∃ m,up (aa a) (hi l)=aa m/\_
   rw[h1,OL];refine⟨_,rfl,?_⟩;unfold mx;split
   ·exact h2
   ·rename_i c;rcases h2 with h2|h2
    ·subst h2
     by_cases c2:m=a
     ·exact .inl c2.symm
     ·rcases S5 c2 with c3|c3
      ·exact .inr c3
      ·exact absurd c3 c
    ·by_cases c2:m=a
     ·subst c2;exact .inr h2
     ·rcases S5 c2 with c3|c3
      ·exact .inr (Oz h2 c3)
      ·exact absurd c3 c
theorem af3 {g:It->Bool} {h:List It} {o:Op} {r:List Op} (c:jb g h (o::r)) (a:Ap h (o::r)) (hp:0<pE g (n6 h o) r):tp h (o::r)=tp (n6 h o) r:=by
 have c':=c.n6 a;have a':=a.n6;unfold tp;rcases iU o with e|e
 ·rw[ov e,oB e];unfold n6;rw[if_pos e]
 ·have es:n6 h o=h.tail:=by unfold n6;rw[if_neg (by rw[e];decide)]
  rw[es] at hp c' a' ⊢;cases h with
  |nil =>
   have:0<gw [] r:=by
    rcases OD hp with h1|⟨z,h1,_⟩
    ·exact h1
    ·cases h1
   rw[sJ e,if_neg (by omega)]
   show aj=if gw [] r=0 then _ else aj
   rw[if_neg (by omega)]
  |cons y h =>
   rw[np e,oF e];show(if gw h r=0 then aa (up (aa y) (hi (tk h r))) else aj)=(if gw h r=0 then aa (hi (tk h r)) else aj)
   split
   ·rename_i h0;rcases OD hp with h1|⟨z,h1,h2⟩
    ·rw[oV] at h1;omega
    ·have h3:=(c' z (.inl h1)).1 h2;obtain⟨m,m1,m2⟩:=Iq h3;have hyz:ah y z:=Cw a.ord h1;rw[oV] at m1;rw[m1,OL];unfold mx;rw[if_pos (by rcases m2 with m2|m2;exact m2▸hyz;exact Oz hyz m2)]
   ·rfl
def pL (z:It) (h:List It):List Op->Option It
 |[]=>aa z
 |o::r=>if o.ins=ao then pL z (gZ o.it h) r else if h.headD iz=z then(if h.tail=[] then aj else pL (h.tail.headD iz) h.tail r) else pL z h.tail r
theorem Nm {z:It} {h:List It} {o:Op} {r:List Op} (e:o.ins=ao):pL z h (o::r)=pL z (gZ o.it h) r:=by rw[pL,if_pos e]
theorem Nf {z y:It} {h:List It} {o:Op} {r:List Op} (e:o.ins=an) (kv:y≠z):pL z (y::h) (o::r)=pL z h r:=by rw[pL,if_neg (by rw[e];decide),if_neg (show ¬ (y::h).headD iz=z from kv)];rfl
theorem VT {z:It} {o:Op} {r:List Op} (e:o.ins=an):pL z [z] (o::r)=aj:=by rw[pL,if_neg (by rw[e];decide),if_pos (show[z].headD iz=z from rfl),if_pos (show[z].tail=[] from rfl)]
theorem U0 {z w:It} {h:List It} {o:Op} {r:List Op} (e:o.ins=an):pL z (z::w::h) (o::r)=pL w (w::h) r:=by rw[pL,if_neg (by rw[e];decide),if_pos (show(z::w::h).headD iz=z from rfl),if_neg (show ¬ (z::w::h).tail=[] by simp)];rfl
theorem wV:∀ {r:List Op} {h:List It} {z:It},z∈h->z∉tk h r->pL z h r=aa z
 |[],h,z,_,_=>rfl
 |o::r,h,z,hz,hn=>by
  rcases iU o with e|e
  ·rw[oB e] at hn;rw[Nm e];exact wV (jZ.2 (.inr hz)) hn
  ·cases h with
   |nil=>cases hz
   |cons y h =>
    rw[oF e,bP,not_or] at hn;rw[Nf e (Ne.symm hn.1)];rcases bP.1 hz with m|m
    ·exact absurd m hn.1
    ·exact wV m hn.2
theorem Nn {y:It} {h:List It} (a:Ord (y::h)):pU y (y::h)=h:=by
 refine zY (zi a) (EN a) fun z=>?_
 rw[po,bP]
 constructor
 ·rintro ⟨m|m,n⟩
  ·exact absurd m n
  ·exact m
 ·intro m;exact⟨.inr m,fun e=>yy a (e▸m)⟩
theorem adr {y z:It} {h:List It} (kv:y≠z):pU z (y::h)=y::pU z h:=by
 unfold pU;rw[jS,decide_eq_false kv];rfl
theorem ahD {y z:It} {h:List It} (a:Ord h) (hy:y∉h) (kv:y≠z):pU z (gZ y h)=gZ y (pU z h):=by
 refine zY (zi (pn a hy)) (pn (zi a) fun m=>hy (po.1 m).1) fun w=>?_
 rw[po,jZ,jZ,po]
 constructor
 ·rintro ⟨m|m,n⟩
  ·exact .inl m
  ·exact .inr ⟨m,n⟩
 ·rintro (m|⟨m,n⟩)
  ·exact⟨.inl m,m▸kv⟩
  ·exact⟨.inr m,n⟩
theorem Fi:∀ {r:List Op} {h:List It} {z:It},Ap h r->z∈h ->
  fin (pU z h) r=(match pL z h r with|none=>fin h r|some w=>pU w (fin h r)) /\
  gw (pU z h) r=gw h r+(if pL z h r=aj then 1 else 0) /\
  (∀ w,w∈tk (pU z h) r↔w≠z/\(w∈tk h r∨pL z h r=aa w))/\(∀ w,pL z h r=aa w->w∈fin h r)
 |[],h,z,a,hz=>by
  refine⟨rfl,rfl,fun w=>?_,fun w hw=>by cases hw;exact hz⟩
  show w∈([]:List It)↔w≠z/\(w∈([]:List It)∨aa z=aa w)
  constructor
  ·intro m;cases m
  ·rintro ⟨n,m|m⟩
   ·exact m
   ·cases m;exact absurd rfl n
 |o::r,h,z,a,hz=>by
  rcases iU o with e|e
  ·obtain⟨a',n1,n2⟩:=a.ins e;have kv:o.it≠z:=fun c=>n1 (c▸hz)
   have ih:=Fi a' (jZ.2 (.inr hz));rw[ahD a.ord n1 kv] at ih;rw[tq e,tq e,ov e,ov e,oB e,oB e,Nm e];exact ih
  ·have a':=a.del e;cases h with
   |nil=>cases hz
   |cons y h =>
    have hyi:y∉gx r:=by have:=a.ap y bL;rwa [q8 e] at this
    have ytk:y∉tk h r:=fun m=>by
     rcases q_ a' y m with m|m
     ·exact yy a.ord m
     ·exact hyi m
    have amV:y∉fin h r:=fun m=>by
     rcases((q7 a' y).1 m).1 with m|m
     ·exact yy a.ord m
     ·exact hyi m
    by_cases kv:y=z
    ·subst kv;rw[Nn a.ord];cases h with
     |nil =>
      rw[nD e,nD e,sJ e,np e,BH e,oF e,VT e];refine⟨rfl,?_,fun w=>?_,fun w hw=>by cases hw⟩
      ·rw[if_pos rfl];omega
      ·rw[bP]
       constructor
       ·intro m;exact⟨fun c=>ytk (c▸m),.inl (.inr m)⟩
       ·rintro ⟨n,(m|m)|m⟩
        ·exact absurd m n
        ·exact m
        ·cases m
     |cons w h =>
      obtain⟨i1,i2,i3,i4⟩:=Fi a' bL;rw[oV] at i1 i2 i3 i4;rw[Nn (EN a.ord)] at i1 i2 i3;rw[nD e,nD e,np e,np e,oF e,oF e,U0 e];refine⟨i1,i2,fun v=>?_,i4⟩
      have wy:w≠y:=fun c=>yy a.ord (c▸bL)
      rw[bP,bP,i3]
      constructor
      ·rintro (m|⟨n,m|m⟩)
       ·subst m;refine⟨wy,?_⟩
        by_cases c:v∈tk (v::h) r
        ·exact .inl (.inr c)
        ·exact .inr (wV bL c)
       ·exact⟨fun c=>ytk (c▸m),.inl (.inr m)⟩
       ·exact⟨fun c=>amV (c▸i4 _ m),.inr m⟩
      ·rintro ⟨n,(m|m)|m⟩
       ·exact absurd m n
       ·by_cases c:v=w
        ·exact .inl c
        ·exact .inr ⟨c,.inl m⟩
       ·by_cases c:v=w
        ·exact .inl c
        ·exact .inr ⟨c,.inr m⟩
    ·have Hv:z∈h:=by
      rcases bP.1 hz with m|m
      ·exact absurd m.symm kv
      ·exact m
     obtain⟨i1,i2,i3,i4⟩:=Fi a' Hv;rw[oV] at i1 i2 i3 i4;rw[adr kv,nD e,nD e,np e,np e,oF e,oF e,Nf e kv];refine⟨i1,i2,fun v=>?_,i4⟩
     rw[bP,bP,i3]
     constructor
     ·rintro (m|⟨n,m|m⟩)
      ·exact⟨m▸kv,.inl (.inl m)⟩
      ·exact⟨n,.inl (.inr m)⟩
      ·exact⟨n,.inr m⟩
     ·rintro ⟨n,(m|m)|m⟩
      ·exact .inl m
      ·exact .inr ⟨n,.inl m⟩
      ·exact .inr ⟨n,.inr m⟩
theorem OT:∀ {r:List Op} {h:List It},0<gw h r->∀ z,z∈h->z∈tk h r
 |[],h,hp,z,hz=>by simp[gw] at hp
 |o::r,h,hp,z,hz=>by
  rcases iU o with e|e
  ·rw[ov e] at hp;rw[oB e];exact OT hp z (jZ.2 (.inr hz))
  ·cases h with
   |nil=>cases hz
   |cons y h =>
    rw[np e] at hp;rw[oF e];rcases bP.1 hz with m|m
    ·exact m▸bL
    ·exact ed _ (OT hp z m)
theorem TB:∀ {r:List Op} {h:List It},Ap h r->∀ {y z:It},z∈tk h r->y∈h->ah y z->y∈tk h r
 |[],h,a,y,z,hz,hy,c=>by cases hz
 |o::r,h,a,y,z,hz,hy,c=>by
  rcases iU o with e|e
  ·rw[oB e] at *
   exact TB (a.ins e).1 hz (jZ.2 (.inr hy)) c
  ·cases h with
   |nil=>cases hy
   |cons w h =>
    rw[oF e] at *
    rcases bP.1 hy with m|m
    ·exact m▸bL
    ·rcases bP.1 hz with m'|m'
     ·subst m';exact absurd (Cw a.ord m) (sG c)
     ·exact ed _ (TB (a.del e) m' m c)
def Jc (g:It->Bool) (h:List It):List Op->List It
 |[]=>h
 |o::r=>if pE g h (o::r)=0 then h else Jc g (n6 h o) r
theorem EY {g:It->Bool} {h:List It} {r:List Op} (hz:pE g h r=0):Jc g h r=h:=by
 cases r with
 |nil=>rfl
 |cons o r=>rw[Jc,if_pos hz]
theorem Qz {h:List It} {o:Op} (e:o.ins=ao):n6 h o=gZ o.it h:=by unfold n6;rw[if_pos e]
theorem Lk {h:List It} {o:Op} (e:o.ins=an):n6 h o=h.tail:=by unfold n6;rw[if_neg (by rw[e];decide)]
theorem Eg {g:It->Bool}:∀ {r:List Op} {h:List It},0<gw h r->Jc g h r=[]
 |[],h,hp=>by simp[gw] at hp
 |o::r,h,hp=>by
  rw[Jc,if_neg (by unfold pE;omega)]
  rcases iU o with e|e
  ·rw[Qz e];rw[ov e] at hp;exact Eg hp
  ·rw[Lk e];cases h with
   |nil =>
    rcases mi (gw [] r) with c|c
    ·exact EY (h:=[]) (by unfold pE;rw[c];rfl)
    ·exact Eg (h:=[]) c
   |cons y h =>
    rw[np e] at hp;exact Eg hp
theorem Hy {g:It->Bool}:∀ {r:List Op} {h:List It} {z:It},Ap h r->jb g h r->z∈h->g z=ao->pL z h r=(Jc g h r).head?
 |[],h,z,a,c,hz,hg=>by have:=(c z (.inl hz)).1 hg;cases this
 |o::r,h,z,a,c,hz,hg=>by
  have hp:pE g h (o::r)≠0:=by
   have:0<h.countP g:=Jt.2 ⟨z,hz,hg⟩;unfold pE;omega
  have a':=a.n6;have c':=c.n6 a;rw[Jc,if_neg hp];rcases iU o with e|e
  ·rw[Qz e] at *
   rw[Nm e];exact Hy a' c' (jZ.2 (.inr hz)) hg
  ·rw[Lk e] at *
   cases h with
   |nil=>cases hz
   |cons y h =>
    rw[oV] at *
    by_cases kv:y=z
    ·subst kv;cases h with
     |nil =>
      rw[VT e];rcases mi (gw [] r) with k|k
      ·rw[EY (by unfold pE;rw[k];rfl)];rfl
      ·rw[Eg k];rfl
     |cons w h =>
      rw[U0 e];rcases mi (pE g (w::h) r) with k|k
      ·rw[EY k];have hw:w∉tk (w::h) r:=fun m=>by
        have:=(c' w (.inl bL)).2 m;rw[(Hh k).2 w bL] at this;cases this
       exact wV bL hw
      ·refine Hy a' c' bL ?_;refine(c' w (.inl bL)).2 ?_;rcases OD k with k1|⟨v,k1,k2⟩
       ·exact OT k1 w bL
       ·have k3:=(c' v (.inl k1)).1 k2;rcases bP.1 k1 with m|m
        ·exact m▸k3
        ·exact TB a' k3 bL (Cw a'.ord m)
    ·rw[Nf e kv];have Hv:z∈h:=by
      rcases bP.1 hz with m|m
      ·exact absurd m.symm kv
      ·exact m
     exact Hy a' c' Hv hg
theorem ajx {g:It->Bool} {r:List Op} {y:It} {h:List It} (a:Ap (y::h) r) (c:jb g (y::h) r):pL y (y::h) r=(Jc g (y::h) r).head?:=by
 rcases mi (pE g (y::h) r) with k|k
 ·rw[EY k];refine wV bL fun m=>?_
  have:=(c y (.inl bL)).2 m;rw[(Hh k).2 y bL] at this;cases this
 ·refine Hy a c bL ?_;refine(c y (.inl bL)).2 ?_;rcases OD k with k1|⟨v,k1,k2⟩
  ·exact OT k1 y bL
  ·have k3:=(c v (.inl k1)).1 k2;rcases bP.1 k1 with m|m
   ·exact m▸k3
   ·exact TB a k3 bL (Cw a.ord m)
theorem qd:∀ (a b:List Op) (h:List It),fin h (a++b)=fin (fin h a) b
 |[],b,h=>rfl
 |o::a,b,h=>by show fin (n6 h o) (a++b)=fin (fin (n6 h o) a) b;exact qd a b _
theorem vW:∀ (a b:List Op) (h:List It),tk h (a++b)=tk h a++tk (fin h a) b
 |[],b,h=>rfl
 |o::a,b,h=>by
  rcases iU o with e|e
  ·rw[mw,oB e,oB e,tq e];exact vW a b _
  ·rw[mw,vP e,vP e,nD e,vW a b,rN]
theorem uA:∀ (a b:List Op) (h:List It),gw h (a++b)=gw h a+gw (fin h a) b
 |[],b,h=>by show _=0+_;rw[bV];rfl
 |o::a,b,h=>by
  rcases iU o with e|e
  ·rw[mw,ov e,ov e,tq e];exact uA a b _
  ·rw[mw,zK e,zK e,nD e,uA a b];omega
theorem E':∀ {a b:List Op} {h:List It},Ap h (a++b)->Ap (fin h a) b
 |[],b,h,k=>k
 |o::a,b,h,k=>E' (a:=a) k.n6
theorem GS {g:It->Bool}:∀ {a b:List Op} {h:List It},Ap h (a++b)->jb g h (a++b)->jb g (fin h a) b
 |[],b,h,k,c=>c
 |o::a,b,h,k,c=>GS (a:=a) k.n6 (c.n6 k)
def wts (g:It->Bool):List Op->Int
 |[]=>0
 |o::r=>wt g o+wts g r
theorem afM {g:It->Bool}:∀ {a b:List Op} {h:List It},Ap h (a++b)->jb g h (a++b)->(pE g (fin h a) b:Int)=pE g h (a++b)+wts g a
 |[],b,h,k,c=>by show(pE g h b:Int)=pE g h b+0;omega
 |o::a,b,h,k,c=>by
  have h1:=afM (a:=a) (b:=b) k.n6 (c.n6 k);have h2:=aga (r:=a++b) c k;show(pE g (fin (n6 h o) a) b:Int)=pE g h (o::(a++b))+(wt g o+wts g a)
  omega
theorem Yk {g:It->Bool}:∀ {m b:List Op} {h:List It},Ap h (m++b)->jb g h (m++b)->(∀ a c,m=a++c->a≠[]->0<pE g (fin h a) (c++b))->tp h (m++b)=tp (fin h m) b
 |[],b,h,k,c,hp=>rfl
 |o::m,b,h,k,c,hp=>by
  have h1:tp h (o::(m++b))=tp (n6 h o) (m++b):=af3 c k (hp [o] m rfl (by simp))
  rw[mw,h1];exact Yk (m:=m) k.n6 (c.n6 k) fun a c' e kv=>hp (o::a) c' (by rw[e];rfl) (by simp)
theorem aa5 {g:It->Bool}:∀ {r:List Op} {h:List It},Ap h r->jb g h r->∃ a b,r=a++b/\Jc g h r=fin h a/\pE g (fin h a) b=0/\∀ c d,r=c++d->c.length<a.length->0<pE g (fin h c) d
 |[],h,k,c=>⟨[],[],rfl,rfl,by
   unfold pE;have:h.countP g=0:=Ju.2 fun z hz hg=>by have:=(c z (.inl hz)).1 hg;cases this
   show 0+h.countP g=0
   omega,fun c d e hl=>by simp at hl⟩
 |o::r,h,k,c=>by
  rw[Jc];split
  ·rename_i h0;exact⟨[],o::r,rfl,rfl,h0,fun c d e hl=>by simp at hl⟩
  ·rename_i h0;obtain⟨a,b,e1,e2,e3,e4⟩:=aa5 k.n6 (c.n6 k);refine⟨o::a,b,by rw[e1];rfl,e2,e3,fun c' d e hl=>?_⟩
   cases c' with
   |nil=>rw[pd] at e;subst e;exact Nat.pos_of_ne_zero h0
   |cons o' c' =>
    rw[mw,List.cons.injEq] at e;obtain⟨rfl,e⟩:=e;exact e4 c' d e (by simpa using hl)
end Pa
namespace Gv
open Rx
section
variable {E A:Type} {O:iL E A}
def q9 (O:iL E A) (e:E) (l:List E):Nat:=(ox O e l).length
theorem ahv (e:E):q9 O e []=0:=rfl
theorem Pq {e y:E} {l:List E} (h:0<O.cmp e y):q9 O e (y::l)=q9 O e l+1:=by
 unfold q9;rw[(xP h).1];rfl
theorem LA {e y:E} {l:List E} (h:¬ 0<O.cmp e y):q9 O e (y::l)=0:=by
 unfold q9;rw[(MX h).1];rfl
theorem akS (e:E) (l:List E):q9 O e l≤l.length:=by
 have:=congrArg ae (GZ (O:=O) e l);rw[bA] at this;unfold q9;omega
theorem Vb {e:E}:∀ {l:List E} {j:Nat},j<q9 O e l->0<O.cmp e (l.getD j O.e0)
 |[],j,h=>by rw[ahv] at h;omega
 |y::l,j,h=>by
  by_cases c:0<O.cmp e y
  ·rw[Pq c] at h;cases j with
   |zero=>simpa using c
   |succ j=>rw[wv];exact Vb (by omega)
  ·rw[LA c] at h;omega
theorem VK {e:E}:∀ {l:List E},q9 O e l<l.length->¬ 0<O.cmp e (l.getD (q9 O e l) O.e0)
 |[],h=>by simp at h
 |y::l,h=>by
  by_cases c:0<O.cmp e y
  ·rw[Pq c] at h ⊢;rw[wv];exact VK (by simpa using h)
  ·rw[LA c];simpa using c
theorem OJ (e:E) (l:List E):ox O e l=l.take (q9 O e l):=by
 have h:=Gk (l₁:=ox O e l) (l₂:=sf O e l) rfl;rw[GZ] at h;exact h.symm
theorem Pj (e:E) (l:List E):sf O e l=l.drop (q9 O e l):=by
 have h:=Gl (l₁:=ox O e l) (l₂:=sf O e l) rfl;rw[GZ] at h;exact h.symm
theorem T7 (e:E) (l:List E):(jw O e l).isSome=(decide (q9 O e l<l.length)&&decide (O.cmp e (l.getD (q9 O e l) O.e0)=0)):=by
 unfold jw;rw[Pj]
 by_cases h:q9 O e l<l.length
 ·rw[oY h,av,bd h,decide_eq_true h];simp only[lI,je];split
  ·rename_i c;rw[decide_eq_true c];rfl
  ·rename_i c;rw[decide_eq_false c];rfl
 ·rw[List.drop_eq_nil_of_le (by omega),decide_eq_false h];rfl
theorem V_ (e:E) (l:List E):lu O e l=l.take (q9 O e l)++e::l.drop (if(jw O e l).isSome then q9 O e l+1 else q9 O e l):=by
 unfold lu;rw[OJ,Pj];cases h:jw O e l with
 |none=>rfl
 |some x=>simp[HL]
variable {S:List E->A} {dk:List E->Prop} (Z:yZ O S dk)
include Z
theorem Vq {e:E} {l:List E} {i:Nat} (hs:uf O l) (hi:i<l.length) (he:O.cmp e (l.getD i O.e0)=0):q9 O e l=i:=by
 have gi:l.getD i O.e0=l[i]:=by rw[av,bd hi];rfl
 rcases nW (q9 O e l) i with h|h|h
 ·have h1:=VK (O:=O) (e:=e) (l:=l) (by omega)
  have g:l.getD (q9 O e l) O.e0=l[q9 O e l]'(by omega):=by rw[av,bd (by omega)];rfl
  rw[gi] at he;have h2:=(DJ.1 hs) (q9 O e l) i (by omega) hi h
  have h3:=Z.Zt _ _ _ he h2;rw[g] at h1;exact absurd ((Z.swap _ _).1 h3) h1
 ·exact h
 ·have:=Vb (O:=O) (e:=e) (l:=l) h;omega
theorem ag9 {e:E} {l:List E} {i:Nat} (hs:uf O l) (hi:i<l.length) (he:O.cmp e (l.getD i O.e0)=0):ir O e l=(l.getD i O.e0,ao):=by
 have hr:=Vq Z hs hi he;have gi:l.getD i O.e0=l[i]:=by rw[av,bd hi];rfl
 have hh:jw O e l=aa (l.getD i O.e0):=by
  unfold jw;rw[Pj,hr,oY hi];simp only;rw[gi] at he ⊢;rw[if_pos he]
 unfold ir;rw[hh];rfl
end
end Gv
namespace Gv
open Rx
set_option linter.unusedSectionVars false
section
variable {E A:Type} {O:iL E A} {S:List E->A} {dk:List E->Prop} (Z:yZ O S dk)
structure AS (O:iL E A) (S:List E->A) (may:A->A->Bool) (P:Nat->Bool) (L:List E):Prop extends Asks O S may P L where
 ex:∀ p l q,p++(l++q)=L->l≠[]->may (S p) (S l)=ao->∃ i,p.length≤i/\i<p.length+l.length/\P i=ao
def FQ (h a b:Nat) (f r:Int) (kk:Nat):Prop:=kk≤4*h/\(f≤a->kk≤2*h)/\(r<0->kk≤2*h)/\(f≤a->r<0->kk=0)/\((b:Int)≤f->kk=0)
def Gg (h a b:Nat) (u r:Int) (kk:Nat):Prop:=kk≤4*h/\((b:Int)≤u->kk≤2*h)/\(r<0->kk≤2*h)/\((b:Int)≤u->r<0->kk=0)/\(u≤a->kk=0)
theorem ZQ {hl hq a ll b:Nat} {f r:Int} {kk:Nat} (x:FQ hl a (a+ll) f r kk) (h3:0≤r) (hc:¬ ((b:Nat):Int)≤f):FQ (1+max hl hq) a b f r (1+kk):=by
 obtain⟨x1,x2,x3,x4,x5⟩:=x;exact⟨by omega,fun w=>by have:=x2 w;omega,fun w=>by omega,fun w w'=>by omega,fun w=>absurd w hc⟩
theorem aaO {hl hq a ll b:Nat} {f r rl:Int} {kk:Nat} (x:FQ hl a (a+ll) f rl kk) (h3:rl<0) (h0:0≤r) (hc:¬ ((b:Nat):Int)≤f):FQ (1+max hl hq) a b f r (1+kk):=by
 obtain⟨x1,x2,x3,x4,x5⟩:=x;have z3:=x3 h3;exact⟨by omega,fun w=>by have:=x2 w;omega,fun w=>by omega,fun w w'=>by omega,fun w=>absurd w hc⟩
theorem WW {hl hq a ll lq am:Nat} {f rl rq:Int} {kk PR:Nat} (x:FQ hl a (a+ll) f rl kk) (y:FQ hq am (am+lq) f rq PR) (hm:am=a+ll+1) (h3:rl<0) (h0:f≤a->¬ rq<0) (hc:¬ ((a+(ll+(lq+1)):Nat):Int)≤f) :
  FQ (1+max hl hq) a (a+(ll+(lq+1))) f rq (1+kk+1+PR):=by
 subst hm;obtain⟨x1,x2,x3,x4,x5⟩:=x;obtain⟨y1,y2,y3,y4,y5⟩:=y;have z3:=x3 h3;refine⟨?_,fun w=>?_,fun w=>?_,fun w w'=>absurd w' (h0 w),fun w=>absurd w hc⟩
 ·by_cases w2:f≤((a+ll+1:Nat):Int)
  ·have:=y2 w2;omega
  ·have:=x5 (by omega);omega
 ·have:=y2 (by omega);have:=x4 w h3;omega
 ·have:=y3 w
  by_cases w2:f≤((a+ll+1:Nat):Int)
  ·have:=y4 w2 w;omega
  ·have:=x5 (by omega);omega
theorem WM {hl hq a ll lq b am:Nat} {u r:Int} {kk:Nat} (x:Gg hq am (am+lq) u r kk) (hm:am=a+ll+1) (h3:0≤r) (hb:b=a+(ll+(lq+1))) (hc:¬ u≤((a:Nat):Int)):Gg (1+max hl hq) a b u r (2+kk):=by
 subst hm;obtain⟨x1,x2,x3,x4,x5⟩:=x;exact⟨by omega,fun w=>by have:=x2 (by omega);omega,fun w=>by omega,fun w w'=>by omega,fun w=>absurd w hc⟩
theorem ab_ {hl hq a ll lq b am:Nat} {u r rl:Int} {kk:Nat} (x:Gg hq am (am+lq) u rl kk) (hm:am=a+ll+1) (h3:rl<0) (h0:0≤r) (hb:b=a+(ll+(lq+1))) (hc:¬ u≤((a:Nat):Int)):Gg (1+max hl hq) a b u r (2+kk):=by
 subst hm;obtain⟨x1,x2,x3,x4,x5⟩:=x;have z3:=x3 h3;exact⟨by omega,fun w=>by have:=x2 (by omega);omega,fun w=>by omega,fun w w'=>by omega,fun w=>absurd w hc⟩
theorem YV {hl hq a ll lq am:Nat} {u rl rq:Int} {kk PR:Nat} (x:Gg hq am (am+lq) u rq kk) (hm:am=a+ll+1) (y:Gg hl a (a+ll) u rl PR) (h3:rq<0) (h0:((a+(ll+(lq+1)):Nat):Int)≤u->¬ rl<0) (hc:¬ u≤((a:Nat):Int)) :
  Gg (1+max hl hq) a (a+(ll+(lq+1))) u rl (2+kk+PR):=by
 subst hm;obtain⟨x1,x2,x3,x4,x5⟩:=x;obtain⟨y1,y2,y3,y4,y5⟩:=y;have z3:=x3 h3;refine⟨?_,fun w=>?_,fun w=>?_,fun w w'=>absurd w' (h0 w),fun w=>absurd w hc⟩
 ·by_cases w2:((a+ll:Nat):Int)≤u
  ·have:=y2 w2;omega
  ·have:=x5 (by omega);omega
 ·have:=y2 (by omega);have:=x4 (by omega) h3;omega
 ·have:=y3 w
  by_cases w2:((a+ll:Nat):Int)≤u
  ·have:=y4 w2 w;omega
  ·have:=x5 (by omega);omega
include Z
theorem Ik {n:Nat} {may:A->A->Bool} {P:Nat->Bool} {L:List E} {f:Int} (hA:AS O S may P L) (hg:dk L):∀ (t:Tr E) {k:Nat} {m:Po E A} {p s:List E},fX n m->Rp O S m t->p++(t.elems++s)=L->t.h<k ->
  ∃ kk,FQ t.h p.length (p.length+t.elems.length) f (first O may k m (nd O S t) ⟨p.length,S p⟩ f).1 kk/\iI [] kk (zn O) m (first O may k m (nd O S t) ⟨p.length,S p⟩ f).2
 |t,0,m,p,s,_,_,_,hk=>by omega
 |.nil,k+1,m,p,s,ho,hr,hL,hk=>by
  rw[first,if_pos (.inl (by rw[rn];rfl))]
  exact⟨0,⟨du _,fun _=>du _,fun _=>du _,fun _ _=>rfl,fun _=>rfl⟩,iI.refl _ _ _ _⟩
 |.node r l x q,k+1,m,p,s,ho,⟨s_,mW,lZ,mf⟩,hL,hk=>by
  have whole:=(HV Z (f:=f) hA.toAsks hg (.node r l x q) (k:=k+1) (m:=m) (p:=p) (s:=s) ho ⟨s_,mW,lZ,mf⟩ hL hk).1;simp only[Tr.h] at hk;have hlen:=Z.len _ hg;have pX:=rJ (O:=O) (S:=S) Z.nil (.node r l x q);rw[← Tr.e8] at pX;have kl:lk O m l.root=nd O S l:=lZ.root ho;have kq:lk O m q.root=nd O S q:=mf.root ho;have e1:(nd O S (Tr.node r l x q)).l=l.root:=rfl;have e2:(nd O S (Tr.node r l x q)).r=q.root:=rfl;have e3:(nd O S (Tr.node r l x q)).e=x:=rfl;have e5:¬ (nd O S (Tr.node r l x q)).h=0:=by rw[rn];simp only[Tr.h];omega
  have RY:=congrArg ae hL;rw[Tr.gE] at hL;have Va:p++(l.elems++(x::q.elems++s))=L:=by simpa using hL
  have Ou:(p++l.elems)++x::(q.elems++s)=L:=by simpa using hL
  have Kr:(p++l.elems++[x])++(q.elems++s)=L:=by simpa using hL
  have hex:=hA.ex p (Tr.node r l x q).elems s (by rw[Tr.gE];exact hL) (by rw[Tr.gE];simp)
  have F7:(Tr.node r l x q).elems.length=l.elems.length+(q.elems.length+1):=by rw[Tr.gE];simp
  have Vn:l.h<k:=by omega
  have hkq:q.h<k:=by omega
  have hhh:(Tr.node r l x q).h=1+max l.h q.h:=rfl;rw[first,e1,e2,e3,pX] at whole ⊢
  simp only[kl,kZ,ik,kq,rJ Z.nil,← Tr.e8] at whole ⊢;simp only[bA] at RY;have w1:W ((p.length:Int)+((Tr.node r l x q).elems.length:Int))=(p.length:Int)+(Tr.node r l x q).elems.length:=uD (by omega)
  rw[w1] at whole ⊢
  by_cases c1:(nd O S (Tr.node r l x q)).h=0∨(p.length:Int)+(Tr.node r l x q).elems.length≤f
  ·rw[if_pos c1];exact⟨0,⟨du _,fun _=>du _,fun _=>du _,fun _ _=>rfl,fun _=>rfl⟩,iI.refl _ _ _ _⟩
  ·rw[if_neg c1] at whole ⊢;have hc:¬ ((p.length+(Tr.node r l x q).elems.length:Nat):Int)≤f:=fun h=>c1 (.inr (by omega))
   by_cases c2:(p.length:Int)≥f/\may (S p) (S (Tr.node r l x q).elems)=an
   ·rw[if_pos c2];exact⟨0,⟨du _,fun _=>du _,fun _=>du _,fun _ _=>rfl,fun _=>rfl⟩,iI.refl _ _ _ _⟩
   ·rw[if_neg c2] at whole ⊢;have Rc:f≤p.length->∃ i:Nat,p.length≤i/\i<p.length+(Tr.node r l x q).elems.length/\P i=ao:=fun hf=>by
     cases hm:may (S p) (S (Tr.node r l x q).elems) with
     |false=>exact absurd ⟨hf,hm⟩ c2
     |true=>exact hex hm
    obtain⟨kk,x0,i2⟩:=Ik hA hg l (k:=k) (m:=aF m l.root) (p:=p) (s:=x::q.elems++s) (dg.2 ho) (lZ.aF _) Va Vn;have hu:=(gC (zn O) m l.root).to i2 (S:=[]) (fun s hs=>by simp at hs) (a_ _)
    rw[hhh]
    by_cases c3:(first O may k (aF m l.root) (nd O S l) ⟨p.length,S p⟩ f).1≥0
    ·rw[if_pos c3];exact⟨_,ZQ x0 c3 hc,hu⟩
    ·rw[if_neg c3] at whole ⊢;have Jx:dk (p++l.elems):=Z.left _ (x::(q.elems++s)) (by rw[Ou];exact hg)
     have UB:dk ((p++l.elems)++[x]):=Z.left _ (q.elems++s) (by rw[Kr];exact hg)
     rw[pC Z Jx,Bs Z,pC Z UB] at whole ⊢
     by_cases c4:((p++l.elems).length:Int)≥f/\may (S (p++l.elems)) (O.sum x)=ao
     ·rw[if_pos c4];exact⟨_,aaO x0 (IY.mp c3) (xm _) hc,hu⟩
     ·rw[if_neg c4] at whole ⊢;obtain⟨PR,y0,j2⟩:=Ik hA hg q (k:=k) (m:=aF (first O may k (aF m l.root) (nd O S l) ⟨p.length,S p⟩ f).2 q.root) (p:=p++l.elems++[x]) (s:=s) (dg.2 (MU.2 (dg.2 ho)))
       ((Rp.frame hu (fun s _ hs=>by cases hs) mf).aF _) Kr hkq
      refine⟨_,?_,(hu.to (gC _ _ q.root) (S:=[]) (fun s hs=>by simp at hs) (a_ _)).to j2 (fun s hs=>by simp at hs) (a_ _)⟩
      have AI:(p++l.elems++[x]).length=p.length+l.elems.length+1:=by simp;omega
      rw[F7] at hc ⊢;refine WW x0 y0 AI (IY.mp c3) (fun hf hr=>?_) hc
      obtain⟨i,g1,g2,g3⟩:=Rc hf;clear Rc hex;rcases whole with⟨h1,h2⟩|⟨j,h1,_⟩
      ·rw[h2 i g1 g2 (by omega)] at g3;cases g3
      ·rw[h1] at hr;exact absurd hr (IU.mpr (xm j))
theorem KC {n:Nat} {may:A->A->Bool} {P:Nat->Bool} {L:List E} {u:Int} (hA:AS O S may P L) (hg:dk L):∀ (t:Tr E) {k:Nat} {m:Po E A} {p s:List E},fX n m->Rp O S m t->p++(t.elems++s)=L->t.h<k ->
  ∃ kk,Gg t.h p.length (p.length+t.elems.length) u (last O may k m (nd O S t) ⟨p.length,S p⟩ u).1 kk/\iI [] kk (zn O) m (last O may k m (nd O S t) ⟨p.length,S p⟩ u).2
 |t,0,m,p,s,_,_,_,hk=>by omega
 |.nil,k+1,m,p,s,ho,hr,hL,hk=>by
  rw[last,if_pos (.inl (by rw[rn];rfl))]
  exact⟨0,⟨du _,fun _=>du _,fun _=>du _,fun _ _=>rfl,fun _=>rfl⟩,iI.refl _ _ _ _⟩
 |.node r l x q,k+1,m,p,s,ho,⟨s_,mW,lZ,mf⟩,hL,hk=>by
  have whole:=(Lu Z (u:=u) hA.toAsks hg (.node r l x q) (k:=k+1) (m:=m) (p:=p) (s:=s) ho ⟨s_,mW,lZ,mf⟩ hL hk).1;simp only[Tr.h] at hk;have hlen:=Z.len _ hg;have pX:=rJ (O:=O) (S:=S) Z.nil (.node r l x q);rw[← Tr.e8] at pX;have kl:lk O m l.root=nd O S l:=lZ.root ho;have kq:lk O m q.root=nd O S q:=mf.root ho;have e1:(nd O S (Tr.node r l x q)).l=l.root:=rfl;have e2:(nd O S (Tr.node r l x q)).r=q.root:=rfl;have e3:(nd O S (Tr.node r l x q)).e=x:=rfl;have e5:¬ (nd O S (Tr.node r l x q)).h=0:=by rw[rn];simp only[Tr.h];omega
  have RY:=congrArg ae hL;rw[Tr.gE] at hL;have Va:p++(l.elems++(x::q.elems++s))=L:=by simpa using hL
  have Ou:(p++l.elems)++x::(q.elems++s)=L:=by simpa using hL
  have Kr:(p++l.elems++[x])++(q.elems++s)=L:=by simpa using hL
  have hex:=hA.ex p (Tr.node r l x q).elems s (by rw[Tr.gE];exact hL) (by rw[Tr.gE];simp)
  have F7:(Tr.node r l x q).elems.length=l.elems.length+(q.elems.length+1):=by rw[Tr.gE];simp
  have Vn:l.h<k:=by omega
  have hkq:q.h<k:=by omega
  have hhh:(Tr.node r l x q).h=1+max l.h q.h:=rfl;rw[last,e1,e2,e3,pX] at whole ⊢;simp only[kl,mj,ik,kq,rJ Z.nil,← Tr.e8] at whole ⊢;simp only[bA] at RY;have w1:W ((p.length:Int)+((Tr.node r l x q).elems.length:Int))=(p.length:Int)+(Tr.node r l x q).elems.length:=uD (by omega)
  rw[w1] at whole ⊢
  by_cases c1:(nd O S (Tr.node r l x q)).h=0∨(p.length:Int)≥u
  ·rw[if_pos c1];exact⟨0,⟨du _,fun _=>du _,fun _=>du _,fun _ _=>rfl,fun _=>rfl⟩,iI.refl _ _ _ _⟩
  ·rw[if_neg c1] at whole ⊢;have hc:¬ u≤((p.length:Nat):Int):=fun h=>c1 (.inr h)
   by_cases c2:(p.length:Int)+(Tr.node r l x q).elems.length≤u/\may (S p) (S (Tr.node r l x q).elems)=an
   ·rw[if_pos c2];exact⟨0,⟨du _,fun _=>du _,fun _=>du _,fun _ _=>rfl,fun _=>rfl⟩,iI.refl _ _ _ _⟩
   ·rw[if_neg c2] at whole ⊢;have Rc:((p.length+(Tr.node r l x q).elems.length:Nat):Int)≤u->∃ i:Nat,p.length≤i/\i<p.length+(Tr.node r l x q).elems.length/\P i=ao:=fun hf=>by
     cases hm:may (S p) (S (Tr.node r l x q).elems) with
     |false=>exact absurd ⟨by omega,hm⟩ c2
     |true=>exact hex hm
    have Jx:dk (p++l.elems):=Z.left _ (x::(q.elems++s)) (by rw[Ou];exact hg)
    have UB:dk ((p++l.elems)++[x]):=Z.left _ (q.elems++s) (by rw[Kr];exact hg)
    rw[pC Z Jx,Bs Z,pC Z UB] at whole ⊢;obtain⟨kk,x0,i2⟩:=KC hA hg q (k:=k) (m:=aF (aF m l.root) q.root) (p:=p++l.elems++[x]) (s:=s) (dg.2 (dg.2 ho)) ((mf.aF _).aF _) Kr hkq;have hu:=(tO (O:=O) m l.root q.root).to i2 (S:=[]) (fun s hs=>by simp at hs) (a_ _)
    have AI:(p++l.elems++[x]).length=p.length+l.elems.length+1:=by simp;omega
    rw[hhh]
    by_cases c3:(last O may k (aF (aF m l.root) q.root) (nd O S q) ⟨(p++l.elems++[x]).length,S (p++l.elems++[x])⟩ u).1≥0
    ·rw[if_pos c3];exact⟨_,WM x0 AI c3 (by rw[F7]) hc,hu⟩
    ·rw[if_neg c3] at whole ⊢
     by_cases c4:((p++l.elems).length:Int)<u/\may (S (p++l.elems)) (O.sum x)=ao
     ·rw[if_pos c4];exact⟨_,ab_ x0 AI (IY.mp c3) (xm _) (by rw[F7]) hc,hu⟩
     ·rw[if_neg c4] at whole ⊢;obtain⟨PR,y0,j2⟩:=KC hA hg l (k:=k) (m:=(last O may k (aF (aF m l.root) q.root) (nd O S q) ⟨(p++l.elems++[x]).length,S (p++l.elems++[x])⟩ u).2) (p:=p) (s:=x::q.elems++s) (QM.2 (dg.2 (dg.2 ho)))
       (Rp.frame hu (fun s _ hs=>by cases hs) lZ) Va Vn
      refine⟨_,?_,hu.to j2 (S:=[]) (fun s hs=>by simp at hs) (a_ _)⟩
      rw[F7] at Rc whole ⊢;refine YV x0 AI y0 (IY.mp c3) (fun hf hr=>?_) hc
      obtain⟨i,g1,g2,g3⟩:=Rc hf;clear Rc hex;rcases whole with⟨h1,h2⟩|⟨j,h1,_⟩
      ·rw[h2 i g1 g2 (by omega)] at g3;cases g3
      ·rw[h1] at hr;exact absurd hr (IU.mpr (xm j))
theorem abe {n K:Nat} {f:Int} {may:A->A->Bool} {P:Nat->Bool} {m:Po E A} {a b:Tr E} (h:St O S dk n m a b) (hA:AS O S may P a.elems) (hk:a.h<K) :
  m9 (4*a.h+1) m (first O may K (aF m a.root) (lk O m a.root) ⟨0,O.a0⟩ f).2:=by
 have h2:=h.aF a.root;obtain⟨kk,r1,r2⟩:=Ik Z (f:=f) hA h.ga a (k:=K) (p:=[]) (s:=[]) h2.ok h2.ra (by simp) hk
 have e0:(([]:List E).length:Int)=0:=rfl;rw[e0,Z.nil] at r2;rw[h.lk];exact(h.up (r:=a.root) r2).qR.mono (by have:=r1.1;omega)
theorem aem {n K:Nat} {f:Int} {may:A->A->Bool} {P:Nat->Bool} {m:Po E A} {a b:Tr E} (h:St O S dk n m a b) (hA:AS O S may P a.elems) (hk:a.h<K) :
  m9 (4*a.h+1) m (last O may K (aF m a.root) (lk O m a.root) ⟨0,O.a0⟩ f).2:=by
 have h2:=h.aF a.root;obtain⟨kk,r1,r2⟩:=KC Z (u:=f) hA h.ga a (k:=K) (p:=[]) (s:=[]) h2.ok h2.ra (by simp) hk
 have e0:(([]:List E).length:Int)=0:=rfl;rw[e0,Z.nil] at r2;rw[h.lk];exact(h.up (r:=a.root) r2).qR.mono (by have:=r1.1;omega)
end
theorem TS.RI {E A:Type} {k:Kd E A} {may:A->A->Bool} {P:Nat->Bool} {s:TS k} {f:Int} (h:AS k.O k.S may P s.l):m9 (4*ns s.l.length+1) s.m (s.first may f).m:=by
 obtain⟨a,b,h1,h2,h3,h4,h5,h6⟩:=s.ok;have hk:=s.k1;show m9 _ s.m (kI k.O may KK (aF s.m s.r) (lk k.O s.m s.r) ⟨0,k.O.a0⟩ f).2
 rw[← h4] at h hk;rw[← h4,← h1];have hb:=a.DC h3.ba;rw[← Tr.e8] at hb;exact(abe k.Z h3 h (iW (si a) hk)).mono (by omega)
theorem TS.U1 {E A:Type} {k:Kd E A} {may:A->A->Bool} {P:Nat->Bool} {s:TS k} {f:Int} (h:AS k.O k.S may P s.l):m9 (4*ns s.l.length+1) s.m (s.last may f).m:=by
 obtain⟨a,b,h1,h2,h3,h4,h5,h6⟩:=s.ok;have hk:=s.k1;show m9 _ s.m (j3 k.O may KK (aF s.m s.r) (lk k.O s.m s.r) ⟨0,k.O.a0⟩ f).2
 rw[← h4] at h hk;rw[← h4,← h1];have hb:=a.DC h3.ba;rw[← Tr.e8] at hb;exact(aem k.Z h3 h (iW (si a) hk)).mono (by omega)
end Gv
namespace Br
open Rx Wv
def kF (n:Nat) (p:Int):Nat:=min p.toNat n
theorem Vk (n:Nat) (p:Int):kF n p≤n:=Nat.min_le_right _ _
theorem zl {n i:Nat} (h:i≤n):kF n (i:Int)=i:=by unfold kF;omega
def v7 (l:List Mk) (base:Int) (i:Nat):Int:=base+z9 (l.map uF) i
theorem Ee (l:List Mk) (base:Int):v7 l base 0=base:=by simp[v7,z9]
def nxt (l:List Mk) (base:Int):Nat->Nat->Int
 |_,0=>-1
 |i,j+1=>if v7 l base i≤0 then i else nxt l base (i+1) j
def prv (l:List Mk) (base:Int):Nat->Int
 |0=>if v7 l base 0≤0 then 0 else -1
 |i+1=>if v7 l base (i+1)≤0 then((i+1:Nat):Int) else prv l base i
def O3 (l:List Mk) (p base:Int):Int:=nxt l base (kF l.length p) (l.length+1-kF l.length p)
def E7 (l:List Mk) (p base:Int):Int:=prv l base (kF l.length p)
def Yr (l:List Mk) (base:Int) (a b:Nat) (r:Int):Prop:=(r = -1/\∀ i,a≤i->i≤b->¬ v7 l base i≤0)∨∃ j:Nat,r=j/\a≤j/\j≤b/\v7 l base j≤0/\∀ i,a≤i->i<j->¬ v7 l base i≤0
def IsP (l:List Mk) (base:Int) (b:Nat) (r:Int):Prop:=(r = -1/\∀ i,i≤b->¬ v7 l base i≤0)∨∃ j:Nat,r=j/\j≤b/\v7 l base j≤0/\∀ i,j<i->i≤b->¬ v7 l base i≤0
theorem Pu {l:List Mk} {base:Int} {a b:Nat} {r r':Int} (h:Yr l base a b r) (h':Yr l base a b r'):r=r':=by
 rcases h with⟨rfl,h⟩|⟨j,rfl,h1,h2,h3,h4⟩<;>rcases h' with⟨rfl,h'⟩|⟨j',rfl,R_,h2',wS,Jw⟩
 ·rfl
 ·exact absurd wS (h j' R_ h2')
 ·exact absurd h3 (h' j h1 h2)
 ·rcases nW j j' with c|c|c
  ·exact absurd h3 (Jw j h1 c)
  ·rw[c]
  ·exact absurd wS (h4 j' R_ c)
theorem Vw {l:List Mk} {base:Int} {b:Nat} {r r':Int} (h:IsP l base b r) (h':IsP l base b r'):r=r':=by
 rcases h with⟨rfl,h⟩|⟨j,rfl,h1,h3,h4⟩<;>rcases h' with⟨rfl,h'⟩|⟨j',rfl,R_,wS,Jw⟩
 ·rfl
 ·exact absurd wS (h j' R_)
 ·exact absurd h3 (h' j h1)
 ·rcases nW j j' with c|c|c
  ·exact absurd wS (h4 j' c R_)
  ·rw[c]
  ·exact absurd h3 (Jw j c h1)
theorem abv (l:List Mk) (base:Int):∀ (j i:Nat),Yr l base i (i+j) (nxt l base i (j+1))
 |0,i=>by
  rw[nxt];split
  ·exact .inr ⟨i,rfl,a_ _,by omega,by assumption,fun k h1 h2=>by omega⟩
  ·refine .inl ⟨rfl,fun k h1 h2=>?_⟩
   obtain rfl:k=i:=by omega
   assumption
 |j+1,i=>by
  rw[nxt];split
  ·exact .inr ⟨i,rfl,a_ _,by omega,by assumption,fun k h1 h2=>by omega⟩
  ·rename_i h0;rcases abv l base j (i+1) with⟨h1,h2⟩|⟨k,h1,h2,h3,h4,h5⟩
   ·refine .inl ⟨h1,fun k g1 g2=>?_⟩
    rcases cr i k with c|c
    ·exact h2 k c (by omega)
    ·obtain rfl:k=i:=by omega
     exact h0
   ·refine .inr ⟨k,h1,by omega,by omega,h4,fun m g1 g2=>?_⟩
    rcases cr i m with c|c
    ·exact h5 m c g2
    ·obtain rfl:m=i:=by omega
     exact h0
theorem ab7 (l:List Mk) (base:Int):∀ b,IsP l base b (prv l base b)
 |0=>by
  rw[prv];split
  ·exact .inr ⟨0,rfl,a_ _,by assumption,fun k h1 h2=>by omega⟩
  ·refine .inl ⟨rfl,fun k h1=>?_⟩
   obtain rfl:k=0:=by omega
   assumption
 |b+1=>by
  rw[prv];split
  ·exact .inr ⟨b+1,rfl,a_ _,by assumption,fun k h1 h2=>by omega⟩
  ·rename_i h0;rcases ab7 l base b with⟨h1,h2⟩|⟨k,h1,h2,h3,h4⟩
   ·refine .inl ⟨h1,fun k g1=>?_⟩
    rcases cr b k with c|c
    ·obtain rfl:k=b+1:=by omega
     exact h0
    ·exact h2 k c
   ·refine .inr ⟨k,h1,by omega,h3,fun m g1 g2=>?_⟩
    rcases cr b m with c|c
    ·obtain rfl:m=b+1:=by omega
     exact h0
    ·exact h4 m g1 c
theorem abi (l:List Mk) (p base:Int):Yr l base (kF l.length p) l.length (O3 l p base):=by
 have h:=abv l base (l.length-kF l.length p) (kF l.length p);have hc:=Vk l.length p;rw[show kF l.length p+(l.length-kF l.length p)=l.length by omega,show l.length-kF l.length p+1=l.length+1-kF l.length p by omega] at h
 exact h
theorem O' (l:List Mk) (p base:Int):IsP l base (kF l.length p) (E7 l p base):=ab7 _ _ _
def uK (l:List Mk) (p:Int):Option It:=hi (lY an (l.drop (kF l.length p)))
def p_ (l:List Mk) (p:Int):Option It:=lo (lY ao (l.take (kF l.length p)))
theorem ace {x:List Int} {c:Int}:∀ {k:Nat},0<k->(IZ x k≤c↔∃ j,j<k/\z9 x (j+1)≤c)
 |0,h=>by omega
 |1,_=>by
  refine⟨fun h=>⟨0,by omega,h⟩,fun⟨j,h1,h2⟩=>?_⟩
  obtain rfl:j=0:=by omega
  exact h2
 |k+2,_=>by
  have ih:=ace (x:=x) (c:=c) (k:=k+1) (by omega)
  show min (IZ x (k+1)) (z9 x (k+2))≤c↔_
  constructor
  ·intro h
   by_cases c1:IZ x (k+1)≤c
   ·obtain⟨j,h1,h2⟩:=ih.1 c1;exact⟨j,by omega,h2⟩
   ·refine⟨k+1,by omega,?_⟩
    rw[show k+1+1=k+2 from rfl];omega
  ·rintro ⟨j,h1,h2⟩
   by_cases c1:j<k+1
   ·have:=ih.2 ⟨j,c1,h2⟩;omega
   ·obtain rfl:j=k+1:=by omega
    rw[show k+1+1=k+2 from rfl] at h2
    omega
theorem acv {p l q:List Mk} {base:Int} {j:Nat} (h:j≤l.length):v7 (p++(l++q)) base (p.length+j)=v7 (p++(l++q)) base p.length+z9 (l.map uF) j:=by
 unfold v7;rw[dG,show p.length=(p.map uF).length by simp,RF,show(p.map uF).length=(p.map uF).length+0 by rfl,RF,dG,Wq (y:=l.map uF) (by simpa using h)]
 simp only[Nat.add_zero];have:z9 (l.map uF++q.map uF) 0=0:=by simp[z9]
 omega
theorem af8 {p q:List Mk} {base:Int}:v7 (p++q) base p.length=base+(S8 p).w.s:=by
 show base+_=base+z9 (p.map uF) (p.map uF).length
 rw[dG,Wq (by simp),fR]
theorem aet {L:List Mk} {base:Int} {may:Sw->Sw->Bool} (h:∀ p l q,p++(l++q)=L->l≠[]->(may (S8 p) (S8 l)=ao↔base+(S8 p).w.s+(S8 l).w.l≤0)) :
  Gv.AS O8 S8 may (fun i=>decide (v7 L base (i+1)≤0)) L:=by
 have key:∀ p l q,p++(l++q)=L->l≠[]->(may (S8 p) (S8 l)=ao↔∃ j,j<l.length/\v7 L base (p.length+j+1)≤0):=fun p l q hL hl=>by
  rw[h p l q hL hl];have hp:=af8 (p:=p) (q:=l++q) (base:=base);have e:(S8 l).w.l=IZ (l.map uF) l.length:=by show IZ _ (l.map uF).length=_;rw[fR]
  have ah9:=ace (x:=l.map uF) (c:=-(base+(S8 p).w.s)) (k:=l.length) (Jv.2 hl);rw[← e] at ah9;have e1:base+(S8 p).w.s+(S8 l).w.l≤0↔(S8 l).w.l ≤ -(base+(S8 p).w.s):=by omega
  rw[e1,ah9]
  constructor
  ·rintro ⟨j,h1,h2⟩
   refine⟨j,h1,?_⟩;rw[← hL,show p.length+j+1=p.length+(j+1) by omega,acv (by omega),hp]
   omega
  ·rintro ⟨j,h1,h2⟩
   refine⟨j,h1,?_⟩;rw[← hL,show p.length+j+1=p.length+(j+1) by omega,acv (by omega),hp] at h2
   omega
 refine⟨⟨fun p x q hL=>?_,fun p l q hL i h1 h2 h3=>?_⟩,fun p l q hL hl hm=>?_⟩
 ·have k:=key p [x] q (by simpa using hL) (by simp)
  rw[show O8.sum x=S8 [x] from(Ux x).symm,Qf,k,decide_eq_true_eq]
  constructor
  ·intro h;exact⟨0,by simp,h⟩
  ·rintro ⟨j,h1,h2⟩
   obtain rfl:j=0:=by simpa using h1
   exact h2
 ·have hl:l≠[]:=fun h=>by rw[h] at h2;simp at h2;omega
  rw[key p l q hL hl];exact⟨i-p.length,by omega,by rw[show p.length+(i-p.length)+1=i+1 by omega];exact of_decide_eq_true h3⟩
 ·obtain⟨j,h1,h2⟩:=(key p l q hL hl).1 hm;exact⟨p.length+j,by omega,by omega,decide_eq_true h2⟩
theorem ZB {L:List Mk} {base:Int} {a:Nat} {r:Int} (ha:a≤L.length) (h0:a=0->¬ base≤0) (h:Gv.BS (fun i=>decide (v7 L base (i+1)≤0)) 0 L.length ((a:Int)-1) r):Yr L base a L.length (if r<0 then -1 else r+1):=by
 rcases h with⟨h1,h2⟩|⟨j,h1,h2,h3,h4,h5,h6⟩
 ·rw[if_pos (by omega)]
  refine .inl ⟨rfl,fun i g1 g2=>?_⟩
  rcases mi i with c|c
  ·rw[c,Ee];exact h0 (by omega)
  ·have:=of_decide_eq_false (h2 (i-1) (by omega) (by omega) (by omega))
   rwa [show i-1+1=i by omega] at this
 ·rw[if_neg (by omega)]
  refine .inr ⟨j+1,by omega,by omega,by omega,of_decide_eq_true h5,fun i g1 g2=>?_⟩
  rcases mi i with c|c
  ·rw[c,Ee];exact h0 (by omega)
  ·have:=of_decide_eq_false (h6 (i-1) (by omega) (by omega) (by omega))
   rwa [show i-1+1=i by omega] at this
theorem aeg {L:List Mk} {base:Int} {b:Nat} {r:Int} (hb:b≤L.length) (h:Gv.E4 (fun i=>decide (v7 L base (i+1)≤0)) 0 L.length b r):IsP L base b (if r≥0 then r+1 else if base≤0 then 0 else -1):=by
 rcases h with⟨h1,h2⟩|⟨j,h1,h2,h3,h4,h5,h6⟩
 ·rw[if_neg (by omega)]
  have CM:∀ i,0<i->i≤b->¬ v7 L base i≤0:=fun i g1 g2=>by
   have:=of_decide_eq_false (h2 (i-1) (by omega) (by omega) (by omega))
   rwa [show i-1+1=i by omega] at this
  by_cases c:base≤0
  ·rw[if_pos c];exact .inr ⟨0,rfl,du _,by rw[Ee];exact c,fun i g1 g2=>CM i g1 g2⟩
  ·rw[if_neg c];refine .inl ⟨rfl,fun i g2=>?_⟩
   rcases mi i with g|g
   ·rw[g,Ee];exact c
   ·exact CM i g g2
 ·rw[if_pos (by omega)]
  refine .inr ⟨j+1,by omega,by omega,of_decide_eq_true h5,fun i g1 g2=>?_⟩
  have:=of_decide_eq_false (h6 (i-1) (by omega) (by omega) (by omega))
  rwa [show i-1+1=i by omega] at this
end Br
namespace Pa
open Rx Wv Br
def gO (l:List Op):It->Bool:=fun z=>decide (z∈tk [] l)
def RU (l:List Op) (o:Op):Mk:=⟨o.t,o.ins,o.it,o.ins&&decide (o.it∈fin [] l),an,iz⟩
def jC (l:List Op):List Mk:=l.map (RU l)
theorem xE (l:List Op):(jC l).length=l.length:=fR ..
abbrev o6 (l:List Op):Int:=(gw [] l:Int)
theorem lQ {l:List Op} (h:(gx l).Nodup):Ap [] l:=⟨rP,h,fun x hx=>by cases hx⟩
theorem GJ (l:List Op):jb (gO l) [] l:=fun z _=>by unfold gO;rw[decide_eq_true_eq]
theorem DN {l:List Op} {z:It}:z∈gx l↔∃ o,o∈l/\o.ins=ao/\o.it=z:=by
 unfold gx;rw[pb]
 constructor
 ·rintro ⟨o,h1,h2⟩;exact⟨o,(pc.1 h1).1,(pc.1 h1).2,h2⟩
 ·rintro ⟨o,h1,h2,h3⟩;exact⟨o,pc.2 ⟨h1,h2⟩,h3⟩
theorem abO {l:List Op} (h:(gx l).Nodup) {o:Op} (ho:o∈l) (hi:o.ins=ao):o.it∈fin [] l↔gO l o.it=an:=by
 rw[q7 (lQ h)];unfold gO;rw[decide_eq_false_iff_not];exact⟨fun h=>h.2,fun h=>⟨.inr (DN.2 ⟨o,ho,hi,rfl⟩),h⟩⟩
theorem ajo {l:List Op} (h:(gx l).Nodup) {o:Op} (ho:o∈l):uF (RU l o)=wt (gO l) o:=by
 unfold uF wt Og RU;rcases iU o with e|e
 ·simp only[e,if_true,je,true_and,decide_eq_true_eq];have hh:=abO h ho e
  by_cases c:o.it∈fin [] l
  ·rw[if_pos c,hh.1 c];rfl
  ·rw[if_neg c];cases k:gO l o.it
   ·exact absurd (hh.2 k) c
   ·rfl
 ·simp only[e,B8,Bool.false_eq_true,if_false,false_and]
theorem Xh (g:It->Bool):∀ a:List Op,wts g a=(a.map (wt g)).sum
 |[]=>rfl
 |o::a=>by show wt g o+wts g a=_;rw[Xh g a,gr,List.sum_cons]
theorem O4 {l:List Op} (h:(gx l).Nodup) {i:Nat} (hi:i≤l.length):v7 (jC l) (o6 l) i=(pE (gO l) (fin [] (l.take i)) (l.drop i):Int):=by
 have h1:=afM (g:=gO l) (a:=l.take i) (b:=l.drop i) (h:=[]) (by rw[cQ];exact lQ h) (by rw[cQ];exact GJ l)
 rw[cQ] at h1;rw[h1];have h2:pE (gO l) [] l=gw [] l:=by unfold pE;rw[Qg];rfl
 rw[h2];unfold v7 z9;have h3:(jC l).map uF=l.map (wt (gO l)):=by
  unfold jC;rw[List.map_map];exact n3 fun o ho=>ajo h ho
 rw[h3,Xh,nz]
theorem Ff:∀ {l:List It} {m:It},hi l=aa m->m∈l
 |a::l,m,h=>by
  have h:up (aa a) (hi l)=aa m:=h;cases e:hi l with
  |none=>rw[e] at h;cases h;exact bL
  |some b =>
   rw[e,OL] at h;cases h;rcases Tp a b with c|c
   ·rw[c];exact bL
   ·rw[c];exact ed _ (Ff e)
theorem Vv {a b:List It} (h:∀ z,z∈a↔z∈b):hi a=hi b:=by
 cases ea:hi a with
 |none =>
  cases eb:hi b with
  |none=>rfl
  |some m =>
   obtain⟨m',h1,_⟩:=Iq ((h m).2 (Ff eb));rw[ea] at h1;cases h1
 |some m =>
  obtain⟨m',h1,h2⟩:=Iq ((h m).1 (Ff ea));obtain⟨m2,h3,h4⟩:=Iq ((h m').2 (Ff h1));rw[ea] at h3;cases h3;rw[h1];rcases h2 with h2|h2
  ·rw[h2]
  ·rcases h4 with h4|h4
   ·rw[h4]
   ·exact absurd h2 (sG h4)
theorem aa_:∀ {l:List It},Ord l->lo l=l.head?
 |[],_=>rfl
 |y::l,h=>by
  show dn (aa y) (lo l)=aa y
  rw[aa_ (EN h)];cases l with
  |nil=>rfl
  |cons w l =>
   show(if ah w y then aa w else aa y)=aa y
   rw[if_neg (sG (Cw h bL))]
theorem lo_le:∀ {l:List It} {z:It},z∈l->∃ m,lo l=aa m/\(m=z∨ah m z)
 |l,z,hz=>by
  cases e:lo l with
  |none =>
   have:=(Yy l).2 (List.ne_nil_of_mem hz);rw[e] at this;cases this
  |some m =>
   refine⟨m,rfl,?_⟩;have:=acI l m e z hz
   by_cases c:m=z
   ·exact .inl c
   ·rcases S5 c with c|c
    ·exact .inr c
    ·exact absurd c this
theorem Ho:∀ {l:List It} {m:It},lo l=aa m->m∈l
 |a::l,m,h=>by
  have h:dn (aa a) (lo l)=aa m:=h;cases e:lo l with
  |none=>rw[e] at h;cases h;exact bL
  |some b =>
   rw[e] at h;have h:(if ah b a then aa b else aa a)=aa m:=h
   split at h
   ·cases h;exact ed _ (Ho e)
   ·cases h;exact bL
theorem ai6 {a b:List It} (h:∀ z,z∈a↔z∈b):lo a=lo b:=by
 cases ea:lo a with
 |none =>
  cases eb:lo b with
  |none=>rfl
  |some m =>
   obtain⟨m',h1,_⟩:=lo_le ((h m).2 (Ho eb));rw[ea] at h1;cases h1
 |some m =>
  obtain⟨m',h1,h2⟩:=lo_le ((h m).1 (Ho ea));obtain⟨m2,h3,h4⟩:=lo_le ((h m').2 (Ho h1));rw[ea] at h3;cases h3;rw[h1];rcases h2 with h2|h2
  ·rw[h2]
  ·rcases h4 with h4|h4
   ·rw[h4]
   ·exact absurd h2 (sG h4)
theorem tN {b:Bool} {L:List Mk} {z:It}:z∈lY b L↔∃ m,m∈L/\m.ins=ao/\m.here=b/\m.it=z:=by
 unfold lY;rw[pb]
 constructor
 ·rintro ⟨m,h1,h2⟩
  obtain⟨h1,h3⟩:=pc.1 h1;rw[aL,beq_iff_eq] at h3;exact⟨m,h1,h3.1,h3.2,h2⟩
 ·rintro ⟨m,h1,h2,h3,h4⟩
  exact⟨m,pc.2 ⟨h1,by rw[aL,beq_iff_eq];exact⟨h2,h3⟩⟩,h4⟩
theorem Vd {l a:List Op} (h:(gx l).Nodup) (ha:∀ o,o∈a->o∈l) {b:Bool} {z:It}:z∈lY b (a.map (RU l))↔z∈gx a/\gO l z = !b:=by
 rw[tN,DN];have key:∀ o,o∈a->o.ins=ao->((RU l o).here=b↔gO l o.it = !b):=fun o h1 h2=>by
  have h3:=abO h (ha o h1) h2;show(o.ins&&decide (o.it∈fin [] l))=b↔_
  rw[h2,je];cases c:gO l o.it
  ·rw[c] at h3;rw[decide_eq_true (h3.2 rfl)];cases b<;>simp
  ·rw[c] at h3;rw[decide_eq_false (fun m=>by have:=h3.1 m;cases this)]
   cases b<;>simp
 constructor
 ·rintro ⟨m,h1,h2,h3,h4⟩
  obtain⟨o,g1,rfl⟩:=pb.1 h1;have h4:o.it=z:=h4;subst h4;exact⟨⟨o,g1,h2,rfl⟩,(key o g1 h2).1 h3⟩
 ·rintro ⟨⟨o,h1,h2,rfl⟩,h3⟩
  exact⟨RU l o,pb.2 ⟨o,h1,rfl⟩,h2,(key o h1 h2).2 h3,rfl⟩
theorem Zi {l a b:List Op} (h:(gx l).Nodup) (e:l=a++b) (hz:pE (gO l) (fin [] a) b=0):∀ z,z∈fin [] a↔z∈gx a/\gO l z=an:=by
 intro z;subst e;have k:=lQ h;have h1:=Hh hz;have ka:Ap [] a:=⟨rP,by
  have:=h;unfold gx at this ⊢;rw[mh,dG] at this;exact(cf.1 this).1,fun x hx=>by cases hx⟩
 constructor
 ·intro m;have h2:=((q7 ka z).1 m).1;refine⟨?_,h1.2 z m⟩;rcases h2 with h2|h2
  ·cases h2
  ·exact h2
 ·rintro ⟨m,hg⟩
  refine(q7 ka z).2 ⟨.inr m,fun c=>?_⟩
  unfold gO at hg;rw[decide_eq_false_iff_not,vW] at hg;exact hg (List.mem_append_left _ c)
theorem abN {l a b:List Op} (h:(gx l).Nodup) (e:l=a++b) (hz:pE (gO l) (fin [] a) b=0):∀ z,z∈tk (fin [] a) b↔z∈gx b/\gO l z=ao:=by
 intro z;subst e;have h1:=Hh hz;have ab:Ap (fin [] a) b:=E' (lQ h);have cb:jb (gO (a++b)) (fin [] a) b:=GS (lQ h) (GJ _)
 constructor
 ·intro m;have h2:=q_ ab z m;have h3:=(cb z h2).2 m;rcases h2 with h2|h2
  ·rw[h1.2 z h2] at h3;cases h3
  ·exact⟨h2,h3⟩
 ·rintro ⟨m,hg⟩
  exact(cb z (.inr m)).1 hg
theorem aeV {l:List Op} (h:(gx l).Nodup) {p:Nat} (hp:p≤l.length) :
  tp (fin [] (l.take p)) (l.drop p)=if E7 (jC l) p (o6 l)<0 then aj else aa (hi (lY an ((jC l).drop (E7 (jC l) p (o6 l)).toNat))):=by
 have hP:=O' (jC l) p (o6 l);rw[xE,zl hp] at hP;have adn:∀ i,i≤l.length->¬ v7 (jC l) (o6 l) i≤0->0<pE (gO l) (fin [] (l.take i)) (l.drop i):=fun i hi hn=>by
  rw[O4 h hi] at hn;omega
 have back:∀ j,j≤p->(∀ i,j<i->i≤p->¬ v7 (jC l) (o6 l) i≤0)->tp (fin [] (l.take j)) (l.drop j)=tp (fin [] (l.take p)) (l.drop p):=fun j hj CM=>by
  have e1:l.drop j=(l.drop j).take (p-j)++l.drop p:=by
   have:=(cQ (p-j) (l.drop j)).symm;rw[sn,show j+(p-j)=p by omega] at this
   exact this
  have e2:l.take p=l.take j++(l.drop j).take (p-j):=by
   have:l.take (j+(p-j))=l.take j++(l.drop j).take (p-j):=wa
   rwa [show j+(p-j)=p by omega] at this
  have k:Ap (fin [] (l.take j)) (l.drop j):=E' (by rw[cQ];exact lQ h)
  have c:jb (gO l) (fin [] (l.take j)) (l.drop j):=GS (by rw[cQ];exact lQ h) (by rw[cQ];exact GJ l)
  have:=Yk (g:=gO l) (m:=(l.drop j).take (p-j)) (b:=l.drop p) (h:=fin [] (l.take j)) (by rw[← e1];exact k) (by rw[← e1];exact c) fun a c' ea kv=>by
   have hla:(a++c').length=p-j:=by rw[← ea,dZ,jt];omega
   rw[bA] at hla;have h0:0<a.length:=Jv.2 kv;have f1:l.take (j+a.length)=l.take j++a:=by
    have:l.take (j+a.length)=l.take j++(l.drop j).take a.length:=wa;rw[this,e1,ea,rN,Gk]
    rfl
   have f2:l.drop (j+a.length)=c'++l.drop p:=by
    rw[← sn,e1,ea,rN,Gl]
    rfl
   have:=adn (j+a.length) (by omega) (CM _ (by omega) (by omega))
   rw[f1,f2,qd] at this;exact this
  rw[← e1] at this;rw[this,e2,qd]
 rcases hP with⟨h1,h2⟩|⟨j,h1,h2,h3,h4⟩
 ·rw[h1,if_pos (by omega),← back 0 (du _) fun i _ hi=>h2 i hi]
  have h0:=adn 0 (du _) (h2 0 (du _));rw[sm,List.drop_zero] at h0 ⊢;have h0:0<pE (gO l) [] l:=h0;unfold pE at h0;rw[Qg] at h0;show tp [] l=aj
  unfold tp;rw[if_neg (by omega)]
 ·rw[h1,if_neg (by omega),← back j h2 h4]
  have hz:pE (gO l) (fin [] (l.take j)) (l.drop j)=0:=by
   rw[O4 h (by omega)] at h3;omega
  have e:l=l.take j++l.drop j:=(cQ _ _).symm;unfold tp;rw[if_pos (Hh hz).1];have e3:((j:Nat):Int).toNat=j:=Int.toNat_natCast j;rw[e3];have e4:(jC l).drop j=(l.drop j).map (RU l):=by unfold jC;rw[mH]
  rw[e4,Vv fun z=>?_]
  rw[abN h e hz,Vd h fun o ho=>vK ho]
  rfl
theorem afP {l:List Op} (h:(gx l).Nodup) {p:Nat} (hp:p≤l.length) :
  ∃ b:Nat,O3 (jC l) p (o6 l)=b/\p≤b/\b≤l.length/\(Jc (gO l) (fin [] (l.take p)) (l.drop p)).head?=lo (lY ao ((jC l).take b)):=by
 have k:Ap (fin [] (l.take p)) (l.drop p):=E' (by rw[cQ];exact lQ h)
 have c:jb (gO l) (fin [] (l.take p)) (l.drop p):=GS (by rw[cQ];exact lQ h) (by rw[cQ];exact GJ l)
 obtain⟨a,b,e1,e2,e3,e4⟩:=aa5 k c;have Jj:a.length+b.length=l.length-p:=by
  have:=congrArg ae e1;rw[jt,bA] at this;omega
 have f1:l.take (p+a.length)=l.take p++a:=by
  have:l.take (p+a.length)=l.take p++(l.drop p).take a.length:=wa;rw[this,e1,Gk]
  rfl
 have f2:l.drop (p+a.length)=b:=by
  rw[← sn,e1,Gl]
  rfl
 have hz:pE (gO l) (fin [] (l.take (p+a.length))) (l.drop (p+a.length))=0:=by rw[f1,f2,qd];exact e3
 have hN:=abi (jC l) p (o6 l);rw[xE,zl hp] at hN;have hI:Yr (jC l) (o6 l) p l.length ((p+a.length:Nat):Int):=.inr ⟨p+a.length,rfl,by omega,by omega,by rw[O4 h (by omega),hz];exact Int.le_refl _,fun i h1 h2=>by
  rw[O4 h (by omega)]
  have s1:l.drop p=(l.drop p).take (i-p)++l.drop i:=by
   have:=(cQ (i-p) (l.drop p)).symm;rw[sn,show p+(i-p)=i by omega] at this
   exact this
  have s2:l.take i=l.take p++(l.drop p).take (i-p):=by
   have:l.take (p+(i-p))=l.take p++(l.drop p).take (i-p):=wa
   rwa [show p+(i-p)=i by omega] at this
  have:=e4 _ _ s1 (by rw[dZ,jt];omega)
  rw[s2,qd];omega⟩
 refine⟨p+a.length,Pu hN hI,by omega,by omega,?_⟩
 have e:l=l.take (p+a.length)++l.drop (p+a.length):=(cQ _ _).symm;have e5:fin (fin [] (l.take p)) a=fin [] (l.take (p+a.length)):=by rw[f1,qd]
 have o5:Ord (fin [] (l.take (p+a.length))):=(E' (a:=l.take (p+a.length)) (b:=l.drop (p+a.length)) (h:=[]) (by rw[cQ];exact lQ h)).ord
 rw[e2,e5,← aa_ o5];have e6:(jC l).take (p+a.length)=(l.take (p+a.length)).map (RU l):=by unfold jC;rw[nz]
 rw[e6];refine ai6 fun z=>?_
 rw[Zi h e hz,Vd h fun o ho=>ph ho]
 rfl
def ld (l:List Op) (p:Nat) (o:Op):List Op:=l.take p++o::l.drop p
def j_ (l:List Op) (p:Nat):List Op:=l.take p++l.drop (p+1)
abbrev og (l:List Op) (k:Nat):Op:=l.getD k ⟨0,an,⟨0,0⟩⟩
theorem zW (a b:List Op):gx (a++b)=gx a++gx b:=by unfold gx;rw[mh,dG]
theorem Oy {l:List Op} {k:Nat} (h:k<l.length):l.drop k=og l k::l.drop (k+1):=by
 rw[oY h,og,av,bd h];rfl
theorem parts {l:List Op} {k:Nat} (h:k<l.length):l=l.take k++og l k::l.drop (k+1):=by
 rw[← Oy h,cQ]
theorem N5 {a b:List Op} (h:(gx (a++b)).Nodup):(gx a).Nodup/\(gx b).Nodup/\∀ z,z∈gx a->z∉gx b:=by
 rw[zW] at h;have:=cf.1 h;exact⟨this.1,this.2.1,fun z hz hb=>this.2.2 z hz z hb rfl⟩
theorem afI {l:List Op} {p:Nat} {o:Op} (h:(gx l).Nodup) (ho:o.ins=ao->o.it∉gx l):(gx (ld l p o)).Nodup:=by
 unfold ld;rw[zW];have e:gx l=gx (l.take p)++gx (l.drop p):=by rw[← zW,cQ]
 rw[e] at h ho;rcases iU o with c|c
 ·rw[xA c];have h':=cf.1 h;have ho:=ho c;rw[b5,not_or] at ho;refine cf.2 ⟨h'.1,fJ.2 ⟨ho.2,h'.2.1⟩,fun a ha b hb Jj=>?_⟩
  rcases bP.1 hb with m|m
  ·exact ho.1 (by rw[← m,← Jj];exact ha)
  ·exact h'.2.2 a ha b m Jj
 ·rw[q8 c];exact h
theorem alb {l:List Op} {k:Nat} (h:(gx l).Nodup) (hk:k<l.length):(gx (j_ l k)).Nodup/\∀ z,z∈gx (j_ l k)↔z∈gx l/\¬ ((og l k).ins=ao/\z=(og l k).it):=by
 have e:=congrArg gx (parts hk);rw[zW] at e;unfold j_;rw[zW,e];rw[e] at h;rcases iU (og l k) with c|c
 ·rw[xA c] at h ⊢;have h':=cf.1 h;have h2:=fJ.1 h'.2.1;refine⟨cf.2 ⟨h'.1,h2.2,fun a ha b hb=>h'.2.2 a ha b (ed _ hb)⟩,fun z=>?_⟩
  simp only[b5,bP,c,true_and]
  constructor
  ·rintro (m|m)
   ·exact⟨.inl m,fun e=>h'.2.2 z m _ bL e⟩
   ·exact⟨.inr (.inr m),fun e=>h2.1 (e▸m)⟩
  ·rintro ⟨m|m|m,n⟩
   ·exact .inl m
   ·exact absurd m n
   ·exact .inr m
 ·rw[q8 c] at h ⊢;refine⟨h,fun z=>?_⟩
  rw[c];simp
theorem P0 (l:List Op) (p:Nat):fin [] l=fin (fin [] (l.take p)) (l.drop p):=by rw[← qd,cQ]
theorem TC (l:List Op) (p:Nat):tk [] l=tk [] (l.take p)++tk (fin [] (l.take p)) (l.drop p):=by rw[← vW,cQ]
theorem O7 (l:List Op) (p:Nat):gw [] l=gw [] (l.take p)+gw (fin [] (l.take p)) (l.drop p):=by rw[← uA,cQ]
theorem O0 {l:List Op} (h:(gx l).Nodup) (p:Nat):Ap (fin [] (l.take p)) (l.drop p):=E' (by rw[cQ];exact lQ h)
theorem abt {l:List Op} (h:(gx l).Nodup) (p:Nat):jb (gO l) (fin [] (l.take p)) (l.drop p):=GS (by rw[cQ];exact lQ h) (by rw[cQ];exact GJ l)
theorem agS {l:List Op} (h:(gx l).Nodup) (p:Nat) {z:It} (hz:z∈fin [] (l.take p)):z∈gx (l.take p):=by
 have h':(gx (l.take p++l.drop p)).Nodup:=by rw[cQ];exact h
 have:=((q7 (lQ (N5 h').1) z).1 hz).1;exact this.elim (fun h=>by cases h) id
theorem NA {l:List Op} (h:(gx l).Nodup) (p:Nat) {z:It} (hz:z∈tk [] (l.take p)):z∉fin [] (l.take p)/\z∉gx (l.drop p):=by
 have h':(gx (l.take p++l.drop p)).Nodup:=by rw[cQ];exact h
 have k:=N5 h';refine⟨fun c=>((q7 (lQ k.1) z).1 c).2 hz,fun c=>?_⟩
 exact k.2.2 z ((q_ (lQ k.1) z hz).elim (fun h=>by cases h) id) c
abbrev qH (l:List Op) (p:Nat):Int:=E7 (jC l) p (o6 l)
abbrev Mc (l:List Op) (p:Nat):Int:=O3 (jC l) p (o6 l)
theorem aaD {l:List Op} {p:Nat} (hp:p≤l.length) (hb:¬ qH l p<0):uK (jC l) (qH l p)=hi (lY an ((jC l).drop (qH l p).toNat)):=by
 unfold uK;have hP:=O' (jC l) p (o6 l);rw[xE,zl hp] at hP;rcases hP with⟨h1,_⟩|⟨j,h1,h2,_⟩
 ·exact absurd (show qH l p<0 by show E7 (jC l) p (o6 l)<0;rw[h1];omega) hb
 ·have h1:qH l p=j:=h1;rw[h1,xE,zl (by omega)]
  rfl
theorem ajc {l:List Op} {p:Nat} {x:It} {t:Int} (h:(gx l).Nodup) (hx:x∉gx l) (hp:p≤l.length) :
  (qH l p<0->fin [] (ld l p ⟨t,ao,x⟩)=fin [] l/\gw [] l=gw [] (ld l p ⟨t,ao,x⟩)+1/\∀ w,w∈tk [] (ld l p ⟨t,ao,x⟩)↔w∈tk [] l∨w=x) /\
  (¬ qH l p<0->∃ z,up (aa x) (uK (jC l) (qH l p))=aa z/\z∉fin [] l/\(z=x∨z∈tk [] l)/\fin [] (ld l p ⟨t,ao,x⟩)=gZ z (fin [] l)/\gw [] (ld l p ⟨t,ao,x⟩)=gw [] l/\∀ w,w∈tk [] (ld l p ⟨t,ao,x⟩)↔(w∈tk [] l∨w=x)/\w≠z):=by
 have k:=O0 h p;have e:gx l=gx (l.take p)++gx (l.drop p):=by rw[← zW,cQ]
 have Xi:=hx;rw[e,b5,not_or] at Xi;have hxh:x∉fin [] (l.take p):=fun c=>Xi.1 (agS h p c)
 obtain⟨a1,a2,a3,a4⟩:=Lp k hxh Xi.2;have hT:=aeV h hp;have ea:th x (fin [] (l.take p)) (l.drop p)=upO x (tp (fin [] (l.take p)) (l.drop p)):=Pt;have f1:fin [] (ld l p ⟨t,ao,x⟩)=fin (gZ x (fin [] (l.take p))) (l.drop p):=by unfold ld;rw[qd,tq rfl]
 have f2:gw [] (ld l p ⟨t,ao,x⟩)=gw [] (l.take p)+gw (gZ x (fin [] (l.take p))) (l.drop p):=by unfold ld;rw[uA,ov rfl]
 have f3:tk [] (ld l p ⟨t,ao,x⟩)=tk [] (l.take p)++tk (gZ x (fin [] (l.take p))) (l.drop p):=by unfold ld;rw[vW,oB rfl]
 rw[f1,f2,f3,O7 l p,P0 l p,TC l p];have hxt:x∉tk [] (l.take p):=fun c=>by
  have h':(gx (l.take p++l.drop p)).Nodup:=by rw[cQ];exact h
  exact Xi.1 ((q_ (lQ (N5 h').1) x c).elim (fun h=>by cases h) id)
 constructor
 ·intro hb;have hb:E7 (jC l) p (o6 l)<0:=hb;rw[if_pos hb] at hT;rw[hT] at ea;have ea:th x (fin [] (l.take p)) (l.drop p)=aj:=ea;rw[ea] at a1 a2 a3;refine⟨a1,by rw[if_pos rfl] at a2;omega,fun w=>?_⟩
  rw[b5,b5,a3 w]
  constructor
  ·rintro (m|⟨m|m,_⟩)
   ·exact .inl (.inl m)
   ·exact .inl (.inr m)
   ·exact .inr m
  ·rintro ((m|m)|m)
   ·exact .inl m
   ·exact .inr ⟨.inl m,fun c=>by cases c⟩
   ·exact .inr ⟨.inr m,fun c=>by cases c⟩
 ·intro hb;have X_:=aaD hp hb;have hb:¬ E7 (jC l) p (o6 l)<0:=hb;rw[if_neg hb] at hT;rw[hT] at ea;have ea:th x (fin [] (l.take p)) (l.drop p)=up (aa x) (uK (jC l) (qH l p)):=by rw[X_];exact ea
  have hs:=X4 x (uK (jC l) (qH l p));cases hz:up (aa x) (uK (jC l) (qH l p)) with
  |none=>rw[hz] at hs;cases hs
  |some z =>
   rw[ea,hz] at a1 a2 a3 a4;have a4:=a4 z rfl;rw[if_neg (by simp)] at a2
   refine⟨z,rfl,a4.1,?_,a1,by omega,fun w=>?_⟩
   ·rcases a4.2 with c|c
    ·exact .inl c
    ·exact .inr (uT _ c)
   ·rw[b5,b5,a3 w];have ne:∀ w,(aa z≠aa w)↔w≠z:=fun w=>⟨fun c e=>c (by rw[e]),fun c e=>c (by injection e with e;exact e.symm)⟩
    rw[ne w]
    constructor
    ·rintro (m|⟨m|m,n⟩)
     ·refine⟨.inl (.inl m),fun c=>?_⟩
      subst c;rcases a4.2 with c|c
      ·exact hxt (c▸m)
      ·have t:=NA h p m;exact(q_ k w c).elim t.1 t.2
     ·exact⟨.inl (.inr m),n⟩
     ·exact⟨.inr m,n⟩
    ·rintro ⟨(m|m)|m,n⟩
     ·exact .inl m
     ·exact .inr ⟨.inl m,n⟩
     ·exact .inr ⟨.inr m,n⟩
theorem aiY {l:List Op} {p:Nat} {x:It} {t:Int} (h:(gx l).Nodup) (hp:p≤l.length) :
  (p_ (jC l) (Mc l p)=aj->fin [] (ld l p ⟨t,an,x⟩)=fin [] l/\gw [] (ld l p ⟨t,an,x⟩)=gw [] l+1/\∀ w,w∈tk [] (ld l p ⟨t,an,x⟩)↔w∈tk [] l) /\
  (∀ z,p_ (jC l) (Mc l p)=aa z->z∈fin [] l/\fin [] (ld l p ⟨t,an,x⟩)=pU z (fin [] l)/\gw [] (ld l p ⟨t,an,x⟩)=gw [] l/\∀ w,w∈tk [] (ld l p ⟨t,an,x⟩)↔w∈tk [] l∨w=z):=by
 have k:=O0 h p;have c:=abt h p;obtain⟨b,b1,b2,b3,b4⟩:=afP h hp;have hl:p_ (jC l) (Mc l p)=lo (lY ao ((jC l).take b)):=by
  show lo (lY ao ((jC l).take (kF (jC l).length (O3 (jC l) p (o6 l)))))=_
  rw[b1,xE,zl b3]
 rw[← b4] at hl;rw[hl];have f1:fin [] (ld l p ⟨t,an,x⟩)=fin (fin [] (l.take p)).tail (l.drop p):=by unfold ld;rw[qd,nD rfl]
 have f2:gw [] (ld l p ⟨t,an,x⟩)=gw [] (l.take p)+gw (fin [] (l.take p)) (⟨t,an,x⟩::l.drop p):=by unfold ld;rw[uA]
 have f3:tk [] (ld l p ⟨t,an,x⟩)=tk [] (l.take p)++tk (fin [] (l.take p)) (⟨t,an,x⟩::l.drop p):=by unfold ld;rw[vW]
 rw[f1,f2,f3,O7 l p,P0 l p,TC l p];generalize tk [] (l.take p)=T at *
 generalize gw [] (l.take p)=F at *
 generalize fin [] (l.take p)=H at *
 generalize l.drop p=r at *
 cases H with
 |nil =>
  rw[BH rfl,sJ rfl];have hn:(Jc (gO l) [] r).head?=aj:=by
   rcases mi (gw [] r) with q|q
   ·rw[EY (by unfold pE;rw[q];rfl)];rfl
   ·rw[Eg q];rfl
  rw[hn];exact⟨fun _=>⟨rfl,by omega,fun w=>sk⟩,fun z hz=>by cases hz⟩
 |cons y H =>
  have hb:=ajx k c;rw[← hb];obtain⟨a1,a2,a3,a4⟩:=Fi k (bL (a:=y) (l:=H));rw[Nn k.ord] at a1 a2 a3;have hy:y∈tk (y::H) r∨pL y (y::H) r=aa y:=by
   by_cases m:y∈tk (y::H) r
   ·exact .inl m
   ·exact .inr (wV bL m)
  rw[np rfl,oF rfl,oV]
  constructor
  ·intro e;rw[e] at a1 a2 a3 hy;rw[if_pos rfl] at a2;refine⟨a1,by omega,fun w=>?_⟩
   rw[b5,b5,bP,a3 w];have hy:y∈tk (y::H) r:=hy.elim id fun c=>by cases c
   constructor
   ·rintro (m|m|⟨_,m|m⟩)
    ·exact .inl m
    ·exact .inr (m▸hy)
    ·exact .inr m
    ·cases m
   ·rintro (m|m)
    ·exact .inl m
    ·by_cases e:w=y
     ·exact .inr (.inl e)
     ·exact .inr (.inr ⟨e,.inl m⟩)
  ·intro z e;rw[e] at a1 a2 a3 hy;rw[if_neg (by simp)] at a2
   refine⟨a4 z e,a1,by omega,fun w=>?_⟩
   rw[b5,b5,bP,a3 w]
   constructor
   ·rintro (m|m|⟨_,m|m⟩)
    ·exact .inl (.inl m)
    ·rcases hy with q|q
     ·exact .inl (.inr (m▸q))
     ·injection q with q;exact .inr (m.trans q.symm)
    ·exact .inl (.inr m)
    ·injection m with m;exact .inr m.symm
   ·rintro ((m|m)|m)
    ·exact .inl m
    ·by_cases e:w=y
     ·exact .inr (.inl e)
     ·exact .inr (.inr ⟨e,.inl m⟩)
    ·by_cases e:w=y
     ·exact .inr (.inl e)
     ·exact .inr (.inr ⟨e,.inr (by rw[m])⟩)
theorem aes {y:It} {h:List It} (a:Ord (y::h)):gZ y h=y::h:=by
 cases h with
 |nil=>rfl
 |cons w h=>rw[gZ,if_pos (Cw a bL)]
theorem af9 {l:List Op} {k:Nat} (h:(gx l).Nodup) (hk:k<l.length) (hd:(og l k).ins=an) :
  (qH l k<0->fin [] (j_ l k)=fin [] l/\gw [] l=gw [] (j_ l k)+1/\∀ w,w∈tk [] (j_ l k)↔w∈tk [] l) /\
  (¬ qH l k<0->∃ z,uK (jC l) (qH l k)=aa z/\z∉fin [] l/\z∈tk [] l/\fin [] (j_ l k)=gZ z (fin [] l)/\gw [] (j_ l k)=gw [] l/\∀ w,w∈tk [] (j_ l k)↔w∈tk [] l/\w≠z):=by
 have hp:k≤l.length:=Nat.le_of_lt hk;have a:=O0 h k;have hT:=aeV h hp;have X_:=aaD (l:=l) hp;have hta:=fun z=>NA (z:=z) h k
 have f1:fin [] (j_ l k)=fin (fin [] (l.take k)) (l.drop (k+1)):=by unfold j_;rw[qd]
 have f2:gw [] (j_ l k)=gw [] (l.take k)+gw (fin [] (l.take k)) (l.drop (k+1)):=by unfold j_;rw[uA]
 have f3:tk [] (j_ l k)=tk [] (l.take k)++tk (fin [] (l.take k)) (l.drop (k+1)):=by unfold j_;rw[vW]
 rw[f1,f2,f3,O7 l k,P0 l k,TC l k];rw[Oy hk] at a hT hta ⊢;generalize tk [] (l.take k)=T at *
 generalize gw [] (l.take k)=F at *
 generalize fin [] (l.take k)=H at *
 generalize l.drop (k+1)=r at *
 generalize og l k=o at *
 cases H with
 |nil =>
  rw[BH hd,sJ hd,nD hd,List.tail_nil];have e:tp [] (o::r)=aj:=by unfold tp;rw[sJ hd,if_neg (by omega)]
  rw[e] at hT;have hb:qH l k<0:=by
   by_cases c:qH l k<0
   ·exact c
   ·have c':¬ E7 (jC l) k (o6 l)<0:=c;rw[if_neg c'] at hT;cases hT
  exact⟨fun _=>⟨rfl,by omega,fun w=>sk⟩,fun n=>absurd hb n⟩
 |cons y H =>
  have a':Ap H r:=by have:=a.del hd;exact this
  have hyH:y∉H:=yy a.ord;have hyr:y∉gx r:=by have:=a.ap y bL;rwa [q8 hd] at this
  obtain⟨a1,a2,a3,a4⟩:=Lp a' hyH hyr;have ea:th y H r=upO y (tp H r):=Pt;have e:tp (y::H) (o::r)=if gw H r=0 then aa (hi (y::tk H r)) else aj:=by unfold tp;rw[np hd,oF hd]
  rw[e] at hT;rw[np hd,oF hd,nD hd,oV];rw[aes a.ord] at a1 a2 a3
  constructor
  ·intro hb;have qm:E7 (jC l) k (o6 l)<0:=hb;rw[if_pos qm] at hT;have hf:¬ gw H r=0:=fun c=>by rw[if_pos c] at hT;cases hT
   have ea:th y H r=aj:=by rw[ea];unfold tp;rw[if_neg hf];rfl
   rw[ea] at a1 a2 a3;rw[if_pos rfl] at a2;refine⟨a1,by omega,fun w=>?_⟩
   rw[b5,b5,bP,a3 w]
   constructor
   ·rintro (m|⟨m|m,_⟩)
    ·exact .inl m
    ·exact .inr (.inr m)
    ·exact .inr (.inl m)
   ·rintro (m|m|m)
    ·exact .inl m
    ·exact .inr ⟨.inr m,fun c=>by cases c⟩
    ·exact .inr ⟨.inl m,fun c=>by cases c⟩
  ·intro hb;have X_:=X_ hb;have qm:¬ E7 (jC l) k (o6 l)<0:=hb;rw[if_neg qm] at hT;have hf:gw H r=0:=by
    by_cases c:gw H r=0
    ·exact c
    ·rw[if_neg c] at hT;cases hT
   rw[if_pos hf] at hT;have hT:aa (hi (y::tk H r))=aa (hi (lY an ((jC l).drop (qH l k).toNat))):=hT;injection hT with hT
   rw[← hT] at X_;have ea:th y H r=hi (y::tk H r):=by rw[ea];unfold tp;rw[if_pos hf];rfl
   have hs:(hi (y::tk H r)).isSome=ao:=(Yh _).2 (by simp)
   cases hz:hi (y::tk H r) with
   |none=>rw[hz] at hs;cases hs
   |some z =>
    rw[ea,hz] at a1 a2 a3 a4;have a4:=a4 z rfl;rw[if_neg (by simp)] at a2
    have hzm:z∈y::tk H r:=Ff hz;refine⟨z,X_.trans hz,a4.1,uT _ hzm,a1,by omega,fun w=>?_⟩
    rw[b5,b5,bP,a3 w];have ne:∀ w,(aa z≠aa w)↔w≠z:=fun w=>⟨fun c e=>c (by rw[e]),fun c e=>c (by injection e with e;exact e.symm)⟩
    rw[ne w]
    constructor
    ·rintro (m|⟨m|m,n⟩)
     ·refine⟨.inl m,fun c=>?_⟩
      subst c;have t:=hta w m;rw[q8 hd] at t;rcases bP.1 hzm with c|c
      ·exact t.1 (by rw[c];exact bL)
      ·exact(q_ a' w c).elim (fun c=>t.1 (ed _ c)) t.2
     ·exact⟨.inr (.inr m),n⟩
     ·exact⟨.inr (.inl m),n⟩
    ·rintro ⟨m|m|m,n⟩
     ·exact .inl m
     ·exact .inr ⟨.inr m,n⟩
     ·exact .inr ⟨.inl m,n⟩
theorem agB {x:It} {h:List It} (a:Ord h) (hx:x∉h):pU x (gZ x h)=h:=by
 refine zY (zi (pn a hx)) a fun z=>?_
 rw[po,jZ]
 constructor
 ·rintro ⟨m|m,n⟩
  ·exact absurd m n
  ·exact m
 ·exact fun m=>⟨.inr m,fun c=>hx (c▸m)⟩
theorem am5 {l:List Op} {k:Nat} (h:(gx l).Nodup) (hk:k<l.length) (lP:(og l k).ins=ao) :
  Ap (fin [] (l.take (k+1))) (l.drop (k+1))/\(og l k).it∈fin [] (l.take (k+1))/\pU (og l k).it (fin [] (l.take (k+1)))=fin [] (l.take k)/\tk [] (l.take (k+1))=tk [] (l.take k)/\gw [] (l.take (k+1))=gw [] (l.take k):=by
 have a:=O0 h k;rw[Oy hk] at a;have e:l.take (k+1)=l.take k++[og l k]:=by rw[List.take_succ_eq_append_getElem hk,og,av,bd hk];rfl
 have e1:fin [] (l.take (k+1))=gZ (og l k).it (fin [] (l.take k)):=by rw[e,qd,tq lP];rfl
 have e2:tk [] (l.take (k+1))=tk [] (l.take k):=by rw[e,vW,oB lP,tk,List.append_nil]
 have e3:gw [] (l.take (k+1))=gw [] (l.take k):=by rw[e,uA,ov lP,gw];rfl
 obtain⟨a1,a2,a3⟩:=a.ins lP;refine⟨O0 h (k+1),by rw[e1];exact jZ.2 (.inl rfl),by rw[e1];exact agB a.ord a2,e2,e3⟩
theorem af2 {l:List Op} {k:Nat} (h:(gx l).Nodup) (hk:k<l.length) (lP:(og l k).ins=ao) :
  ((og l k).it∈fin [] l->fin [] (j_ l k)=pU (og l k).it (fin [] l)/\gw [] (j_ l k)=gw [] l/\∀ w,w∈tk [] (j_ l k)↔w∈tk [] l) /\
  ((og l k).it∉fin [] l->(og l k).it∈tk [] l/\(p_ (jC l) (Mc l (k+1))=aj->fin [] (j_ l k)=fin [] l/\gw [] (j_ l k)=gw [] l+1/\∀ w,w∈tk [] (j_ l k)↔w∈tk [] l/\w≠(og l k).it) /\
   (∀ z,p_ (jC l) (Mc l (k+1))=aa z->z∈fin [] l/\fin [] (j_ l k)=pU z (fin [] l)/\gw [] (j_ l k)=gw [] l/\∀ w,w∈tk [] (j_ l k)↔(w∈tk [] l∨w=z)/\w≠(og l k).it)):=by
 obtain⟨a,m1,m2,m3,m4⟩:=am5 h hk lP;have c:=abt h (k+1);have hp:k+1≤l.length:=hk;obtain⟨b,b1,b2,b3,b4⟩:=afP h hp;have hl:p_ (jC l) (Mc l (k+1))=lo (lY ao ((jC l).take b)):=by
  show lo (lY ao ((jC l).take (kF (jC l).length (O3 (jC l) ((k+1:Nat):Int) (o6 l)))))=_
  rw[b1,xE,zl b3]
 rw[← b4] at hl;rw[hl];have U7:gO l (og l k).it=decide ((og l k).it∈tk [] l):=rfl;have hx:(og l k).it∈gx l:=by
  have:=congrArg gx (parts hk);rw[zW,xA lP] at this;rw[this];exact uT _ bL
 have LZ:=q7 (lQ h) (og l k).it;have hta:=NA (z:=(og l k).it) h (k+1);have f1:fin [] (j_ l k)=fin (pU (og l k).it (fin [] (l.take (k+1)))) (l.drop (k+1)):=by unfold j_;rw[qd,m2]
 have f2:gw [] (j_ l k)=gw [] (l.take (k+1))+gw (pU (og l k).it (fin [] (l.take (k+1)))) (l.drop (k+1)):=by unfold j_;rw[uA,m2,m4]
 have f3:tk [] (j_ l k)=tk [] (l.take (k+1))++tk (pU (og l k).it (fin [] (l.take (k+1)))) (l.drop (k+1)):=by unfold j_;rw[vW,m2,m3]
 rw[f1,f2,f3];rw[O7 l (k+1),P0 l (k+1),TC l (k+1)] at *
 obtain⟨a1,a2,a3,a4⟩:=Fi a m1;have hbr:=fun hg=>Hy (z:=(og l k).it) a c m1 hg
 generalize tk [] (l.take (k+1))=T at *
 generalize gw [] (l.take (k+1))=F at *
 generalize fin [] (l.take (k+1))=H at *
 generalize l.drop (k+1)=r at *
 generalize(og l k).it=x at *
 have hxT:x∉T:=fun c=>(hta c).1 m1
 constructor
 ·intro j8;have hn:x∉tk H r:=fun c=>(LZ.1 j8).2 (uT _ c)
  have e:=wV m1 hn;rw[e] at a1 a2 a3;rw[if_neg (by simp)] at a2
  refine⟨a1,by omega,fun w=>?_⟩
  rw[b5,b5,a3 w]
  constructor
  ·rintro (m|⟨n,m|m⟩)
   ·exact .inl m
   ·exact .inr m
   ·injection m with m;exact absurd m.symm n
  ·rintro (m|m)
   ·exact .inl m
   ·exact .inr ⟨fun c=>hn (c▸m),.inl m⟩
 ·intro CM;have htk:x∈T++tk H r:=by
   by_cases q:x∈T++tk H r
   ·exact q
   ·exact absurd (LZ.2 ⟨.inr hx,q⟩) CM
  have hbr:=hbr (by rw[U7];exact decide_eq_true htk)
  rw[← hbr];refine⟨htk,fun e=>?_,fun z e=>?_⟩
  ·rw[e] at a1 a2 a3;rw[if_pos rfl] at a2;refine⟨a1,by omega,fun w=>?_⟩
   rw[b5,b5,a3 w]
   constructor
   ·rintro (m|⟨n,m|m⟩)
    ·exact⟨.inl m,fun c=>hxT (c▸m)⟩
    ·exact⟨.inr m,n⟩
    ·cases m
   ·rintro ⟨m|m,n⟩
    ·exact .inl m
    ·exact .inr ⟨n,.inl m⟩
  ·rw[e] at a1 a2 a3;rw[if_neg (by simp)] at a2
   refine⟨a4 z e,a1,by omega,fun w=>?_⟩
   rw[b5,b5,a3 w]
   constructor
   ·rintro (m|⟨n,m|m⟩)
    ·exact⟨.inl (.inl m),fun c=>hxT (c▸m)⟩
    ·exact⟨.inl (.inr m),n⟩
    ·injection m with m;exact⟨.inr m.symm,n⟩
   ·rintro ⟨(m|m)|m,n⟩
    ·exact .inl m
    ·exact .inr ⟨n,.inl m⟩
    ·exact .inr ⟨n,.inr (by rw[m])⟩
end Pa
namespace Sh
open Rx Wv
def k9:Gv.Kd Sl Sz:=⟨O9,S9,Li,(fun l=>inferInstanceAs (Decidable (l.length≤1000))),Zg,(fun x h=>h),du _,(fun x y h=>by
 unfold Li at *
 rw[bA] at *
 rw[List.length_tail];omega)⟩
def sl (x:It):Sl:=⟨x,an,0⟩
abbrev mC (l:List It):List Sl:=l.map sl
def Ord (l:List It):Prop:=l.Pairwise ah
theorem Rg {l:List It}:LC O9 (mC l)↔Ord l:=by
 unfold LC Ord mC;rw[Dr]
 constructor<;>intro h<;>refine h.imp ?_
 ·intro a b h;exact(DM _ _).1 h
 ·intro a b h;exact(DM _ _).2 h
def sw (x:It):List It->Nat
 |[]=>0
 |y::l=>if ah y x then sw x l+1 else 0
instance (a b:It):Decidable (ah a b):=inferInstanceAs (Decidable (_∨_))
theorem Ds (x:It):∀ l:List It,Gv.q9 O9 (sl x) (mC l)=sw x l
 |[]=>rfl
 |y::l=>by
  by_cases h:ah y x
  ·have h':0<O9.cmp (sl x) (sl y):=(wW _ _).2 h;show Gv.q9 O9 (sl x) (sl y::mC l)=_
   rw[Gv.Pq h',Ds x l,sw,if_pos h]
  ·have h':¬ 0<O9.cmp (sl x) (sl y):=fun c=>h ((wW _ _).1 c)
   show Gv.q9 O9 (sl x) (sl y::mC l)=_
   rw[Gv.LA h',sw,if_neg h]
theorem VN (x:It) (l:List It):sw x l≤l.length:=by
 rw[← Ds];have:=Gv.akS (O:=O9) (sl x) (mC l);simpa using this
theorem H2 (l:List It) (j:Nat):(mC l).getD j Yp=sl (l.getD j iz):=by
 unfold mC;simp only[av,fh];cases l[j]?<;>rfl
def pQ (x:It):List It->Nat
 |[]=>0
 |y::l=>if y=x then 0 else pQ x l+1
theorem VA (x:It):∀ l:List It,pQ x l≤l.length
 |[]=>a_ _
 |y::l=>by
  have:=VA x l;rw[pQ];split<;>simp<;>omega
theorem GO {x:It}:∀ {l:List It} {j:Nat},j<pQ x l->l.getD j iz≠x
 |[],j,h=>by simp[pQ] at h
 |y::l,j,h=>by
  rw[pQ] at h;split at h
  ·omega
  ·cases j with
   |zero=>simpa using by assumption
   |succ j=>rw[wv];exact GO (by omega)
theorem wI {x:It}:∀ {l:List It},pQ x l<l.length->l.getD (pQ x l) iz=x
 |[],h=>by simp at h
 |y::l,h=>by
  rw[pQ] at h ⊢;split at h
  ·rw[if_pos (by assumption)];simpa using by assumption
  ·rw[if_neg (by assumption),wv];exact wI (by simpa using h)
theorem aiN {x:It} {l:List It} {i:Nat} (h:∀ j,j<i->l.getD j iz≠x) (hi:i<l.length) (hx:l.getD i iz=x):pQ x l=i:=by
 rcases nW (pQ x l) i with c|c|c
 ·exact absurd (wI (x:=x) (l:=l) (by omega)) (h _ c)
 ·exact c
 ·exact absurd hx (GO c)
theorem ajl {x:It} {l:List It} (h:∀ j,j<l.length->l.getD j iz≠x):pQ x l=l.length:=by
 have:=VA x l;rcases cr (pQ x l) l.length with c|c
 ·exact absurd (wI c) (h _ c)
 ·omega
theorem GN (a:It):¬ ah a a:=fun h=>sG h h
theorem abP (x y:It):O9.cmp (sl x) (sl y)=0↔x=y:=Co x y
theorem YU {x:It} {l:List It} (ho:Ord l) (h:pQ x l<l.length):sw x l=pQ x l:=by
 rw[← Ds];refine Gv.Vq Zg (Rg.2 ho) (by simpa using h) ?_
 have e:(mC l).getD (pQ x l) O9.e0=sl x:=by
  show(mC l).getD (pQ x l) Yp=sl x
  rw[H2,wI h]
 rw[e,abP]
def nK (x:It) (l:List It):Bool:=decide (pQ x l<l.length)
theorem UJ (x:It) {l:List It} (ho:Ord l):(z_ O9 (sl x) (mC l)).isSome=nK x l:=by
 rw[Gv.T7,Ds];unfold nK;have e:(mC l).getD (sw x l) O9.e0=sl (l.getD (sw x l) iz):=H2 l _;rw[e];simp only[abP,fR]
 by_cases h:pQ x l<l.length
 ·have hr:=YU ho h;rw[hr,decide_eq_true h,decide_eq_true (wI h).symm];rfl
 ·rw[decide_eq_false h]
  by_cases h2:sw x l<l.length
  ·have:¬ x=l.getD (sw x l) iz:=fun c=>h (by
    have:=GO (x:=x) (l:=l) (j:=sw x l);rcases cr (sw x l) (pQ x l) with c2|c2
    ·exact absurd c.symm (this c2)
    ·omega)
   rw[decide_eq_false this,uQ]
  ·rw[decide_eq_false h2];rfl
def rV (x:It) (l:List It):List It:=if nK x l=ao then l else l.take (sw x l)++x::l.drop (sw x l)
def wB (x:It) (l:List It):List It:=if nK x l=ao then l.take (pQ x l)++l.drop (pQ x l+1) else l
theorem UO {x:It} {l:List It} (ho:Ord l):rk O9 (sl x) (mC l)=mC (rV x l):=by
 rw[Gv.V_,UJ x ho,Ds];unfold rV;cases h:nK x l with
 |true =>
  have h':pQ x l<l.length:=of_decide_eq_true h;have hr:=YU ho h';simp only[if_true];rw[hr];have e:l=l.take (pQ x l)++x::l.drop (pQ x l+1):=by
   have hx:=wI h';rw[av,bd h'] at hx
   conv=>lhs;rw[← cQ (pQ x l) l,oY h']
   rw[show l[pQ x l]=x from hx]
  conv=>rhs;rw[e]
  simp[mC,nz,mH]
 |false=>simp[mC,nz,mH]
theorem ahq {x:It} {l:List It} (ho:Ord l):Ca O9 (sl x) (mC l)=mC (wB x l):=by
 have hh:=UJ x ho;unfold Ca wB;rw[Gv.OJ,Gv.Pj,Ds];cases h:nK x l with
 |true =>
  have h':pQ x l<l.length:=of_decide_eq_true h;have hr:=YU ho h';rw[h] at hh;cases hc:z_ O9 (sl x) (mC l) with
  |none=>rw[hc] at hh;cases hh
  |some y=>simp[mC,HL,hr,nz,mH]
 |false =>
  rw[h] at hh;cases hc:z_ O9 (sl x) (mC l) with
  |none=>rfl
  |some y=>rw[hc] at hh;cases hh
theorem akA {x:It} {l:List It} {j:Nat} (h:j<sw x l):ah (l.getD j iz) x:=by
 rw[← Ds] at h;have:=Gv.Vb (O:=O9) h;rw[show(mC l).getD j O9.e0=sl (l.getD j iz) from H2 l j] at this
 exact(wW _ _).1 this
theorem aci {x:It} {l:List It} (ho:Ord l) (hn:nK x l=an) {j:Nat} (h:sw x l≤j) (hj:j<l.length):ah x (l.getD j iz):=by
 have h0:¬ ah (l.getD (sw x l) iz) x:=fun c=>by
  have:=Gv.VK (O:=O9) (e:=sl x) (l:=mC l) (by rw[Ds];simp;omega)
  rw[Ds,show(mC l).getD (sw x l) O9.e0=sl (l.getD (sw x l) iz) from H2 l _] at this
  exact this ((wW _ _).2 c)
 have kv:∀ k,k<l.length->l.getD k iz≠x:=fun k hk c=>by
  have ya:¬ pQ x l<l.length:=of_decide_eq_false hn;exact GO (x:=x) (l:=l) (j:=k) (by have:=VA x l;omega) c
 have h1:ah x (l.getD (sw x l) iz):=by
  rcases Classical.em (ah x (l.getD (sw x l) iz)) with c|c
  ·exact c
  ·exact absurd (ab0 c h0).symm (kv _ (by omega))
 rcases cr (sw x l) j with c|c
 ·have g:∀ k (hk:k<l.length),l.getD k iz=l[k]:=fun k hk=>by rw[av,bd hk];rfl
  have:=(DJ.1 ho) (sw x l) j (by omega) hj c
  rw[g _ hj];rw[g _ (by omega)] at h1
  exact Ve h1 this
 ·rwa [show j=sw x l by omega]
theorem aaS {x:It} {l:List It} (ho:Ord l) (hn:nK x l=an):∀ n,sw x l≤n->n≤l.length->tC x l n=sw x l
 |0,h,_=>by rw[tC];omega
 |n+1,h,hl=>by
  rw[tC];rcases cr (sw x l) (n+1) with c|c
  ·rw[if_pos (aci ho hn (by omega) (by omega))]
   exact aaS ho hn n (by omega) (by omega)
  ·rw[if_neg (fun h2=>sG h2 (akA (by omega)))]
   omega
theorem Q0 {x:It} {l:List It} (ho:Ord l) (hn:nK x l=an):Wv.ins x l=rV x l:=by
 unfold Wv.ins rV;rw[aaS ho hn _ (VN x l) (a_ _),if_neg (by rw[hn];decide)]
theorem agM {l:List It}:Ord l->mK l=l:=ND (P:=fun l=>Ord l->mK l=l) (fun _=>rfl) (fun l x ih h=>by
 have h1:Ord l:=(nG.1 h).1;have h2:∀ y∈l,ah y x:=fun y hy=>(nG.1 h).2.2 y hy x (List.mem_singleton_self x)
 have hn:nK x l=an:=by
  refine decide_eq_false fun c=>?_
  have:=h2 _ (yY (d:=iz) c);rw[wI c] at this;exact GN _ this
 have hr:sw x l=l.length:=by
  rcases cr (sw x l) l.length with c|c
  ·exact absurd (aci h1 hn (a_ _) c) (sG (h2 _ (yY c)))
  ·have:=VN x l;omega
 rw[D8,ih h1,Q0 h1 hn];unfold rV;rw[if_neg (by rw[hn];decide),hr]
 simp) l
theorem agN {x:It} {l:List It} (ho:Ord l) (hn:nK x l=an):mK (l++[x])=rV x l:=by
 rw[D8,agM ho,Q0 ho hn]
theorem Ye {x:It} {l:List It} (ho:Ord l):Ord (rV x l):=by
 rw[← Rg,← UO ho];exact Gv.Lc Zg (Rg.2 ho)
theorem adB (x:It) (l:List It):(rV x l).length≤l.length+1:=by
 unfold rV;split
 ·omega
 ·simp;have:=VN x l;omega
end Sh
namespace Pa
open Rx Wv Br
open Sh (rV wB mC sl nK pQ wI GO)
def u6 (H:List It) (o:Op):Mk:=⟨o.t,o.ins,o.it,o.ins&&decide (o.it∈H),an,iz⟩
def gj (H:List It) (l:List Op):List Mk:=l.map (u6 H)
theorem vf (l:List Op):jC l=gj (fin [] l) l:=rfl
theorem mI (H:List It) (l:List Op):(gj H l).length=l.length:=fR ..
theorem abE {H H':List It} {o:Op} (h:o.ins=ao->(o.it∈H↔o.it∈H')):u6 H o=u6 H' o:=by
 unfold u6;rcases iU o with c|c
 ·rw[decide_eq_decide.2 (h c)]
 ·rw[c];rfl
theorem C1 {H H':List It} {l:List Op} (h:∀ z,z∈gx l->(z∈H↔z∈H')):gj H l=gj H' l :=
 n3 fun o ho=>abE fun c=>h _ (DN.2 ⟨o,ho,c,rfl⟩)
theorem oE (H:List It) {l:List Op} {k:Nat} (h:k<l.length):(gj H l).getD k mz=u6 H (og l k):=by
 unfold gj og;rw[av,av,fh,bd h];rfl
def Tm (l:List Op):Prop:=l.Pairwise fun a b=>a.t<b.t
theorem TO {H:List It} {l:List Op} (h:Tm l):LC O8 (gj H l):=by
 unfold LC gj;rw[Dr];exact LP (fun c=>(DR _ _).2 c) h
def nq (t:Int) (l:List Op):Nat:=l.findIdx fun o=>!decide (o.t<t)
theorem We (t:Int) (l:List Op):nq t l≤l.length:=List.findIdx_le_length
theorem FY {H:List It} {e:Mk}:∀ l:List Op,Gv.q9 O8 e (gj H l)=nq e.t l
 |[]=>rfl
 |o::l=>by
  unfold nq;rw[List.findIdx_cons];show Gv.q9 O8 e (u6 H o::gj H l)=_
  by_cases c:o.t<e.t
  ·rw[Gv.Pq ((Ry e (u6 H o)).2 c),FY l,decide_eq_true c];rfl
  ·rw[Gv.LA fun k=>c ((Ry e (u6 H o)).1 k),decide_eq_false c];rfl
theorem abV {t:Int} {l:List Op} (h:Tm l) {k:Nat} (hk:k<l.length) (ht:(og l k).t=t):nq t l=k:=by
 have:=Gv.Vq (O:=O8) Ty (e:=⟨t,an,iz,an,an,iz⟩) (l:=gj [] l) (i:=k) (TO h) (by rw[mI];exact hk) (by
  show O8.cmp _ ((gj [] l).getD k mz)=0
  rw[oE [] hk,B2];exact ht.symm)
 rwa [FY] at this
theorem Pp {l:List Op} {k:Nat} (h:k<l.length):og l k∈l:=by
 rw[og,av,bd h];exact Fu h
def Et (l:List Op) (t:Int):Prop:=∀ o,o∈l->o.t≠t
theorem Lx (l:List Op) (t:Int):Et l t∨∃ k,k<l.length/\(og l k).t=t:=by
 by_cases h:∃ k,k<l.length/\(og l k).t=t
 ·exact .inr h
 ·refine .inl fun o ho e=>h ?_
  obtain⟨k,hk,rfl⟩:=sS ho;exact⟨k,hk,by rw[og,av,bd hk];exact e⟩
theorem NR {H:List It} {e:Mk} {l:List Op} (h:Et l e.t):(z_ O8 e (gj H l)).isSome=an:=by
 rw[Gv.T7]
 by_cases c:Gv.q9 O8 e (gj H l)<(gj H l).length
 ·have c':=c;rw[FY,mI] at c';have:¬ O8.cmp e ((gj H l).getD (Gv.q9 O8 e (gj H l)) O8.e0)=0:=by
   show ¬ O8.cmp e ((gj H l).getD (Gv.q9 O8 e (gj H l)) mz)=0
   rw[FY,oE H c',B2];exact fun q=>h _ (Pp c') q.symm
  rw[decide_eq_false this,uQ]
 ·rw[decide_eq_false c,B8]
theorem Ka {H:List It} {e:Mk} {l:List Op} (h:Tm l) {k:Nat} (hk:k<l.length) (ht:(og l k).t=e.t):(z_ O8 e (gj H l)).isSome=ao/\Gv.q9 O8 e (gj H l)=k:=by
 have r:Gv.q9 O8 e (gj H l)=k:=by rw[FY];exact abV h hk ht
 refine⟨?_,r⟩;rw[Gv.T7,r,mI,decide_eq_true hk,je,decide_eq_true_eq];show O8.cmp e ((gj H l).getD k mz)=0
 rw[oE H hk,B2];exact ht.symm
theorem Qu {H:List It} {l:List Op} {o:Op} {m:Mk} (h:Et l o.t) (hm:m=u6 H o):rk O8 m (gj H l)=gj H (ld l (nq o.t l) o):=by
 subst hm;rw[Gv.V_,if_neg (by rw[NR (e:=u6 H o) h];decide),FY]
 unfold ld gj;rw[dG,gr,nz,mH]
 rfl
theorem agm {H:List It} {l:List Op} {m:Mk} {k:Nat} (h:Tm l) (hk:k<l.length) (ht:(og l k).t=m.t):rk O8 m (gj H l)=(gj H l).take k++m::(gj H l).drop (k+1):=by
 have q:=Ka (H:=H) h hk ht;rw[Gv.V_,if_pos q.1,q.2]
theorem adx {H:List It} {l:List Op} {m:Mk} {k:Nat} (h:Tm l) (hk:k<l.length) (ht:(og l k).t=m.t):Ca O8 m (gj H l)=gj H (j_ l k):=by
 have q:=Ka (H:=H) h hk ht;unfold Ca;cases c:z_ O8 m (gj H l) with
 |none=>rw[c] at q;cases q.1
 |some y =>
  simp only;rw[Gv.OJ,Gv.Pj,q.2,HL];unfold j_ gj;rw[dG,nz,mH]
theorem apart {l:List Op} {k:Nat} (h:(gx l).Nodup) (hk:k<l.length) (lP:(og l k).ins=ao):(og l k).it∉gx (l.take k)/\(og l k).it∉gx (l.drop (k+1)):=by
 have e:=congrArg gx (parts hk);rw[zW,xA lP] at e;rw[e] at h;have h':=cf.1 h;exact⟨fun m=>h'.2.2 _ m _ bL rfl,(fJ.1 h'.2.1).1⟩
theorem flip {H H':List It} {l:List Op} {k:Nat} (h:(gx l).Nodup) (hk:k<l.length) (lP:(og l k).ins=ao) (hH:∀ z,z≠(og l k).it->(z∈H↔z∈H')):(gj H l).take k++u6 H' (og l k)::(gj H l).drop (k+1)=gj H' l:=by
 obtain⟨n1,n2⟩:=apart h hk lP
 conv=>rhs;rw[parts hk]
 unfold gj;rw[dG,gr,← nz,← mH];have e1:(l.take k).map (u6 H)=(l.take k).map (u6 H'):=C1 fun z hz=>hH z fun c=>n1 (c▸hz)
 have e2:(l.drop (k+1)).map (u6 H)=(l.drop (k+1)).map (u6 H'):=C1 fun z hz=>hH z fun c=>n2 (c▸hz)
 rw[e1,e2]
theorem UZ {l:List Op} {i k:Nat} (h:(gx l).Nodup) (hk:k<l.length) (hi:i<l.length) (h1:(og l k).ins=ao) (h2:(og l i).ins=ao) (he:(og l i).it=(og l k).it):i=k:=by
 obtain⟨n1,n2⟩:=apart h hk h1;rcases nW i k with c|c|c
 ·refine absurd (DN.2 ⟨og l i,?_,h2,he⟩) n1;rw[vL];exact⟨i,by rw[dZ];omega,by rw[LQ,og,av,bd hi];rfl⟩
 ·exact c
 ·refine absurd (DN.2 ⟨og l i,?_,h2,he⟩) n2;rw[vL];exact⟨i-(k+1),by rw[jt];omega,by rw[LR,og,av];simp only[show k+1+(i-(k+1))=i by omega];rw[bd hi];rfl⟩
theorem afj {l:List Op} {o:Op} (h:Tm l) (hf:Et l o.t):Tm (ld l (nq o.t l) o):=by
 have:=Gv.Lc (O:=O8) Ty (e:=u6 [] o) (TO (H:=[]) h);rw[Qu (H:=[]) hf rfl] at this;unfold LC gj at this;rw[Dr] at this;exact LP (fun c=>(DR _ _).1 c) this
theorem alE {l:List Op} (h:Tm l) (k:Nat):Tm (j_ l k):=by
 have e:(j_ l k).Sublist l:=by
  have:(l.take k++l.drop (k+1)).Sublist (l.take k++l.drop k):=(ac3 _).append (List.drop_sublist_drop_left l (Nat.le_succ k))
  rwa [cQ] at this
 exact YD e h
theorem uj {x:It} {l:List It}:nK x l=ao↔x∈l:=by
 unfold nK;rw[decide_eq_true_eq]
 constructor
 ·intro c;have:=wI c;rw[← this,av,bd c];exact Fu c
 ·intro m;obtain⟨k,hk,e⟩:=sS m
  by_cases c:pQ x l<l.length
  ·exact c
  ·exact absurd (show l.getD k iz=x by rw[av,bd hk];exact e) (GO (by omega))
theorem Xk {x:It} {l:List It} (h:Ord l) (hx:x∉l):rV x l=gZ x l:=by
 refine zY (Sh.Ye h) (pn h hx) fun z=>?_
 unfold rV;rw[if_neg fun c=>hx (uj.1 c),jZ,b5,bP]
 have:=cQ (Sh.sw x l) l
 constructor
 ·rintro (m|m|m)
  ·exact .inr (ph m)
  ·exact .inl m
  ·exact .inr (vK m)
 ·rintro (m|m)
  ·exact .inr (.inl m)
  ·rw[← this] at m;rcases b5.1 m with m|m
   ·exact .inl m
   ·exact .inr (.inr m)
theorem adJ {x:It} {l:List It} (h:Ord l):wB x l=pU x l:=by
 unfold wB;split
 ·rename_i c;have cj:pQ x l<l.length:=of_decide_eq_true c;have e:l=l.take (pQ x l)++x::l.drop (pQ x l+1):=by
   have hx:=wI cj;rw[av,bd cj] at hx
   conv=>lhs;rw[← cQ (pQ x l) l,oY cj]
   rw[show l[pQ x l]=x from hx]
  have hn:l.Nodup:=h.imp fun c=>alc c
  have ya:=hn;rw[e] at ya;have h1:=cf.1 ya;have h2:=fJ.1 h1.2.1
  conv=>rhs;rw[e]
  unfold pU;rw[mh,jS,if_neg (by simp)]
  rw[Bp.2,Bp.2]
  ·intro z hz;have:z≠x:=fun c=>h2.1 (c▸hz)
   simp[this]
  ·intro z hz;have:z≠x:=fun c=>h1.2.2 z hz x bL c
   simp[this]
 ·rename_i c;have hx:x∉l:=fun m=>c (uj.2 m)
  unfold pU;rw[Bp.2];intro z hz;have:z≠x:=fun c=>hx (c▸hz)
  simp[this]
def gn (l:List Op):List It:=mK (tk [] l)
theorem PW:∀ {r:List Op} {h:List It},Ap h r->(tk h r).Nodup
 |[],h,a=>List.nodup_nil
 |o::r,h,a=>by
  rcases iU o with e|e
  ·rw[oB e];exact PW (a.ins e).1
  ·cases h with
   |nil=>rw[BH e];exact PW (a.del e)
   |cons y h =>
    rw[oF e];have a':Ap h r:=a.del e;refine fJ.2 ⟨fun m=>?_,PW a'⟩
    rcases q_ a' y m with c|c
    ·exact yy a.ord c
    ·have:=a.ap y bL;rw[q8 e] at this;exact this c
theorem aaU:∀ l:List It,l.Nodup->Ord (mK l)/\∀ z,z∈mK l↔z∈l :=
 ND (P:=fun l=>l.Nodup->Ord (mK l)/\∀ z,z∈mK l↔z∈l) (fun _=>⟨rP,fun z=>sk⟩) fun l x ih h=>by
  have h':=cf.1 h;obtain⟨i1,i2⟩:=ih h'.1;have hx:x∉mK l:=fun m=>h'.2.2 x ((i2 x).1 m) x bL rfl
  have e:mK (l++[x])=gZ x (mK l):=by
   rw[D8,Sh.Q0 i1 (by cases c:nK x (mK l);rfl;exact absurd (uj.1 c) hx),Xk i1 hx]
  rw[e];refine⟨pn i1 hx,fun z=>?_⟩
  rw[jZ,b5,i2 z];simp only[bP,vH,or_false];exact⟨fun c=>c.symm,fun c=>c.symm⟩
theorem qO {l:List Op} (h:(gx l).Nodup):Ord (gn l):=(aaU _ (PW (lQ h))).1
theorem tz {l:List Op} (h:(gx l).Nodup) {z:It}:z∈gn l↔z∈tk [] l:=(aaU _ (PW (lQ h))).2 z
theorem zE {l:List Op} (h:(gx l).Nodup):Ord (fin [] l):=XM (lQ h)
theorem V0 (l:List Op):(gn l).length=(tk [] l).length:=Yn _
end Pa
namespace Gv
section
variable {E A:Type} {O:iL E A} {S:List E->A} {dk:List E->Prop}
theorem Gt {n:Nat}:∀ (t:Tr E) {k:Nat} {m:Po E A},fX n m->Rp O S m t->t.h<k->∃ kk,kk≤2*t.elems.length+1/\iI [] kk (zn O) m (cw O k m t.root).2
 |t,0,m,_,_,hk=>by omega
 |.nil,k+1,m,ho,hr,hk=>by
  have h0:(lk O m (Tr.nil (E:=E)).root).h=0:=by rw[(show Rp O S m .nil from trivial).root ho];rfl
  rw[cw,if_pos h0];exact⟨1,by omega,gC _ _ _⟩
 |.node r l x q,k+1,m,ho,⟨s_,mW,lZ,mf⟩,hk=>by
  have h0:¬ (lk O m r).h=0:=by rw[mW,rn];simp only[Tr.h];omega
  simp only[Tr.w6];simp only[Tr.h] at hk;rw[cw,if_neg h0,mW,qY];obtain⟨k1,c1,i2⟩:=Gt l (k:=k) (m:=aF m r) (dg.2 ho) (lZ.aF _) (by omega)
  have hu:=(gC (zn O) m r).to i2 (S:=[]) (fun s hs=>by simp at hs) (a_ _)
  obtain⟨k2,c2,j2⟩:=Gt q (k:=k) (m:=(cw O k (aF m r) l.root).2) (qJ.2 (dg.2 ho)) (Rp.frame hu (fun s _ hs=>by cases hs) mf) (by omega)
  refine⟨_,?_,hu.to j2 (fun s hs=>by simp at hs) (a_ _)⟩
  rw[Tr.gE,bA,List.length_cons];omega
end
namespace TS
variable {E A:Type} {k:Kd E A}
theorem Qv (s:TS k):m9 (2*s.l.length+2) s.m s.all.m:=by
 obtain⟨a,b,h1,h2,h3,h4,h5,h6⟩:=s.ok;obtain⟨kk,c1,c2⟩:=Gt (O:=k.O) (S:=k.S) a (k:=KK) (m:=aF s.m s.r) (dg.2 h3.ok) (h3.ra.aF _) (by have:=s.k1;have:=si a;rw[h4] at this;omega)
 have:=(gC (zn k.O) s.m s.r).to c2 (S:=[]) (fun s hs=>by simp at hs) (a_ _)
 show m9 _ s.m (cw k.O KK (aF s.m s.r) s.r).2
 have hv:=this.v;rw[h1] at hv;exact hv.mono (by rw[h4] at c1;omega)
theorem ai2 (s:TS k) (i:Int):m9 (2*ns s.l.length+1) s.m (s.at_ i).m:=by
 obtain⟨d,m',e1,e2⟩:=s.ok.at_ (K:=KK) (i:=i) s.k1;show m9 _ s.m (qF k.O KK s.m s.r i).2
 rw[e1];exact e2.qR
theorem VL {N:Type} {k:Nat} {a b:PM N} {v:Int} (h:m9 k a b) (h0:0≤a.cX) (h1:a.cX≤v) (h2:v+k≤4000000000000000000):0≤b.cX/\b.cX≤v+k:=by
 obtain⟨j,hj,e⟩:=h;rcases e with⟨e,rfl⟩|e
 ·rw[e];omega
 ·rw[e,uD (by omega)];omega
theorem qy (s:TS k):ns s.l.length≤29:=by
 have:=adC s.C4;have e:ns 1000=29:=by decide
 omega
end TS
end Gv
namespace Pa
open Rx Wv Br
theorem UF {L:List Mk} {may:Sw->Sw->Bool} {g:Mk->Bool} (h0:g mz=an) (hm:∀ a l,may a (S8 l)=ao↔∃ m,m∈l/\g m=ao):Gv.AS O8 S8 may (fun i=>g (L.getD i mz)) L:=by
 have key:∀ p l q a,p++(l++q)=L->(may a (S8 l)=ao↔∃ i,p.length≤i/\i<p.length+l.length/\g (L.getD i mz)=ao):=fun p l q a hL=>by
  rw[hm]
  constructor
  ·rintro ⟨m,h1,h2⟩
   obtain⟨j,hj,rfl⟩:=sS h1;refine⟨p.length+j,by omega,by omega,?_⟩
   rw[← hL,av,dQ (by omega),show p.length+j-p.length=j by omega,c_ hj,bd hj]
   exact h2
  ·rintro ⟨i,h1,h2,h3⟩
   have hj:i-p.length<l.length:=by omega
   refine⟨l[i-p.length],Fu hj,?_⟩;rw[← hL,av,dQ h1,c_ hj,bd hj] at h3;exact h3
 refine⟨⟨fun p x q hL=>?_,fun p l q hL i h1 h2 h3=>(key p l q _ hL).2 ⟨i,h1,h2,h3⟩⟩,fun p l q hL hl hm=>(key p l q _ hL).1 hm⟩
 have k:=key p [x] q (S8 p) (by simpa using hL)
 rw[show O8.sum x=S8 [x] from(Ux x).symm,Qf,k]
 simp only[List.length_singleton];exact⟨fun h=>⟨p.length,a_ _,by omega,h⟩,fun⟨i,h1,h2,h3⟩=>by rwa [show i=p.length by omega] at h3⟩
def iC (x:Int) (a o:Sw):Bool:=decide (m7 (m7 (x+a.w.s)+o.w.l)≤0)
def qc (x:It) (a o:Sw):Bool:=o.gf&&decide (kM o.g x≥0)
def p8 (x:It) (a o:Sw):Bool:=o.lf&&decide (kM o.l x≤0)
theorem Lb (a b:It):kM a b≥0↔a=b∨ah b a:=by
 rw[← wW a b,← Sh.Co a b];omega
theorem Le (a b:It):kM a b≤0↔a=b∨ah a b:=by
 rw[← Sh.DM a b,← Sh.Co a b];omega
abbrev isG (x:It):Mk->Bool:=fun m=>m.ins&&((m.here==an)&&decide (kM m.it x≥0))
abbrev isL (x:It):Mk->Bool:=fun m=>m.ins&&((m.here==ao)&&decide (kM m.it x≤0))
theorem ae3 (x:It) (L:List Mk):Gv.AS O8 S8 (qc x) (fun i=>isG x (L.getD i mz)) L:=UF rfl fun a l=>by
 show((hi (lY an l)).isSome&&decide (kM ((hi (lY an l)).getD iz) x≥0))=ao↔_
 rw[aL,decide_eq_true_eq]
 constructor
 ·rintro ⟨h1,h2⟩
  obtain⟨y,hy⟩:=Fv.1 h1;rw[hy,lI] at h2;obtain⟨m,g1,g2,g3,g4⟩:=tN.1 (Ff hy);refine⟨m,g1,?_⟩;show(m.ins&&((m.here==an)&&decide (kM m.it x≥0)))=ao
  rw[g2,g3,g4,decide_eq_true h2];rfl
 ·rintro ⟨m,g1,g2⟩
  simp only[isG,aL,beq_iff_eq,decide_eq_true_eq] at g2;obtain⟨y,hy,h3⟩:=Iq (l:=lY an l) (tN.2 ⟨m,g1,g2.1,g2.2.1,rfl⟩);refine⟨by rw[hy];rfl,?_⟩
  rw[hy,lI,Lb];have h4:=(Lb _ _).1 g2.2.2;rcases h3 with h3|h3
  ·rw[h3];exact h4
  ·rcases h4 with h4|h4
   ·rw[← h4];exact .inr h3
   ·exact .inr (Oz h4 h3)
theorem afL (x:It) (L:List Mk):Gv.AS O8 S8 (p8 x) (fun i=>isL x (L.getD i mz)) L:=UF rfl fun a l=>by
 show((lo (lY ao l)).isSome&&decide (kM ((lo (lY ao l)).getD iz) x≤0))=ao↔_
 rw[aL,decide_eq_true_eq]
 constructor
 ·rintro ⟨h1,h2⟩
  obtain⟨y,hy⟩:=Fv.1 h1;rw[hy,lI] at h2;obtain⟨m,g1,g2,g3,g4⟩:=tN.1 (Ho hy);refine⟨m,g1,?_⟩;show(m.ins&&((m.here==ao)&&decide (kM m.it x≤0)))=ao
  rw[g2,g3,g4,decide_eq_true h2];rfl
 ·rintro ⟨m,g1,g2⟩
  simp only[isL,aL,beq_iff_eq,decide_eq_true_eq] at g2;obtain⟨y,hy,h3⟩:=lo_le (l:=lY ao l) (tN.2 ⟨m,g1,g2.1,g2.2.1,rfl⟩);refine⟨by rw[hy];rfl,?_⟩
  rw[hy,lI,Le];have h4:=(Le _ _).1 g2.2.2;rcases h3 with h3|h3
  ·rw[h3];exact h4
  ·rcases h4 with h4|h4
   ·rw[← h4];exact .inr h3
   ·exact .inr (Oz h3 h4)
theorem agE {H:List It} {l:List Op} {f k:Nat} {r:Int} {z:It} (hn:(gx l).Nodup) (hk:k<l.length) (lP:(og l k).ins=ao) (hz:(og l k).it=z) (hH:z∉H) (hf:f≤k)
  (hb:hi (lY an ((gj H l).drop f))=aa z) (hr:Gv.BS (fun i=>isG z ((gj H l).getD i mz)) 0 (gj H l).length f r):r=k:=by
 have hP:isG z ((gj H l).getD k mz)=ao:=by
  rw[oE H hk];show((og l k).ins&&((((og l k).ins&&decide ((og l k).it∈H))==an)&&decide (kM (og l k).it z≥0)))=ao
  rw[lP,hz,decide_eq_false hH,decide_eq_true ((Lb z z).2 (.inl rfl))];rfl
 have nB:k<(gj H l).length:=by rw[mI];exact hk
 rcases hr with⟨h1,h2⟩|⟨j,h1,h2,h3,h4,h5,h6⟩
 ·have c:=h2 k (du _) nB (by omega)
  exact absurd (hP.symm.trans c) (by decide)
 ·have hj:j<l.length:=by rw[mI] at h3;exact h3
  have Mh:=h5;simp only[oE H hj] at h5;have h5:((og l j).ins&&((((og l j).ins&&decide ((og l j).it∈H))==an)&&decide (kM (og l j).it z≥0)))=ao:=h5;rw[aL,aL,beq_iff_eq,decide_eq_true_eq] at h5;obtain⟨a1,a2,a3⟩:=h5;have hm:(og l j).it∈lY an ((gj H l).drop f):=by
   refine tN.2 ⟨(gj H l).getD j mz,?_,by rw[oE H hj];exact a1,by rw[oE H hj];exact a2,by rw[oE H hj];rfl⟩
   rw[vL];refine⟨j-f,by rw[jt];omega,?_⟩
   rw[LR,av,bd h3];simp only[show f+(j-f)=j by omega,lI]
  obtain⟨y,b1,b2⟩:=Iq hm;rw[hb] at b1;injection b1 with b1
  subst b1;have e:(og l j).it=(og l k).it:=by
   rw[hz];rcases(Lb _ _).1 a3 with c|c
   ·exact c
   ·rcases b2 with d|d
    ·exact d.symm
    ·exact absurd d (sG c)
  rw[h1,UZ hn hk hj lP a1 e]
theorem ah1 {H:List It} {l:List Op} {u k:Nat} {r:Int} {z:It} (hn:(gx l).Nodup) (hk:k<l.length) (lP:(og l k).ins=ao) (hz:(og l k).it=z) (hH:z∈H) (hf:k<u)
  (hb:lo (lY ao ((gj H l).take u))=aa z) (hr:Gv.E4 (fun i=>isL z ((gj H l).getD i mz)) 0 (gj H l).length u r):r=k:=by
 have hP:isL z ((gj H l).getD k mz)=ao:=by
  rw[oE H hk];show((og l k).ins&&((((og l k).ins&&decide ((og l k).it∈H))==ao)&&decide (kM (og l k).it z≤0)))=ao
  rw[lP,hz,decide_eq_true hH,decide_eq_true ((Le z z).2 (.inl rfl))];rfl
 have nB:k<(gj H l).length:=by rw[mI];exact hk
 rcases hr with⟨h1,h2⟩|⟨j,h1,h2,h3,h4,h5,h6⟩
 ·have c:=h2 k (du _) nB (by omega)
  exact absurd (hP.symm.trans c) (by decide)
 ·have hj:j<l.length:=by rw[mI] at h3;exact h3
  simp only[oE H hj] at h5;have h5:((og l j).ins&&((((og l j).ins&&decide ((og l j).it∈H))==ao)&&decide (kM (og l j).it z≤0)))=ao:=h5;rw[aL,aL,beq_iff_eq,decide_eq_true_eq] at h5;obtain⟨a1,a2,a3⟩:=h5;have hm:(og l j).it∈lY ao ((gj H l).take u):=by
   refine tN.2 ⟨(gj H l).getD j mz,?_,by rw[oE H hj];exact a1,by rw[oE H hj];exact a2,by rw[oE H hj];rfl⟩
   rw[vL];have hl:j<((gj H l).take u).length:=by rw[dZ];omega
   refine⟨j,hl,?_⟩;rw[LQ,av,bd h3]
   rfl
  obtain⟨y,b1,b2⟩:=lo_le hm;rw[hb] at b1;injection b1 with b1
  subst b1;have e:(og l j).it=(og l k).it:=by
   rw[hz];rcases(Le _ _).1 a3 with c|c
   ·exact c
   ·rcases b2 with d|d
    ·exact d.symm
    ·exact absurd d (sG c)
  rw[h1,UZ hn hk hj lP a1 e]
end Pa
namespace G8
open Rx
set_option maxRecDepth 100000
def TWg {R:Type}:ez R:=[(1000000000,lL)]
theorem ah0 {R:Type} {D:fH R}:cL D Tryz.prog (TWg:ez R):=⟨iu,trivial⟩
def Tg {R:Type}:Prim R:=fun args hh=>match args,hh with
 |[.agg ⟨aS⟩,.agg ⟨oS⟩,.pointer (aa ⟨0,0,aj⟩)],[aa (.inl (3,[.int .i64 x]))]=>aa ⟨aS=km (wk aS)/\oS=km (wk oS),.bool (Pa.iC x (wk aS) (wk oS)),aj,hh,[],[]⟩
 |_,_=>aj
theorem Xg {R:Type} {D:fH R}:b6 D Tryz.prog 154 (a9 Tg):=by
 refine fj Tryz.f154 fun args hh x hx=>?_
 unfold Tg at hx;split at hx
 ·rename_i aS oS x;cases hx;refine q4 fun _ hv=>?_
  obtain⟨jU,ss⟩:=hv;generalize wk aS=a at *;subst jU;generalize wk oS=o at *;subst ss
  generalize hG:ch (R:=R) _ _=G;refine cJ (T:=TWg) ah0 mixed 200 ?_;refine bK (q:=Vc True/\Vc True/\aW (G (aD (decide (ck ar (ck ar (x+Ti.Td.s (Wv.Sw.w a))+Ti.Td.l (Wv.Sw.w o))≤(0:Int)))) [aa (.inl (3,[.int ar x])),aa (.inl (53,(km a))),aa (.inl (53,(km o)))])) ?_ (by kernel_rfl)
  subst hG
  repeat' (first|apply cY|apply Vc.mk|apply fits.mk|intro h|apply aW.mk)
  all_goals (try simp only[sB] at *)
  all_goals first|contradiction|omega|exact jm ‹_›|exact jo ‹_›|exact jk ‹_›|exact⟨rfl,by omega⟩|exact rfl|(simp[*,-av];done)|skip
  exact⟨[0],rfl,rfl,⟨.inl rfl,trivial⟩,rfl,rfl,rfl,rfl⟩
 ·cases hx
def TSc {R:Type}:ez R:=[(69,bJ zN 2 (a9 Sh.M5)),(106,bJ zN 2 (a9 Sh.FN))]
theorem aaz {R:Type} {D:fH R}:cL D Tryz.prog (TSc:ez R):=⟨aT _ _ Sh.Kp,aT _ _ Sh.zZ,trivial⟩
def YJ {R:Type}:Prim R:=fun args hh=>match args,hh with
 |[.agg ⟨aS⟩,.agg ⟨oS⟩,.pointer (aa ⟨0,0,aj⟩)],[aa (.inl (75,[.int .i64 k,.int .i64 i,.bool e,.int .i64 tt]))]=>aa ⟨aS=km (wk aS)/\oS=km (wk oS),.bool (Pa.qc ⟨k,i⟩ (wk aS) (wk oS)),aj,hh,[],[]⟩
 |_,_=>aj
theorem ahr {R:Type} {D:fH R}:b6 D Tryz.prog 105 (a9 YJ):=by
 refine fj Tryz.f105 fun args hh x hx=>?_
 unfold YJ at hx;split at hx
 ·rename_i aS oS k i e tt;cases hx;refine q4 fun _ hv=>?_
  obtain⟨jU,ss⟩:=hv;generalize wk aS=a at *;subst jU;generalize wk oS=o at *;subst ss
  generalize hG:ch (R:=R) _ _=G;refine cJ (T:=TSc) aaz mixed 200 ?_;refine bK (q:=let Z1:=bk ar;(Oa o=ao->Vc (aD (Oa o)=aD ao)/\Vc True/\Vc True/\aW (G (aD (decide (gW Sh.O9 (Sh.Sl.mk (Wv.Sw.g o) an (0:Int)) (Sh.Sl.mk (cW k i) e tt)≥(0:Int)))) [aa (.inl (75,[Z1 k,Z1 i,.bool e,Z1 tt])),aa (.inl (53,(km a))),aa (.inl (53,(km o)))]))/\(Oa o=an->Vc (aD (Oa o)=aD an)/\aW (G (aD an) [aa (.inl (75,[Z1 k,Z1 i,.bool e,Z1 tt])),aa (.inl (53,(km a))),aa (.inl (53,(km o)))]))) ?_ (by kernel_rfl)
  intro Z1;subst Z1;have done:∀ (x:Bool) (rest:Hp R),x=Pa.qc ⟨k,i⟩ a o->G (.bool x) (aa (.inl (75,[.int .i64 k,.int .i64 i,.bool e,.int .i64 tt]))::rest):=by
   intro x rest h;subst h;subst hG;exact⟨[0],rfl,rfl,⟨.inl rfl,trivial⟩,rfl,rfl,rfl,rfl⟩
  clear hG;exact⟨fun h=>⟨⟨congrArg aD h⟩,⟨trivial⟩,⟨trivial⟩,⟨done _ _ (by unfold Pa.qc;rw[h];rfl)⟩⟩,fun h=>⟨⟨congrArg aD h⟩,⟨done _ _ (by unfold Pa.qc;rw[h];rfl)⟩⟩⟩
 ·cases hx
def YP {R:Type}:Prim R:=fun args hh=>match args,hh with
 |[.agg ⟨aS⟩,.agg ⟨oS⟩,.pointer (aa ⟨0,0,aj⟩)],[aa (.inl (75,[.int .i64 k,.int .i64 i,.bool e,.int .i64 tt]))]=>aa ⟨aS=km (wk aS)/\oS=km (wk oS),.bool (Pa.p8 ⟨k,i⟩ (wk aS) (wk oS)),aj,hh,[],[]⟩
 |_,_=>aj
theorem ag8 {R:Type} {D:fH R}:b6 D Tryz.prog 110 (a9 YP):=by
 refine fj Tryz.f110 fun args hh x hx=>?_
 unfold YP at hx;split at hx
 ·rename_i aS oS k i e tt;cases hx;refine q4 fun _ hv=>?_
  obtain⟨jU,ss⟩:=hv;generalize wk aS=a at *;subst jU;generalize wk oS=o at *;subst ss
  generalize hG:ch (R:=R) _ _=G;refine cJ (T:=TSc) aaz mixed 200 ?_;refine bK (q:=let Z1:=bk ar;(Ob o=ao->Vc (aD (Ob o)=aD ao)/\Vc True/\Vc True/\aW (G (aD (decide (gW Sh.O9 (Sh.Sl.mk (Wv.Sw.l o) an (0:Int)) (Sh.Sl.mk (cW k i) e tt)≤(0:Int)))) [aa (.inl (75,[Z1 k,Z1 i,.bool e,Z1 tt])),aa (.inl (53,(km a))),aa (.inl (53,(km o)))]))/\(Ob o=an->Vc (aD (Ob o)=aD an)/\aW (G (aD an) [aa (.inl (75,[Z1 k,Z1 i,.bool e,Z1 tt])),aa (.inl (53,(km a))),aa (.inl (53,(km o)))]))) ?_ (by kernel_rfl)
  intro Z1;subst Z1;have done:∀ (x:Bool) (rest:Hp R),x=Pa.p8 ⟨k,i⟩ a o->G (.bool x) (aa (.inl (75,[.int .i64 k,.int .i64 i,.bool e,.int .i64 tt]))::rest):=by
   intro x rest h;subst h;subst hG;exact⟨[0],rfl,rfl,⟨.inl rfl,trivial⟩,rfl,rfl,rfl,rfl⟩
  clear hG;exact⟨fun h=>⟨⟨congrArg aD h⟩,⟨trivial⟩,⟨trivial⟩,⟨done _ _ (by unfold Pa.p8;rw[h];rfl)⟩⟩,fun h=>⟨⟨congrArg aD h⟩,⟨done _ _ (by unfold Pa.p8;rw[h];rfl)⟩⟩⟩
 ·cases hx
set_option maxHeartbeats 16000000
def G_  (k:Nat):Prim Rs:=fun args hh=>match args,hh with
 |[.pointer (aa ⟨0,0,aj⟩),.agg ⟨xN⟩,.agg ⟨pP⟩,.int .i64 f_,.func (.func 154) ⟨[]⟩ ⟨[.pointer (aa ⟨1,0,aj⟩)]⟩],[aa (.inl (110,[.pointer (aa ⟨2,0,aj⟩),.int .i64 ti,.int .i64 tg])),aa (.inl (3,[.int .i64 xx])),aa (.inr (.inr (.inr (.da m))))]=>aa ⟨xN=bj (fU xN)/\pP=bW (o_ pP)/\(PP m/\gH ay k m (fU xN)),.int .i64 (kI ay (Pa.iC xx) k m (fU xN) (o_ pP) f_).1,aj,[aa (.inl (110,[.pointer (aa ⟨2,0,aj⟩),.int .i64 ti,.int .i64 tg])),aa (.inl (3,[.int .i64 xx])),aa (.inr (.inr (.inr (.da (kI ay (Pa.iC xx) k m (fU xN) (o_ pP) f_).2))))],[],[(0,0)]⟩
 |_,_=>aj
def XQ (k:Nat):ez Rs:=[(1000000000,lL),(154,bJ zN 2 (a9 Tg)),(80,bJ zN 2 (a9 j9)),(98,bJ zN 2 (a9 AB)),(148,bJ zN 2 (a9 dY)),(142,bJ zN 2 (a9 (G_ k)))]
theorem RM:∀ k:Nat,b6 D Tryz.prog 142 (a9 (G_ k))
 |0=>by
  refine fj Tryz.f142 fun args hh x hx=>?_
  unfold G_ at hx;split at hx
  ·rename_i xN pP f_ ti tg xx m;cases hx;refine q4 fun _ hv=>?_
   exact kK (ic (ic (ic hv)))
  ·cases hx
 |k+1=>by
  have ih:=RM k;refine fj Tryz.f142 fun args hh x hx=>?_
  unfold G_ at hx;split at hx
  ·rename_i xN pP f_ ti tg xx m;cases hx;refine q4 fun _ hv=>?_
   obtain⟨jU,ss,hv⟩:=hv;generalize fU xN=xn at *;subst jU;generalize o_ pP=pp at *;subst ss;obtain⟨hp,hd⟩:=hv
   generalize hG:ch (R:=Rs) _ _=G;refine cJ (T:=(XQ k)) (show cL D Tryz.prog (XQ k) from⟨iu,aT _ _ Xg,aT _ _ look_ok,aT _ _ yw,aT _ _ uz,aT _ _ ih,trivial⟩) mixed 200 ?_
   refine bK (q:=let Z9:=bk ar;let Z1:=(ck ar (bM pp+bM (bt xn))≤f_);let Z2:=(br ay m (bc xn));let Z3:=(kI ay (Pa.iC xx) k (aJ m (bc xn)) Z2 pp f_);let Z4:=(ew ay pp (bt Z2));let Z5:=(nN ay (bZ xn));let Z6:=(br ay (aw Z3) (bn xn));let Z7:=(aJ (aw Z3) (bn xn));let Z8:=(kI ay (Pa.iC xx) k Z7 Z6 (ew ay Z4 Z5) f_);((cu xn==(0:Int))=an->Vc True/\(decide Z1=ao->aW (G (Z9 (-1:Int)) [dD 2 ti tg,aa (.inl (3,[Z9 xx])),oP m,aa (.inl (136,(bj xn))),aa (.inl (134,(bW pp)))]))/\(decide Z1=an->(decide (bM pp≥f_)=ao->Vc ((km (bG pp))=km (bG pp)/\(km (bG (bt xn)))=km (bG (bt xn)))/\((!Pa.iC xx (bG pp) (bG (bt xn)))=ao->aW (G (Z9 (-1:Int)) [dD 2 ti tg,aa (.inl (3,[Z9 xx])),oP m,aa (.inl (136,(bj xn))),aa (.inl (134,(bW pp)))]))/\((!Pa.iC xx (bG pp) (bG (bt xn)))=an->Vc (PP m)/\Vc ((bj Z2)=bj Z2/\(bW pp)=bW pp/\PP (aJ m (bc xn))/\gH ay k (aJ m (bc xn)) Z2)/\(decide (aA Z3≥(0:Int))=ao->aW (G (Z9 (aA Z3)) [dD 2 ti tg,aa (.inl (3,[Z9 xx])),oP (aw Z3),aa (.inl (136,(bj xn))),aa (.inl (134,(bW pp))),aa (.inl (136,(bj Z2)))]))/\(decide (aA Z3≥(0:Int))=an->Vc ((bW pp)=bW pp/\(bW (bt Z2))=bW (bt Z2)/\True)/\Vc ((dr (bZ xn))=dr (bZ xn)/\True)/\(decide (bM Z4≥f_)=ao->Vc ((km (bG Z4))=km (bG Z4)/\(km (bG Z5))=km (bG Z5))/\(Pa.iC xx (bG Z4) (bG Z5)=ao->aW (G (Z9 (bM Z4)) [dD 2 ti tg,aa (.inl (3,[Z9 xx])),oP (aw Z3),aa (.inl (136,(bj xn))),aa (.inl (134,(bW Z4))),aa (.inl (136,(bj Z2))),aa (.inl (134,(bW Z5)))]))/\(Pa.iC xx (bG Z4) (bG Z5)=an->Vc (PP (aw Z3))/\Vc ((bW Z4)=bW Z4/\(bW Z5)=bW Z5/\True)/\Vc ((bj Z6)=bj Z6/\(bW (ew ay Z4 Z5))=bW (ew ay Z4 Z5)/\PP Z7/\gH ay k Z7 Z6)/\aW (G (Z9 (aA Z8)) [dD 2 ti tg,aa (.inl (3,[Z9 xx])),oP (aw Z8),aa (.inl (136,(bj xn))),aa (.inl (134,(bW Z4))),aa (.inl (136,(bj Z2))),aa (.inl (134,(bW Z5)))])))/\(decide (bM Z4≥f_)=an->Vc (PP (aw Z3))/\Vc ((bW Z4)=bW Z4/\(bW Z5)=bW Z5/\True)/\Vc ((bj Z6)=bj Z6/\(bW (ew ay Z4 Z5))=bW (ew ay Z4 Z5)/\PP Z7/\gH ay k Z7 Z6)/\aW (G (Z9 (aA Z8)) [dD 2 ti tg,aa (.inl (3,[Z9 xx])),oP (aw Z8),aa (.inl (136,(bj xn))),aa (.inl (134,(bW Z4))),aa (.inl (136,(bj Z2))),aa (.inl (134,(bW Z5)))])))))/\(decide (bM pp≥f_)=an->Vc (PP m)/\Vc ((bj Z2)=bj Z2/\(bW pp)=bW pp/\PP (aJ m (bc xn))/\gH ay k (aJ m (bc xn)) Z2)/\(decide (aA Z3≥(0:Int))=ao->aW (G (Z9 (aA Z3)) [dD 2 ti tg,aa (.inl (3,[Z9 xx])),oP (aw Z3),aa (.inl (136,(bj xn))),aa (.inl (134,(bW pp))),aa (.inl (136,(bj Z2)))]))/\(decide (aA Z3≥(0:Int))=an->Vc ((bW pp)=bW pp/\(bW (bt Z2))=bW (bt Z2)/\True)/\Vc ((dr (bZ xn))=dr (bZ xn)/\True)/\(decide (bM Z4≥f_)=ao->Vc ((km (bG Z4))=km (bG Z4)/\(km (bG Z5))=km (bG Z5))/\(Pa.iC xx (bG Z4) (bG Z5)=ao->aW (G (Z9 (bM Z4)) [dD 2 ti tg,aa (.inl (3,[Z9 xx])),oP (aw Z3),aa (.inl (136,(bj xn))),aa (.inl (134,(bW Z4))),aa (.inl (136,(bj Z2))),aa (.inl (134,(bW Z5)))]))/\(Pa.iC xx (bG Z4) (bG Z5)=an->Vc (PP (aw Z3))/\Vc ((bW Z4)=bW Z4/\(bW Z5)=bW Z5/\True)/\Vc ((bj Z6)=bj Z6/\(bW (ew ay Z4 Z5))=bW (ew ay Z4 Z5)/\PP Z7/\gH ay k Z7 Z6)/\aW (G (Z9 (aA Z8)) [dD 2 ti tg,aa (.inl (3,[Z9 xx])),oP (aw Z8),aa (.inl (136,(bj xn))),aa (.inl (134,(bW Z4))),aa (.inl (136,(bj Z2))),aa (.inl (134,(bW Z5)))])))/\(decide (bM Z4≥f_)=an->Vc (PP (aw Z3))/\Vc ((bW Z4)=bW Z4/\(bW Z5)=bW Z5/\True)/\Vc ((bj Z6)=bj Z6/\(bW (ew ay Z4 Z5))=bW (ew ay Z4 Z5)/\PP Z7/\gH ay k Z7 Z6)/\aW (G (Z9 (aA Z8)) [dD 2 ti tg,aa (.inl (3,[Z9 xx])),oP (aw Z8),aa (.inl (136,(bj xn))),aa (.inl (134,(bW Z4))),aa (.inl (136,(bj Z2))),aa (.inl (134,(bW Z5)))]))))))/\((cu xn==(0:Int))=ao->aW (G (Z9 (-1:Int)) [dD 2 ti tg,aa (.inl (3,[Z9 xx])),oP m,aa (.inl (136,(bj xn))),aa (.inl (134,(bW pp)))]))) ?_ (by kernel_rfl)
   intro Z9 Z1 Z2 Z3 Z4 Z5 Z6 Z7 Z8;subst Z8 Z7 Z6 Z5 Z4 Z3 Z2 Z1 Z9;simp only[gH] at hd;have e1:∀ e,(nN ay e).sum=ay.sum e:=fun _=>rfl
   have done:∀ (i:Int) (m':Pl) (rest:Hp Rs),kI ay (Pa.iC xx) (k+1) m xn pp f_=(i,m')->G (.int .i64 i) ([aa (.inl (110,[.pointer (aa ⟨2,0,aj⟩),.int .i64 ti,.int .i64 tg])),aa (.inl (3,[.int .i64 xx])),aa (.inr (.inr (.inr (.da m'))))]++rest):=by
    intro i m' rest e;subst hG;refine⟨[0,1,2],?_,rfl,⟨.inl rfl,.inl rfl,?_,trivial⟩,rfl,rfl,rfl,rfl⟩
    ·simp only[e];rfl
    ·simp only[e];rfl
   clear hG;rw[kI] at done
   dsimp only [m7] at done
   simp only[e1]
   repeat' (first|apply cY|apply Vc.mk|apply fits.mk|intro h|apply aW.mk)
   all_goals (try simp only[sB] at *)
   all_goals first|contradiction|omega|exact jm ‹_›|exact jo ‹_›|exact jk ‹_›|exact⟨rfl,by omega⟩|exact rfl|(simp[*,-av];done)|skip
   all_goals first|assumption|(simp only[iX];assumption)|skip
   all_goals first|exact oa (hd.resolve_left (by omega)).1 (fun s=>by simp only[Gv.ik,lJ,mA])|(simp only[lJ,mA,Gv.ik];first|exact oa (hd.resolve_left (by omega)).2 (fun s=>by simp only[Gv.ik,lJ,mA])|exact oa (hd.resolve_left (by omega)).1 (fun s=>by simp only[Gv.ik,lJ,mA]))|skip
   all_goals (refine done _ _ _ ?_;repeat' split)
   all_goals first|rfl|(exfalso;omega)|(exfalso;simp_all;done)|(exfalso;simp_all;omega)
  ·cases hx
def JK  (k:Nat):Prim Rs:=fun args hh=>match args,hh with
 |[.pointer (aa ⟨0,0,aj⟩),.agg ⟨xN⟩,.agg ⟨pP⟩,.int .i64 f_,.func (.func 154) ⟨[]⟩ ⟨[.pointer (aa ⟨1,0,aj⟩)]⟩],[aa (.inl (110,[.pointer (aa ⟨2,0,aj⟩),.int .i64 ti,.int .i64 tg])),aa (.inl (3,[.int .i64 xx])),aa (.inr (.inr (.inr (.da m))))]=>aa ⟨xN=bj (fU xN)/\pP=bW (o_ pP)/\(PP m/\gH ay k m (fU xN)),.int .i64 (j3 ay (Pa.iC xx) k m (fU xN) (o_ pP) f_).1,aj,[aa (.inl (110,[.pointer (aa ⟨2,0,aj⟩),.int .i64 ti,.int .i64 tg])),aa (.inl (3,[.int .i64 xx])),aa (.inr (.inr (.inr (.da (j3 ay (Pa.iC xx) k m (fU xN) (o_ pP) f_).2))))],[],[(0,0)]⟩
 |_,_=>aj
def abr (k:Nat):ez Rs:=[(1000000000,lL),(154,bJ zN 2 (a9 Tg)),(80,bJ zN 2 (a9 j9)),(98,bJ zN 2 (a9 AB)),(148,bJ zN 2 (a9 dY)),(143,bJ zN 2 (a9 (JK k)))]
theorem UQ:∀ k:Nat,b6 D Tryz.prog 143 (a9 (JK k))
 |0=>by
  refine fj Tryz.f143 fun args hh x hx=>?_
  unfold JK at hx;split at hx
  ·rename_i xN pP f_ ti tg xx m;cases hx;refine q4 fun _ hv=>?_
   exact kK (ic (ic (ic hv)))
  ·cases hx
 |k+1=>by
  have ih:=UQ k;refine fj Tryz.f143 fun args hh x hx=>?_
  unfold JK at hx;split at hx
  ·rename_i xN pP f_ ti tg xx m;cases hx;refine q4 fun _ hv=>?_
   obtain⟨jU,ss,hv⟩:=hv;generalize fU xN=xn at *;subst jU;generalize o_ pP=pp at *;subst ss;obtain⟨hp,hd⟩:=hv
   generalize hG:ch (R:=Rs) _ _=G;refine cJ (T:=(abr k)) (show cL D Tryz.prog (abr k) from⟨iu,aT _ _ Xg,aT _ _ look_ok,aT _ _ yw,aT _ _ uz,aT _ _ ih,trivial⟩) mixed 200 ?_
   refine bK (q:=let Z8:=bk ar;let Z1:=(ck ar (bM pp+bM (bt xn))≤f_);let Z2:=(br ay m (bc xn));let Z3:=(ew ay pp (bt Z2));let Z4:=(nN ay (bZ xn));let Z5:=(br ay (aJ m (bc xn)) (bn xn));let Z6:=(aJ (aJ m (bc xn)) (bn xn));let Z7:=(j3 ay (Pa.iC xx) k Z6 Z5 (ew ay Z3 Z4) f_);((cu xn==(0:Int))=an->(decide (bM pp≥f_)=ao->aW (G (Z8 (-1:Int)) [dD 2 ti tg,aa (.inl (3,[Z8 xx])),oP m,aa (.inl (136,(bj xn))),aa (.inl (134,(bW pp)))]))/\(decide (bM pp≥f_)=an->Vc True/\(decide Z1=ao->Vc ((km (bG pp))=km (bG pp)/\(km (bG (bt xn)))=km (bG (bt xn)))/\((!Pa.iC xx (bG pp) (bG (bt xn)))=ao->aW (G (Z8 (-1:Int)) [dD 2 ti tg,aa (.inl (3,[Z8 xx])),oP m,aa (.inl (136,(bj xn))),aa (.inl (134,(bW pp)))]))/\((!Pa.iC xx (bG pp) (bG (bt xn)))=an->Vc (PP m)/\Vc ((bW pp)=bW pp/\(bW (bt Z2))=bW (bt Z2)/\True)/\Vc ((dr (bZ xn))=dr (bZ xn)/\True)/\Vc (PP (aJ m (bc xn)))/\Vc ((bW Z3)=bW Z3/\(bW Z4)=bW Z4/\True)/\Vc ((bj Z5)=bj Z5/\(bW (ew ay Z3 Z4))=bW (ew ay Z3 Z4)/\PP Z6/\gH ay k Z6 Z5)/\(decide (aA Z7≥(0:Int))=ao->aW (G (Z8 (aA Z7)) [dD 2 ti tg,aa (.inl (3,[Z8 xx])),oP (aw Z7),aa (.inl (136,(bj xn))),aa (.inl (134,(bW pp))),aa (.inl (136,(bj Z2))),aa (.inl (134,(bW Z3))),aa (.inl (134,(bW Z4)))]))/\(decide (aA Z7≥(0:Int))=an->(decide (bM Z3<f_)=ao->Vc ((km (bG Z3))=km (bG Z3)/\(km (bG Z4))=km (bG Z4))/\(Pa.iC xx (bG Z3) (bG Z4)=ao->aW (G (Z8 (bM Z3)) [dD 2 ti tg,aa (.inl (3,[Z8 xx])),oP (aw Z7),aa (.inl (136,(bj xn))),aa (.inl (134,(bW pp))),aa (.inl (136,(bj Z2))),aa (.inl (134,(bW Z3))),aa (.inl (134,(bW Z4)))]))/\(Pa.iC xx (bG Z3) (bG Z4)=an->Vc ((bj Z2)=bj Z2/\(bW pp)=bW pp/\PP (aw Z7)/\gH ay k (aw Z7) Z2)/\aW (G (Z8 (aA (j3 ay (Pa.iC xx) k (aw Z7) Z2 pp f_))) [dD 2 ti tg,aa (.inl (3,[Z8 xx])),oP (aw (j3 ay (Pa.iC xx) k (aw Z7) Z2 pp f_)),aa (.inl (136,(bj xn))),aa (.inl (134,(bW pp))),aa (.inl (136,(bj Z2))),aa (.inl (134,(bW Z3))),aa (.inl (134,(bW Z4)))])))/\(decide (bM Z3<f_)=an->Vc ((bj Z2)=bj Z2/\(bW pp)=bW pp/\PP (aw Z7)/\gH ay k (aw Z7) Z2)/\aW (G (Z8 (aA (j3 ay (Pa.iC xx) k (aw Z7) Z2 pp f_))) [dD 2 ti tg,aa (.inl (3,[Z8 xx])),oP (aw (j3 ay (Pa.iC xx) k (aw Z7) Z2 pp f_)),aa (.inl (136,(bj xn))),aa (.inl (134,(bW pp))),aa (.inl (136,(bj Z2))),aa (.inl (134,(bW Z3))),aa (.inl (134,(bW Z4)))])))))/\(decide Z1=an->Vc (PP m)/\Vc ((bW pp)=bW pp/\(bW (bt Z2))=bW (bt Z2)/\True)/\Vc ((dr (bZ xn))=dr (bZ xn)/\True)/\Vc (PP (aJ m (bc xn)))/\Vc ((bW Z3)=bW Z3/\(bW Z4)=bW Z4/\True)/\Vc ((bj Z5)=bj Z5/\(bW (ew ay Z3 Z4))=bW (ew ay Z3 Z4)/\PP Z6/\gH ay k Z6 Z5)/\(decide (aA Z7≥(0:Int))=ao->aW (G (Z8 (aA Z7)) [dD 2 ti tg,aa (.inl (3,[Z8 xx])),oP (aw Z7),aa (.inl (136,(bj xn))),aa (.inl (134,(bW pp))),aa (.inl (136,(bj Z2))),aa (.inl (134,(bW Z3))),aa (.inl (134,(bW Z4)))]))/\(decide (aA Z7≥(0:Int))=an->(decide (bM Z3<f_)=ao->Vc ((km (bG Z3))=km (bG Z3)/\(km (bG Z4))=km (bG Z4))/\(Pa.iC xx (bG Z3) (bG Z4)=ao->aW (G (Z8 (bM Z3)) [dD 2 ti tg,aa (.inl (3,[Z8 xx])),oP (aw Z7),aa (.inl (136,(bj xn))),aa (.inl (134,(bW pp))),aa (.inl (136,(bj Z2))),aa (.inl (134,(bW Z3))),aa (.inl (134,(bW Z4)))]))/\(Pa.iC xx (bG Z3) (bG Z4)=an->Vc ((bj Z2)=bj Z2/\(bW pp)=bW pp/\PP (aw Z7)/\gH ay k (aw Z7) Z2)/\aW (G (Z8 (aA (j3 ay (Pa.iC xx) k (aw Z7) Z2 pp f_))) [dD 2 ti tg,aa (.inl (3,[Z8 xx])),oP (aw (j3 ay (Pa.iC xx) k (aw Z7) Z2 pp f_)),aa (.inl (136,(bj xn))),aa (.inl (134,(bW pp))),aa (.inl (136,(bj Z2))),aa (.inl (134,(bW Z3))),aa (.inl (134,(bW Z4)))])))/\(decide (bM Z3<f_)=an->Vc ((bj Z2)=bj Z2/\(bW pp)=bW pp/\PP (aw Z7)/\gH ay k (aw Z7) Z2)/\aW (G (Z8 (aA (j3 ay (Pa.iC xx) k (aw Z7) Z2 pp f_))) [dD 2 ti tg,aa (.inl (3,[Z8 xx])),oP (aw (j3 ay (Pa.iC xx) k (aw Z7) Z2 pp f_)),aa (.inl (136,(bj xn))),aa (.inl (134,(bW pp))),aa (.inl (136,(bj Z2))),aa (.inl (134,(bW Z3))),aa (.inl (134,(bW Z4)))]))))))/\((cu xn==(0:Int))=ao->aW (G (Z8 (-1:Int)) [dD 2 ti tg,aa (.inl (3,[Z8 xx])),oP m,aa (.inl (136,(bj xn))),aa (.inl (134,(bW pp)))]))) ?_ (by kernel_rfl)
   intro Z8 Z1 Z2 Z3 Z4 Z5 Z6 Z7;subst Z7 Z6 Z5 Z4 Z3 Z2 Z1 Z8;simp only[gH] at hd;have e1:∀ e,(nN ay e).sum=ay.sum e:=fun _=>rfl
   have done:∀ (i:Int) (m':Pl) (rest:Hp Rs),j3 ay (Pa.iC xx) (k+1) m xn pp f_=(i,m')->G (.int .i64 i) ([aa (.inl (110,[.pointer (aa ⟨2,0,aj⟩),.int .i64 ti,.int .i64 tg])),aa (.inl (3,[.int .i64 xx])),aa (.inr (.inr (.inr (.da m'))))]++rest):=by
    intro i m' rest e;subst hG;refine⟨[0,1,2],?_,rfl,⟨.inl rfl,.inl rfl,?_,trivial⟩,rfl,rfl,rfl,rfl⟩
    ·simp only[e];rfl
    ·simp only[e];rfl
   clear hG;rw[j3] at done
   dsimp only [m7] at done
   simp only[e1]
   repeat' (first|apply cY|apply Vc.mk|apply fits.mk|intro h|apply aW.mk)
   all_goals (try simp only[sB] at *)
   all_goals first|contradiction|omega|exact jm ‹_›|exact jo ‹_›|exact jk ‹_›|exact⟨rfl,by omega⟩|exact rfl|(simp[*,-av];done)|skip
   all_goals first|assumption|(simp only[iX];assumption)|skip
   all_goals first|exact oa (hd.resolve_left (by omega)).1 (fun s=>by simp only[Gv.ik,lJ,mA])|(simp only[lJ,mA,Gv.ik];first|exact oa (hd.resolve_left (by omega)).2 (fun s=>by simp only[Gv.ik,lJ,mA])|exact oa (hd.resolve_left (by omega)).1 (fun s=>by simp only[Gv.ik,lJ,mA]))|skip
   all_goals (refine done _ _ _ ?_;repeat' split)
   all_goals first|rfl|(exfalso;omega)|(exfalso;simp_all;done)|(exfalso;simp_all;omega)
  ·cases hx
def Nb (K:Nat):Prim Rs:=fun args hh=>match args,hh with
 |[.pointer (aa ⟨0,0,aj⟩),.int .i64 f_,.func (.func 154) ⟨[]⟩ ⟨[.pointer (aa ⟨1,0,aj⟩)]⟩],[aa (.inl (110,[.pointer (aa ⟨2,0,aj⟩),.int .i64 ti,.int .i64 tg])),aa (.inl (3,[.int .i64 xx])),aa (.inr (.inr (.inr (.da m))))]=>aa ⟨PP m/\gH ay K (aJ m (⟨ti,tg⟩:bm)) (br ay m (⟨ti,tg⟩:bm)),.int .i64 (kI ay (Pa.iC xx) K (aJ m (⟨ti,tg⟩:bm)) (br ay m (⟨ti,tg⟩:bm)) ⟨0,ay.a0⟩ f_).1,aj,[aa (.inl (110,[.pointer (aa ⟨2,0,aj⟩),.int .i64 ti,.int .i64 tg])),aa (.inl (3,[.int .i64 xx])),aa (.inr (.inr (.inr (.da (kI ay (Pa.iC xx) K (aJ m (⟨ti,tg⟩:bm)) (br ay m (⟨ti,tg⟩:bm)) ⟨0,ay.a0⟩ f_).2))))],[],[(0,0)]⟩
 |_,_=>aj
def Wc (K:Nat):ez Rs:=[(80,bJ zN 2 (a9 j9)),(142,bJ zN 2 (a9 (G_ K)))]
theorem ZG (K:Nat):b6 D Tryz.prog 108 (a9 (Nb K)):=by
 refine fj Tryz.f108 fun args hh x hx=>?_
 unfold Nb at hx;split at hx
 ·rename_i f_ ti tg xx m;cases hx;refine q4 fun _ hv=>?_
  obtain⟨hp,hd⟩:=hv;generalize hG:ch (R:=Rs) _ _=G;refine cJ (T:=(Wc K)) (show cL D Tryz.prog (Wc K) from⟨aT _ _ look_ok,aT _ _ (RM K),trivial⟩) mixed 200 ?_
  refine bK (q:=let Z1:=(br ay m (aN ti tg));let Z2:=(bW (my 0 (xl (iM 0 0 0) (iM 0 0 0) 0 0 (cW 0 0) an (cW 0 0) an (cW 0 0))));let Z3:=(kI ay (Pa.iC xx) K (aJ m (aN ti tg)) Z1 (my (0:Int) (xl (iM (0:Int) (0:Int) (0:Int)) (iM (0:Int) (0:Int) (0:Int)) (0:Int) (0:Int) (cW (0:Int) (0:Int)) an (cW (0:Int) (0:Int)) an (cW (0:Int) (0:Int)))) f_);Vc (PP m)/\Vc ((bj Z1)=bj Z1/\Z2=Z2/\PP (aJ m (aN ti tg))/\gH ay K (aJ m (aN ti tg)) Z1)/\aW (G (bk ar (aA Z3)) [dD 2 ti tg,aa (.inl (3,[.int ar xx])),oP (aw Z3)])) ?_ (by kernel_rfl)
  intro Z1 Z2 Z3;subst Z3 Z2 Z1;subst hG
  repeat' (first|apply cY|apply Vc.mk|apply fits.mk|intro h|apply aW.mk)
  all_goals (try simp only[sB] at *)
  all_goals first|contradiction|omega|exact jm ‹_›|exact jo ‹_›|exact jk ‹_›|exact⟨rfl,by omega⟩|exact rfl|(simp[*,-av];done)|skip
  all_goals first|assumption|(simp only[iX];assumption)|skip
  exact⟨[0,1,2],rfl,rfl,⟨.inl rfl,.inl rfl,rfl,trivial⟩,rfl,rfl,rfl,rfl⟩
 ·cases hx
def Rv (K:Nat):Prim Rs:=fun args hh=>match args,hh with
 |[.pointer (aa ⟨0,0,aj⟩),.int .i64 f_,.func (.func 154) ⟨[]⟩ ⟨[.pointer (aa ⟨1,0,aj⟩)]⟩],[aa (.inl (110,[.pointer (aa ⟨2,0,aj⟩),.int .i64 ti,.int .i64 tg])),aa (.inl (3,[.int .i64 xx])),aa (.inr (.inr (.inr (.da m))))]=>aa ⟨PP m/\gH ay K (aJ m (⟨ti,tg⟩:bm)) (br ay m (⟨ti,tg⟩:bm)),.int .i64 (j3 ay (Pa.iC xx) K (aJ m (⟨ti,tg⟩:bm)) (br ay m (⟨ti,tg⟩:bm)) ⟨0,ay.a0⟩ f_).1,aj,[aa (.inl (110,[.pointer (aa ⟨2,0,aj⟩),.int .i64 ti,.int .i64 tg])),aa (.inl (3,[.int .i64 xx])),aa (.inr (.inr (.inr (.da (j3 ay (Pa.iC xx) K (aJ m (⟨ti,tg⟩:bm)) (br ay m (⟨ti,tg⟩:bm)) ⟨0,ay.a0⟩ f_).2))))],[],[(0,0)]⟩
 |_,_=>aj
def Xm (K:Nat):ez Rs:=[(80,bJ zN 2 (a9 j9)),(143,bJ zN 2 (a9 (JK K)))]
theorem aaN (K:Nat):b6 D Tryz.prog 111 (a9 (Rv K)):=by
 refine fj Tryz.f111 fun args hh x hx=>?_
 unfold Rv at hx;split at hx
 ·rename_i f_ ti tg xx m;cases hx;refine q4 fun _ hv=>?_
  obtain⟨hp,hd⟩:=hv;generalize hG:ch (R:=Rs) _ _=G;refine cJ (T:=(Xm K)) (show cL D Tryz.prog (Xm K) from⟨aT _ _ look_ok,aT _ _ (UQ K),trivial⟩) mixed 200 ?_
  refine bK (q:=let Z1:=(br ay m (aN ti tg));let Z2:=(bW (my 0 (xl (iM 0 0 0) (iM 0 0 0) 0 0 (cW 0 0) an (cW 0 0) an (cW 0 0))));let Z3:=(j3 ay (Pa.iC xx) K (aJ m (aN ti tg)) Z1 (my (0:Int) (xl (iM (0:Int) (0:Int) (0:Int)) (iM (0:Int) (0:Int) (0:Int)) (0:Int) (0:Int) (cW (0:Int) (0:Int)) an (cW (0:Int) (0:Int)) an (cW (0:Int) (0:Int)))) f_);Vc (PP m)/\Vc ((bj Z1)=bj Z1/\Z2=Z2/\PP (aJ m (aN ti tg))/\gH ay K (aJ m (aN ti tg)) Z1)/\aW (G (bk ar (aA Z3)) [dD 2 ti tg,aa (.inl (3,[.int ar xx])),oP (aw Z3)])) ?_ (by kernel_rfl)
  intro Z1 Z2 Z3;subst Z3 Z2 Z1;subst hG
  repeat' (first|apply cY|apply Vc.mk|apply fits.mk|intro h|apply aW.mk)
  all_goals (try simp only[sB] at *)
  all_goals first|contradiction|omega|exact jm ‹_›|exact jo ‹_›|exact jk ‹_›|exact⟨rfl,by omega⟩|exact rfl|(simp[*,-av];done)|skip
  all_goals first|assumption|(simp only[iX];assumption)|skip
  exact⟨[0,1,2],rfl,rfl,⟨.inl rfl,.inl rfl,rfl,trivial⟩,rfl,rfl,rfl,rfl⟩
 ·cases hx
def GQ  (k:Nat):Prim Rs:=fun args hh=>match args,hh with
 |[.pointer (aa ⟨0,0,aj⟩),.agg ⟨xN⟩,.agg ⟨pP⟩,.int .i64 f_,.func (.func 105) ⟨[]⟩ ⟨[.pointer (aa ⟨1,0,aj⟩)]⟩],[aa (.inl (110,[.pointer (aa ⟨2,0,aj⟩),.int .i64 ti,.int .i64 tg])),aa (.inl (75,[.int .i64 xk,.int .i64 xi,.bool xe,.int .i64 xt])),aa (.inr (.inr (.inr (.da m))))]=>aa ⟨xN=bj (fU xN)/\pP=bW (o_ pP)/\(PP m/\gH ay k m (fU xN)),.int .i64 (kI ay (Pa.qc ⟨xk,xi⟩) k m (fU xN) (o_ pP) f_).1,aj,[aa (.inl (110,[.pointer (aa ⟨2,0,aj⟩),.int .i64 ti,.int .i64 tg])),aa (.inl (75,[.int .i64 xk,.int .i64 xi,.bool xe,.int .i64 xt])),aa (.inr (.inr (.inr (.da (kI ay (Pa.qc ⟨xk,xi⟩) k m (fU xN) (o_ pP) f_).2))))],[],[(0,0)]⟩
 |_,_=>aj
def Xj (k:Nat):ez Rs:=[(1000000000,lL),(105,bJ zN 2 (a9 YJ)),(80,bJ zN 2 (a9 j9)),(98,bJ zN 2 (a9 AB)),(148,bJ zN 2 (a9 dY)),(142,bJ zN 2 (a9 (GQ k)))]
theorem RP:∀ k:Nat,b6 D Tryz.prog 142 (a9 (GQ k))
 |0=>by
  refine fj Tryz.f142 fun args hh x hx=>?_
  unfold GQ at hx;split at hx
  ·rename_i xN pP f_ ti tg xk xi xe xt m;cases hx;refine q4 fun _ hv=>?_
   exact kK (ic (ic (ic hv)))
  ·cases hx
 |k+1=>by
  have ih:=RP k;refine fj Tryz.f142 fun args hh x hx=>?_
  unfold GQ at hx;split at hx
  ·rename_i xN pP f_ ti tg xk xi xe xt m;cases hx;refine q4 fun _ hv=>?_
   obtain⟨jU,ss,hv⟩:=hv;generalize fU xN=xn at *;subst jU;generalize o_ pP=pp at *;subst ss;obtain⟨hp,hd⟩:=hv
   generalize hG:ch (R:=Rs) _ _=G;refine cJ (T:=(Xj k)) (show cL D Tryz.prog (Xj k) from⟨iu,aT _ _ ahr,aT _ _ look_ok,aT _ _ yw,aT _ _ uz,aT _ _ ih,trivial⟩) mixed 200 ?_
   refine bK (q:=let Z9:=bk ar;let Z1:=(ck ar (bM pp+bM (bt xn))≤f_);let Z2:=(br ay m (bc xn));let Z3:=(kI ay (Pa.qc (cW xk xi)) k (aJ m (bc xn)) Z2 pp f_);let Z4:=(ew ay pp (bt Z2));let Z5:=(nN ay (bZ xn));let Z6:=(br ay (aw Z3) (bn xn));let Z7:=(aJ (aw Z3) (bn xn));let Z8:=(kI ay (Pa.qc (cW xk xi)) k Z7 Z6 (ew ay Z4 Z5) f_);((cu xn==(0:Int))=an->Vc True/\(decide Z1=ao->aW (G (Z9 (-1:Int)) [dD 2 ti tg,aa (.inl (75,[Z9 xk,Z9 xi,.bool xe,Z9 xt])),oP m,aa (.inl (136,(bj xn))),aa (.inl (134,(bW pp)))]))/\(decide Z1=an->(decide (bM pp≥f_)=ao->Vc ((km (bG pp))=km (bG pp)/\(km (bG (bt xn)))=km (bG (bt xn)))/\((!Pa.qc (cW xk xi) (bG pp) (bG (bt xn)))=ao->aW (G (Z9 (-1:Int)) [dD 2 ti tg,aa (.inl (75,[Z9 xk,Z9 xi,.bool xe,Z9 xt])),oP m,aa (.inl (136,(bj xn))),aa (.inl (134,(bW pp)))]))/\((!Pa.qc (cW xk xi) (bG pp) (bG (bt xn)))=an->Vc (PP m)/\Vc ((bj Z2)=bj Z2/\(bW pp)=bW pp/\PP (aJ m (bc xn))/\gH ay k (aJ m (bc xn)) Z2)/\(decide (aA Z3≥(0:Int))=ao->aW (G (Z9 (aA Z3)) [dD 2 ti tg,aa (.inl (75,[Z9 xk,Z9 xi,.bool xe,Z9 xt])),oP (aw Z3),aa (.inl (136,(bj xn))),aa (.inl (134,(bW pp))),aa (.inl (136,(bj Z2)))]))/\(decide (aA Z3≥(0:Int))=an->Vc ((bW pp)=bW pp/\(bW (bt Z2))=bW (bt Z2)/\True)/\Vc ((dr (bZ xn))=dr (bZ xn)/\True)/\(decide (bM Z4≥f_)=ao->Vc ((km (bG Z4))=km (bG Z4)/\(km (bG Z5))=km (bG Z5))/\(Pa.qc (cW xk xi) (bG Z4) (bG Z5)=ao->aW (G (Z9 (bM Z4)) [dD 2 ti tg,aa (.inl (75,[Z9 xk,Z9 xi,.bool xe,Z9 xt])),oP (aw Z3),aa (.inl (136,(bj xn))),aa (.inl (134,(bW Z4))),aa (.inl (136,(bj Z2))),aa (.inl (134,(bW Z5)))]))/\(Pa.qc (cW xk xi) (bG Z4) (bG Z5)=an->Vc (PP (aw Z3))/\Vc ((bW Z4)=bW Z4/\(bW Z5)=bW Z5/\True)/\Vc ((bj Z6)=bj Z6/\(bW (ew ay Z4 Z5))=bW (ew ay Z4 Z5)/\PP Z7/\gH ay k Z7 Z6)/\aW (G (Z9 (aA Z8)) [dD 2 ti tg,aa (.inl (75,[Z9 xk,Z9 xi,.bool xe,Z9 xt])),oP (aw Z8),aa (.inl (136,(bj xn))),aa (.inl (134,(bW Z4))),aa (.inl (136,(bj Z2))),aa (.inl (134,(bW Z5)))])))/\(decide (bM Z4≥f_)=an->Vc (PP (aw Z3))/\Vc ((bW Z4)=bW Z4/\(bW Z5)=bW Z5/\True)/\Vc ((bj Z6)=bj Z6/\(bW (ew ay Z4 Z5))=bW (ew ay Z4 Z5)/\PP Z7/\gH ay k Z7 Z6)/\aW (G (Z9 (aA Z8)) [dD 2 ti tg,aa (.inl (75,[Z9 xk,Z9 xi,.bool xe,Z9 xt])),oP (aw Z8),aa (.inl (136,(bj xn))),aa (.inl (134,(bW Z4))),aa (.inl (136,(bj Z2))),aa (.inl (134,(bW Z5)))])))))/\(decide (bM pp≥f_)=an->Vc (PP m)/\Vc ((bj Z2)=bj Z2/\(bW pp)=bW pp/\PP (aJ m (bc xn))/\gH ay k (aJ m (bc xn)) Z2)/\(decide (aA Z3≥(0:Int))=ao->aW (G (Z9 (aA Z3)) [dD 2 ti tg,aa (.inl (75,[Z9 xk,Z9 xi,.bool xe,Z9 xt])),oP (aw Z3),aa (.inl (136,(bj xn))),aa (.inl (134,(bW pp))),aa (.inl (136,(bj Z2)))]))/\(decide (aA Z3≥(0:Int))=an->Vc ((bW pp)=bW pp/\(bW (bt Z2))=bW (bt Z2)/\True)/\Vc ((dr (bZ xn))=dr (bZ xn)/\True)/\(decide (bM Z4≥f_)=ao->Vc ((km (bG Z4))=km (bG Z4)/\(km (bG Z5))=km (bG Z5))/\(Pa.qc (cW xk xi) (bG Z4) (bG Z5)=ao->aW (G (Z9 (bM Z4)) [dD 2 ti tg,aa (.inl (75,[Z9 xk,Z9 xi,.bool xe,Z9 xt])),oP (aw Z3),aa (.inl (136,(bj xn))),aa (.inl (134,(bW Z4))),aa (.inl (136,(bj Z2))),aa (.inl (134,(bW Z5)))]))/\(Pa.qc (cW xk xi) (bG Z4) (bG Z5)=an->Vc (PP (aw Z3))/\Vc ((bW Z4)=bW Z4/\(bW Z5)=bW Z5/\True)/\Vc ((bj Z6)=bj Z6/\(bW (ew ay Z4 Z5))=bW (ew ay Z4 Z5)/\PP Z7/\gH ay k Z7 Z6)/\aW (G (Z9 (aA Z8)) [dD 2 ti tg,aa (.inl (75,[Z9 xk,Z9 xi,.bool xe,Z9 xt])),oP (aw Z8),aa (.inl (136,(bj xn))),aa (.inl (134,(bW Z4))),aa (.inl (136,(bj Z2))),aa (.inl (134,(bW Z5)))])))/\(decide (bM Z4≥f_)=an->Vc (PP (aw Z3))/\Vc ((bW Z4)=bW Z4/\(bW Z5)=bW Z5/\True)/\Vc ((bj Z6)=bj Z6/\(bW (ew ay Z4 Z5))=bW (ew ay Z4 Z5)/\PP Z7/\gH ay k Z7 Z6)/\aW (G (Z9 (aA Z8)) [dD 2 ti tg,aa (.inl (75,[Z9 xk,Z9 xi,.bool xe,Z9 xt])),oP (aw Z8),aa (.inl (136,(bj xn))),aa (.inl (134,(bW Z4))),aa (.inl (136,(bj Z2))),aa (.inl (134,(bW Z5)))]))))))/\((cu xn==(0:Int))=ao->aW (G (Z9 (-1:Int)) [dD 2 ti tg,aa (.inl (75,[Z9 xk,Z9 xi,.bool xe,Z9 xt])),oP m,aa (.inl (136,(bj xn))),aa (.inl (134,(bW pp)))]))) ?_ (by kernel_rfl)
   intro Z9 Z1 Z2 Z3 Z4 Z5 Z6 Z7 Z8;subst Z8 Z7 Z6 Z5 Z4 Z3 Z2 Z1 Z9;simp only[gH] at hd;have e1:∀ e,(nN ay e).sum=ay.sum e:=fun _=>rfl
   have done:∀ (i:Int) (m':Pl) (rest:Hp Rs),kI ay (Pa.qc ⟨xk,xi⟩) (k+1) m xn pp f_=(i,m')->G (.int .i64 i) ([aa (.inl (110,[.pointer (aa ⟨2,0,aj⟩),.int .i64 ti,.int .i64 tg])),aa (.inl (75,[.int .i64 xk,.int .i64 xi,.bool xe,.int .i64 xt])),aa (.inr (.inr (.inr (.da m'))))]++rest):=by
    intro i m' rest e;subst hG;refine⟨[0,1,2],?_,rfl,⟨.inl rfl,.inl rfl,?_,trivial⟩,rfl,rfl,rfl,rfl⟩
    ·simp only[e];rfl
    ·simp only[e];rfl
   clear hG;rw[kI] at done
   dsimp only [m7] at done
   simp only[e1]
   repeat' (first|apply cY|apply Vc.mk|apply fits.mk|intro h|apply aW.mk)
   all_goals (try simp only[sB] at *)
   all_goals first|contradiction|omega|exact jm ‹_›|exact jo ‹_›|exact jk ‹_›|exact⟨rfl,by omega⟩|exact rfl|(simp[*,-av];done)|skip
   all_goals first|assumption|(simp only[iX];assumption)|skip
   all_goals first|exact oa (hd.resolve_left (by omega)).1 (fun s=>by simp only[Gv.ik,lJ,mA])|(simp only[lJ,mA,Gv.ik];first|exact oa (hd.resolve_left (by omega)).2 (fun s=>by simp only[Gv.ik,lJ,mA])|exact oa (hd.resolve_left (by omega)).1 (fun s=>by simp only[Gv.ik,lJ,mA]))|skip
   all_goals (refine done _ _ _ ?_;repeat' split)
   all_goals first|rfl|(exfalso;omega)|(exfalso;simp_all;done)|(exfalso;simp_all;omega)
  ·cases hx
def MV (K:Nat):Prim Rs:=fun args hh=>match args,hh with
 |[.pointer (aa ⟨0,0,aj⟩),.int .i64 f_,.func (.func 105) ⟨[]⟩ ⟨[.pointer (aa ⟨1,0,aj⟩)]⟩],[aa (.inl (110,[.pointer (aa ⟨2,0,aj⟩),.int .i64 ti,.int .i64 tg])),aa (.inl (75,[.int .i64 xk,.int .i64 xi,.bool xe,.int .i64 xt])),aa (.inr (.inr (.inr (.da m))))]=>aa ⟨PP m/\gH ay K (aJ m (⟨ti,tg⟩:bm)) (br ay m (⟨ti,tg⟩:bm)),.int .i64 (kI ay (Pa.qc ⟨xk,xi⟩) K (aJ m (⟨ti,tg⟩:bm)) (br ay m (⟨ti,tg⟩:bm)) ⟨0,ay.a0⟩ f_).1,aj,[aa (.inl (110,[.pointer (aa ⟨2,0,aj⟩),.int .i64 ti,.int .i64 tg])),aa (.inl (75,[.int .i64 xk,.int .i64 xi,.bool xe,.int .i64 xt])),aa (.inr (.inr (.inr (.da (kI ay (Pa.qc ⟨xk,xi⟩) K (aJ m (⟨ti,tg⟩:bm)) (br ay m (⟨ti,tg⟩:bm)) ⟨0,ay.a0⟩ f_).2))))],[],[(0,0)]⟩
 |_,_=>aj
def UN (K:Nat):ez Rs:=[(80,bJ zN 2 (a9 j9)),(142,bJ zN 2 (a9 (GQ K)))]
theorem ZC (K:Nat):b6 D Tryz.prog 108 (a9 (MV K)):=by
 refine fj Tryz.f108 fun args hh x hx=>?_
 unfold MV at hx;split at hx
 ·rename_i f_ ti tg xk xi xe xt m;cases hx;refine q4 fun _ hv=>?_
  obtain⟨hp,hd⟩:=hv;generalize hG:ch (R:=Rs) _ _=G;refine cJ (T:=(UN K)) (show cL D Tryz.prog (UN K) from⟨aT _ _ look_ok,aT _ _ (RP K),trivial⟩) mixed 200 ?_
  refine bK (q:=let Z1:=(br ay m (aN ti tg));let Z2:=(bW (my 0 (xl (iM 0 0 0) (iM 0 0 0) 0 0 (cW 0 0) an (cW 0 0) an (cW 0 0))));let Z3:=(kI ay (Pa.qc (cW xk xi)) K (aJ m (aN ti tg)) Z1 (my (0:Int) (xl (iM (0:Int) (0:Int) (0:Int)) (iM (0:Int) (0:Int) (0:Int)) (0:Int) (0:Int) (cW (0:Int) (0:Int)) an (cW (0:Int) (0:Int)) an (cW (0:Int) (0:Int)))) f_);Vc (PP m)/\Vc ((bj Z1)=bj Z1/\Z2=Z2/\PP (aJ m (aN ti tg))/\gH ay K (aJ m (aN ti tg)) Z1)/\aW (G (bk ar (aA Z3)) [dD 2 ti tg,aa (.inl (75,[.int ar xk,.int ar xi,.bool xe,.int ar xt])),oP (aw Z3)])) ?_ (by kernel_rfl)
  intro Z1 Z2 Z3;subst Z3 Z2 Z1;subst hG
  repeat' (first|apply cY|apply Vc.mk|apply fits.mk|intro h|apply aW.mk)
  all_goals (try simp only[sB] at *)
  all_goals first|contradiction|omega|exact jm ‹_›|exact jo ‹_›|exact jk ‹_›|exact⟨rfl,by omega⟩|exact rfl|(simp[*,-av];done)|skip
  all_goals first|assumption|(simp only[iX];assumption)|skip
  exact⟨[0,1,2],rfl,rfl,⟨.inl rfl,.inl rfl,rfl,trivial⟩,rfl,rfl,rfl,rfl⟩
 ·cases hx
end G8
end Go.Proofs.YtjlomlgdgpoepaaGreat
