import Derived.Test.YtjlomlgdgpoepaaGreatZoc
import Derived.Test.YtjlomlgdgpoepaaGreatZob
set_option linter.unusedVariables false
set_option linter.unusedSimpArgs false
namespace Go.Proofs.YtjlomlgdgpoepaaGreat
open Gv renaming AY→DK,B_→CA,D5→FX,Deep→jm,Ei→BD,Ref→bn,W→nq,XS→Ln,aG→aL,cx→b5,di→jn,ef→eK,find→iO,first→kT,gj→g9,glue→sH,iU→kt,jI→Az,jV→j4,jt→gP,kI→lX,lF→rE,last→kf,level→gz,link→kJ,lk→bu,look→j3,lu→lT,lz→nY,mD→mK,mr→lD,np→jl,nz→CB,oa→vj,one→n7,pc→vW,pd→vV,pick→jE,qG→s9,qX→lJ,qo→ox,rL→pa,replace→nZ,sL→Ew,sQ→xI,sV→qN,tO→vX,tR→vZ,tie→s8,uZ→L7,uv→vY,vD→vh
open Gv.Node renaming all→bw,e→b6,h→cw,l→bd,mk→fH,r→bo
open Gv.PM renaming cap→iv,held→fW
open Gv.Part renaming mk→mJ,n→bP,sum→bH
open Gv.Ref renaming g→cD,i→cC,mk→aO
open Gv.iX renaming cmp→hU
open Rx renaming Ends→cj
open Ti renaming Gm→W1,pj→Ay,qJ→Jr,yL→Sf
open Ti.Td renaming mk→ja
open Wv renaming Cg→ym,IB→Jp,O8→ax
open Wv.It renaming i→nw,k→nv,mk→cX
open Wv.Mk renaming here→yo,ins→Ax,it→qw,mk→FY,tf→Cz,tk→qx,t→Ex
open Wv.Sw renaming gf→OH,lf→OI,mk→xJ
open _root_.And renaming intro→cZ,right→iw
open _root_.Array renaming mk→aP,toList→dw
open _root_.Bool renaming and_eq_true→aM,and_false→vg,eq_iff_iff→QL,false_and→Cy,false→an,true_and→js,true→ao
open _root_.Eq renaming symm→rB
open _root_.False renaming elim→kV
open _root_.Go.Func renaming ntmps→pA,results→dx
open _root_.Go.IntKind renaming i64→ar,wrap→ck
open _root_.Go.Value renaming agg→bG,bool→aE,int→bk,pointer→aC,slice→br,tuple→cr
open _root_.Iff renaming rfl→sD
open _root_.Int renaming natCast_nonneg→xK,not_le→Jq,not_lt→Jm
open _root_.List renaming append_assoc→rY,cons_append→mI,countP_cons→v8,countP_eq_zero→JW,countP_nil→QM,countP_pos_iff→JV,drop_drop→sF,drop_eq_getElem_cons→pf,drop_left'→GP,filter_append→mB,filter_cons→j5,filter_eq_self→BP,getD_cons_succ→wQ,getD_eq_getElem?_getD→au,getElem?_append_left→da,getElem?_append_right→dW,getElem?_eq_getElem→bc,getElem?_map→fu,getElem_drop→Mj,getElem_mem→FZ,getElem_of_mem→mf,getElem_take→Mi,length_append→bE,length_drop→jC,length_map→fZ,length_pos_iff→JX,length_take→ej,length→ae,map_append→dM,map_congr_left→oj,map_cons→gC,map_drop→mT,map_take→nO,map→aw,mem_append_right→vk,mem_append→bY,mem_cons_of_mem→dX,mem_cons_self→bL,mem_cons→bN,mem_filter→py,mem_iff_getElem→v_,mem_map→px,mem_of_mem_drop→v9,mem_of_mem_tail→BE,mem_of_mem_take→pB,nil_append→pz,nodup_append→ch,nodup_cons→fP,not_mem_nil→v7,pairwise_append→nX,pairwise_cons→fL,pairwise_iff_getElem→sk,pairwise_map→DU,singleton_append→Ig,tail_cons→pb,tail_drop→Ih,take_add→wD,take_append_drop→cR,take_left'→GO,take_succ_cons→JU,take_zero→sE
open _root_.List.Pairwise renaming filter→aaM,imp→Mh,nil→r9,sublist→Ii
open _root_.List.Sublist renaming refl→DV
open _root_.Nat renaming eq_zero_or_pos→mC,le_add_left→tZ,le_refl→a_,lt_of_le_of_lt→jk,lt_or_ge→ct,lt_succ_self→fI,lt_trichotomy→od,zero_add→bW,zero_le→dv
open _root_.Option renaming getD_some→lS,isSome_iff_exists→F0,none→aj,some→aa
open _root_.Prod renaming ext→ks,fst→ay,snd→av
open _root_.Sum renaming inl→dg
namespace G8
open Rx
set_option maxRecDepth 100000
def WA:eM Rs:=[(80,bJ zN 2 (a9 km)),(155,bJ zN 2 (a9 Bg))]
theorem RV:cN D Tryz.prog WA:=⟨aT _ _ look_ok,aT _ _ yc,trivial⟩
def IX:Prim Rs:=fun args hh=>match args,hh with
 |[.pointer (aa ⟨0,0,aj⟩),.agg ⟨[.int .i64 ri,.int .i64 rg]⟩,.agg ⟨xN⟩],[aa (.inl (110,[.pointer (aa ⟨1,0,aj⟩),.int .i64 ti,.int .i64 tg])),aa (.inr (.inr (.inr (.db m))))]=>aa ⟨xN=bj (gh xN)/\(PP m),.agg ⟨[.int .i64 ri,.int .i64 rg]⟩,aj,[aa (.inl (110,[.pointer (aa ⟨1,0,aj⟩),.int .i64 ti,.int .i64 tg])),aa (.inr (.inr (.inr (.db (s8 ax m ⟨ri,rg⟩ (gh xN))))))],[],[(0,0)]⟩
 |_,_=>aj
theorem AZ:b8 D Tryz.prog 134 (a9 IX):=by
 refine fx Tryz.f134 fun args hh x hx=>?_
 unfold IX at hx;split at hx
 ·rename_i ri rg xN ti tg m;cases hx;refine q4 fun _ hv=>?_
  obtain⟨j7,hv⟩:=hv;generalize gh xN=xn at *;subst j7
  generalize hG:cj (R:=Rs) _ _=G;refine cK (T:=WA) RV mixed 200 ?_;refine bM (q:=let Z2:=bk ar;let Z1:=(bu ax (aL m (bd xn)) (bo xn));Vc (PP m)/\Vc (PP (aL m (bd xn)))/\Vc ((bj xn)=bj xn/\(bj (bu ax m (bd xn)))=bj (bu ax m (bd xn))/\(bj Z1)=bj Z1/\PP (aL (aL m (bd xn)) (bo xn)))/\aY (G (bG (aP [Z2 ri,Z2 rg])) [dF 1 ti tg,oP (Ew ax (aL (aL m (bd xn)) (bo xn)) (aO ri rg) xn (bu ax m (bd xn)) Z1),aa (.inl (108,[Z2 ri,Z2 rg])),aa (.inl (136,(bj xn))),aa (.inl (108,[Z2 ri,Z2 rg]))])) ?_ (by kernel_rfl)
  intro Z2 Z1;subst Z1 Z2;subst hG
  repeat' (first|apply cZ|apply Vc.mk|apply fits.mk|intro h|apply aY.mk)
  all_goals (try simp only[sB] at *)
  all_goals first|contradiction|omega|exact jF ‹_›|exact jH ‹_›|exact jG ‹_›|exact⟨rfl,by omega⟩|exact rfl|(simp[*,-au];done)|skip
  all_goals first|assumption|(simp only[jl];assumption)|skip
  exact⟨[0,1],rfl,rfl,⟨.inl rfl,rfl,trivial⟩,rfl,rfl,rfl,rfl⟩
 ·cases hx
def I8:eM Rs:=[(80,bJ zN 2 (a9 km)),(134,bJ zN 2 (a9 IX))]
theorem FL:cN D Tryz.prog I8:=⟨aT _ _ look_ok,aT _ _ AZ,trivial⟩
def EG:Prim Rs:=fun args hh=>match args,hh with
 |[.pointer (aa ⟨0,0,aj⟩),.agg ⟨[.int .i64 ri,.int .i64 rg]⟩,.agg ⟨xN⟩],[aa (.inl (110,[.pointer (aa ⟨1,0,aj⟩),.int .i64 ti,.int .i64 tg])),aa (.inr (.inr (.inr (.db m))))]=>aa ⟨xN=bj (gh xN)/\(PP m),.agg ⟨[.int .i64 (gh xN).r.i,.int .i64 (gh xN).r.g]⟩,aj,[aa (.inl (110,[.pointer (aa ⟨1,0,aj⟩),.int .i64 ti,.int .i64 tg])),aa (.inr (.inr (.inr (.db (vV ax m ⟨ri,rg⟩ (gh xN))))))],[],[(0,0)]⟩
 |_,_=>aj
theorem B1:b8 D Tryz.prog 156 (a9 EG):=by
 refine fx Tryz.f156 fun args hh x hx=>?_
 unfold EG at hx;split at hx
 ·rename_i ri rg xN ti tg m;cases hx;refine q4 fun _ hv=>?_
  obtain⟨j7,hv⟩:=hv;generalize gh xN=xn at *;subst j7
  generalize hG:cj (R:=Rs) _ _=G;refine cK (T:=I8) FL mixed 200 ?_;refine bM (q:=let Z5:=bk ar;let Z1:=(bu ax m (bo xn));let Z2:=(fH (b6 xn) (bd xn) (bd Z1) (bw xn) (cw xn));let Z3:=(fH (b6 Z1) (aO ri rg) (bo Z1) (bw Z1) (cw Z1));let Z4:=(s8 ax (aL m (bo xn)) (aO ri rg) Z2);Vc (PP m)/\Vc ((bj Z2)=bj Z2/\PP (aL m (bo xn)))/\Vc ((bj Z3)=bj Z3/\PP Z4)/\aY (G (bG (aP [Z5 (cC (bo xn)),Z5 (cD (bo xn))])) [dF 1 ti tg,oP (s8 ax Z4 (bo xn) Z3),aa (.inl (108,[Z5 ri,Z5 rg])),aa (.inl (136,(bj Z2))),aa (.inl (108,[Z5 (cC (bo xn)),Z5 (cD (bo xn))])),aa (.inl (108,[Z5 (cC (bo xn)),Z5 (cD (bo xn))])),aa (.inl (136,(bj Z3)))])) ?_ (by kernel_rfl)
  intro Z5 Z1 Z2 Z3 Z4;subst Z4 Z3 Z2 Z1 Z5;subst hG
  repeat' (first|apply cZ|apply Vc.mk|apply fits.mk|intro h|apply aY.mk)
  all_goals (try simp only[sB] at *)
  all_goals first|contradiction|omega|exact jF ‹_›|exact jH ‹_›|exact jG ‹_›|exact⟨rfl,by omega⟩|exact rfl|(simp[*,-au];done)|skip
  all_goals first|assumption|(simp only[jl];assumption)|skip
  exact⟨[0,1],rfl,rfl,⟨.inl rfl,rfl,trivial⟩,rfl,rfl,rfl,rfl⟩
 ·cases hx
def Fu:Prim Rs:=fun args hh=>match args,hh with
 |[.pointer (aa ⟨0,0,aj⟩),.agg ⟨[.int .i64 ri,.int .i64 rg]⟩,.agg ⟨xN⟩],[aa (.inl (110,[.pointer (aa ⟨1,0,aj⟩),.int .i64 ti,.int .i64 tg])),aa (.inr (.inr (.inr (.db m))))]=>aa ⟨xN=bj (gh xN)/\(PP m),.agg ⟨[.int .i64 (gh xN).l.i,.int .i64 (gh xN).l.g]⟩,aj,[aa (.inl (110,[.pointer (aa ⟨1,0,aj⟩),.int .i64 ti,.int .i64 tg])),aa (.inr (.inr (.inr (.db (vW ax m ⟨ri,rg⟩ (gh xN))))))],[],[(0,0)]⟩
 |_,_=>aj
theorem Ce:b8 D Tryz.prog 157 (a9 Fu):=by
 refine fx Tryz.f157 fun args hh x hx=>?_
 unfold Fu at hx;split at hx
 ·rename_i ri rg xN ti tg m;cases hx;refine q4 fun _ hv=>?_
  obtain⟨j7,hv⟩:=hv;generalize gh xN=xn at *;subst j7
  generalize hG:cj (R:=Rs) _ _=G;refine cK (T:=I8) FL mixed 200 ?_;refine bM (q:=let Z5:=bk ar;let Z1:=(bu ax m (bd xn));let Z2:=(fH (b6 xn) (bo Z1) (bo xn) (bw xn) (cw xn));let Z3:=(fH (b6 Z1) (bd Z1) (aO ri rg) (bw Z1) (cw Z1));let Z4:=(s8 ax (aL m (bd xn)) (aO ri rg) Z2);Vc (PP m)/\Vc ((bj Z2)=bj Z2/\PP (aL m (bd xn)))/\Vc ((bj Z3)=bj Z3/\PP Z4)/\aY (G (bG (aP [Z5 (cC (bd xn)),Z5 (cD (bd xn))])) [dF 1 ti tg,oP (s8 ax Z4 (bd xn) Z3),aa (.inl (108,[Z5 ri,Z5 rg])),aa (.inl (136,(bj Z2))),aa (.inl (108,[Z5 (cC (bd xn)),Z5 (cD (bd xn))])),aa (.inl (108,[Z5 (cC (bd xn)),Z5 (cD (bd xn))])),aa (.inl (136,(bj Z3)))])) ?_ (by kernel_rfl)
  intro Z5 Z1 Z2 Z3 Z4;subst Z4 Z3 Z2 Z1 Z5;subst hG
  repeat' (first|apply cZ|apply Vc.mk|apply fits.mk|intro h|apply aY.mk)
  all_goals (try simp only[sB] at *)
  all_goals first|contradiction|omega|exact jF ‹_›|exact jH ‹_›|exact jG ‹_›|exact⟨rfl,by omega⟩|exact rfl|(simp[*,-au];done)|skip
  all_goals first|assumption|(simp only[jl];assumption)|skip
  exact⟨[0,1],rfl,rfl,⟨.inl rfl,rfl,trivial⟩,rfl,rfl,rfl,rfl⟩
 ·cases hx
def WM:eM Rs:=[(1000000000,lW),(80,bJ zN 2 (a9 km)),(155,bJ zN 2 (a9 Bg)),(156,bJ zN 2 (a9 EG)),(157,bJ zN 2 (a9 Fu))]
theorem RF:cN D Tryz.prog WM:=⟨iF,aT _ _ look_ok,aT _ _ yc,aT _ _ B1,aT _ _ Ce,trivial⟩
def uy:Prim Rs:=fun args hh=>match args,hh with
 |[.pointer (aa ⟨0,0,aj⟩),.agg ⟨[.int .i64 ri,.int .i64 rg]⟩,.agg ⟨xN⟩],[aa (.inl (110,[.pointer (aa ⟨1,0,aj⟩),.int .i64 ti,.int .i64 tg])),aa (.inr (.inr (.inr (.db m))))]=>aa ⟨xN=bj (gh xN)/\(PP m),.agg ⟨[.int .i64 (gz ax m ⟨ri,rg⟩ (gh xN)).1.i,.int .i64 (gz ax m ⟨ri,rg⟩ (gh xN)).1.g]⟩,aj,[aa (.inl (110,[.pointer (aa ⟨1,0,aj⟩),.int .i64 ti,.int .i64 tg])),aa (.inr (.inr (.inr (.db (gz ax m ⟨ri,rg⟩ (gh xN)).2))))],[],[(0,0)]⟩
 |_,_=>aj
theorem sN:b8 D Tryz.prog 136 (a9 uy):=by
 refine fx Tryz.f136 fun args hh x hx=>?_
 unfold uy at hx;split at hx
 ·rename_i ri rg xN ti tg m;cases hx;refine q4 fun _ hv=>?_
  obtain⟨j7,hv⟩:=hv;generalize gh xN=xn at *;subst j7
  generalize hG:cj (R:=Rs) _ _=G;refine cK (T:=WM) RF mixed 200 ?_;refine bM (q:=let dD:=bk ar;let Z1:=(bu ax m (bd xn));let Z2:=(bu ax (aL m (bd xn)) (bo xn));let Z3:=(cw Z1>ck ar (cw Z2+(1:Int)));let Z4:=(aL (aL m (bd xn)) (bo xn));let Z5:=(cw (bu ax Z4 (bo Z1))>cw (bu ax (aL Z4 (bo Z1)) (bd Z1)));let Z6:=(aL (aL Z4 (bo Z1)) (bd Z1));let Z7:=(fH (b6 xn) (bo Z1) (bo xn) (bw xn) (cw xn));let Z8:=(cw Z2>ck ar (cw Z1+(1:Int)));let Z9:=(cw (bu ax Z4 (bd Z2))>cw (bu ax (aL Z4 (bd Z2)) (bo Z2)));let dJ:=(aL (aL Z4 (bd Z2)) (bo Z2));let cq:=(fH (b6 xn) (bd xn) (bd Z2) (bw xn) (cw xn));Vc (PP m)/\Vc (PP (aL m (bd xn)))/\Vc True/\(decide Z3=ao->Vc (PP Z4)/\Vc (PP (aL Z4 (bo Z1)))/\(decide Z5=ao->Vc ((bj Z1)=bj Z1/\PP Z6)/\Vc ((bj Z7)=bj Z7/\PP (vV ax Z6 (bd xn) Z1))/\aY (G (bG (aP [dD (cC (bd Z7)),dD (cD (bd Z7))])) [dF 1 ti tg,oP (vW ax (vV ax Z6 (bd xn) Z1) (aO ri rg) Z7),aa (.inl (108,[dD ri,dD rg])),aa (.inl (136,(bj Z7))),aa (.inl (108,[dD (cC (bd Z7)),dD (cD (bd Z7))])),aa (.inl (136,(bj Z1))),aa (.inl (136,(bj Z2)))]))/\(decide Z5=an->Vc ((bj xn)=bj xn/\PP Z6)/\aY (G (bG (aP [dD (cC (bd xn)),dD (cD (bd xn))])) [dF 1 ti tg,oP (vW ax Z6 (aO ri rg) xn),aa (.inl (108,[dD ri,dD rg])),aa (.inl (136,(bj xn))),aa (.inl (108,[dD (cC (bd xn)),dD (cD (bd xn))])),aa (.inl (136,(bj Z1))),aa (.inl (136,(bj Z2)))])))/\(decide Z3=an->Vc True/\(decide Z8=ao->Vc (PP Z4)/\Vc (PP (aL Z4 (bd Z2)))/\(decide Z9=ao->Vc ((bj Z2)=bj Z2/\PP dJ)/\Vc ((bj cq)=bj cq/\PP (vW ax dJ (bo xn) Z2))/\aY (G (bG (aP [dD (cC (bo cq)),dD (cD (bo cq))])) [dF 1 ti tg,oP (vV ax (vW ax dJ (bo xn) Z2) (aO ri rg) cq),aa (.inl (108,[dD ri,dD rg])),aa (.inl (136,(bj cq))),aa (.inl (108,[dD (cC (bo cq)),dD (cD (bo cq))])),aa (.inl (136,(bj Z1))),aa (.inl (136,(bj Z2)))]))/\(decide Z9=an->Vc ((bj xn)=bj xn/\PP dJ)/\aY (G (bG (aP [dD (cC (bo xn)),dD (cD (bo xn))])) [dF 1 ti tg,oP (vV ax dJ (aO ri rg) xn),aa (.inl (108,[dD ri,dD rg])),aa (.inl (136,(bj xn))),aa (.inl (108,[dD (cC (bo xn)),dD (cD (bo xn))])),aa (.inl (136,(bj Z1))),aa (.inl (136,(bj Z2)))])))/\(decide Z8=an->Vc ((bj xn)=bj xn/\(bj Z1)=bj Z1/\(bj Z2)=bj Z2/\PP Z4)/\aY (G (bG (aP [dD ri,dD rg])) [dF 1 ti tg,oP (Ew ax Z4 (aO ri rg) xn Z1 Z2),aa (.inl (108,[dD ri,dD rg])),aa (.inl (136,(bj xn))),aa (.inl (108,[dD ri,dD rg])),aa (.inl (136,(bj Z1))),aa (.inl (136,(bj Z2)))])))) ?_ (by kernel_rfl)
  intro dD Z1 Z2 Z3 Z4 Z5 Z6 Z7 Z8 Z9 dJ cq;subst cq dJ Z9 Z8 Z7 Z6 Z5 Z4 Z3 Z2 Z1 dD;have done:∀ (i g:Int) (m':Pl) (rest:Hp Rs),gz ax m ⟨ri,rg⟩ xn=(⟨i,g⟩,m')->G (.agg ⟨[.int .i64 i,.int .i64 g]⟩) ([aa (.inl (110,[.pointer (aa ⟨1,0,aj⟩),.int .i64 ti,.int .i64 tg])),aa (.inr (.inr (.inr (.db m'))))]++rest):=by
   intro i g m' rest e;subst hG;refine⟨[0,1],?_,rfl,⟨.inl rfl,?_,trivial⟩,rfl,rfl,rfl,rfl⟩
   ·simp only[e];rfl
   ·simp only[e];rfl
  clear hG
  repeat' (first|apply cZ|apply Vc.mk|apply fits.mk|intro h|apply aY.mk)
  all_goals (try simp only[sB] at *)
  all_goals first|contradiction|omega|exact jF ‹_›|exact jH ‹_›|exact jG ‹_›|exact⟨rfl,by omega⟩|exact rfl|(simp[*,-au];done)|skip
  all_goals first|assumption|(simp only[jl];assumption)|skip
  all_goals (refine done _ _ _ _ ?_;unfold gz;(try dsimp only [nq]);repeat' split)
  all_goals first|rfl|(exfalso;omega)
 ·cases hx
def Bp  (k:Nat):Prim Rs:=fun args hh=>match args,hh with
 |[.pointer (aa ⟨0,0,aj⟩),.agg ⟨[.int .i64 ri,.int .i64 rg]⟩,.agg ⟨[.int .i64 fi,.int .i64 fg]⟩,.agg ⟨kE⟩],[aa (.inl (110,[.pointer (aa ⟨1,0,aj⟩),.int .i64 ti,.int .i64 tg])),aa (.inr (.inr (.inr (.db m))))]=>aa ⟨kE=dt (fY kE)/\(PP m/\jm ax k m ⟨ri,rg⟩),.agg ⟨[.int .i64 (nY ax k m ⟨ri,rg⟩ ⟨fi,fg⟩ (fY kE)).1.i,.int .i64 (nY ax k m ⟨ri,rg⟩ ⟨fi,fg⟩ (fY kE)).1.g]⟩,aj,[aa (.inl (110,[.pointer (aa ⟨1,0,aj⟩),.int .i64 ti,.int .i64 tg])),aa (.inr (.inr (.inr (.db (nY ax k m ⟨ri,rg⟩ ⟨fi,fg⟩ (fY kE)).2))))],[],[(0,0)]⟩
 |_,_=>aj
def Qz (k:Nat):eM Rs:=[(222,bJ zN 2 (a9 Jp)),(80,bJ zN 2 (a9 km)),(136,bJ zN 2 (a9 uy)),(99,bJ zN 2 (a9 (Bp k)))]
theorem yi:∀ k:Nat,b8 D Tryz.prog 99 (a9 (Bp k))
 |0=>by
  refine fx Tryz.f99 fun args hh x hx=>?_
  unfold Bp at hx;split at hx
  ·rename_i ri rg fi fg kE ti tg m;cases hx;refine q4 fun _ hv=>?_
   exact kV (iw (iw hv))
  ·cases hx
 |k+1=>by
  have ih:=yi k;refine fx Tryz.f99 fun args hh x hx=>?_
  unfold Bp at hx;split at hx
  ·rename_i ri rg fi fg kE ti tg m;cases hx;refine q4 fun _ hv=>?_
   obtain⟨j7,hv⟩:=hv;generalize fY kE=ke at *;subst j7;obtain⟨hp,hd⟩:=hv
   generalize hG:cj (R:=Rs) _ _=G;refine cK (T:=(Qz k)) (show cN D Tryz.prog (Qz k) from⟨aT _ _ ym,aT _ _ look_ok,aT _ _ sN,aT _ _ ih,trivial⟩) mixed 200 ?_
   refine bM (q:=let cq:=bk ar;let Z1:=(bu ax m (aO ri rg));let Z2:=(aL m (aO ri rg));let Z3:=(fH (b6 Z1) (ay (nY ax k Z2 (bd Z1) (aO fi fg) ke)) (bo Z1) (bw Z1) (cw Z1));let Z4:=(av (nY ax k Z2 (bd Z1) (aO fi fg) ke));let Z5:=(cC (ay (gz ax Z4 (aO ri rg) Z3)));let Z6:=(cD (ay (gz ax Z4 (aO ri rg) Z3)));let Z7:=(fH (b6 Z1) (bd Z1) (ay (nY ax k Z2 (bo Z1) (aO fi fg) ke)) (bw Z1) (cw Z1));let Z8:=(av (nY ax k Z2 (bo Z1) (aO fi fg) ke));let Z9:=(cC (ay (gz ax Z8 (aO ri rg) Z7)));let dJ:=(cD (ay (gz ax Z8 (aO ri rg) Z7)));Vc (PP m)/\((cw Z1==(0:Int))=ao->aY (G (bG (aP [cq fi,cq fg])) [dF 1 ti tg,oP Z2,aa (.inl (108,[cq ri,cq rg])),aa (.inl (108,[cq fi,cq fg])),aa (.inl (49,(dt ke))),aa (.inl (108,[cq fi,cq fg])),aa (.inl (136,(bj Z1)))]))/\((cw Z1==(0:Int))=an->Vc True/\Vc True/\(decide (hU ax ke (b6 Z1)<(0:Int))=ao->Vc ((dt ke)=dt ke/\PP Z2/\jm ax k Z2 (bd Z1))/\Vc ((bj Z3)=bj Z3/\PP Z4)/\aY (G (bG (aP [cq Z5,cq Z6])) [dF 1 ti tg,oP (av (gz ax Z4 (aO ri rg) Z3)),aa (.inl (108,[cq ri,cq rg])),aa (.inl (108,[cq fi,cq fg])),aa (.inl (49,(dt ke))),aa (.inl (108,[cq Z5,cq Z6])),aa (.inl (136,(bj Z3)))]))/\(decide (hU ax ke (b6 Z1)<(0:Int))=an->Vc ((dt ke)=dt ke/\PP Z2/\jm ax k Z2 (bo Z1))/\Vc ((bj Z7)=bj Z7/\PP Z8)/\aY (G (bG (aP [cq Z9,cq dJ])) [dF 1 ti tg,oP (av (gz ax Z8 (aO ri rg) Z7)),aa (.inl (108,[cq ri,cq rg])),aa (.inl (108,[cq fi,cq fg])),aa (.inl (49,(dt ke))),aa (.inl (108,[cq Z9,cq dJ])),aa (.inl (136,(bj Z7)))])))) ?_ (by kernel_rfl)
   intro cq Z1 Z2 Z3 Z4 Z5 Z6 Z7 Z8 Z9 dJ;subst dJ Z9 Z8 Z7 Z6 Z5 Z4 Z3 Z2 Z1 cq;simp only[jm] at hd;have done:∀ (i g:Int) (m':Pl) (rest:Hp Rs),nY ax (k+1) m ⟨ri,rg⟩ ⟨fi,fg⟩ ke=(⟨i,g⟩,m')->G (.agg ⟨[.int .i64 i,.int .i64 g]⟩) ([aa (.inl (110,[.pointer (aa ⟨1,0,aj⟩),.int .i64 ti,.int .i64 tg])),aa (.inr (.inr (.inr (.db m'))))]++rest):=by
    intro i g m' rest e;subst hG;refine⟨[0,1],?_,rfl,⟨.inl rfl,?_,trivial⟩,rfl,rfl,rfl,rfl⟩
    ·simp only[e];rfl
    ·simp only[e];rfl
   clear hG
   repeat' (first|apply cZ|apply Vc.mk|apply fits.mk|intro h|apply aY.mk)
   all_goals (try simp only[sB] at *)
   all_goals first|contradiction|omega|exact jF ‹_›|exact jH ‹_›|exact jG ‹_›|exact⟨rfl,by omega⟩|exact rfl|(simp[*,-au];done)|skip
   all_goals first|assumption|(simp only[jl];assumption)|skip
   all_goals first|(rw[qN];rcases hd with hd|hd;exfalso;omega;first|exact hd.1|exact hd.2)|skip
   all_goals (refine done _ _ _ _ ?_;rw[nY];(try dsimp only [nq]);repeat' split)
   all_goals first|rfl|(exfalso;omega)|contradiction|exact ks (rB (by assumption)) rfl|(exfalso;simp_all;done)
  ·cases hx
def sK  (k:Nat):Prim Rs:=fun args hh=>match args,hh with
 |[.pointer (aa ⟨0,0,aj⟩),.agg ⟨[.int .i64 ri,.int .i64 rg]⟩,.agg ⟨kE⟩],[aa (.inl (110,[.pointer (aa ⟨1,0,aj⟩),.int .i64 ti,.int .i64 tg])),aa (.inr (.inr (.inr (.db m))))]=>aa ⟨kE=dt (fY kE)/\(PP m/\jm ax k m ⟨ri,rg⟩),.bool (nZ ax k m ⟨ri,rg⟩ (fY kE)).1,aj,[aa (.inl (110,[.pointer (aa ⟨1,0,aj⟩),.int .i64 ti,.int .i64 tg])),aa (.inr (.inr (.inr (.db (nZ ax k m ⟨ri,rg⟩ (fY kE)).2))))],[],[(0,0)]⟩
 |_,_=>aj
def PG (k:Nat):eM Rs:=[(222,bJ zN 2 (a9 Jp)),(80,bJ zN 2 (a9 km)),(134,bJ zN 2 (a9 IX)),(96,bJ zN 2 (a9 (sK k)))]
theorem sj:∀ k:Nat,b8 D Tryz.prog 96 (a9 (sK k))
 |0=>by
  refine fx Tryz.f96 fun args hh x hx=>?_
  unfold sK at hx;split at hx
  ·rename_i ri rg kE ti tg m;cases hx;refine q4 fun _ hv=>?_
   exact kV (iw (iw hv))
  ·cases hx
 |k+1=>by
  have ih:=sj k;refine fx Tryz.f96 fun args hh x hx=>?_
  unfold sK at hx;split at hx
  ·rename_i ri rg kE ti tg m;cases hx;refine q4 fun _ hv=>?_
   obtain⟨j7,hv⟩:=hv;generalize fY kE=ke at *;subst j7;obtain⟨hp,hd⟩:=hv
   generalize hG:cj (R:=Rs) _ _=G;refine cK (T:=(PG k)) (show cN D Tryz.prog (PG k) from⟨aT _ _ ym,aT _ _ look_ok,aT _ _ AZ,aT _ _ ih,trivial⟩) mixed 200 ?_
   refine bM (q:=let Z6:=bk ar;let Z1:=(bu ax m (aO ri rg));let Z2:=(aL m (aO ri rg));let Z3:=(nZ ax k Z2 (bd Z1) ke);let Z4:=(nZ ax k Z2 (bo Z1) ke);let Z5:=(fH ke (bd Z1) (bo Z1) (bw Z1) (cw Z1));Vc (PP m)/\((cw Z1==(0:Int))=ao->aY (G (aE an) [dF 1 ti tg,oP Z2,aa (.inl (108,[Z6 ri,Z6 rg])),aa (.inl (49,(dt ke))),aa (.inl (136,(bj Z1)))]))/\((cw Z1==(0:Int))=an->Vc True/\Vc True/\(decide (hU ax ke (b6 Z1)<(0:Int))=ao->Vc ((dt ke)=dt ke/\PP Z2/\jm ax k Z2 (bd Z1))/\(ay Z3=ao->Vc ((bj Z1)=bj Z1/\PP (av Z3))/\aY (G (aE (ay Z3)) [dF 1 ti tg,oP (s8 ax (av Z3) (aO ri rg) Z1),aa (.inl (108,[Z6 ri,Z6 rg])),aa (.inl (49,(dt ke))),aa (.inl (136,(bj Z1)))]))/\(ay Z3=an->aY (G (aE (ay Z3)) [dF 1 ti tg,oP (av Z3),aa (.inl (108,[Z6 ri,Z6 rg])),aa (.inl (49,(dt ke))),aa (.inl (136,(bj Z1)))])))/\(decide (hU ax ke (b6 Z1)<(0:Int))=an->(decide (hU ax ke (b6 Z1)>(0:Int))=ao->Vc ((dt ke)=dt ke/\PP Z2/\jm ax k Z2 (bo Z1))/\(ay Z4=ao->Vc ((bj Z1)=bj Z1/\PP (av Z4))/\aY (G (aE (ay Z4)) [dF 1 ti tg,oP (s8 ax (av Z4) (aO ri rg) Z1),aa (.inl (108,[Z6 ri,Z6 rg])),aa (.inl (49,(dt ke))),aa (.inl (136,(bj Z1)))]))/\(ay Z4=an->aY (G (aE (ay Z4)) [dF 1 ti tg,oP (av Z4),aa (.inl (108,[Z6 ri,Z6 rg])),aa (.inl (49,(dt ke))),aa (.inl (136,(bj Z1)))])))/\(decide (hU ax ke (b6 Z1)>(0:Int))=an->Vc ((bj Z5)=bj Z5/\PP Z2)/\aY (G (aE ao) [dF 1 ti tg,oP (s8 ax Z2 (aO ri rg) Z5),aa (.inl (108,[Z6 ri,Z6 rg])),aa (.inl (49,(dt ke))),aa (.inl (136,(bj Z5)))]))))) ?_ (by kernel_rfl)
   intro Z6 Z1 Z2 Z3 Z4 Z5;subst Z5 Z4 Z3 Z2 Z1 Z6;simp only[jm] at hd;have done:∀ (b:Bool) (m':Pl) (rest:Hp Rs),nZ ax (k+1) m ⟨ri,rg⟩ ke=(b,m')->G (.bool b) ([aa (.inl (110,[.pointer (aa ⟨1,0,aj⟩),.int .i64 ti,.int .i64 tg])),aa (.inr (.inr (.inr (.db m'))))]++rest):=by
    intro b m' rest e;subst hG;refine⟨[0,1],?_,rfl,⟨.inl rfl,?_,trivial⟩,rfl,rfl,rfl,rfl⟩
    ·simp only[e];rfl
    ·simp only[e];rfl
   clear hG
   repeat' (first|apply cZ|apply Vc.mk|apply fits.mk|intro h|apply aY.mk)
   all_goals (try simp only[sB] at *)
   all_goals first|contradiction|omega|exact jF ‹_›|exact jH ‹_›|exact jG ‹_›|exact⟨rfl,by omega⟩|exact rfl|(simp[*,-au];done)|skip
   all_goals first|assumption|(simp only[jl];assumption)|skip
   all_goals first|(rw[qN];rcases hd with hd|hd;exfalso;omega;first|exact hd.1|exact hd.2)|skip
   all_goals (refine done _ _ _ ?_;rw[nZ];(try dsimp only [nq]);repeat' split)
   all_goals first|rfl|(exfalso;omega)|contradiction|exact ks (rB (by assumption)) rfl|(exfalso;simp_all;done)
  ·cases hx
def xD  (k:Nat):Prim Rs:=fun args hh=>match args,hh with
 |[.pointer (aa ⟨0,0,aj⟩),.agg ⟨[.int .i64 ri,.int .i64 rg]⟩],[aa (.inl (110,[.pointer (aa ⟨1,0,aj⟩),.int .i64 ti,.int .i64 tg])),aa (.inr (.inr (.inr (.db m))))]=>aa ⟨PP m/\xI ax k m ⟨ri,rg⟩,.tuple #[.agg ⟨[.int .i64 (kt ax k m ⟨ri,rg⟩).1.i,.int .i64 (kt ax k m ⟨ri,rg⟩).1.g]⟩,.agg ⟨[.int .i64 (kt ax k m ⟨ri,rg⟩).2.1.i,.int .i64 (kt ax k m ⟨ri,rg⟩).2.1.g]⟩],aj,[aa (.inl (110,[.pointer (aa ⟨1,0,aj⟩),.int .i64 ti,.int .i64 tg])),aa (.inr (.inr (.inr (.db (kt ax k m ⟨ri,rg⟩).2.2))))],[],[(0,0)]⟩
 |_,_=>aj
def Kt (k:Nat):eM Rs:=[(80,bJ zN 2 (a9 km)),(136,bJ zN 2 (a9 uy)),(163,bJ zN 2 (a9 (xD k)))]
theorem vy:∀ k:Nat,b8 D Tryz.prog 163 (a9 (xD k))
 |0=>by
  refine fx Tryz.f163 fun args hh x hx=>?_
  unfold xD at hx;split at hx
  ·rename_i ri rg ti tg m;cases hx;refine q4 fun _ hv=>?_
   exact kV (iw hv)
  ·cases hx
 |k+1=>by
  have ih:=vy k;refine fx Tryz.f163 fun args hh x hx=>?_
  unfold xD at hx;split at hx
  ·rename_i ri rg ti tg m;cases hx;refine q4 fun _ hv=>?_
   obtain⟨hp,hd⟩:=hv;generalize hG:cj (R:=Rs) _ _=G;refine cK (T:=(Kt k)) (show cN D Tryz.prog (Kt k) from⟨aT _ _ look_ok,aT _ _ sN,aT _ _ ih,trivial⟩) mixed 200 ?_
   refine bM (q:=let Z9:=bk ar;let Z1:=(bu ax m (aO ri rg));let Z2:=(if an=ao then !(cC (bd Z1)==(0:Int)&&(cD (bd Z1)==(0:Int)&&ao)) else cC (bd Z1)==(0:Int)&&(cD (bd Z1)==(0:Int)&&ao));let Z3:=(aL m (aO ri rg));let Z4:=(fH (b6 Z1) (ay (kt ax k Z3 (bd Z1))) (bo Z1) (bw Z1) (cw Z1));let Z5:=(av (av (kt ax k Z3 (bd Z1))));let Z6:=(cC (ay (gz ax Z5 (aO ri rg) Z4)));let Z7:=(cD (ay (gz ax Z5 (aO ri rg) Z4)));let Z8:=(ay (av (kt ax k Z3 (bd Z1))));Vc (PP m)/\(Z2=ao->aY (G (cr (aP [.agg (aP [Z9 (cC (bo Z1)),Z9 (cD (bo Z1))]),bG (aP [Z9 ri,Z9 rg])])) [dF 1 ti tg,oP Z3,aa (.inl (108,[Z9 ri,Z9 rg])),aa (.inl (108,[Z9 (cC (bo Z1)),Z9 (cD (bo Z1))])),aa (.inl (108,[Z9 ri,Z9 rg])),aa (.inl (136,(bj Z1)))]))/\(Z2=an->Vc (PP Z3/\xI ax k Z3 (bd Z1))/\Vc ((bj Z4)=bj Z4/\PP Z5)/\aY (G (cr (aP [.agg (aP [Z9 Z6,Z9 Z7]),bG (aP [Z9 (cC Z8),Z9 (cD Z8)])])) [dF 1 ti tg,oP (av (gz ax Z5 (aO ri rg) Z4)),aa (.inl (108,[Z9 ri,Z9 rg])),aa (.inl (108,[Z9 Z6,Z9 Z7])),aa (.inl (108,[Z9 (cC Z8),Z9 (cD Z8)])),aa (.inl (136,(bj Z4)))]))) ?_ (by kernel_rfl)
   intro Z9 Z1 Z2 Z3 Z4 Z5 Z6 Z7 Z8;subst Z8 Z7 Z6 Z5 Z4 Z3 Z2 Z1 Z9;simp only[xI] at hd;have done:∀ (i g i2 g2:Int) (m':Pl) (rest:Hp Rs),kt ax (k+1) m ⟨ri,rg⟩=(⟨i,g⟩,⟨i2,g2⟩,m')->G (.tuple #[.agg ⟨[.int .i64 i,.int .i64 g]⟩,.agg ⟨[.int .i64 i2,.int .i64 g2]⟩]) ([aa (.inl (110,[.pointer (aa ⟨1,0,aj⟩),.int .i64 ti,.int .i64 tg])),aa (.inr (.inr (.inr (.db m'))))]++rest):=by
    intro i g i2 g2 m' rest e;subst hG;refine⟨[0,1],?_,rfl,⟨.inl rfl,?_,trivial⟩,rfl,rfl,rfl,rfl⟩
    ·simp only[e];rfl
    ·simp only[e];rfl
   clear hG
   try simp only[Ln,BD]
   repeat' (first|apply cZ|apply Vc.mk|apply fits.mk|intro h|apply aY.mk)
   all_goals (try simp only[sB] at *)
   all_goals first|contradiction|omega|exact jF ‹_›|exact jH ‹_›|exact jG ‹_›|exact⟨rfl,by omega⟩|exact rfl|(simp[*,-au];done)|skip
   all_goals first|assumption|(simp only[jl];assumption)|skip
   all_goals first|(rw[DK];first|assumption|(rw[if_neg (by assumption),DK] at hd;exact hd))|skip
   all_goals (refine done _ _ _ _ _ _ ?_;rw[kt];(try dsimp only [nq]);repeat' split)
   all_goals first|rfl|(exfalso;omega)|contradiction|exact ks (rB (by assumption)) rfl|(exfalso;simp_all;done)
  ·cases hx
def Bh  (k:Nat):Prim Rs:=fun args hh=>match args,hh with
 |[.pointer (aa ⟨0,0,aj⟩),.agg ⟨[.int .i64 ai,.int .i64 ag]⟩,.agg ⟨[.int .i64 bi,.int .i64 bg]⟩,.agg ⟨[.int .i64 ci,.int .i64 cg]⟩],[aa (.inl (110,[.pointer (aa ⟨1,0,aj⟩),.int .i64 ti,.int .i64 tg])),aa (.inr (.inr (.inr (.db m))))]=>aa ⟨PP m/\vX ax k m ⟨ai,ag⟩ ⟨bi,bg⟩ ⟨ci,cg⟩,.agg ⟨[.int .i64 (kJ ax k m ⟨ai,ag⟩ ⟨bi,bg⟩ ⟨ci,cg⟩).1.i,.int .i64 (kJ ax k m ⟨ai,ag⟩ ⟨bi,bg⟩ ⟨ci,cg⟩).1.g]⟩,aj,[aa (.inl (110,[.pointer (aa ⟨1,0,aj⟩),.int .i64 ti,.int .i64 tg])),aa (.inr (.inr (.inr (.db (kJ ax k m ⟨ai,ag⟩ ⟨bi,bg⟩ ⟨ci,cg⟩).2))))],[],[(0,0)]⟩
 |_,_=>aj
def Pf (k:Nat):eM Rs:=[(1000000000,lW),(80,bJ zN 2 (a9 km)),(136,bJ zN 2 (a9 uy)),(155,bJ zN 2 (a9 Bg)),(164,bJ zN 2 (a9 (Bh k)))]
theorem yj:∀ k:Nat,b8 D Tryz.prog 164 (a9 (Bh k))
 |0=>by
  refine fx Tryz.f164 fun args hh x hx=>?_
  unfold Bh at hx;split at hx
  ·rename_i ai ag bi bg ci cg ti tg m;cases hx;refine q4 fun _ hv=>?_
   exact kV (iw hv)
  ·cases hx
 |k+1=>by
  have ih:=yj k;refine fx Tryz.f164 fun args hh x hx=>?_
  unfold Bh at hx;split at hx
  ·rename_i ai ag bi bg ci cg ti tg m;cases hx;refine q4 fun _ hv=>?_
   obtain⟨hp,hd⟩:=hv;generalize hG:cj (R:=Rs) _ _=G;refine cK (T:=(Pf k)) (show cN D Tryz.prog (Pf k) from⟨iF,aT _ _ look_ok,aT _ _ sN,aT _ _ yc,aT _ _ ih,trivial⟩) mixed 200 ?_
   refine bM (q:=let gm:=bk ar;let Z1:=(aO ai ag);let Z2:=(bu ax m Z1);let Z3:=(aO ci cg);let Z4:=(bu ax (aL m Z1) Z3);let Z5:=(cw Z2>ck ar (cw Z4+(1:Int)));let Z6:=(aL (aL m Z1) Z3);let Z7:=(aO bi bg);let Z8:=(fH (b6 Z2) (bd Z2) (ay (kJ ax k Z6 (bo Z2) Z7 Z3)) (bw Z2) (cw Z2));let Z9:=(gz ax (av (kJ ax k Z6 (bo Z2) Z7 Z3)) Z1 Z8);let dJ:=(cw Z4>ck ar (cw Z2+(1:Int)));let cq:=(fH (b6 Z4) (ay (kJ ax k Z6 Z1 Z7 (bd Z4))) (bo Z4) (bw Z4) (cw Z4));let dD:=(gz ax (av (kJ ax k Z6 Z1 Z7 (bd Z4))) Z3 cq);let fC:=(fH (b6 (bu ax Z6 Z7)) Z1 Z3 (bw (bu ax Z6 Z7)) (cw (bu ax Z6 Z7)));Vc (PP m)/\Vc (PP (aL m Z1))/\Vc True/\(decide Z5=ao->Vc (PP Z6/\vX ax k Z6 (bo Z2) Z7 Z3)/\Vc ((bj Z8)=bj Z8/\PP (av (kJ ax k Z6 (bo Z2) Z7 Z3)))/\aY (G (bG (aP [gm (cC (ay Z9)),gm (cD (ay Z9))])) [dF 1 ti tg,oP (av Z9),aa (.inl (108,[gm ai,gm ag])),aa (.inl (108,[gm bi,gm bg])),aa (.inl (108,[gm ci,gm cg])),aa (.inl (108,[gm (cC (ay Z9)),gm (cD (ay Z9))])),aa (.inl (136,(bj Z8))),aa (.inl (136,(bj Z4)))]))/\(decide Z5=an->Vc True/\(decide dJ=ao->Vc (PP Z6/\vX ax k Z6 Z1 Z7 (bd Z4))/\Vc ((bj cq)=bj cq/\PP (av (kJ ax k Z6 Z1 Z7 (bd Z4))))/\aY (G (bG (aP [gm (cC (ay dD)),gm (cD (ay dD))])) [dF 1 ti tg,oP (av dD),aa (.inl (108,[gm ai,gm ag])),aa (.inl (108,[gm bi,gm bg])),aa (.inl (108,[gm ci,gm cg])),aa (.inl (108,[gm (cC (ay dD)),gm (cD (ay dD))])),aa (.inl (136,(bj Z2))),aa (.inl (136,(bj cq)))]))/\(decide dJ=an->Vc (PP Z6)/\Vc ((bj fC)=bj fC/\(bj Z2)=bj Z2/\(bj Z4)=bj Z4/\PP (aL Z6 Z7))/\aY (G (bG (aP [gm bi,gm bg])) [dF 1 ti tg,oP (Ew ax (aL Z6 Z7) Z7 fC Z2 Z4),aa (.inl (108,[gm ai,gm ag])),aa (.inl (108,[gm bi,gm bg])),aa (.inl (108,[gm ci,gm cg])),aa (.inl (108,[gm bi,gm bg])),aa (.inl (136,(bj Z2))),aa (.inl (136,(bj Z4))),aa (.inl (136,(bj fC)))])))) ?_ (by kernel_rfl)
   intro gm Z1 Z2 Z3 Z4 Z5 Z6 Z7 Z8 Z9 dJ cq dD fC;subst fC dD cq dJ Z9 Z8 Z7 Z6 Z5 Z4 Z3 Z2 Z1 gm;rw[vX] at hd
   dsimp only [nq] at hd
   have done:∀ (i g:Int) (m':Pl) (rest:Hp Rs),kJ ax (k+1) m ⟨ai,ag⟩ ⟨bi,bg⟩ ⟨ci,cg⟩=(⟨i,g⟩,m')->G (.agg ⟨[.int .i64 i,.int .i64 g]⟩) ([aa (.inl (110,[.pointer (aa ⟨1,0,aj⟩),.int .i64 ti,.int .i64 tg])),aa (.inr (.inr (.inr (.db m'))))]++rest):=by
    intro i g m' rest e;subst hG;refine⟨[0,1],?_,rfl,⟨.inl rfl,?_,trivial⟩,rfl,rfl,rfl,rfl⟩
    ·simp only[e];rfl
    ·simp only[e];rfl
   clear hG
   repeat' (first|apply cZ|apply Vc.mk|apply fits.mk|intro h|apply aY.mk)
   all_goals (try simp only[sB] at *)
   all_goals first|contradiction|omega|exact jF ‹_›|exact jH ‹_›|exact jG ‹_›|exact⟨rfl,by omega⟩|exact rfl|(simp[*,-au];done)|skip
   all_goals first|assumption|(simp only[jl];assumption)|skip
   all_goals first|(rw[if_pos (by assumption)] at hd;exact hd)|(rw[if_neg (by omega),if_pos (by assumption)] at hd;exact hd)|skip
   all_goals (refine done _ _ _ _ ?_;rw[kJ];(try dsimp only [nq]);repeat' split)
   all_goals first|rfl|(exfalso;omega)|contradiction|exact ks (rB (by assumption)) rfl|(exfalso;simp_all;done)
  ·cases hx
def IF (K:Nat):Prim Rs:=fun args hh=>match args,hh with
 |[.pointer (aa ⟨0,0,aj⟩),.agg ⟨[.int .i64 ai,.int .i64 ag]⟩,.agg ⟨[.int .i64 ci,.int .i64 cg]⟩],[aa (.inl (110,[.pointer (aa ⟨1,0,aj⟩),.int .i64 ti,.int .i64 tg])),aa (.inr (.inr (.inr (.db m))))]=>aa ⟨PP m/\FX ax K m ⟨ai,ag⟩ ⟨ci,cg⟩,.agg ⟨[.int .i64 (sH ax K m ⟨ai,ag⟩ ⟨ci,cg⟩).1.i,.int .i64 (sH ax K m ⟨ai,ag⟩ ⟨ci,cg⟩).1.g]⟩,aj,[aa (.inl (110,[.pointer (aa ⟨1,0,aj⟩),.int .i64 ti,.int .i64 tg])),aa (.inr (.inr (.inr (.db (sH ax K m ⟨ai,ag⟩ ⟨ci,cg⟩).2))))],[],[(0,0)]⟩
 |_,_=>aj
def PN (K:Nat):eM Rs:=[(163,bJ zN 2 (a9 (xD K))),(164,bJ zN 2 (a9 (Bh K)))]
theorem HH (K:Nat):b8 D Tryz.prog 144 (a9 (IF K)):=by
 refine fx Tryz.f144 fun args hh x hx=>?_
 unfold IF at hx;split at hx
 ·rename_i ai ag ci cg ti tg m;cases hx;refine q4 fun _ hv=>?_
  obtain⟨hp,hd⟩:=hv;generalize hG:cj (R:=Rs) _ _=G;refine cK (T:=(PN K)) (show cN D Tryz.prog (PN K) from⟨aT _ _ (vy K),aT _ _ (yj K),trivial⟩) mixed 200 ?_
  refine bM (q:=let Z7:=bk ar;let Z1:=(if an=ao then !(ci==(0:Int)&&(cg==(0:Int)&&ao)) else ci==(0:Int)&&(cg==(0:Int)&&ao));let Z2:=(av (av (kt ax K m (aO ci cg))));let Z3:=(ay (av (kt ax K m (aO ci cg))));let Z4:=(ay (kt ax K m (aO ci cg)));let Z5:=(cC (ay (kJ ax K Z2 (aO ai ag) Z3 Z4)));let Z6:=(cD (ay (kJ ax K Z2 (aO ai ag) Z3 Z4)));(Z1=ao->aY (G (bG (aP [Z7 ai,Z7 ag])) [dF 1 ti tg,oP m,aa (.inl (108,[Z7 ai,Z7 ag])),aa (.inl (108,[Z7 ci,Z7 cg])),aa (.inl (108,[Z7 ai,Z7 ag]))]))/\(Z1=an->Vc (PP m/\xI ax K m (aO ci cg))/\Vc (PP Z2/\vX ax K Z2 (aO ai ag) Z3 Z4)/\aY (G (bG (aP [Z7 Z5,Z7 Z6])) [dF 1 ti tg,oP (av (kJ ax K Z2 (aO ai ag) Z3 Z4)),aa (.inl (108,[Z7 ai,Z7 ag])),aa (.inl (108,[Z7 ci,Z7 cg])),aa (.inl (108,[Z7 Z5,Z7 Z6])),aa (.inl (108,[Z7 (cC Z4),Z7 (cD Z4)])),aa (.inl (108,[Z7 (cC Z3),Z7 (cD Z3)]))]))) ?_ (by kernel_rfl)
  intro Z7 Z1 Z2 Z3 Z4 Z5 Z6;subst Z6 Z5 Z4 Z3 Z2 Z1 Z7;unfold FX at hd;have done:∀ (i g:Int) (m':Pl) (rest:Hp Rs),sH ax K m ⟨ai,ag⟩ ⟨ci,cg⟩=(⟨i,g⟩,m')->G (.agg ⟨[.int .i64 i,.int .i64 g]⟩) ([aa (.inl (110,[.pointer (aa ⟨1,0,aj⟩),.int .i64 ti,.int .i64 tg])),aa (.inr (.inr (.inr (.db m'))))]++rest):=by
   intro i g m' rest e;subst hG;refine⟨[0,1],?_,rfl,⟨.inl rfl,?_,trivial⟩,rfl,rfl,rfl,rfl⟩
   ·simp only[e];rfl
   ·simp only[e];rfl
  clear hG
  try simp only[Ln,BD]
  repeat' (first|apply cZ|apply Vc.mk|apply fits.mk|intro h|apply aY.mk)
  all_goals (try simp only[sB] at *)
  all_goals first|contradiction|omega|exact jF ‹_›|exact jH ‹_›|exact jG ‹_›|exact⟨rfl,by omega⟩|exact rfl|(simp[*,-au];done)|skip
  all_goals first|assumption|(simp only[jl];assumption)|skip
  all_goals first|(rw[if_neg (by assumption)] at hd;first|exact hd.1|exact hd.2)|skip
  all_goals (refine done _ _ _ _ ?_;unfold sH;(try dsimp only [nq]);repeat' split)
  all_goals first|rfl|(exfalso;omega)|contradiction|exact ks (rB (by assumption)) rfl|(exfalso;simp_all;done)
 ·cases hx
def A8 (K:Nat) (k:Nat):Prim Rs:=fun args hh=>match args,hh with
 |[.pointer (aa ⟨0,0,aj⟩),.agg ⟨[.int .i64 ri,.int .i64 rg]⟩,.agg ⟨kE⟩],[aa (.inl (110,[.pointer (aa ⟨1,0,aj⟩),.int .i64 ti,.int .i64 tg])),aa (.inr (.inr (.inr (.db m))))]=>aa ⟨kE=dt (fY kE)/\(PP m/\s9 ax K k m ⟨ri,rg⟩ (fY kE)),.tuple #[.agg ⟨[.int .i64 (jE ax K k m ⟨ri,rg⟩ (fY kE)).1.i,.int .i64 (jE ax K k m ⟨ri,rg⟩ (fY kE)).1.g]⟩,.agg ⟨[.int .i64 (jE ax K k m ⟨ri,rg⟩ (fY kE)).2.1.i,.int .i64 (jE ax K k m ⟨ri,rg⟩ (fY kE)).2.1.g]⟩],aj,[aa (.inl (110,[.pointer (aa ⟨1,0,aj⟩),.int .i64 ti,.int .i64 tg])),aa (.inr (.inr (.inr (.db (jE ax K k m ⟨ri,rg⟩ (fY kE)).2.2))))],[],[(0,0)]⟩
 |_,_=>aj
def PW (K:Nat) (k:Nat):eM Rs:=[(222,bJ zN 2 (a9 Jp)),(80,bJ zN 2 (a9 km)),(136,bJ zN 2 (a9 uy)),(144,bJ zN 2 (a9 (IF K))),(113,bJ zN 2 (a9 (A8 K k)))]
theorem yh (K:Nat):∀ k:Nat,b8 D Tryz.prog 113 (a9 (A8 K k))
 |0=>by
  refine fx Tryz.f113 fun args hh x hx=>?_
  unfold A8 at hx;split at hx
  ·rename_i ri rg kE ti tg m;cases hx;refine q4 fun _ hv=>?_
   exact kV (iw (iw hv))
  ·cases hx
 |k+1=>by
  have ih:=yh K k;refine fx Tryz.f113 fun args hh x hx=>?_
  unfold A8 at hx;split at hx
  ·rename_i ri rg kE ti tg m;cases hx;refine q4 fun _ hv=>?_
   obtain⟨j7,hv⟩:=hv;generalize fY kE=ke at *;subst j7;obtain⟨hp,hd⟩:=hv
   generalize hG:cj (R:=Rs) _ _=G;refine cK (T:=(PW K k)) (show cN D Tryz.prog (PW K k) from⟨aT _ _ ym,aT _ _ look_ok,aT _ _ sN,aT _ _ (HH K),aT _ _ ih,trivial⟩) mixed 200 ?_
   refine bM (q:=let e8:=bk ar;let Z1:=(bu ax m (aO ri rg));let Z2:=(aP [e8 ri,e8 rg]);let Z3:=(aL m (aO ri rg));let Z4:=(ay (av (jE ax K k Z3 (bd Z1) ke)));let Z5:=(if an=ao then !(cC Z4==(0:Int)&&(cD Z4==(0:Int)&&ao)) else cC Z4==(0:Int)&&(cD Z4==(0:Int)&&ao));let Z6:=(av (av (jE ax K k Z3 (bd Z1) ke)));let Z7:=(fH (b6 Z1) (ay (jE ax K k Z3 (bd Z1) ke)) (bo Z1) (bw Z1) (cw Z1));let Z8:=(cC (ay (gz ax Z6 (aO ri rg) Z7)));let Z9:=(cD (ay (gz ax Z6 (aO ri rg) Z7)));let dJ:=(ay (av (jE ax K k Z3 (bo Z1) ke)));let cq:=(if an=ao then !(cC dJ==(0:Int)&&(cD dJ==(0:Int)&&ao)) else cC dJ==(0:Int)&&(cD dJ==(0:Int)&&ao));let dD:=(av (av (jE ax K k Z3 (bo Z1) ke)));let fC:=(fH (b6 Z1) (bd Z1) (ay (jE ax K k Z3 (bo Z1) ke)) (bw Z1) (cw Z1));let gm:=(cC (ay (gz ax dD (aO ri rg) fC)));let me:=(cD (ay (gz ax dD (aO ri rg) fC)));let iI:=(ay (sH ax K Z3 (bd Z1) (bo Z1)));Vc (PP m)/\((cw Z1==(0:Int))=ao->aY (G (cr (aP [.agg Z2,bG (aP [e8 0,e8 0])])) [dF 1 ti tg,oP Z3,aa (.inl (108,[e8 ri,e8 rg])),aa (.inl (49,(dt ke))),aa (.inl (108,[e8 ri,e8 rg])),aa (.inl (108,[e8 0,e8 0])),aa (.inl (136,(bj Z1)))]))/\((cw Z1==(0:Int))=an->Vc True/\Vc True/\(decide (hU ax ke (b6 Z1)<(0:Int))=ao->Vc ((dt ke)=dt ke/\PP Z3/\s9 ax K k Z3 (bd Z1) ke)/\(Z5=ao->aY (G (cr (aP [.agg Z2,bG (aP [e8 (cC Z4),e8 (cD Z4)])])) [dF 1 ti tg,oP Z6,aa (.inl (108,[e8 ri,e8 rg])),aa (.inl (49,(dt ke))),aa (.inl (108,[e8 ri,e8 rg])),aa (.inl (108,[e8 (cC Z4),e8 (cD Z4)])),aa (.inl (136,(bj Z7)))]))/\(Z5=an->Vc ((bj Z7)=bj Z7/\PP Z6)/\aY (G (cr (aP [.agg (aP [e8 Z8,e8 Z9]),bG (aP [e8 (cC Z4),e8 (cD Z4)])])) [dF 1 ti tg,oP (av (gz ax Z6 (aO ri rg) Z7)),aa (.inl (108,[e8 ri,e8 rg])),aa (.inl (49,(dt ke))),aa (.inl (108,[e8 Z8,e8 Z9])),aa (.inl (108,[e8 (cC Z4),e8 (cD Z4)])),aa (.inl (136,(bj Z7)))])))/\(decide (hU ax ke (b6 Z1)<(0:Int))=an->(decide (hU ax ke (b6 Z1)>(0:Int))=ao->Vc ((dt ke)=dt ke/\PP Z3/\s9 ax K k Z3 (bo Z1) ke)/\(cq=ao->aY (G (cr (aP [.agg Z2,bG (aP [e8 (cC dJ),e8 (cD dJ)])])) [dF 1 ti tg,oP dD,aa (.inl (108,[e8 ri,e8 rg])),aa (.inl (49,(dt ke))),aa (.inl (108,[e8 ri,e8 rg])),aa (.inl (108,[e8 (cC dJ),e8 (cD dJ)])),aa (.inl (136,(bj fC)))]))/\(cq=an->Vc ((bj fC)=bj fC/\PP dD)/\aY (G (cr (aP [.agg (aP [e8 gm,e8 me]),bG (aP [e8 (cC dJ),e8 (cD dJ)])])) [dF 1 ti tg,oP (av (gz ax dD (aO ri rg) fC)),aa (.inl (108,[e8 ri,e8 rg])),aa (.inl (49,(dt ke))),aa (.inl (108,[e8 gm,e8 me])),aa (.inl (108,[e8 (cC dJ),e8 (cD dJ)])),aa (.inl (136,(bj fC)))])))/\(decide (hU ax ke (b6 Z1)>(0:Int))=an->Vc (PP Z3/\FX ax K Z3 (bd Z1) (bo Z1))/\aY (G (cr (aP [.agg (aP [e8 (cC iI),e8 (cD iI)]),bG Z2])) [dF 1 ti tg,oP (av (sH ax K Z3 (bd Z1) (bo Z1))),aa (.inl (108,[e8 ri,e8 rg])),aa (.inl (49,(dt ke))),aa (.inl (108,[e8 (cC iI),e8 (cD iI)])),aa (.inl (108,[e8 ri,e8 rg])),aa (.inl (136,(bj Z1)))]))))) ?_ (by kernel_rfl)
   intro e8 Z1 Z2 Z3 Z4 Z5 Z6 Z7 Z8 Z9 dJ cq dD fC gm me iI;subst iI me gm fC dD cq dJ Z9 Z8 Z7 Z6 Z5 Z4 Z3 Z2 Z1 e8;rw[s9] at hd;have done:∀ (i g i2 g2:Int) (m':Pl) (rest:Hp Rs),jE ax K (k+1) m ⟨ri,rg⟩ ke=(⟨i,g⟩,⟨i2,g2⟩,m')->G (.tuple #[.agg ⟨[.int .i64 i,.int .i64 g]⟩,.agg ⟨[.int .i64 i2,.int .i64 g2]⟩]) ([aa (.inl (110,[.pointer (aa ⟨1,0,aj⟩),.int .i64 ti,.int .i64 tg])),aa (.inr (.inr (.inr (.db m'))))]++rest):=by
    intro i g i2 g2 m' rest e;subst hG;refine⟨[0,1],?_,rfl,⟨.inl rfl,?_,trivial⟩,rfl,rfl,rfl,rfl⟩
    ·simp only[e];rfl
    ·simp only[e];rfl
   clear hG
   try simp only[Ln,BD]
   repeat' (first|apply cZ|apply Vc.mk|apply fits.mk|intro h|apply aY.mk)
   all_goals (try simp only[sB] at *)
   all_goals first|contradiction|omega|exact jF ‹_›|exact jH ‹_›|exact jG ‹_›|exact⟨rfl,by omega⟩|exact rfl|(simp[*,-au];done)|skip
   all_goals first|assumption|(simp only[jl];assumption)|skip
   all_goals first|(rw[if_neg (by assumption),if_pos (by assumption)] at hd;exact hd)|(rw[if_neg (by assumption),if_neg (by omega),if_pos (by assumption)] at hd;exact hd)|(rw[if_neg (by assumption),if_neg (by omega),if_neg (by omega)] at hd;exact hd)|skip
   all_goals (refine done _ _ _ _ _ _ ?_;rw[jE];(try dsimp only [nq]);repeat' split)
   all_goals first|rfl|(exfalso;omega)|contradiction|exact ks (rB (by assumption)) rfl|(exfalso;simp_all;done)
  ·cases hx
def u7  (k:Nat):Prim Rs:=fun args hh=>match args,hh with
 |[.pointer (aa ⟨0,0,aj⟩),.slice (aa ⟨1,0,aa 8000⟩) n cp,.agg ⟨[.int .i64 ri,.int .i64 rg]⟩],[aa (.inl (110,[.pointer (aa ⟨2,0,aj⟩),.int .i64 ti,.int .i64 tg])),aa (.inr (.inl (49,⟨[.int .i64 0,.bool an,.int .i64 0,.int .i64 0,.bool an,.bool an,.int .i64 0,.int .i64 0],n2,[⟨a0,[],[]⟩,⟨[],a1,[]⟩,⟨a2,[],[]⟩,⟨a3,[],[]⟩,⟨[],a4,[]⟩,⟨[],a5,[]⟩,⟨a6,[],[]⟩,⟨a7,[],[]⟩]⟩))),aa (.inr (.inr (.inr (.db m))))]=>aa ⟨(PP m/\n2=n/\a0.length=n/\a1.length=n/\a2.length=n/\a3.length=n/\a4.length=n/\a5.length=n/\a6.length=n/\a7.length=n/\n+(b5 ax k m ⟨ri,rg⟩).1.length<900000)/\jm ax k m ⟨ri,rg⟩,.slice (aa ⟨3,0,aa 8000⟩) (n+(b5 ax k m ⟨ri,rg⟩).1.length) (if(b5 ax k m ⟨ri,rg⟩).1.length=0 then cp else 0),aj,[aa (.inl (110,[.pointer (aa ⟨2,0,aj⟩),.int .i64 ti,.int .i64 tg])),aj,aa (.inr (.inr (.inr (.db (b5 ax k m ⟨ri,rg⟩).2)))),aa (.inr (.inl (49,⟨[.int .i64 0,.bool an,.int .i64 0,.int .i64 0,.bool an,.bool an,.int .i64 0,.int .i64 0],(n+(b5 ax k m ⟨ri,rg⟩).1.length),[⟨(a0++(b5 ax k m ⟨ri,rg⟩).1.map fun e=>e.t),[],[]⟩,⟨[],(a1++(b5 ax k m ⟨ri,rg⟩).1.map fun e=>e.ins),[]⟩,⟨(a2++(b5 ax k m ⟨ri,rg⟩).1.map fun e=>e.it.k),[],[]⟩,⟨(a3++(b5 ax k m ⟨ri,rg⟩).1.map fun e=>e.it.i),[],[]⟩,⟨[],(a4++(b5 ax k m ⟨ri,rg⟩).1.map fun e=>e.here),[]⟩,⟨[],(a5++(b5 ax k m ⟨ri,rg⟩).1.map fun e=>e.tf),[]⟩,⟨(a6++(b5 ax k m ⟨ri,rg⟩).1.map fun e=>e.tk.k),[],[]⟩,⟨(a7++(b5 ax k m ⟨ri,rg⟩).1.map fun e=>e.tk.i),[],[]⟩]⟩)))],[],[(0,0)]⟩
 |_,_=>aj
def HD (k:Nat):eM Rs:=[(80,bJ zN 2 (a9 km)),(60,bJ zN 2 (a9 (u7 k)))]
theorem qV:∀ k:Nat,b8 D Tryz.prog 60 (a9 (u7 k))
 |0=>by
  refine fx Tryz.f60 fun args hh x hx=>?_
  unfold u7 at hx;split at hx
  ·rename_i n cp ri rg ti tg n2 a0 a1 a2 a3 a4 a5 a6 a7 m;cases hx;refine q4 fun _ hv=>?_
   exact kV (iw hv)
  ·cases hx
 |k+1=>by
  have ih:=qV k;refine fx Tryz.f60 fun args hh x hx=>?_
  unfold u7 at hx;split at hx
  ·rename_i n cp ri rg ti tg n2 a0 a1 a2 a3 a4 a5 a6 a7 m;cases hx;refine q4 fun _ hv=>?_
   obtain⟨⟨hp,rfl,ha0,ha1,ha2,ha3,ha4,ha5,ha6,ha7,hb⟩,hd⟩:=hv;generalize hG:cj (R:=Rs) _ _=G;refine cK (T:=(HD k)) (show cN D Tryz.prog (HD k) from⟨aT _ _ look_ok,aT _ _ ih,trivial⟩) mixed 200 ?_
   refine bM (q:=let Z1:=(bu ax m (aO ri rg));let Z2:=(dt (FY 0 an (cX 0 0) an an (cX 0 0)));let Z3:=(aL m (aO ri rg));let Z4:=(ay (b5 ax k Z3 (bd Z1)));let Z5:=(n2+ae Z4);let Z6:=(av (b5 ax k Z3 (bd Z1)));let Z7:=(b6 Z1);let Z8:=(ay (b5 ax k Z6 (bo Z1)));Vc (PP m)/\((cw Z1==(0:Int))=ao->aY (G (br (aa ⟨1,0,aa 8000⟩) n2 cp) [dF 2 ti tg,aa (.inr (.inl (49,Row.mk Z2 n2 [aW.mk a0 [] [],aW.mk [] a1 [],aW.mk a2 [] [],aW.mk a3 [] [],aW.mk [] a4 [],aW.mk [] a5 [],aW.mk a6 [] [],aW.mk a7 [] []]))),oP Z3,aa (.inl (108,[.int ar ri,.int ar rg])),aa (.inr (.inl (49,Row.mk Z2 0 [aW.mk [] [] [],aW.mk [] [] [],aW.mk [] [] [],aW.mk [] [] [],aW.mk [] [] [],aW.mk [] [] [],aW.mk [] [] [],aW.mk [] [] []]))),aa (.inl (136,(bj Z1)))]))/\((cw Z1==(0:Int))=an->Vc ((PP Z3/\n2=n2/\ae a0=n2/\ae a1=n2/\ae a2=n2/\ae a3=n2/\ae a4=n2/\ae a5=n2/\ae a6=n2/\ae a7=n2/\n2+ae Z4<900000)/\jm ax k Z3 (bd Z1))/\Vc (0+Z5≤n2+ae Z4/\1≤1/\(n2+ae Z4+1)*64≤140737488355328/\n2+ae Z4+1≤140737488355328)/\Vc ((PP Z6/\n2+ae Z4+1=n2+ae Z4+1/\ae (cut (a0++aw (fun e=>Ex e) Z4) 0 Z5++cut [Ex Z7] 0 1)=n2+ae Z4+1/\ae (cut (a1++aw (fun e=>Ax e) Z4) 0 Z5++cut [Ax Z7] 0 1)=n2+ae Z4+1/\ae (cut (a2++aw (fun e=>nv (qw e)) Z4) 0 Z5++cut [nv (qw Z7)] 0 1)=n2+ae Z4+1/\ae (cut (a3++aw (fun e=>nw (qw e)) Z4) 0 Z5++cut [nw (qw Z7)] 0 1)=n2+ae Z4+1/\ae (cut (a4++aw (fun e=>yo e) Z4) 0 Z5++cut [yo Z7] 0 1)=n2+ae Z4+1/\ae (cut (a5++aw (fun e=>Cz e) Z4) 0 Z5++cut [Cz Z7] 0 1)=n2+ae Z4+1/\ae (cut (a6++aw (fun e=>nv (qx e)) Z4) 0 Z5++cut [nv (qx Z7)] 0 1)=n2+ae Z4+1/\ae (cut (a7++aw (fun e=>nw (qx e)) Z4) 0 Z5++cut [nw (qx Z7)] 0 1)=n2+ae Z4+1/\n2+ae Z4+1+ae Z8<900000)/\jm ax k Z6 (bo Z1))/\aY (G (br (aa ⟨9,0,aa 8000⟩) (n2+ae Z4+1+ae Z8) (if ae Z8=0 then 0 else 0)) [dF 2 ti tg,aj,oP (av (b5 ax k Z6 (bo Z1))),aa (.inl (108,[.int ar ri,.int ar rg])),aa (.inr (.inl (49,Row.mk Z2 0 [aW.mk [] [] [],aW.mk [] [] [],aW.mk [] [] [],aW.mk [] [] [],aW.mk [] [] [],aW.mk [] [] [],aW.mk [] [] [],aW.mk [] [] []]))),aa (.inl (136,(bj Z1))),aj,aa (.inr (.inl (49,Row.mk Z2 1 [aW.mk [Ex Z7] [] [],aW.mk [] [Ax Z7] [],aW.mk [nv (qw Z7)] [] [],aW.mk [nw (qw Z7)] [] [],aW.mk [] [yo Z7] [],aW.mk [] [Cz Z7] [],aW.mk [nv (qx Z7)] [] [],aW.mk [nw (qx Z7)] [] []]))),aj,aa (.inr (.inl (49,Row.mk Z2 (n2+ae Z4+1+ae Z8) [aW.mk (cut (a0++aw (fun e=>Ex e) Z4) 0 Z5++cut [Ex Z7] 0 1++aw (fun e=>Ex e) Z8) [] [],aW.mk [] (cut (a1++aw (fun e=>Ax e) Z4) 0 Z5++cut [Ax Z7] 0 1++aw (fun e=>Ax e) Z8) [],aW.mk (cut (a2++aw (fun e=>nv (qw e)) Z4) 0 Z5++cut [nv (qw Z7)] 0 1++aw (fun e=>nv (qw e)) Z8) [] [],aW.mk (cut (a3++aw (fun e=>nw (qw e)) Z4) 0 Z5++cut [nw (qw Z7)] 0 1++aw (fun e=>nw (qw e)) Z8) [] [],aW.mk [] (cut (a4++aw (fun e=>yo e) Z4) 0 Z5++cut [yo Z7] 0 1++aw (fun e=>yo e) Z8) [],aW.mk [] (cut (a5++aw (fun e=>Cz e) Z4) 0 Z5++cut [Cz Z7] 0 1++aw (fun e=>Cz e) Z8) [],aW.mk (cut (a6++aw (fun e=>nv (qx e)) Z4) 0 Z5++cut [nv (qx Z7)] 0 1++aw (fun e=>nv (qx e)) Z8) [] [],aW.mk (cut (a7++aw (fun e=>nw (qx e)) Z4) 0 Z5++cut [nw (qx Z7)] 0 1++aw (fun e=>nw (qx e)) Z8) [] []])))]))) ?_ (by kernel_rfl)
   intro Z1 Z2 Z3 Z4 Z5 Z6 Z7 Z8;subst Z8 Z7 Z6 Z5 Z4 Z3 Z2 Z1;simp only[jm] at hd;subst hG;have c1:∀ x:Int,cut [x] 0 1=[x]:=fun x=>rfl
   have c2:∀ x:Bool,cut [x] 0 1=[x]:=fun x=>rfl
   have e0:(bu ax m (⟨ri,rg⟩:bn)).h=0->b5 ax (k+1) m (⟨ri,rg⟩:bn)=([],aL m (⟨ri,rg⟩:bn)):=fun h=>by rw[b5,if_pos h]
   have e1:(bu ax m (⟨ri,rg⟩:bn)).h≠0->b5 ax (k+1) m (⟨ri,rg⟩:bn)=((b5 ax k (aL m (⟨ri,rg⟩:bn)) (bu ax m (⟨ri,rg⟩:bn)).l).1++(bu ax m (⟨ri,rg⟩:bn)).e::(b5 ax k (b5 ax k (aL m (⟨ri,rg⟩:bn)) (bu ax m (⟨ri,rg⟩:bn)).l).2 (bu ax m (⟨ri,rg⟩:bn)).r).1,(b5 ax k (b5 ax k (aL m (⟨ri,rg⟩:bn)) (bu ax m (⟨ri,rg⟩:bn)).l).2 (bu ax m (⟨ri,rg⟩:bn)).r).2):=fun h=>by rw[b5,if_neg h]
   have Mx:(bu ax m (⟨ri,rg⟩:bn)).h≠0->n2+((b5 ax k (aL m (⟨ri,rg⟩:bn)) (bu ax m (⟨ri,rg⟩:bn)).l).1.length+((b5 ax k (b5 ax k (aL m (⟨ri,rg⟩:bn)) (bu ax m (⟨ri,rg⟩:bn)).l).2 (bu ax m (⟨ri,rg⟩:bn)).r).1.length+1))<900000:=fun h=>by rw[e1 h] at hb;simpa using hb
   generalize hx:b5 ax k (aL m (⟨ri,rg⟩:bn)) (bu ax m (⟨ri,rg⟩:bn)).l=x at *
   generalize hy:b5 ax k x.2 (bu ax m (⟨ri,rg⟩:bn)).r=y at *
   have hxp:PP x.2:=by rw[← hx];exact Gv.qV.2 (jn.2 hp)
   have xj:∀ q,jm ax k x.2 q↔jm ax k m q:=fun q=>by rw[← hx,Gv.Mv,qN]
   simp only[fK (show(a0++x.1.map fun e=>e.t).length=n2+x.1.length by simp[ha0]),fK (show(a1++x.1.map fun e=>e.ins).length=n2+x.1.length by simp[ha1]),fK (show(a2++x.1.map fun e=>e.it.k).length=n2+x.1.length by simp[ha2]),fK (show(a3++x.1.map fun e=>e.it.i).length=n2+x.1.length by simp[ha3]),fK (show(a4++x.1.map fun e=>e.here).length=n2+x.1.length by simp[ha4]),fK (show(a5++x.1.map fun e=>e.tf).length=n2+x.1.length by simp[ha5]),fK (show(a6++x.1.map fun e=>e.tk.k).length=n2+x.1.length by simp[ha6]),fK (show(a7++x.1.map fun e=>e.tk.i).length=n2+x.1.length by simp[ha7]),c1,c2,qN,xj]
   repeat' (first|apply cZ|apply Vc.mk|apply fits.mk|intro h|apply aY.mk)
   all_goals (try simp only[sB] at *)
   all_goals first|contradiction|omega|exact jF ‹_›|exact jH ‹_›|exact jG ‹_›|exact⟨rfl,by omega⟩|exact rfl|(simp[*,-au];done)|skip
   all_goals first|omega|assumption|exact jn.2 hp|(rcases hd with hd|hd;exfalso;omega;first|exact hd.1|exact hd.2)|(have:=Mx (by assumption);omega)|(simp;omega)|skip
   ·have h0:(bu ax m (⟨ri,rg⟩:bn)).h=0:=by assumption
    rw[e0 h0];simp only[List.length_nil,if_true];refine⟨[0,1,2,1],?_,rfl,?_,rfl,rfl,rfl,(by kernel_rfl)⟩
    ·rfl
    ·simp[dt,ur,Bc,nth,gg,w6,pQ,ma,gr,wj,uN,Cj,z5,Gk,zq,Bk]
   ·have h0:(bu ax m (⟨ri,rg⟩:bn)).h≠0:=by assumption
    rw[e1 h0];have e2:n2+(x.1++(bu ax m (⟨ri,rg⟩:bn)).e::y.1).length=n2+x.1.length+1+y.1.length:=by simp;omega
    have e3:(x.1++(bu ax m (⟨ri,rg⟩:bn)).e::y.1).length≠0:=by simp
    simp only[e2,if_neg e3,ite_self];refine⟨[0,1,2,9],?_,rfl,?_,rfl,rfl,rfl,(by kernel_rfl)⟩
    ·rfl
    ·simp[dt,ur,Bc,nth,gg,w6,pQ,ma,gr,wj,uN,Cj,z5,Gk,zq,Bk]
     all_goals first|rfl|omega|skip
  ·cases hx
set_option maxHeartbeats 16000000
def Vw  (k:Nat):Prim Rs:=fun args hh=>match args,hh with
 |[.pointer (aa ⟨0,0,aj⟩),.agg ⟨xN⟩,.int .i64 x_,.int .i64 y_],[aa (.inl (110,[.pointer (aa ⟨1,0,aj⟩),.int .i64 ti,.int .i64 tg])),aa (.inr (.inr (.inr (.db m))))]=>aa ⟨xN=bj (gh xN)/\(PP m/\vh ax k m (gh xN) x_ y_),.agg ⟨bZ (g9 ax k m (gh xN) x_ y_).1⟩,aj,[aa (.inl (110,[.pointer (aa ⟨1,0,aj⟩),.int .i64 ti,.int .i64 tg])),aa (.inr (.inr (.inr (.db (g9 ax k m (gh xN) x_ y_).2))))],[],[(0,0)]⟩
 |_,_=>aj
def ajR (k:Nat):eM Rs:=[(1000000000,lW),(80,bJ zN 2 (a9 km)),(98,bJ zN 2 (a9 AV)),(148,bJ zN 2 (a9 ef)),(119,bJ zN 2 (a9 (Vw k)))]
theorem aaV:∀ k:Nat,b8 D Tryz.prog 119 (a9 (Vw k))
 |0=>by
  refine fx Tryz.f119 fun args hh x hx=>?_
  unfold Vw at hx;split at hx
  ·rename_i xN x_ y_ ti tg m;cases hx;refine q4 fun _ hv=>?_
   exact kV (iw (iw hv))
  ·cases hx
 |k+1=>by
  have ih:=aaV k;refine fx Tryz.f119 fun args hh x hx=>?_
  unfold Vw at hx;split at hx
  ·rename_i xN x_ y_ ti tg m;cases hx;refine q4 fun _ hv=>?_
   obtain⟨j7,hv⟩:=hv;generalize gh xN=xn at *;subst j7;obtain⟨hp,hd⟩:=hv
   generalize hG:cj (R:=Rs) _ _=G;refine cK (T:=(ajR k)) (show cN D Tryz.prog (ajR k) from⟨iF,aT _ _ look_ok,aT _ _ yI,aT _ _ uX,aT _ _ ih,trivial⟩) mixed 200 ?_
   refine bM (q:=let Z1:=(if(0:Int)>x_ then(0:Int) else x_);let Z2:=(bw xn);let Z3:=(bZ (mJ 0 (xJ (ja 0 0 0) (ja 0 0 0) 0 0 (cX 0 0) an (cX 0 0) an (cX 0 0))));let Z4:=(if bP Z2<y_ then bP Z2 else y_);let Z5:=(bu ax m (bd xn));let Z6:=(bP (bw Z5)<if bP Z2<y_ then bP Z2 else y_);let Z7:=(ay (g9 ax k (aL m (bd xn)) Z5 Z1 Z4));let Z8:=(eK ax Z7 (n7 ax (b6 xn)));let Z9:=(av (g9 ax k (aL m (bd xn)) Z5 Z1 Z4));let dJ:=(bu ax Z9 (bo xn));let cq:=(ck ar (ck ar (Z1-bP (bw Z5))-(1:Int)));let dD:=(ck ar (ck ar (Z4-bP (bw Z5))-(1:Int)));let fC:=(g9 ax k (aL Z9 (bo xn)) dJ cq dD);(decide (Z1≥if bP Z2<y_ then bP Z2 else y_)=ao->aY (G (bG (aP Z3)) [dF 1 ti tg,oP m,aa (.inl (136,(bj xn))),aa (.inl (134,Z3))]))/\(decide (Z1≥if bP Z2<y_ then bP Z2 else y_)=an->((Z1==(0:Int))=ao->((Z4==bP Z2)=ao->aY (G (bG (aP (bZ Z2))) [dF 1 ti tg,oP m,aa (.inl (136,(bj xn))),aa (.inl (134,(bZ Z2)))]))/\((Z4==bP Z2)=an->Vc (PP m)/\Vc ((bj Z5)=bj Z5/\PP (aL m (bd xn))/\vh ax k (aL m (bd xn)) Z5 Z1 Z4)/\(decide (Z1≤bP (bw Z5))=ao->(decide Z6=ao->Vc ((dt (b6 xn))=dt (b6 xn)/\True)/\Vc ((bZ Z7)=bZ Z7/\(bZ (n7 ax (b6 xn)))=bZ (n7 ax (b6 xn))/\True)/\Vc True/\(decide (Z4≤ck ar (bP (bw Z5)+(1:Int)))=ao->aY (G (bG (aP (bZ Z8))) [dF 1 ti tg,oP Z9,aa (.inl (136,(bj xn))),aa (.inl (134,(bZ Z8))),aa (.inl (136,(bj Z5))),aa (.inl (134,(bZ Z8)))]))/\(decide (Z4≤ck ar (bP (bw Z5)+(1:Int)))=an->Vc (PP Z9)/\Vc True/\Vc True/\Vc True/\Vc True/\Vc ((bj dJ)=bj dJ/\PP (aL Z9 (bo xn))/\vh ax k (aL Z9 (bo xn)) dJ cq dD)/\Vc ((bZ Z8)=bZ Z8/\(bZ (ay fC))=bZ (ay fC)/\True)/\aY (G (bG (aP (bZ (eK ax Z8 (ay fC))))) [dF 1 ti tg,oP (av fC),aa (.inl (136,(bj xn))),aa (.inl (134,(bZ (eK ax Z8 (ay fC))))),aa (.inl (136,(bj Z5))),aa (.inl (134,(bZ Z8)))])))/\(decide Z6=an->Vc True/\(decide (Z4≤ck ar (bP (bw Z5)+(1:Int)))=ao->aY (G (bG (aP (bZ Z7))) [dF 1 ti tg,oP Z9,aa (.inl (136,(bj xn))),aa (.inl (134,(bZ Z7))),aa (.inl (136,(bj Z5))),aa (.inl (134,(bZ Z7)))]))/\(decide (Z4≤ck ar (bP (bw Z5)+(1:Int)))=an->Vc (PP Z9)/\Vc True/\Vc True/\Vc True/\Vc True/\Vc ((bj dJ)=bj dJ/\PP (aL Z9 (bo xn))/\vh ax k (aL Z9 (bo xn)) dJ cq dD)/\Vc ((bZ Z7)=bZ Z7/\(bZ (ay fC))=bZ (ay fC)/\True)/\aY (G (bG (aP (bZ (eK ax Z7 (ay fC))))) [dF 1 ti tg,oP (av fC),aa (.inl (136,(bj xn))),aa (.inl (134,(bZ (eK ax Z7 (ay fC))))),aa (.inl (136,(bj Z5))),aa (.inl (134,(bZ Z7)))]))))/\(decide (Z1≤bP (bw Z5))=an->Vc True/\(decide (Z4≤ck ar (bP (bw Z5)+(1:Int)))=ao->aY (G (bG (aP (bZ Z7))) [dF 1 ti tg,oP Z9,aa (.inl (136,(bj xn))),aa (.inl (134,(bZ Z7))),aa (.inl (136,(bj Z5))),aa (.inl (134,(bZ Z7)))]))/\(decide (Z4≤ck ar (bP (bw Z5)+(1:Int)))=an->Vc (PP Z9)/\Vc True/\Vc True/\Vc True/\Vc True/\Vc ((bj dJ)=bj dJ/\PP (aL Z9 (bo xn))/\vh ax k (aL Z9 (bo xn)) dJ cq dD)/\Vc ((bZ Z7)=bZ Z7/\(bZ (ay fC))=bZ (ay fC)/\True)/\aY (G (bG (aP (bZ (eK ax Z7 (ay fC))))) [dF 1 ti tg,oP (av fC),aa (.inl (136,(bj xn))),aa (.inl (134,(bZ (eK ax Z7 (ay fC))))),aa (.inl (136,(bj Z5))),aa (.inl (134,(bZ Z7)))])))))/\((Z1==(0:Int))=an->Vc (PP m)/\Vc ((bj Z5)=bj Z5/\PP (aL m (bd xn))/\vh ax k (aL m (bd xn)) Z5 Z1 Z4)/\(decide (Z1≤bP (bw Z5))=ao->(decide Z6=ao->Vc ((dt (b6 xn))=dt (b6 xn)/\True)/\Vc ((bZ Z7)=bZ Z7/\(bZ (n7 ax (b6 xn)))=bZ (n7 ax (b6 xn))/\True)/\Vc True/\(decide (Z4≤ck ar (bP (bw Z5)+(1:Int)))=ao->aY (G (bG (aP (bZ Z8))) [dF 1 ti tg,oP Z9,aa (.inl (136,(bj xn))),aa (.inl (134,(bZ Z8))),aa (.inl (136,(bj Z5))),aa (.inl (134,(bZ Z8)))]))/\(decide (Z4≤ck ar (bP (bw Z5)+(1:Int)))=an->Vc (PP Z9)/\Vc True/\Vc True/\Vc True/\Vc True/\Vc ((bj dJ)=bj dJ/\PP (aL Z9 (bo xn))/\vh ax k (aL Z9 (bo xn)) dJ cq dD)/\Vc ((bZ Z8)=bZ Z8/\(bZ (ay fC))=bZ (ay fC)/\True)/\aY (G (bG (aP (bZ (eK ax Z8 (ay fC))))) [dF 1 ti tg,oP (av fC),aa (.inl (136,(bj xn))),aa (.inl (134,(bZ (eK ax Z8 (ay fC))))),aa (.inl (136,(bj Z5))),aa (.inl (134,(bZ Z8)))])))/\(decide Z6=an->Vc True/\(decide (Z4≤ck ar (bP (bw Z5)+(1:Int)))=ao->aY (G (bG (aP (bZ Z7))) [dF 1 ti tg,oP Z9,aa (.inl (136,(bj xn))),aa (.inl (134,(bZ Z7))),aa (.inl (136,(bj Z5))),aa (.inl (134,(bZ Z7)))]))/\(decide (Z4≤ck ar (bP (bw Z5)+(1:Int)))=an->Vc (PP Z9)/\Vc True/\Vc True/\Vc True/\Vc True/\Vc ((bj dJ)=bj dJ/\PP (aL Z9 (bo xn))/\vh ax k (aL Z9 (bo xn)) dJ cq dD)/\Vc ((bZ Z7)=bZ Z7/\(bZ (ay fC))=bZ (ay fC)/\True)/\aY (G (bG (aP (bZ (eK ax Z7 (ay fC))))) [dF 1 ti tg,oP (av fC),aa (.inl (136,(bj xn))),aa (.inl (134,(bZ (eK ax Z7 (ay fC))))),aa (.inl (136,(bj Z5))),aa (.inl (134,(bZ Z7)))]))))/\(decide (Z1≤bP (bw Z5))=an->Vc True/\(decide (Z4≤ck ar (bP (bw Z5)+(1:Int)))=ao->aY (G (bG (aP (bZ Z7))) [dF 1 ti tg,oP Z9,aa (.inl (136,(bj xn))),aa (.inl (134,(bZ Z7))),aa (.inl (136,(bj Z5))),aa (.inl (134,(bZ Z7)))]))/\(decide (Z4≤ck ar (bP (bw Z5)+(1:Int)))=an->Vc (PP Z9)/\Vc True/\Vc True/\Vc True/\Vc True/\Vc ((bj dJ)=bj dJ/\PP (aL Z9 (bo xn))/\vh ax k (aL Z9 (bo xn)) dJ cq dD)/\Vc ((bZ Z7)=bZ Z7/\(bZ (ay fC))=bZ (ay fC)/\True)/\aY (G (bG (aP (bZ (eK ax Z7 (ay fC))))) [dF 1 ti tg,oP (av fC),aa (.inl (136,(bj xn))),aa (.inl (134,(bZ (eK ax Z7 (ay fC))))),aa (.inl (136,(bj Z5))),aa (.inl (134,(bZ Z7)))])))))) ?_ (by kernel_rfl)
   intro Z1 Z2 Z3 Z4 Z5 Z6 Z7 Z8 Z9 dJ cq dD fC;subst fC dD cq dJ Z9 Z8 Z7 Z6 Z5 Z4 Z3 Z2 Z1;rw[vh] at hd
   dsimp only [nq,Gv.mx,Gv.mn] at hd
   have done:∀ (o:Gv.Part Wv.Sw) (m':Pl) (rest:Hp Rs),g9 ax (k+1) m xn x_ y_=(o,m')->G (.agg ⟨bZ o⟩) ([aa (.inl (110,[.pointer (aa ⟨1,0,aj⟩),.int .i64 ti,.int .i64 tg])),aa (.inr (.inr (.inr (.db m'))))]++rest):=by
    intro o m' rest e;subst hG;refine⟨[0,1],?_,rfl,⟨.inl rfl,?_,trivial⟩,rfl,rfl,rfl,rfl⟩
    ·simp only[e];rfl
    ·simp only[e];rfl
   clear hG;rw[g9] at done
   dsimp only [nq,Gv.mx,Gv.mn] at done
   repeat' (first|apply cZ|apply Vc.mk|apply fits.mk|intro h|apply aY.mk)
   all_goals (try simp only[sB] at *)
   all_goals first|contradiction|omega|exact jF ‹_›|exact jH ‹_›|exact jG ‹_›|exact⟨rfl,by omega⟩|exact rfl|(simp[*,-au];done)|skip
   all_goals first|assumption|(simp only[jl];assumption)|skip
   all_goals first|exact(hd (by omega) (by omega)).1|exact(hd (by omega) (by omega)).2 (by omega)|skip
   all_goals (refine done _ _ _ ?_;repeat' split)
   all_goals first|rfl|(exfalso;omega)
  ·cases hx
def Vh:eM Rs:=[(130,bJ zN 2 (a9 M'))]
theorem Re:cN D Tryz.prog Vh:=⟨aT _ _ VL,trivial⟩
def I0:Prim Rs:=fun args hh=>match args,hh with
 |[.int .i64 c],[]=>aa ⟨True,.pointer (aa ⟨0,0,aj⟩),aj,[aa (.inl (110,[.pointer (aa ⟨1,0,aj⟩),.int .i64 Gv.r0.i,.int .i64 Gv.r0.g])),aa (.inr (.inr (.inr (.db ⟨[],[],[],[],0,min (max c 0) 16777216,0⟩))))],[],[(0,0)]⟩
 |_,_=>aj
theorem Sa:b8 D Tryz.prog 90 (a9 I0):=by
 refine fx Tryz.f90 fun args hh x hx=>?_
 unfold I0 at hx;split at hx
 ·rename_i c;cases hx;refine q4 fun _ hv=>?_
  generalize hG:cj (R:=Rs) _ _=G;refine cK (T:=Vh) Re mixed 200 ?_;refine bM (q:=Vc True/\aY (G (aC (aa ⟨1,0,aj⟩)) [oP (Gv.PM.mk [] [] [] [] (0:Int) (min (max c (0:Int)) (16777216:Int)) (0:Int)),dF 0 0 0])) ?_ (by kernel_rfl)
  subst hG
  repeat' (first|apply cZ|apply Vc.mk|apply fits.mk|intro h|apply aY.mk)
  all_goals (try simp only[sB] at *)
  all_goals first|contradiction|omega|exact jF ‹_›|exact jH ‹_›|exact jG ‹_›|exact⟨rfl,by omega⟩|exact rfl|(simp[*,-au];done)|skip
  exact⟨[1,0],rfl,rfl,⟨.inl rfl,rfl,trivial⟩,rfl,rfl,rfl,rfl⟩
 ·cases hx
def KB:eM Rs:=[(80,bJ zN 2 (a9 km))]
theorem Ku:cN D Tryz.prog KB:=⟨aT _ _ look_ok,trivial⟩
def Ch:Prim Rs:=fun args hh=>match args,hh with
 |[.pointer (aa ⟨0,0,aj⟩)],[aa (.inl (110,[.pointer (aa ⟨1,0,aj⟩),.int .i64 ti,.int .i64 tg])),aa (.inr (.inr (.inr (.db m))))]=>aa ⟨PP m,.int .i64 (bu ax m (⟨ti,tg⟩:bn)).all.n,aj,[aa (.inl (110,[.pointer (aa ⟨1,0,aj⟩),.int .i64 ti,.int .i64 tg])),aa (.inr (.inr (.inr (.db (aL m (⟨ti,tg⟩:bn))))))],[],[(0,0)]⟩
 |_,_=>aj
theorem K4:b8 D Tryz.prog 40 (a9 Ch):=by
 refine fx Tryz.f40 fun args hh x hx=>?_
 unfold Ch at hx;split at hx
 ·rename_i ti tg m;cases hx;refine q4 fun _ hv=>?_
  generalize hG:cj (R:=Rs) _ _=G;refine cK (T:=KB) Ku mixed 200 ?_;refine bM (q:=Vc (PP m)/\aY (G (bk ar (bP (bw (bu ax m (aO ti tg))))) [dF 1 ti tg,oP (aL m (aO ti tg))])) ?_ (by kernel_rfl)
  subst hG
  repeat' (first|apply cZ|apply Vc.mk|apply fits.mk|intro h|apply aY.mk)
  all_goals (try simp only[sB] at *)
  all_goals first|contradiction|omega|exact jF ‹_›|exact jH ‹_›|exact jG ‹_›|exact⟨rfl,by omega⟩|exact rfl|(simp[*,-au];done)|skip
  all_goals first|assumption|(simp only[jl];assumption)|skip
  exact⟨[0,1],rfl,rfl,⟨.inl rfl,rfl,trivial⟩,rfl,rfl,rfl,rfl⟩
 ·cases hx
def VE:eM Rs:=[(117,bJ zN 2 (a9 B6))]
theorem QY:cN D Tryz.prog VE:=⟨aT _ _ K7,trivial⟩
def zr:Prim Rs:=fun args hh=>match args,hh with
 |[.pointer (aa ⟨0,0,aj⟩)],[aa (.inl (110,[.pointer (aa ⟨1,0,aj⟩),.int .i64 ti,.int .i64 tg])),aa (.inr (.inr (.inr (.db m))))]=>aa ⟨True,.int .i64 m.cY,aj,hh,[],[]⟩
 |_,_=>aj
theorem IG:b8 D Tryz.prog 76 (a9 zr):=by
 refine fx Tryz.f76 fun args hh x hx=>?_
 unfold zr at hx;split at hx
 ·rename_i ti tg m;cases hx;refine q4 fun _ hv=>?_
  generalize hG:cj (R:=Rs) _ _=G;refine cK (T:=VE) QY mixed 200 ?_;refine bM (q:=Vc True/\aY (G (bk ar (Gv.PM.cY m)) [dF 1 ti tg,oP m])) ?_ (by kernel_rfl)
  subst hG
  repeat' (first|apply cZ|apply Vc.mk|apply fits.mk|intro h|apply aY.mk)
  all_goals (try simp only[sB] at *)
  all_goals first|contradiction|omega|exact jF ‹_›|exact jH ‹_›|exact jG ‹_›|exact⟨rfl,by omega⟩|exact rfl|(simp[*,-au];done)|skip
  exact⟨[0,1],rfl,rfl,⟨.inl rfl,rfl,trivial⟩,rfl,rfl,rfl,rfl⟩
 ·cases hx
def IK (K:Nat):Prim Rs:=fun args hh=>match args,hh with
 |[.pointer (aa ⟨0,0,aj⟩),.agg ⟨kE⟩],[aa (.inl (110,[.pointer (aa ⟨1,0,aj⟩),.int .i64 ti,.int .i64 tg])),aa (.inr (.inr (.inr (.db m))))]=>aa ⟨kE=dt (fY kE)/\(PP m/\Gv.QZ ax K m (⟨ti,tg⟩:bn) (fY kE)),.bool (vj ax K m (⟨ti,tg⟩:bn) (fY kE)).1,aj,[aa (.inl (110,[.pointer (aa ⟨1,0,aj⟩),.int .i64 (vj ax K m (⟨ti,tg⟩:bn) (fY kE)).2.1.i,.int .i64 (vj ax K m (⟨ti,tg⟩:bn) (fY kE)).2.1.g])),aa (.inr (.inr (.inr (.db (vj ax K m (⟨ti,tg⟩:bn) (fY kE)).2.2))))],[],[(0,0)]⟩
 |_,_=>aj
def O7 (K:Nat):eM Rs:=[(96,bJ zN 2 (a9 (sK K))),(98,bJ zN 2 (a9 AV)),(97,bJ zN 2 (a9 Je)),(99,bJ zN 2 (a9 (Bp K)))]
theorem RC (K:Nat):b8 D Tryz.prog 67 (a9 (IK K)):=by
 refine fx Tryz.f67 fun args hh x hx=>?_
 unfold IK at hx;split at hx
 ·rename_i kE ti tg m;cases hx;refine q4 fun _ hv=>?_
  obtain⟨j7,hv⟩:=hv;generalize fY kE=ke at *;subst j7;obtain⟨hp,hd⟩:=hv
  generalize hG:cj (R:=Rs) _ _=G;refine cK (T:=(O7 K)) (show cN D Tryz.prog (O7 K) from⟨aT _ _ (sj K),aT _ _ yI,aT _ _ tU,aT _ _ (yi K),trivial⟩) mixed 200 ?_
  refine bM (q:=let Z1:=(nZ ax K m (aO ti tg) ke);let Z2:=(fH ke (aO (0:Int) (0:Int)) (aO (0:Int) (0:Int)) (n7 ax ke) (1:Int));let Z3:=(Gv.put zd (av Z1) Z2);let Z4:=(aE !decide (fW (av Z1)=iv (av Z1)));let Z5:=(nY ax K Z3 (aO ti tg) (lD zd (av Z1)) ke);Vc ((dt ke)=dt ke/\PP m/\jm ax K m (aO ti tg))/\(ay Z1=ao->aY (G (aE ao) [dF 1 ti tg,oP (av Z1),aa (.inl (49,(dt ke)))]))/\(ay Z1=an->Vc ((dt ke)=dt ke/\True)/\Vc ((bj (fH ke (aO 0 0) (aO 0 0) (n7 ax ke) 1))=bj Z2/\PP (av Z1))/\((!decide (fW (av Z1)=iv (av Z1)))=ao->Vc ((dt ke)=dt ke/\PP Z3/\jm ax K Z3 (aO ti tg))/\aY (G Z4 [dF 1 (cC (ay Z5)) (cD (ay Z5)),oP (av Z5),aa (.inl (49,(dt ke))),aa (.inl (108,[.int ar (cC (lD zd (av Z1))),.int ar (cD (lD zd (av Z1)))]))]))/\((!decide (fW (av Z1)=iv (av Z1)))=an->aY (G Z4 [dF 1 ti tg,oP Z3,aa (.inl (49,(dt ke))),aa (.inl (108,[.int ar (cC (lD zd (av Z1))),.int ar (cD (lD zd (av Z1)))]))])))) ?_ (by kernel_rfl)
  intro Z1 Z2 Z3 Z4 Z5;subst Z5 Z4 Z3 Z2 Z1;obtain⟨Uq,xj⟩:=hd;have done:∀ (b:Bool) (i g:Int) (m':Pl) (rest:Hp Rs),vj ax K m (⟨ti,tg⟩:bn) ke=(b,⟨i,g⟩,m')->G (.bool b) ([aa (.inl (110,[.pointer (aa ⟨1,0,aj⟩),.int .i64 (⟨i,g⟩:bn).i,.int .i64 (⟨i,g⟩:bn).g])),aa (.inr (.inr (.inr (.db m'))))]++rest):=by
   intro b i g m' rest e;subst hG;refine⟨[0,1],?_,rfl,⟨.inl ?_,?_,trivial⟩,rfl,rfl,rfl,rfl⟩
   ·simp only[e];rfl
   ·simp only[e];rfl
   ·simp only[e];rfl
  clear hG
  repeat' (first|apply cZ|apply Vc.mk|apply fits.mk|intro h|apply aY.mk)
  all_goals (try simp only[sB] at *)
  all_goals first|contradiction|omega|exact jF ‹_›|exact jH ‹_›|exact jG ‹_›|exact⟨rfl,by omega⟩|exact rfl|(simp[*,-au];done)|skip
  all_goals first|assumption|(simp only[jl];assumption)|skip
  all_goals first|exact(xj (by assumption)).1|exact(xj (by assumption)).2|skip
  all_goals (refine done _ _ _ _ _ ?_;unfold vj;repeat' split)
  all_goals first|rfl|(exfalso;simp_all;done)|(refine ks ?_ rfl;simp[*];done)
 ·cases hx
def E' (K:Nat):Prim Rs:=fun args hh=>match args,hh with
 |[.pointer (aa ⟨0,0,aj⟩),.agg ⟨kE⟩],[aa (.inl (110,[.pointer (aa ⟨1,0,aj⟩),.int .i64 ti,.int .i64 tg])),aa (.inr (.inr (.inr (.db m))))]=>aa ⟨kE=dt (fY kE)/\(PP m/\s9 ax K K m (⟨ti,tg⟩:bn) (fY kE)),.tuple #[.agg ⟨dt (j4 ax K m (⟨ti,tg⟩:bn) (fY kE)).1⟩,.bool (j4 ax K m (⟨ti,tg⟩:bn) (fY kE)).2.1],aj,[aa (.inl (110,[.pointer (aa ⟨1,0,aj⟩),.int .i64 (j4 ax K m (⟨ti,tg⟩:bn) (fY kE)).2.2.1.i,.int .i64 (j4 ax K m (⟨ti,tg⟩:bn) (fY kE)).2.2.1.g])),aa (.inr (.inr (.inr (.db (j4 ax K m (⟨ti,tg⟩:bn) (fY kE)).2.2.2))))],[],[(0,0)]⟩
 |_,_=>aj
def KW (K:Nat):eM Rs:=[(113,bJ zN 2 (a9 (A8 K K))),(114,bJ zN 2 (a9 CH))]
theorem Nu (K:Nat):b8 D Tryz.prog 74 (a9 (E' K)):=by
 refine fx Tryz.f74 fun args hh x hx=>?_
 unfold E' at hx;split at hx
 ·rename_i kE ti tg m;cases hx;refine q4 fun _ hv=>?_
  obtain⟨j7,hv⟩:=hv;generalize fY kE=ke at *;subst j7;obtain⟨hp,hd⟩:=hv
  generalize hG:cj (R:=Rs) _ _=G;refine cK (T:=(KW K)) (show cN D Tryz.prog (KW K) from⟨aT _ _ (yh K K),aT _ _ tK,trivial⟩) mixed 200 ?_
  refine bM (q:=let Z1:=(av (av (jE ax K K m (aO ti tg) ke)));let Z2:=(ay (av (jE ax K K m (aO ti tg) ke)));let Z3:=(cC (ay (jE ax K K m (aO ti tg) ke)));let Z4:=(cD (ay (jE ax K K m (aO ti tg) ke)));Vc ((dt ke)=dt ke/\PP m/\s9 ax K K m (aO ti tg) ke)/\Vc (PP Z1)/\aY (G (cr (aP [.agg (aP (dt (b6 (j3 zd Z1 Z2)))),.bool (Gv.has Z1 Z2)])) [dF 1 Z3 Z4,oP (Gv.drop zd Z1 Z2),aa (.inl (49,(dt ke))),aa (.inl (49,(dt (b6 (j3 zd Z1 Z2))))),aa (.inl (108,[.int ar Z3,.int ar Z4])),aa (.inl (108,[.int ar (cC Z2),.int ar (cD Z2)])),aa (.inl (136,(bj (j3 zd Z1 Z2))))])) ?_ (by kernel_rfl)
  intro Z1 Z2 Z3 Z4;subst Z4 Z3 Z2 Z1;subst hG
  repeat' (first|apply cZ|apply Vc.mk|apply fits.mk|intro h|apply aY.mk)
  all_goals (try simp only[sB] at *)
  all_goals first|contradiction|omega|exact jF ‹_›|exact jH ‹_›|exact jG ‹_›|exact⟨rfl,by omega⟩|exact rfl|(simp[*,-au];done)|skip
  all_goals first|assumption|(simp only[jl];assumption)|skip
  exact⟨[0,1],rfl,rfl,⟨.inl rfl,rfl,trivial⟩,rfl,rfl,rfl,rfl⟩
 ·cases hx
def ZM (K:Nat):Prim Rs:=fun args hh=>match args,hh with
 |[.pointer (aa ⟨0,0,aj⟩),.int .i64 x_,.int .i64 y_],[aa (.inl (110,[.pointer (aa ⟨1,0,aj⟩),.int .i64 ti,.int .i64 tg])),aa (.inr (.inr (.inr (.db m))))]=>aa ⟨PP m/\vh ax K (aL m (⟨ti,tg⟩:bn)) (bu ax m (⟨ti,tg⟩:bn)) x_ y_,.agg ⟨ky (g9 ax K (aL m (⟨ti,tg⟩:bn)) (bu ax m (⟨ti,tg⟩:bn)) x_ y_).1.sum⟩,aj,[aa (.inl (110,[.pointer (aa ⟨1,0,aj⟩),.int .i64 ti,.int .i64 tg])),aa (.inr (.inr (.inr (.db (g9 ax K (aL m (⟨ti,tg⟩:bn)) (bu ax m (⟨ti,tg⟩:bn)) x_ y_).2))))],[],[(0,0)]⟩
 |_,_=>aj
def aff (K:Nat):eM Rs:=[(80,bJ zN 2 (a9 km)),(119,bJ zN 2 (a9 (Vw K)))]
theorem ahY (K:Nat):b8 D Tryz.prog 78 (a9 (ZM K)):=by
 refine fx Tryz.f78 fun args hh x hx=>?_
 unfold ZM at hx;split at hx
 ·rename_i x_ y_ ti tg m;cases hx;refine q4 fun _ hv=>?_
  obtain⟨hp,hd⟩:=hv;generalize hG:cj (R:=Rs) _ _=G;refine cK (T:=(aff K)) (show cN D Tryz.prog (aff K) from⟨aT _ _ look_ok,aT _ _ (aaV K),trivial⟩) mixed 200 ?_
  refine bM (q:=let Z1:=(bu ax m (aO ti tg));let Z2:=(ky (bH (ay (g9 ax K (aL m (aO ti tg)) Z1 x_ y_))));Vc (PP m)/\Vc ((bj Z1)=bj Z1/\PP (aL m (aO ti tg))/\vh ax K (aL m (aO ti tg)) Z1 x_ y_)/\aY (G (bG (aP Z2)) [dF 1 ti tg,oP (av (g9 ax K (aL m (aO ti tg)) Z1 x_ y_)),aa (.inl (53,Z2))])) ?_ (by kernel_rfl)
  intro Z1 Z2;subst Z2 Z1;subst hG
  repeat' (first|apply cZ|apply Vc.mk|apply fits.mk|intro h|apply aY.mk)
  all_goals (try simp only[sB] at *)
  all_goals first|contradiction|omega|exact jF ‹_›|exact jH ‹_›|exact jG ‹_›|exact⟨rfl,by omega⟩|exact rfl|(simp[*,-au];done)|skip
  all_goals first|assumption|(simp only[jl];assumption)|skip
  exact⟨[0,1],rfl,rfl,⟨.inl rfl,rfl,trivial⟩,rfl,rfl,rfl,rfl⟩
 ·cases hx
theorem Nq:Lx [0] (a9 Ch):=by
 intro b args h x hx i hi hl;cases b with
 |false=>cases hx
 |true =>
  simp only[a9,jo.go,Ch] at hx;split at hx
  ·injection hx with hx
   subst hx;simp only[List.mem_singleton] at hi;subst hi
   rfl
  ·cases hx
def Im (K:Nat):Prim Rs:=fun args hh=>match args,hh with
 |[.pointer (aa ⟨0,0,aj⟩)],[aa (.inl (110,[.pointer (aa ⟨1,0,aj⟩),.int .i64 ti,.int .i64 tg])),aa (.inr (.inr (.inr (.db m))))]=>aa ⟨PP m/\jm ax K m (⟨ti,tg⟩:bn)/\(bu ax m (⟨ti,tg⟩:bn)).all.n=(b5 ax K (aL m (⟨ti,tg⟩:bn)) (⟨ti,tg⟩:bn)).1.length/\(b5 ax K (aL m (⟨ti,tg⟩:bn)) (⟨ti,tg⟩:bn)).1.length<900000,.slice (aa ⟨2,0,aa 8000⟩) (b5 ax K (aL m (⟨ti,tg⟩:bn)) (⟨ti,tg⟩:bn)).1.length 0,aj,[aa (.inl (110,[.pointer (aa ⟨1,0,aj⟩),.int .i64 ti,.int .i64 tg])),aa (.inr (.inr (.inr (.db (b5 ax K (aL m (⟨ti,tg⟩:bn)) (⟨ti,tg⟩:bn)).2)))),aa (.inr (.inl (49,⟨[.int .i64 0,.bool an,.int .i64 0,.int .i64 0,.bool an,.bool an,.int .i64 0,.int .i64 0],(b5 ax K (aL m (⟨ti,tg⟩:bn)) (⟨ti,tg⟩:bn)).1.length,[⟨((b5 ax K (aL m (⟨ti,tg⟩:bn)) (⟨ti,tg⟩:bn)).1.map fun e=>e.t),[],[]⟩,⟨[],((b5 ax K (aL m (⟨ti,tg⟩:bn)) (⟨ti,tg⟩:bn)).1.map fun e=>e.ins),[]⟩,⟨((b5 ax K (aL m (⟨ti,tg⟩:bn)) (⟨ti,tg⟩:bn)).1.map fun e=>e.it.k),[],[]⟩,⟨((b5 ax K (aL m (⟨ti,tg⟩:bn)) (⟨ti,tg⟩:bn)).1.map fun e=>e.it.i),[],[]⟩,⟨[],((b5 ax K (aL m (⟨ti,tg⟩:bn)) (⟨ti,tg⟩:bn)).1.map fun e=>e.here),[]⟩,⟨[],((b5 ax K (aL m (⟨ti,tg⟩:bn)) (⟨ti,tg⟩:bn)).1.map fun e=>e.tf),[]⟩,⟨((b5 ax K (aL m (⟨ti,tg⟩:bn)) (⟨ti,tg⟩:bn)).1.map fun e=>e.tk.k),[],[]⟩,⟨((b5 ax K (aL m (⟨ti,tg⟩:bn)) (⟨ti,tg⟩:bn)).1.map fun e=>e.tk.i),[],[]⟩]⟩)))],[],[(0,0)]⟩
 |_,_=>aj
def PH (K:Nat):eM Rs:=[(40,Dk [0] 2 (a9 Ch)),(60,bJ zN 2 (a9 (u7 K)))]
theorem Rn (K:Nat):b8 D Tryz.prog 21 (a9 (Im K)):=by
 refine fx Tryz.f21 fun args hh x hx=>?_
 unfold Im at hx;split at hx
 ·rename_i ti tg m;cases hx;refine q4 fun _ hv=>?_
  obtain⟨hp,hd⟩:=hv;generalize hG:cj (R:=Rs) _ _=G;refine cK (T:=(PH K)) (show cN D Tryz.prog (PH K) from⟨Dw _ _ K4 Nq,aT _ _ (qV K),trivial⟩) mixed 200 ?_
  refine bM (q:=let Z1:=(bw (bu ax m (aO ti tg)));let Z2:=(b5 ax K (aL m (aO ti tg)) (aO ti tg));let Z3:=(ay Z2);let Z4:=(dt (FY 0 an (cX 0 0) an an (cX 0 0)));Vc (PP m)/\Vc ((0:Int)≤(0:Int)/\(0:Int)≤bP Z1/\bP Z1*(64:Int)≤(140737488355328:Int)/\bP Z1≤(140737488355328:Int))/\Vc ((PP (aL m (aO ti tg))/\0=0/\0=0/\0=0/\0=0/\0=0/\0=0/\0=0/\0=0/\0=0/\0+ae Z3<900000)/\jm ax K (aL m (aO ti tg)) (aO ti tg))/\aY (G (br (aa ⟨4,0,aa 8000⟩) (0+ae Z3) (if ae Z3=0 then Int.toNat (bP Z1) else 0)) [dF 1 ti tg,oP (av Z2),aa (.inr (.inl (49,Row.mk Z4 0 [aW.mk [] [] [],aW.mk [] [] [],aW.mk [] [] [],aW.mk [] [] [],aW.mk [] [] [],aW.mk [] [] [],aW.mk [] [] [],aW.mk [] [] []]))),aj,aa (.inr (.inl (49,Row.mk Z4 (0+ae Z3) [aW.mk ([]++aw (fun e=>Ex e) Z3) [] [],aW.mk [] ([]++aw (fun e=>Ax e) Z3) [],aW.mk ([]++aw (fun e=>nv (qw e)) Z3) [] [],aW.mk ([]++aw (fun e=>nw (qw e)) Z3) [] [],aW.mk [] ([]++aw (fun e=>yo e) Z3) [],aW.mk [] ([]++aw (fun e=>Cz e) Z3) [],aW.mk ([]++aw (fun e=>nv (qx e)) Z3) [] [],aW.mk ([]++aw (fun e=>nw (qx e)) Z3) [] []])))])) ?_ (by kernel_rfl)
  intro Z1 Z2 Z3 Z4;subst Z4 Z3 Z2 Z1;subst hG;obtain⟨Uq,xj,hd4⟩:=hd;have hd5:=(qN (s:=(⟨ti,tg⟩:bn))).2 Uq;have e2:(if(b5 ax K (aL m (⟨ti,tg⟩:bn)) (⟨ti,tg⟩:bn)).1.length=0 then(bu ax m (⟨ti,tg⟩:bn)).all.n.toNat else 0)=0:=by rw[xj];split<;>omega
  simp only[e2,bW,pz]
  repeat' (first|apply cZ|apply Vc.mk|apply fits.mk|intro h|apply aY.mk)
  all_goals (try simp only[sB] at *)
  all_goals first|contradiction|omega|exact jF ‹_›|exact jH ‹_›|exact jG ‹_›|exact⟨rfl,by omega⟩|exact rfl|(simp[*,-au];done)|skip
  all_goals first|omega|assumption|exact jn.2 hp|(simp;done)|skip
  refine⟨[0,1,4],?_,rfl,?_,rfl,rfl,rfl,rfl⟩
  ·rfl
  ·simp[dt,ur,Bc,nth,gg,w6,pQ,ma,gr,wj,uN,Cj,z5,Gk,zq,Bk]
   all_goals first|rfl|skip
 ·cases hx
def Ff (K:Nat):Prim Rs:=fun args hh=>match args,hh with
 |[.pointer (aa ⟨0,0,aj⟩),.agg ⟨kE⟩],[aa (.inl (110,[.pointer (aa ⟨1,0,aj⟩),.int .i64 ti,.int .i64 tg])),aa (.inr (.inr (.inr (.db m))))]=>aa ⟨kE=dt (fY kE)/\(PP m/\vY ax K (aL m (⟨ti,tg⟩:bn)) (bu ax m (⟨ti,tg⟩:bn)) (fY kE)),.tuple #[.agg ⟨dt (iO ax K (aL m (⟨ti,tg⟩:bn)) (bu ax m (⟨ti,tg⟩:bn)) (fY kE)).1.1⟩,.bool (iO ax K (aL m (⟨ti,tg⟩:bn)) (bu ax m (⟨ti,tg⟩:bn)) (fY kE)).1.2],aj,[aa (.inl (110,[.pointer (aa ⟨1,0,aj⟩),.int .i64 ti,.int .i64 tg])),aa (.inr (.inr (.inr (.db (iO ax K (aL m (⟨ti,tg⟩:bn)) (bu ax m (⟨ti,tg⟩:bn)) (fY kE)).2))))],[],[(0,0)]⟩
 |_,_=>aj
def Bn (K:Nat):eM Rs:=[(80,bJ zN 2 (a9 km)),(222,bJ zN 2 (a9 Jp))]
theorem NP (K:Nat):b8 D Tryz.prog 73 (a9 (Ff K)):=by
 refine fx Tryz.f73 fun args hh x hx=>?_
 unfold Ff at hx;split at hx
 ·rename_i kE ti tg m;cases hx;refine q4 fun _ hv=>?_
  obtain⟨j7,hv⟩:=hv;generalize fY kE=ke at *;subst j7;obtain⟨hp,hd⟩:=hv
  generalize hG:cj (R:=Rs) _ _=G;refine cK (T:=(Bn K)) (show cN D Tryz.prog (Bn K) from⟨aT _ _ look_ok,aT _ _ ym,trivial⟩) mixed 200 ?_
  refine bM (q:=let Z1:=(aC (aa ⟨0,0,aj⟩));Vc (PP m)/\At D Tryz.prog (dI Tryz.f73) 2 (iB Tryz.prog (dw (dx Tryz.f73)) G) [.inl [1,1,0,0],.inr (.inl 0),.inl [1,1,1]] (SS.mk (aa Z1::aa (bG (aP (dt ke)))::aj::aa (aC (aa ⟨2,0,aj⟩))::aa (aC (aa ⟨3,0,aj⟩))::aa (aE an)::aa (aC (aa ⟨4,0,aj⟩))::aj::aj::aa Z1::aa Z1::aa Z1::aa (aC (aa ⟨0,1,aj⟩))::aa (bG (aP [.int ar ti,.int ar tg]))::aa (bG (aP (bj (bu ax m (aO ti tg)))))::nH (n4 (aj::aj::aj::[]))) [(5,an)] [dF 1 ti tg,oP (aL m (aO ti tg)),aa (.inl (49,(dt ke))),aa (.inl (49,(dt (FY 0 an (cX 0 0) an an (cX 0 0))))),aa (.inl (136,(bj (bu ax m (aO ti tg)))))])) ?_ (by kernel_rfl)
  intro Z1;subst Z1;refine⟨⟨hp⟩,?_⟩;refine kC (by kernel_rfl) (ι:=Nat×Nd×Pl) (fun s=>PP s.2.2/\vY ax s.1 s.2.2 s.2.1 ke/\iO ax s.1 s.2.2 s.2.1 ke=iO ax K (aL m (⟨ti,tg⟩:bn)) (bu ax m (⟨ti,tg⟩:bn)) ke) [0,3,4,5,6] (fun s=>[.pointer (aa ⟨0,0,aj⟩),.pointer (aa ⟨2,0,aj⟩),.pointer (aa ⟨3,0,aj⟩),.bool an,.pointer (aa ⟨4,0,aj⟩)]) (fun s=>[aa (.inl (110,[.pointer (aa ⟨1,0,aj⟩),.int .i64 ti,.int .i64 tg])),aa (.inr (.inr (.inr (.db s.2.2)))),aa (.inl (49,dt ke)),aa (.inl (49,[.int .i64 0,.bool an,.int .i64 0,.int .i64 0,.bool an,.bool an,.int .i64 0,.int .i64 0])),aa (.inl (136,bj s.2.1))]) (fun s=>s.1) (Tryz.f73).ntmps (fun s hs=>⟨rfl,rfl,tZ _ _⟩) ⟨(K,bu ax m (⟨ti,tg⟩:bn),aL m (⟨ti,tg⟩:bn)),⟨jn.2 hp,hd,rfl⟩,⟨[0,1,2,3,4],rfl,⟨.inl rfl,rfl,.inl rfl,.inl rfl,.inl rfl,trivial⟩,rfl,rfl,rfl,rfl⟩⟩ fun s hs=>?_
  obtain⟨k,n,m2⟩:=s;obtain⟨s1,s2,s3⟩:=hs;simp only at s1 s2 s3;rcases k with _|k
  ·exact s2.elim
  refine cK (T:=Bn K) (show cN D Tryz.prog (Bn K) from⟨aT _ _ look_ok,aT _ _ ym,trivial⟩) mixed 200 ?_
  refine bM (q:=let Z5:=aC (aa ⟨2,0,aj⟩);let Z6:=aC (aa ⟨0,0,aj⟩);let Z7:=aC (aa ⟨4,0,aj⟩);let Z8:=aC (aa ⟨3,0,aj⟩);let Z1:=(hU ax ke (b6 (ay (n,m2)))==(0:Int));let Z2:=(av (n,m2));let Z3:=(hU ax ke (b6 (ay (n,m2)))<(0:Int));let Z4:=(dt (FY 0 an (cX 0 0) an an (cX 0 0)));(decide (cw (ay (n,m2))>(0:Int))=ao->Vc True/\Vc True/\(Z1=ao->aY (G (cr (aP [.agg (aP (dt (b6 (ay (n,m2))))),.bool ao])) [dF 1 ti tg,oP Z2,aa (.inl (49,(dt ke))),aa (.inl (49,(dt (b6 (ay (n,m2)))))),aa (.inl (136,(bj (ay (n,m2)))))]))/\(Z1=an->(decide Z3=ao->Vc (PP Z2)/\aY (∃ j,(PP (av (av j))/\vY ax (ay j) (av (av j)) (ay (av j)) ke/\iO ax (ay j) (av (av j)) (ay (av j)) ke=iO ax K (aL m (aO ti tg)) (bu ax m (aO ti tg)) ke)/\ay j<k+1/\jJ Rs 2 (pA Tryz.f73) [0,3,4,5,6] [Z6,Z5,Z8,.bool an,Z7] [dF 1 ti tg,oP (av (av j)),aa (.inl ((49:TypeId),dt ke)),aa (.inl ((49:TypeId),Z4)),aa (.inl ((136:TypeId),bj (ay (av j))))] [aa (Z6),aa (Z5),aa (Z8),aa (aE an),aa (Z7)] [dF 1 ti tg,oP (aL Z2 (bd (ay (n,m2)))),aa (.inl (49,(dt ke))),aa (.inl (49,Z4)),aa (.inl (136,(bj (bu ax Z2 (bd (ay (n,m2)))))))] 38))/\(decide Z3=an->Vc (PP Z2)/\aY (∃ j,(PP (av (av j))/\vY ax (ay j) (av (av j)) (ay (av j)) ke/\iO ax (ay j) (av (av j)) (ay (av j)) ke=iO ax K (aL m (aO ti tg)) (bu ax m (aO ti tg)) ke)/\ay j<k+1/\jJ Rs 2 (pA Tryz.f73) [0,3,4,5,6] [Z6,Z5,Z8,.bool an,Z7] [dF 1 ti tg,oP (av (av j)),aa (.inl ((49:TypeId),dt ke)),aa (.inl ((49:TypeId),Z4)),aa (.inl ((136:TypeId),bj (ay (av j))))] [aa (Z6),aa (Z5),aa (Z8),aa (aE an),aa (Z7)] [dF 1 ti tg,oP (aL Z2 (bo (ay (n,m2)))),aa (.inl (49,(dt ke))),aa (.inl (49,Z4)),aa (.inl (136,(bj (bu ax Z2 (bo (ay (n,m2)))))))] 38))))/\(decide (cw (ay (n,m2))>(0:Int))=an->aY (G (cr (aP [.agg (aP Z4),.bool an])) [dF 1 ti tg,oP Z2,aa (.inl (49,(dt ke))),aa (.inl (49,Z4)),aa (.inl (136,(bj (ay (n,m2))))),aa (.inl (49,Z4))]))) ?_ (by kernel_rfl)
  intro Z5 Z6 Z7 Z8 Z1 Z2 Z3 Z4;subst Z4 Z3 Z2 Z1 Z8 Z7 Z6 Z5;rw[vY] at s2;rw[iO] at s3;subst hG
  repeat' (first|apply cZ|apply Vc.mk|apply fits.mk|intro h|apply aY.mk)
  all_goals (try simp only[sB] at *)
  all_goals first|contradiction|omega|exact jF ‹_›|exact jH ‹_›|exact jG ‹_›|exact⟨rfl,by omega⟩|exact rfl|(simp[*,-au];done)|skip
  all_goals first|assumption|skip
  ·have h1:n.h>0:=by assumption
   have h2:ax.cmp ke n.e=0:=by assumption
   rw[if_pos h1,if_pos h2] at s3;rw[← s3];exact⟨[0,1],rfl,rfl,⟨.inl rfl,rfl,trivial⟩,rfl,rfl,rfl,rfl⟩
  ·have h1:n.h>0:=by assumption
   have h2:ax.cmp ke n.e≠0:=by assumption
   have h3:ax.cmp ke n.e<0:=by assumption
   rw[if_pos h1,if_neg h2,if_pos h3] at s3;exact⟨(k,bu ax m2 n.l,aL m2 n.l),⟨jn.2 s1,(s2 h1 h2).1 (by omega),s3⟩,fI _,⟨[0,1,2,3,4],rfl,⟨.inl rfl,rfl,.inl rfl,.inl rfl,.inl rfl,trivial⟩,rfl,rfl,rfl,rfl⟩⟩
  ·have h1:n.h>0:=by assumption
   have h2:ax.cmp ke n.e≠0:=by assumption
   have h3:¬ ax.cmp ke n.e<0:=by omega
   rw[if_pos h1,if_neg h2,if_neg h3] at s3;exact⟨(k,bu ax m2 n.r,aL m2 n.r),⟨jn.2 s1,(s2 h1 h2).2 (by omega),s3⟩,fI _,⟨[0,1,2,3,4],rfl,⟨.inl rfl,rfl,.inl rfl,.inl rfl,.inl rfl,trivial⟩,rfl,rfl,rfl,rfl⟩⟩
  ·have h1:¬ n.h>0:=by omega
   rw[if_neg h1] at s3;rw[← s3];exact⟨[0,1],rfl,rfl,⟨.inl rfl,rfl,trivial⟩,rfl,rfl,rfl,rfl⟩
 ·cases hx
def Fm (K:Nat):Prim Rs:=fun args hh=>match args,hh with
 |[.pointer (aa ⟨0,0,aj⟩),.agg ⟨kE⟩],[aa (.inl (110,[.pointer (aa ⟨1,0,aj⟩),.int .i64 ti,.int .i64 tg])),aa (.inr (.inr (.inr (.db m))))]=>aa ⟨kE=dt (fY kE)/\(PP m/\vZ ax K (aL m (⟨ti,tg⟩:bn)) (bu ax m (⟨ti,tg⟩:bn)) (fY kE) 0),.int .i64 (lX ax K (aL m (⟨ti,tg⟩:bn)) (bu ax m (⟨ti,tg⟩:bn)) (fY kE) 0).1,aj,[aa (.inl (110,[.pointer (aa ⟨1,0,aj⟩),.int .i64 ti,.int .i64 tg])),aa (.inr (.inr (.inr (.db (lX ax K (aL m (⟨ti,tg⟩:bn)) (bu ax m (⟨ti,tg⟩:bn)) (fY kE) 0).2))))],[],[(0,0)]⟩
 |_,_=>aj
def Bv (K:Nat):eM Rs:=[(1000000000,lW),(80,bJ zN 2 (a9 km)),(222,bJ zN 2 (a9 Jp))]
theorem NJ (K:Nat):b8 D Tryz.prog 65 (a9 (Fm K)):=by
 refine fx Tryz.f65 fun args hh x hx=>?_
 unfold Fm at hx;split at hx
 ·rename_i kE ti tg m;cases hx;refine q4 fun _ hv=>?_
  obtain⟨j7,hv⟩:=hv;generalize fY kE=ke at *;subst j7;obtain⟨hp,hd⟩:=hv
  generalize hG:cj (R:=Rs) _ _=G;refine cK (T:=(Bv K)) (show cN D Tryz.prog (Bv K) from⟨iF,aT _ _ look_ok,aT _ _ ym,trivial⟩) mixed 200 ?_
  refine bM (q:=let Z1:=(aC (aa ⟨0,0,aj⟩));Vc (PP m)/\At D Tryz.prog (dI Tryz.f65) 2 (iB Tryz.prog (dw (dx Tryz.f65)) G) [.inl [1,1,1,0,0],.inr (.inl 0),.inl [1,1,1,1]] (SS.mk (aa Z1::aa (bG (aP (dt ke)))::aj::aa (aC (aa ⟨2,0,aj⟩))::aa (bk ar 0)::aa (bk ar 0)::aa (aC (aa ⟨3,0,aj⟩))::aj::aa Z1::aa Z1::aa Z1::aa (aC (aa ⟨0,1,aj⟩))::aa (bG (aP [.int ar ti,.int ar tg]))::aa (bG (aP (bj (bu ax m (aO ti tg)))))::nH (n4 (n4 (n4 ([]))))) [] [dF 1 ti tg,oP (aL m (aO ti tg)),aa (.inl (49,(dt ke))),aa (.inl (136,(bj (bu ax m (aO ti tg)))))])) ?_ (by kernel_rfl)
  intro Z1;subst Z1;refine⟨⟨hp⟩,?_⟩;refine kC (by kernel_rfl) (ι:=Nat×Nd×Pl×Int) (fun s=>PP s.2.2.1/\vZ ax s.1 s.2.2.1 s.2.1 ke s.2.2.2/\lX ax s.1 s.2.2.1 s.2.1 ke s.2.2.2=lX ax K (aL m (⟨ti,tg⟩:bn)) (bu ax m (⟨ti,tg⟩:bn)) ke 0) [0,3,5,6] (fun s=>[.pointer (aa ⟨0,0,aj⟩),.pointer (aa ⟨2,0,aj⟩),.int .i64 s.2.2.2,.pointer (aa ⟨3,0,aj⟩)]) (fun s=>[aa (.inl (110,[.pointer (aa ⟨1,0,aj⟩),.int .i64 ti,.int .i64 tg])),aa (.inr (.inr (.inr (.db s.2.2.1)))),aa (.inl (49,dt ke)),aa (.inl (136,bj s.2.1))]) (fun s=>s.1) (Tryz.f65).ntmps (fun s hs=>⟨rfl,rfl,tZ _ _⟩) ⟨(K,bu ax m (⟨ti,tg⟩:bn),aL m (⟨ti,tg⟩:bn),0),⟨jn.2 hp,hd,rfl⟩,⟨[0,1,2,3],rfl,⟨.inl rfl,rfl,.inl rfl,.inl rfl,trivial⟩,rfl,rfl,rfl,rfl⟩⟩ fun s hs=>?_
  obtain⟨k,n,m2,c⟩:=s;obtain⟨s1,s2,s3⟩:=hs;simp only at s1 s2 s3;rcases k with _|k
  ·exact s2.elim
  refine cK (T:=Bv K) (show cN D Tryz.prog (Bv K) from⟨iF,aT _ _ look_ok,aT _ _ ym,trivial⟩) mixed 200 ?_
  refine bM (q:=let Z3:=aC (aa ⟨2,0,aj⟩);let Z4:=aC (aa ⟨0,0,aj⟩);let Z5:=aC (aa ⟨3,0,aj⟩);let Z6:=bk ar;let Z1:=(ay (n,m2,c));let Z2:=(ay (av (n,m2,c)));(decide (cw Z1>(0:Int))=ao->Vc True/\Vc True/\(decide (hU ax ke (b6 Z1)≤(0:Int))=ao->Vc (PP Z2)/\aY (∃ j,(PP (ay (av (av j)))/\vZ ax (ay j) (ay (av (av j))) (ay (av j)) ke (av (av (av j)))/\lX ax (ay j) (ay (av (av j))) (ay (av j)) ke (av (av (av j)))=lX ax K (aL m (aO ti tg)) (bu ax m (aO ti tg)) ke (0:Int))/\ay j<k+1/\jJ Rs 2 (pA Tryz.f65) [0,3,5,6] [Z4,Z3,Z6 (av (av (av j))),Z5] [dF 1 ti tg,oP (ay (av (av j))),aa (.inl ((49:TypeId),dt ke)),aa (.inl ((136:TypeId),bj (ay (av j))))] [aa (Z4),aa (Z3),aa (Z6 (av (av (n,m2,c)))),aa (Z5)] [dF 1 ti tg,oP (aL Z2 (bd Z1)),aa (.inl (49,(dt ke))),aa (.inl (136,(bj (bu ax Z2 (bd Z1)))))] 42))/\(decide (hU ax ke (b6 Z1)≤(0:Int))=an->Vc (PP Z2)/\Vc True/\Vc True/\aY (∃ j,(PP (ay (av (av j)))/\vZ ax (ay j) (ay (av (av j))) (ay (av j)) ke (av (av (av j)))/\lX ax (ay j) (ay (av (av j))) (ay (av j)) ke (av (av (av j)))=lX ax K (aL m (aO ti tg)) (bu ax m (aO ti tg)) ke (0:Int))/\ay j<k+1/\jJ Rs 2 (pA Tryz.f65) [0,3,5,6] [Z4,Z3,Z6 (av (av (av j))),Z5] [dF 1 ti tg,oP (ay (av (av j))),aa (.inl ((49:TypeId),dt ke)),aa (.inl ((136:TypeId),bj (ay (av j))))] [aa (Z4),aa (Z3),aa (Z6 (ck ar (av (av (n,m2,c))+ck ar (bP (bw Z1)-bP (bw (bu ax Z2 (bo Z1))))))),aa (Z5)] [dF 1 ti tg,oP (aL Z2 (bo Z1)),aa (.inl (49,(dt ke))),aa (.inl (136,(bj (bu ax Z2 (bo Z1))))),aa (.inl (136,(bj (bu ax Z2 (bo Z1)))))] 42)))/\(decide (cw Z1>(0:Int))=an->aY (G (Z6 (av (av (n,m2,c)))) [dF 1 ti tg,oP Z2,aa (.inl (49,(dt ke))),aa (.inl (136,(bj Z1)))]))) ?_ (by kernel_rfl)
  intro Z3 Z4 Z5 Z6 Z1 Z2;subst Z2 Z1 Z6 Z5 Z4 Z3;rw[vZ] at s2;rw[lX] at s3;subst hG
  repeat' (first|apply cZ|apply Vc.mk|apply fits.mk|intro h|apply aY.mk)
  all_goals (try simp only[sB] at *)
  all_goals first|contradiction|omega|exact jF ‹_›|exact jH ‹_›|exact jG ‹_›|exact⟨rfl,by omega⟩|exact rfl|(simp[*,-au];done)|skip
  all_goals first|assumption|skip
  ·have h1:n.h>0:=by assumption
   have h2:ax.cmp ke n.e≤0:=by assumption
   rw[if_pos h1,if_pos h2] at s3;exact⟨(k,bu ax m2 n.l,aL m2 n.l,c),⟨jn.2 s1,(s2 h1).1 (by omega),s3⟩,fI _,⟨[0,1,2,3],rfl,⟨.inl rfl,rfl,.inl rfl,.inl rfl,trivial⟩,rfl,rfl,rfl,rfl⟩⟩
  ·have h1:n.h>0:=by assumption
   have h2:¬ ax.cmp ke n.e≤0:=by omega
   rw[if_pos h1,if_neg h2] at s3;exact⟨(k,bu ax m2 n.r,aL m2 n.r,nq (c+nq (n.all.n-(bu ax m2 n.r).all.n))),⟨jn.2 s1,(s2 h1).2 (by omega),s3⟩,fI _,⟨[0,1,2,3],rfl,⟨.inl rfl,rfl,.inl rfl,.inl rfl,trivial⟩,rfl,rfl,rfl,rfl⟩⟩
  ·have h1:¬ n.h>0:=by omega
   rw[if_neg h1] at s3;rw[← s3];exact⟨[0,1],rfl,rfl,⟨.inl rfl,rfl,trivial⟩,rfl,rfl,rfl,rfl⟩
 ·cases hx
def Of (K:Nat):Prim Rs:=fun args hh=>match args,hh with
 |[.pointer (aa ⟨0,0,aj⟩),.int .i64 i_],[aa (.inl (110,[.pointer (aa ⟨1,0,aj⟩),.int .i64 ti,.int .i64 tg])),aa (.inr (.inr (.inr (.db m))))]=>aa ⟨PP m/\Gv.AtD ax K m (⟨ti,tg⟩:bn) i_,.tuple #[.agg ⟨dt (lJ ax K m (⟨ti,tg⟩:bn) i_).1.1⟩,.bool (lJ ax K m (⟨ti,tg⟩:bn) i_).1.2],aj,[aa (.inl (110,[.pointer (aa ⟨1,0,aj⟩),.int .i64 ti,.int .i64 tg])),aa (.inr (.inr (.inr (.db (lJ ax K m (⟨ti,tg⟩:bn) i_).2))))],[],[(0,0)]⟩
 |_,_=>aj
def Ip (K:Nat):eM Rs:=[(1000000000,lW),(80,bJ zN 2 (a9 km))]
theorem V' (K:Nat):b8 D Tryz.prog 141 (a9 (Of K)):=by
 refine fx Tryz.f141 fun args hh x hx=>?_
 unfold Of at hx;split at hx
 ·rename_i i_ ti tg m;cases hx;refine q4 fun _ hv=>?_
  obtain⟨hp,hd⟩:=hv;generalize hG:cj (R:=Rs) _ _=G;refine cK (T:=(Ip K)) (show cN D Tryz.prog (Ip K) from⟨iF,aT _ _ look_ok,trivial⟩) mixed 200 ?_
  refine bM (q:=let Z4:=bk ar;let Z1:=(i_≥bP (bw (bu ax m (aO ti tg))));let Z2:=(dt (FY 0 an (cX 0 0) an an (cX 0 0)));let Z3:=(aC (aa ⟨0,0,aj⟩));Vc (PP m)/\(decide (i_<(0:Int))=an->(decide Z1=ao->aY (G (cr (aP [.agg (aP Z2),.bool an])) [dF 1 ti tg,oP (aL m (aO ti tg)),aa (.inl (49,Z2)),aa (.inl (49,Z2)),aa (.inl (136,(bj (bu ax m (aO ti tg)))))]))/\(decide Z1=an->At D Tryz.prog (dI Tryz.f141) 2 (iB Tryz.prog (dw (dx Tryz.f141)) G) [.inl [1,1,1,1,0],.inr (.inl 0)] (SS.mk (aa Z3::aa (Z4 i_)::aj::aj::aa (aC (aa ⟨2,0,aj⟩))::aa (aE an)::aa (aC (aa ⟨3,0,aj⟩))::aa (aC (aa ⟨4,0,aj⟩))::aj::aa Z3::aa Z3::aa Z3::aa (aC (aa ⟨0,1,aj⟩))::aa (bG (aP [Z4 ti,Z4 tg]))::aa (bG (aP (bj (bu ax m (aO ti tg)))))::aa (Z4 i_)::aa (aE (decide (i_<(0:Int))))::aa (aE an)::aa (Z4 i_)::aa (aC (aa ⟨4,12,aj⟩))::aa (aC (aa ⟨4,12,aj⟩))::aa (Z4 (bP (bw (bu ax m (aO ti tg)))))::aa (aE (decide Z1))::aa (aE an)::nH (n4 (n4 (n4 ([]))))) [(23,an),(17,an),(5,an)] [dF 1 ti tg,oP (aL m (aO ti tg)),aa (.inl (49,Z2)),aa (.inl (49,Z2)),aa (.inl (136,(bj (bu ax m (aO ti tg)))))])))/\(decide (i_<(0:Int))=ao->aY (G (cr (aP [.agg (aP Z2),.bool an])) [dF 1 ti tg,oP (aL m (aO ti tg)),aa (.inl (49,Z2)),aa (.inl (49,Z2)),aa (.inl (136,(bj (bu ax m (aO ti tg)))))]))) ?_ (by kernel_rfl)
  intro Z4 Z1 Z2 Z3;subst Z3 Z2 Z1 Z4;have n1:i_<0∨i_≥(bu ax m (⟨ti,tg⟩:bn)).all.n->G (.tuple #[.agg ⟨[.int .i64 0,.bool an,.int .i64 0,.int .i64 0,.bool an,.bool an,.int .i64 0,.int .i64 0]⟩,.bool an])=G (.tuple #[.agg ⟨[.int .i64 0,.bool an,.int .i64 0,.int .i64 0,.bool an,.bool an,.int .i64 0,.int .i64 0]⟩,.bool an]):=fun _=>rfl
  have en:∀ rest,i_<0∨i_≥(bu ax m (⟨ti,tg⟩:bn)).all.n->G (.tuple #[.agg ⟨[.int .i64 0,.bool an,.int .i64 0,.int .i64 0,.bool an,.bool an,.int .i64 0,.int .i64 0]⟩,.bool an]) ([aa (.inl (110,[.pointer (aa ⟨1,0,aj⟩),.int .i64 ti,.int .i64 tg])),aa (.inr (.inr (.inr (.db (aL m (⟨ti,tg⟩:bn))))))]++rest):=by
   intro rest h;have e:lJ ax K m (⟨ti,tg⟩:bn) i_=((ax.e0,an),aL m (⟨ti,tg⟩:bn)):=by rw[lJ,if_pos h]
   subst hG;rw[e];exact⟨[0,1],rfl,rfl,⟨.inl rfl,rfl,trivial⟩,rfl,rfl,rfl,rfl⟩
  refine⟨⟨hp⟩,fun h=>⟨fun h2=>⟨en _ (.inr (by simpa using h2))⟩,fun h2=>?_⟩,fun h=>⟨en _ (.inl (by simpa using h))⟩⟩
  have h3:¬ i_<0:=by simpa using h
  have h4:¬ i_≥(bu ax m (⟨ti,tg⟩:bn)).all.n:=by simpa using h2
  have ee:lJ ax K m (⟨ti,tg⟩:bn) i_=(((pa ax K (aL m (⟨ti,tg⟩:bn)) (bu ax m (⟨ti,tg⟩:bn)) i_).1,ao),(pa ax K (aL m (⟨ti,tg⟩:bn)) (bu ax m (⟨ti,tg⟩:bn)) i_).2):=by rw[lJ,if_neg (by omega)]
  have xj:=hd h3 h4;refine kC (by kernel_rfl) (ι:=Nat×Nd×Pl×Int) (fun s=>PP s.2.2.1/\CA ax s.1 s.2.2.1 s.2.1 s.2.2.2/\pa ax s.1 s.2.2.1 s.2.1 s.2.2.2=pa ax K (aL m (⟨ti,tg⟩:bn)) (bu ax m (⟨ti,tg⟩:bn)) i_) [0,1,4,7] (fun s=>[.pointer (aa ⟨0,0,aj⟩),.int .i64 s.2.2.2,.pointer (aa ⟨2,0,aj⟩),.pointer (aa ⟨3,0,aj⟩)]) (fun s=>[aa (.inl (110,[.pointer (aa ⟨1,0,aj⟩),.int .i64 ti,.int .i64 tg])),aa (.inr (.inr (.inr (.db s.2.2.1)))),aa (.inl (49,[.int .i64 0,.bool an,.int .i64 0,.int .i64 0,.bool an,.bool an,.int .i64 0,.int .i64 0])),aa (.inl (136,bj s.2.1))]) (fun s=>s.1) (Tryz.f141).ntmps (fun s hs=>⟨rfl,rfl,tZ _ _⟩) ⟨(K,bu ax m (⟨ti,tg⟩:bn),aL m (⟨ti,tg⟩:bn),i_),⟨jn.2 hp,xj,rfl⟩,⟨[0,1,2,4],rfl,⟨.inl rfl,rfl,.inl rfl,.inl rfl,trivial⟩,rfl,rfl,rfl,rfl⟩⟩ fun s hs=>?_
  obtain⟨k,n,m2,c⟩:=s;obtain⟨s1,s2,s3⟩:=hs;simp only at s1 s2 s3;rcases k with _|k
  ·exact s2.elim
  refine cK (T:=Ip K) (show cN D Tryz.prog (Ip K) from⟨iF,aT _ _ look_ok,trivial⟩) mixed 200 ?_
  refine bM (q:=let Z5:=aC (aa ⟨2,0,aj⟩);let Z6:=aC (aa ⟨0,0,aj⟩);let Z7:=aC (aa ⟨3,0,aj⟩);let Z1:=(av (n,m2,c));let Z2:=(bu ax (ay Z1) (bd (ay (n,m2,c))));let Z3:=(aL (ay Z1) (bd (ay (n,m2,c))));let Z4:=(dt (FY 0 an (cX 0 0) an an (cX 0 0)));Vc (PP (ay Z1))/\((av Z1==bP (bw Z2))=ao->aY (G (cr (aP [.agg (aP (dt (b6 (ay (n,m2,c))))),.bool ao])) [dF 1 ti tg,oP Z3,aa (.inl (49,(dt (b6 (ay (n,m2,c)))))),aa (.inl (136,(bj (ay (n,m2,c))))),aa (.inl (136,(bj Z2)))]))/\((av Z1==bP (bw Z2))=an->(decide (av Z1<bP (bw Z2))=ao->aY (∃ j,(PP (ay (av (av j)))/\CA ax (ay j) (ay (av (av j))) (ay (av j)) (av (av (av j)))/\pa ax (ay j) (ay (av (av j))) (ay (av j)) (av (av (av j)))=pa ax K (aL m (aO ti tg)) (bu ax m (aO ti tg)) i_)/\ay j<k+1/\jJ Rs 2 (pA Tryz.f141) [0,1,4,7] [Z6,.int ar (av (av (av j))),Z5,Z7] [dF 1 ti tg,oP (ay (av (av j))),aa (.inl ((49:TypeId),Z4)),aa (.inl ((136:TypeId),bj (ay (av j))))] [aa (Z6),aa (bk ar (av Z1)),aa (Z5),aa (Z7)] [dF 1 ti tg,oP Z3,aa (.inl (49,Z4)),aa (.inl (136,(bj Z2))),aa (.inl (136,(bj Z2)))] 52))/\(decide (av Z1<bP (bw Z2))=an->Vc True/\Vc True/\Vc (PP Z3)/\aY (∃ j,(PP (ay (av (av j)))/\CA ax (ay j) (ay (av (av j))) (ay (av j)) (av (av (av j)))/\pa ax (ay j) (ay (av (av j))) (ay (av j)) (av (av (av j)))=pa ax K (aL m (aO ti tg)) (bu ax m (aO ti tg)) i_)/\ay j<k+1/\jJ Rs 2 (pA Tryz.f141) [0,1,4,7] [Z6,.int ar (av (av (av j))),Z5,Z7] [dF 1 ti tg,oP (ay (av (av j))),aa (.inl ((49:TypeId),Z4)),aa (.inl ((136:TypeId),bj (ay (av j))))] [aa (Z6),aa (bk ar (ck ar (av Z1-ck ar (bP (bw Z2)+(1:Int))))),aa (Z5),aa (Z7)] [dF 1 ti tg,oP (aL Z3 (bo (ay (n,m2,c)))),aa (.inl (49,Z4)),aa (.inl (136,(bj (bu ax Z3 (bo (ay (n,m2,c))))))),aa (.inl (136,(bj Z2)))] 52)))) ?_ (by kernel_rfl)
  intro Z5 Z6 Z7 Z1 Z2 Z3 Z4;subst Z4 Z3 Z2 Z1 Z7 Z6 Z5;rw[CA] at s2;rw[pa] at s3;subst hG
  repeat' (first|apply cZ|apply Vc.mk|apply fits.mk|intro h|apply aY.mk)
  all_goals (try simp only[sB] at *)
  all_goals first|contradiction|omega|exact jF ‹_›|exact jH ‹_›|exact jG ‹_›|exact⟨rfl,by omega⟩|exact rfl|(simp[*,-au];done)|skip
  all_goals first|assumption|exact jn.2 s1|skip
  ·have h1:c=(bu ax m2 n.l).all.n:=by assumption
   rw[if_pos h1] at s3;rw[ee,← s3];exact⟨[0,1],rfl,rfl,⟨.inl rfl,rfl,trivial⟩,rfl,rfl,rfl,rfl⟩
  ·have h1:c≠(bu ax m2 n.l).all.n:=by assumption
   have h2:c<(bu ax m2 n.l).all.n:=by assumption
   rw[if_neg h1,if_pos h2] at s3;exact⟨(k,bu ax m2 n.l,aL m2 n.l,c),⟨jn.2 s1,(s2 h1).1 (by omega),s3⟩,fI _,⟨[0,1,2,3],rfl,⟨.inl rfl,rfl,.inl rfl,.inl rfl,trivial⟩,rfl,rfl,rfl,rfl⟩⟩
  ·have h1:c≠(bu ax m2 n.l).all.n:=by assumption
   have h2:¬ c<(bu ax m2 n.l).all.n:=by omega
   rw[if_neg h1,if_neg h2] at s3;exact⟨(k,bu ax (aL m2 n.l) n.r,aL (aL m2 n.l) n.r,nq (c-nq ((bu ax m2 n.l).all.n+1))),⟨jn.2 (jn.2 s1),(s2 h1).2 (by omega),s3⟩,fI _,⟨[0,1,2,3],rfl,⟨.inl rfl,rfl,.inl rfl,.inl rfl,trivial⟩,rfl,rfl,rfl,rfl⟩⟩
 ·cases hx
end G8
namespace Sh
open Rx Wv
structure Sl where
 it:It
 kK:Bool
 time:Int
structure Sz where
 n:Int
def Y2:Sl:=⟨⟨0,0⟩,an,0⟩
def O9:Gv.iX Sl Sz:=⟨Y2,⟨0⟩,fun a b=>kX a.it b.it,fun _=>⟨1⟩,fun a b=>⟨nq (a.n+b.n)⟩⟩
def S9 (l:List Sl):Sz:=⟨l.length⟩
def Lw (l:List Sl):Prop:=l.length≤1000
theorem CN (a b:It):kX a b=0↔a=b:=by
 constructor
 ·intro h;refine It.KD ?_ ?_<;>(unfold kX at h;repeat' split at h)<;>omega
 ·rintro rfl;unfold kX;repeat' split
  all_goals omega
theorem Eg (a b:It):kX a b<0↔ah a b:=by unfold kX ah;repeat' split;all_goals omega
theorem VT {a b c:It} (h:ah a b) (h':ah b c):ah a c:=by unfold ah at *;omega
theorem Zb:Gv.zE O9 S9 Lw where
 nil:=rfl
 one e:=rfl
 plus x y h _ _:=by
  unfold Lw at h;unfold S9;rw[bE] at *
  show(⟨nq ((x.length:Int)+(y.length:Int))⟩:Sz)=⟨((x.length+y.length:Nat):Int)⟩
  rw[Gv.uK (by omega)];push_cast;rfl
 left x y h:=by unfold Lw at *;rw[bE] at h;omega
 right x y h:=by unfold Lw at *;rw[bE] at h;omega
 len x h:=Nat.le_trans h (by decide)
 swap a b:=by show kX a.it b.it<0↔kX b.it a.it>0;rw[Eg,xw]
 trans a b c h h':=by
  have h:kX a.it b.it<0:=h;have h':kX b.it c.it<0:=h';rw[Eg] at h h';show kX a.it c.it<0
  rw[Eg];exact VT h h'
 eqv a b c h h':=by
  have h:kX a.it b.it=0:=h;rw[CN] at h;have h':kX b.it c.it<0:=h';show kX a.it c.it<0
  rw[h];exact h'
 ZE a b c h h':=by
  have h:kX a.it b.it=0:=h;rw[CN] at h;have h':kX c.it b.it<0:=h';show kX c.it a.it<0
  rw[h];exact h'
set_option maxRecDepth 100000
def Nj {R:Type}:Prim R:=fun args hh=>match args,hh with
 |[.agg ⟨[.int .i64 a,.int .i64 b]⟩],[]=>aa ⟨True,.agg ⟨[.int .i64 a,.int .i64 b,.bool an,.int .i64 0]⟩,aj,hh,[],[]⟩
 |_,_=>aj
theorem KJ {R:Type} {D:fR R}:b8 D Tryz.prog 69 (a9 Nj):=by
 refine fx Tryz.f69 fun args hh x hx=>?_
 unfold Nj at hx;split at hx
 ·rename_i a b;cases hx;refine q4 fun _ hv=>?_
  generalize hG:cj (R:=R) _ _=G;refine oX (T:=[]) trivial mixed 200 (q:=let Z1:=bk ar;aY (G (bG (aP [Z1 a,Z1 b,.bool an,Z1 0])) [aa (dg (31,[Z1 a,Z1 b])),aa (dg (75,[Z1 a,Z1 b,.bool an,Z1 0]))])) ?_ (by kernel_rfl)
  intro Z1;subst Z1;subst hG
  repeat' (first|apply cZ|apply Vc.mk|apply fits.mk|intro h|apply aY.mk)
  all_goals (try simp only[sB] at *)
  all_goals first|contradiction|omega|exact jF ‹_›|exact jH ‹_›|exact jG ‹_›|exact⟨rfl,by omega⟩|exact rfl|(simp[*,-au];done)|skip
  exact⟨[],rfl,rfl,trivial,rfl,rfl,rfl,rfl⟩
 ·cases hx
def TCi {R:Type}:eM R:=[(140,bJ zN 2 (a9 aaE))]
theorem ai0 {R:Type} {D:fR R}:cN D Tryz.prog (TCi:eM R):=⟨aT _ _ abe,trivial⟩
def Gd {R:Type}:Prim R:=fun args hh=>match args,hh with
 |[.agg ⟨[.int .i64 a,.int .i64 b,.bool c,.int .i64 d]⟩,.agg ⟨[.int .i64 a',.int .i64 b',.bool c',.int .i64 d']⟩],[]=>aa ⟨True,.int .i64 (O9.cmp ⟨⟨a,b⟩,c,d⟩ ⟨⟨a',b'⟩,c',d'⟩),aj,hh,[],[]⟩
 |_,_=>aj
theorem zR {R:Type} {D:fR R}:b8 D Tryz.prog 106 (a9 Gd):=by
 refine fx Tryz.f106 fun args hh x hx=>?_
 unfold Gd at hx;split at hx
 ·rename_i a b c d a' b' c' d';cases hx;refine q4 fun _ hv=>?_
  generalize hG:cj (R:=R) _ _=G;refine oX (T:=TCi) ai0 mixed 200 (q:=let Z1:=bk ar;Vc True/\aY (G (Z1 (kX (It.mk a b) (It.mk a' b'))) [aa (dg (75,[Z1 a,Z1 b,.bool c,Z1 d])),aa (dg (75,[Z1 a',Z1 b',.bool c',Z1 d']))])) ?_ (by kernel_rfl)
  intro Z1;subst Z1;subst hG
  repeat' (first|apply cZ|apply Vc.mk|apply fits.mk|intro h|apply aY.mk)
  all_goals (try simp only[sB] at *)
  all_goals first|contradiction|omega|exact jF ‹_›|exact jH ‹_›|exact jG ‹_›|exact⟨rfl,by omega⟩|exact rfl|(simp[*,-au];done)|skip
  exact⟨[],rfl,rfl,trivial,rfl,rfl,rfl,rfl⟩
 ·cases hx
def aan {R:Type}:Prim R:=fun args hh=>match args,hh with
 |[.agg ⟨[.int .i64 a,.int .i64 b,.bool c,.int .i64 d]⟩],[]=>aa ⟨True,.int .i64 (O9.sum ⟨⟨a,b⟩,c,d⟩).n,aj,hh,[],[]⟩
 |_,_=>aj
theorem ahC {R:Type} {D:fR R}:b8 D Tryz.prog 241 (a9 aan):=by
 refine fx Tryz.f241 fun args hh x hx=>?_
 unfold aan at hx;split at hx
 ·rename_i a b c d;cases hx;refine q4 fun _ hv=>?_
  generalize hG:cj (R:=R) _ _=G;refine oX (T:=[]) trivial mixed 200 (q:=aY (G (bk ar 1) [aa (dg (75,[.int ar a,.int ar b,.bool c,.int ar d]))])) ?_ (by kernel_rfl)
  subst hG
  repeat' (first|apply cZ|apply Vc.mk|apply fits.mk|intro h|apply aY.mk)
  all_goals (try simp only[sB] at *)
  all_goals first|contradiction|omega|exact jF ‹_›|exact jH ‹_›|exact jG ‹_›|exact⟨rfl,by omega⟩|exact rfl|(simp[*,-au];done)|skip
  exact⟨[],rfl,rfl,trivial,rfl,rfl,rfl,rfl⟩
 ·cases hx
def ai9 {R:Type}:eM R:=[(1000000000,lW)]
theorem ag4 {R:Type} {D:fR R}:cN D Tryz.prog (ai9:eM R):=⟨iF,trivial⟩
def Uo {R:Type}:Prim R:=fun args hh=>match args,hh with
 |[.int .i64 a,.int .i64 b],[]=>aa ⟨True,.int .i64 (O9.plus ⟨a⟩ ⟨b⟩).n,aj,hh,[],[]⟩
 |_,_=>aj
theorem adW {R:Type} {D:fR R}:b8 D Tryz.prog 242 (a9 Uo):=by
 refine fx Tryz.f242 fun args hh x hx=>?_
 unfold Uo at hx;split at hx
 ·rename_i a b;cases hx;refine q4 fun _ hv=>?_
  generalize hG:cj (R:=R) _ _=G;refine oX (T:=ai9) ag4 mixed 200 (q:=Vc True/\aY (G (bk ar (ck ar (a+b))) [])) ?_ (by kernel_rfl)
  subst hG
  repeat' (first|apply cZ|apply Vc.mk|apply fits.mk|intro h|apply aY.mk)
  all_goals (try simp only[sB] at *)
  all_goals first|contradiction|omega|exact jF ‹_›|exact jH ‹_›|exact jG ‹_›|exact⟨rfl,by omega⟩|exact rfl|(simp[*,-au];done)|skip
  exact⟨[],rfl,rfl,trivial,rfl,rfl,rfl,rfl⟩
 ·cases hx
end Sh
namespace Pa
open Rx Wv
def Ord (l:List It):Prop:=l.Pairwise ah
theorem H4 (a:It):¬ ah a a:=fun h=>sO h h
theorem Qd {a b c:It} (h:ah a b) (h':ah b c):ah a c:=by unfold ah at *;omega
theorem alG {a b:It} (h:ah a b):a≠b:=fun e=>by subst e;exact H4 _ h
theorem Ue {a b:It} (h:a≠b):ah a b∨ah b a:=by
 by_cases c:ah a b
 ·exact .inl c
 ·by_cases c':ah b a
  ·exact .inr c'
  ·exact absurd (ab4 c c') h
def ig (x:It):List It->List It
 |[]=>[x]
 |y::l=>if ah x y then x::y::l else y::ig x l
theorem kd {x z:It}:∀ {l:List It},z∈ig x l↔z=x∨z∈l
 |[]=>by simp[ig]
 |y::l=>by
  rw[ig];split
  ·simp
  ·simp only[bN,kd (l:=l)]
   constructor
   ·rintro (h|h|h)
    ·exact .inr (.inl h)
    ·exact .inl h
    ·exact .inr (.inr h)
   ·rintro (h|h|h)
    ·exact .inr (.inl h)
    ·exact .inl h
    ·exact .inr (.inr h)
theorem pF {x:It}:∀ {l:List It},Ord l->x∉l->Ord (ig x l)
 |[],_,_=>List.pairwise_singleton _ _
 |y::l,h,hx=>by
  have h1:=fL.1 h;have kG:x≠y:=fun e=>hx (e▸bL)
  rw[ig];split
  ·rename_i c;exact fL.2 ⟨fun z hz=>by
    rcases bN.1 hz with e|e
    ·rw[e];exact c
    ·exact Qd c (h1.1 z e),h⟩
  ·rename_i c;refine fL.2 ⟨fun z hz=>?_,pF h1.2 (fun e=>hx (dX _ e))⟩
   rcases kd.1 hz with e|e
   ·rw[e];rcases Ue kG with c'|c'
    ·exact absurd c' c
    ·exact c'
   ·exact h1.1 z e
theorem As:∀ {a b:List It},Ord a->Ord b->(∀ x,x∈a↔x∈b)->a=b
 |[],[],_,_,_=>rfl
 |[],y::b,_,_,h=>by have:=(h y).2 bL;cases this
 |x::a,[],_,_,h=>by have:=(h x).1 bL;cases this
 |x::a,y::b,ha,hb,h=>by
  have O':=fL.1 ha;have qC:=fL.1 hb;have e:x=y:=by
   rcases bN.1 ((h x).1 bL) with e|e
   ·exact e
   ·rcases bN.1 ((h y).2 bL) with e'|e'
    ·exact e'.symm
    ·exact absurd (O'.1 y e') (sO (qC.1 x e))
  subst e;have:a=b:=As O'.2 qC.2 fun z=>by
   have hz:=h z;simp only[bN] at hz
   constructor
   ·intro m;rcases hz.1 (.inr m) with e|e
    ·subst e;exact absurd (O'.1 _ m) (H4 _)
    ·exact e
   ·intro m;rcases hz.2 (.inr m) with e|e
    ·subst e;exact absurd (qC.1 _ m) (H4 _)
    ·exact e
  rw[this]
theorem aeL {x y:It} {l:List It} (h:Ord l) (hx:x∉l) (hy:y∉l) (kG:x≠y):ig x (ig y l)=ig y (ig x l):=by
 refine As (pF (pF h hy) ?_) (pF (pF h hx) ?_) fun z=>?_
 ·rw[kd];rintro (e|e);exact kG e;exact hx e
 ·rw[kd];rintro (e|e);exact kG e.symm;exact hy e
 ·simp only[kd]
  constructor<;>rintro (e|e|e)
  ·exact .inr (.inl e)
  ·exact .inl e
  ·exact .inr (.inr e)
  ·exact .inr (.inl e)
  ·exact .inl e
  ·exact .inr (.inr e)
def qb (z:It) (l:List It):List It:=l.filter fun y=>!decide (y=z)
theorem pE {x z:It} {l:List It}:x∈qb z l↔x∈l/\x≠z:=by
 unfold qb;rw[py]
 constructor
 ·rintro ⟨h1,h2⟩;exact⟨h1,fun e=>by rw[decide_eq_true e] at h2;cases h2⟩
 ·rintro ⟨h1,h2⟩;exact⟨h1,by rw[decide_eq_false h2];rfl⟩
theorem zJ {z:It} {l:List It} (h:Ord l):Ord (qb z l):=aaM _ h
theorem EW {y:It} {l:List It} (h:Ord (y::l)):Ord l:=(fL.1 h).2
theorem Dc {y z:It} {l:List It} (h:Ord (y::l)) (hz:z∈l):ah y z:=(fL.1 h).1 z hz
theorem yJ {y:It} {l:List It} (h:Ord (y::l)):y∉l:=fun m=>H4 _ (Dc h m)
def mx (x y:It):It:=if ah x y then y else x
def mn (x y:It):It:=if ah x y then x else y
theorem aet {x y:It} {l:List It} (h:Ord (y::l)) (hx:x∉y::l):ig x (y::l)=mn x y::ig (mx x y) l:=by
 unfold mn mx;rw[ig];split
 ·rename_i c
  congr 1
  cases l with
  |nil=>rfl
  |cons w l=>rw[ig,if_pos (Dc h bL)]
 ·rfl
structure Op where
 t:Int
 ins:Bool
 it:It
def gB (r:List Op):List It:=(r.filter Op.ins).map Op.it
theorem yl {o:Op} {r:List Op} (h:o.ins=ao):gB (o::r)=o.it::gB r:=by unfold gB;rw[j5,if_pos h];rfl
theorem ru {o:Op} {r:List Op} (h:o.ins=an):gB (o::r)=gB r:=by unfold gB;rw[j5,if_neg (by rw[h];decide)]
def ov (h:List It) (o:Op):List It:=if o.ins=ao then ig o.it h else h.tail
def fin (h:List It):List Op->List It
 |[]=>h
 |o::r=>fin (ov h o) r
def tk (h:List It):List Op->List It
 |[]=>[]
 |o::r=>if o.ins=ao then tk (ig o.it h) r else h.take 1++tk h.tail r
def gE (h:List It):List Op->Nat
 |[]=>0
 |o::r=>if o.ins=ao then gE (ig o.it h) r else(if h=[] then 1 else 0)+gE h.tail r
theorem tJ {h:List It} {o:Op} {r:List Op} (e:o.ins=ao):fin h (o::r)=fin (ig o.it h) r:=by rw[fin,ov,if_pos e]
theorem nW {h:List It} {o:Op} {r:List Op} (e:o.ins=an):fin h (o::r)=fin h.tail r:=by rw[fin,ov,if_neg (by rw[e];decide)]
theorem oU {h:List It} {o:Op} {r:List Op} (e:o.ins=ao):tk h (o::r)=tk (ig o.it h) r:=by rw[tk,if_pos e]
theorem wz {h:List It} {o:Op} {r:List Op} (e:o.ins=an):tk h (o::r)=h.take 1++tk h.tail r:=by rw[tk,if_neg (by rw[e];decide)]
theorem o7 {h:List It} {o:Op} {r:List Op} (e:o.ins=ao):gE h (o::r)=gE (ig o.it h) r:=by rw[gE,if_pos e]
theorem zM {h:List It} {o:Op} {r:List Op} (e:o.ins=an):gE h (o::r)=(if h=[] then 1 else 0)+gE h.tail r:=by rw[gE,if_neg (by rw[e];decide)]
theorem sX {o:Op} {r:List Op} (e:o.ins=an):gE [] (o::r)=1+gE [] r:=by rw[zM e,if_pos rfl];rfl
theorem nC {y:It} {h:List It} {o:Op} {r:List Op} (e:o.ins=an):gE (y::h) (o::r)=gE h r:=by rw[zM e,if_neg (by simp),bW];rfl
theorem Cl {o:Op} {r:List Op} (e:o.ins=an):tk [] (o::r)=tk [] r:=by rw[wz e];rfl
theorem oQ {y:It} {h:List It} {o:Op} {r:List Op} (e:o.ins=an):tk (y::h) (o::r)=y::tk h r:=by rw[wz e];rfl
theorem ji (o:Op):o.ins=ao∨o.ins=an:=by cases o.ins<;>simp
structure Ap (h:List It) (r:List Op):Prop where
 ord:Ord h
 nd:(gB r).Nodup
 ap:∀ x,x∈h->x∉gB r
theorem Ap.ins {h:List It} {o:Op} {r:List Op} (a:Ap h (o::r)) (e:o.ins=ao):Ap (ig o.it h) r/\o.it∉h/\o.it∉gB r:=by
 have h1:=a.nd;have h2:=a.ap;rw[yl e] at h1 h2;have n1:o.it∉h:=fun m=>h2 _ m bL
 have n2:=(fP.1 h1).1;refine⟨⟨pF a.ord n1,(fP.1 h1).2,fun x hx=>?_⟩,n1,n2⟩
 rcases kd.1 hx with e'|e'
 ·rw[e'];exact n2
 ·exact fun m=>h2 x e' (dX _ m)
theorem Ap.del {h:List It} {o:Op} {r:List Op} (a:Ap h (o::r)) (e:o.ins=an):Ap h.tail r:=by
 have h1:=a.nd;have h2:=a.ap;rw[ru e] at h1 h2;refine⟨?_,h1,fun x hx=>h2 x (BE hx)⟩
 cases h with
 |nil=>exact a.ord
 |cons y h=>exact EW a.ord
theorem Ap.ov {h:List It} {o:Op} {r:List Op} (a:Ap h (o::r)):Ap (ov h o) r:=by
 unfold Pa.ov;rcases ji o with e|e
 ·rw[if_pos e];exact(a.ins e).1
 ·rw[if_neg (by rw[e];decide)];exact a.del e
theorem rv:∀ {r:List Op} {h:List It},Ap h r->∀ z,z∈tk h r->z∈h∨z∈gB r
 |[],h,a,z,hz=>by cases hz
 |o::r,h,a,z,hz=>by
  rcases ji o with e|e
  ·rw[oU e] at hz;rw[yl e];rcases rv (a.ins e).1 z hz with m|m
   ·rcases kd.1 m with m|m
    ·exact .inr (m▸bL)
    ·exact .inl m
   ·exact .inr (dX _ m)
  ·rw[wz e] at hz;rw[ru e];rcases bY.1 hz with m|m
   ·exact .inl (pB m)
   ·rcases rv (a.del e) z m with m|m
    ·exact .inl (BE m)
    ·exact .inr m
theorem rz:∀ {r:List Op} {h:List It},Ap h r->∀ z,z∈fin h r↔(z∈h∨z∈gB r)/\z∉tk h r
 |[],h,a,z=>by simp[fin,tk,gB]
 |o::r,h,a,z=>by
  rcases ji o with e|e
  ·rw[tJ e,oU e,yl e,rz (a.ins e).1,kd,bN]
   constructor
   ·rintro ⟨(m|m)|m,n⟩
    ·exact⟨.inr (.inl m),n⟩
    ·exact⟨.inl m,n⟩
    ·exact⟨.inr (.inr m),n⟩
   ·rintro ⟨m|m|m,n⟩
    ·exact⟨.inl (.inr m),n⟩
    ·exact⟨.inl (.inl m),n⟩
    ·exact⟨.inr m,n⟩
  ·rw[nW e,wz e,ru e,rz (a.del e)];cases h with
   |nil=>simp
   |cons y h =>
    have hy:=yJ a.ord;have hy2:y∉gB r:=by have:=a.ap y bL;rwa [ru e] at this
    have hy3:y∉tk h r:=fun m=>by
     rcases rv (a.del e) y m with m|m
     ·exact hy m
     ·exact hy2 m
    simp only[pb,bN,JU,sE,bY,v7,or_false]
    constructor
    ·rintro ⟨m|m,n⟩
     ·exact⟨.inl (.inr m),fun c=>by rcases c with c|c;exact hy (c▸m);exact n c⟩
     ·exact⟨.inr m,fun c=>by rcases c with c|c;exact hy2 (c▸m);exact n c⟩
    ·rintro ⟨(m|m)|m,n⟩
     ·exact absurd (.inl m) n
     ·exact⟨.inl m,fun c=>n (.inr c)⟩
     ·exact⟨.inr m,fun c=>n (.inr c)⟩
theorem Yz:∀ {r:List Op} {h:List It},Ap h r->Ord (fin h r)
 |[],h,a=>a.ord
 |o::r,h,a=>by rw[fin];exact Yz a.ov
def tG (x:It) (h:List It):List Op->Option It
 |[]=>aa x
 |o::r=>if o.ins=ao then tG x (ig o.it h) r else if h=[] then aj else tG (mx x (h.headD iz)) h.tail r
theorem Yh {x:It} {h:List It} {o:Op} {r:List Op} (e:o.ins=ao):tG x h (o::r)=tG x (ig o.it h) r:=by rw[tG,if_pos e]
theorem V_ {x:It} {o:Op} {r:List Op} (e:o.ins=an):tG x [] (o::r)=aj:=by rw[tG,if_neg (by rw[e];decide),if_pos rfl]
theorem YY {x y:It} {h:List It} {o:Op} {r:List Op} (e:o.ins=an):tG x (y::h) (o::r)=tG (mx x y) h r:=by rw[tG,if_neg (by rw[e];decide),if_neg (by simp)];rfl
theorem TY (x y:It):mx x y=x∨mx x y=y:=by unfold mx;split<;>simp
theorem anW (x y z:It):(z=mn x y∨z=mx x y)↔(z=x∨z=y):=by
 unfold mx mn;split
 ·rfl
 ·exact Or.comm
theorem L4:∀ {r:List Op} {h:List It} {x:It},Ap h r->x∉h->x∉gB r ->
  fin (ig x h) r=(match tG x h r with|none=>fin h r|some z=>ig z (fin h r)) /\
  gE h r=gE (ig x h) r+(if tG x h r=aj then 1 else 0) /\
  (∀ w,w∈tk (ig x h) r↔(w∈tk h r∨w=x)/\tG x h r≠aa w)/\(∀ z,tG x h r=aa z->z∉fin h r/\(z=x∨z∈tk h r))
 |[],h,x,a,hx,hi=>by
  refine⟨rfl,rfl,fun w=>?_,fun z hz=>?_⟩
  ·show w∈([]:List It)↔(w∈([]:List It)∨w=x)/\aa x≠aa w
   constructor
   ·intro m;cases m
   ·rintro ⟨m|m,n⟩
    ·exact m
    ·exact absurd (by rw[m]) n
  ·cases hz;exact⟨hx,.inl rfl⟩
 |o::r,h,x,a,hx,hi=>by
  rcases ji o with e|e
  ·obtain⟨a',n1,n2⟩:=a.ins e;rw[yl e] at hi;have kG:x≠o.it:=fun c=>hi (c▸bL)
   have ih:=L4 (r:=r) (h:=ig o.it h) (x:=x) a' (fun m=>by rcases kd.1 m with m|m;exact kG m;exact hx m) (fun m=>hi (dX _ m))
   rw[tJ e,tJ e,o7 e,o7 e,oU e,oU e,Yh e,aeL a.ord n1 hx kG.symm];exact ih
  ·rw[ru e] at hi;have a':=a.del e;cases h with
   |nil =>
    rw[V_ e,nW e,nW e,zM e,zM e,wz e,wz e];refine⟨rfl,?_,fun w=>?_,fun z hz=>by cases hz⟩
    ·show(if([]:List It)=[] then 1 else 0)+gE [] r=(if[x]=[] then 1 else 0)+gE [] r+1
     rw[if_pos rfl,if_neg (by simp)];omega
    ·show w∈[x]++tk [] r↔(w∈[]++tk [] r∨w=x)/\_
     simp only[pz,Ig,bN]
     constructor
     ·rintro (m|m)
      ·exact⟨.inr m,by simp⟩
      ·exact⟨.inl m,by simp⟩
     ·rintro ⟨m|m,_⟩
      ·exact .inr m
      ·exact .inl m
   |cons y h =>
    have kG:x≠y:=fun c=>hx (c▸bL)
    have hxh:x∉h:=fun m=>hx (dX _ m)
    have hyh:=yJ a.ord;have hyi:y∉gB r:=by have:=a.ap y bL;rwa [ru e] at this
    have hm1:mx x y∉h:=by rcases TY x y with c|c<;>rw[c]<;>assumption
    have Ki:mx x y∉gB r:=by rcases TY x y with c|c<;>rw[c]<;>assumption
    obtain⟨i1,i2,i3,i4⟩:=L4 (r:=r) (h:=h) (x:=mx x y) a' hm1 Ki;have ytk:y∉tk h r:=fun m=>by
     rcases rv a' y m with m|m
     ·exact hyh m
     ·exact hyi m
    rw[YY e,nW e,nW e,zM e,zM e,wz e,wz e,aet a.ord hx];simp only[pb,JU,sE,Ig];rw[if_neg (by simp),if_neg (by simp),bW,bW]
    refine⟨i1,i2,fun w=>?_,fun z hz=>?_⟩
    ·rw[bN,i3,bN];have k:=anW x y w;have nmn:tG (mx x y) h r≠aa (mn x y):=fun c=>by
      rcases(i4 _ c).2 with c2|c2
      ·unfold mx mn at c2;split at c2
       ·exact kG c2
       ·exact kG c2.symm
      ·have:mn x y=x∨mn x y=y:=by unfold mn;split<;>simp
       rcases this with c3|c3
       ·rw[c3] at c2;rcases rv a' x c2 with m|m
        ·exact hxh m
        ·exact hi m
       ·rw[c3] at c2;exact ytk c2
     constructor
     ·rintro (m|⟨m,n⟩)
      ·have:=k.1 (.inl m);refine⟨?_,m▸nmn⟩;rcases this with c|c
       ·exact .inr c
       ·exact .inl (.inl c)
      ·refine⟨?_,n⟩;rcases m with m|m
       ·exact .inl (.inr m)
       ·rcases k.1 (.inr m) with c|c
        ·exact .inr c
        ·exact .inl (.inl c)
     ·rintro ⟨(m|m)|m,n⟩
      ·rcases k.2 (.inr m) with c|c
       ·exact .inl c
       ·exact .inr ⟨.inr c,n⟩
      ·exact .inr ⟨.inl m,n⟩
      ·rcases k.2 (.inl m) with c|c
       ·exact .inl c
       ·exact .inr ⟨.inr c,n⟩
    ·obtain⟨z1,z2⟩:=i4 z hz;refine⟨z1,?_⟩;rcases z2 with c|c
     ·rcases TY x y with c2|c2
      ·exact .inl (c.trans c2)
      ·exact .inr (c.trans c2▸bL)
     ·exact .inr (dX _ c)
def tp (h:List It) (r:List Op):Option (Option It):=if gE h r=0 then aa (hi (tk h r)) else aj
def upO (x:It):Option (Option It)->Option It
 |none=>aj
 |some m=>up (aa x) m
theorem PC (x y:It):up (aa x) (aa y)=aa (mx x y):=by
 show(if ah x y then aa y else aa x)=aa (mx x y)
 unfold mx;split<;>rfl
theorem Pj:∀ {r:List Op} {h:List It} {x:It},tG x h r=upO x (tp h r)
 |[],h,x=>rfl
 |o::r,h,x=>by
  rcases ji o with e|e
  ·rw[Yh e,Pj];unfold tp;rw[o7 e,oU e]
  ·cases h with
   |nil =>
    rw[V_ e];unfold tp;rw[sX e,if_neg (by omega)]
    rfl
   |cons y h =>
    rw[YY e,Pj];unfold tp;rw[nC e,oQ e];split
    ·show up (aa (mx x y)) (hi (tk h r))=up (aa x) (up (aa y) (hi (tk h r)))
     rw[← Ut,PC]
    ·rfl
def pS (g:It->Bool) (h:List It) (r:List Op):Nat:=gE h r+h.countP g
def wt (g:It->Bool) (o:Op):Int:=if o.ins=ao then if g o.it=ao then 1 else 0 else -1
def jo (g:It->Bool) (h:List It) (r:List Op):Prop:=∀ z,z∈h∨z∈gB r->(g z=ao↔z∈tk h r)
theorem jo.ov {g:It->Bool} {h:List It} {o:Op} {r:List Op} (c:jo g h (o::r)) (a:Ap h (o::r)):jo g (ov h o) r:=by
 intro z hz;unfold Pa.ov at *
 rcases ji o with e|e
 ·rw[if_pos e] at *
  have := c z (by rw [yl e]; rcases hz with m | m
                  · rcases kd.1 m with m|m
                    · exact .inr (m▸bL)
                    · exact .inl m
                  · exact .inr (dX _ m))
  rw[oU e] at this;exact this
 ·rw[if_neg (by rw[e];decide)] at *
  have := c z (by rw [ru e]; rcases hz with m | m
                  · exact .inl (BE m)
                  · exact .inr m)
  rw[wz e] at this;rw[this];cases h with
  |nil=>simp
  |cons y h =>
   have kG:z≠y:=by
    rintro rfl
    rcases hz with m|m
    ·exact yJ a.ord m
    ·have:=a.ap z bL;rw[ru e] at this;exact this m
   simp[kG]
theorem Pt (g:It->Bool) (x:It):∀ l:List It,(ig x l).countP g=l.countP g+if g x=ao then 1 else 0
 |[]=>by simp[ig,v8]
 |y::l=>by
  rw[ig];split
  ·rw[v8]
  ·rw[v8,Pt g x l,v8];omega
theorem ahV {g:It->Bool} {h:List It} {o:Op} {r:List Op} (c:jo g h (o::r)) (a:Ap h (o::r)):(pS g (ov h o) r:Int)=pS g h (o::r)+wt g o:=by
 unfold pS wt ov;rcases ji o with e|e
 ·rw[if_pos e,if_pos e,o7 e,Pt];split<;>omega
 ·rw[if_neg (by rw[e];decide),if_neg (by rw[e];decide)]
  cases h with
  |nil =>
   rw[sX e];show((gE [] r+0:Nat):Int)=((1+gE [] r+0:Nat):Int) + -1
   omega
  |cons y h =>
   have hg:g y=ao:=(c y (.inl bL)).2 (by rw[wz e];simp)
   rw[nC e,v8,if_pos hg];show((gE h r+h.countP g:Nat):Int)=_
   omega
theorem OP {g:It->Bool} {h:List It} {r:List Op} (hp:0<pS g h r):0<gE h r∨∃ z,z∈h/\g z=ao:=by
 unfold pS at hp;rcases mC (gE h r) with e|e
 ·rw[e,bW] at hp;obtain⟨z,h1,h2⟩:=JV.1 hp;exact .inr ⟨z,h1,h2⟩
 ·exact .inl e
theorem H5 {g:It->Bool} {h:List It} {r:List Op} (hp:pS g h r=0):gE h r=0/\∀ z,z∈h->g z=an:=by
 unfold pS at hp;refine⟨by omega,fun z hz=>?_⟩
 have:=JW.1 (show h.countP g=0 by omega) z hz
 simpa using this
theorem IS:∀ {l:List It} {z:It},z∈l->∃ m,hi l=aa m/\(m=z∨ah z m)
 |a::l,z,hz=>by
  rcases bN.1 hz with e|e
  ·subst e;show ∃ m,up (aa z) (hi l)=aa m/\_
   cases hi l with
   |none=>exact⟨z,rfl,.inl rfl⟩
   |some b =>
    rw[PC];refine⟨_,rfl,?_⟩;unfold mx;split
    ·rename_i c;exact .inr c
    ·exact .inl rfl
  ·obtain⟨m,h1,h2⟩:=IS e;show ∃ m,up (aa a) (hi l)=aa m/\_
   rw[h1,PC];refine⟨_,rfl,?_⟩;unfold mx;split
   ·exact h2
   ·rename_i c;rcases h2 with h2|h2
    ·subst h2
     by_cases c2:m=a
     ·exact .inl c2.symm
     ·rcases Ue c2 with c3|c3
      ·exact .inr c3
      ·exact absurd c3 c
    ·by_cases c2:m=a
     ·subst c2;exact .inr h2
     ·rcases Ue c2 with c3|c3
      ·exact .inr (Qd h2 c3)
      ·exact absurd c3 c
theorem agE {g:It->Bool} {h:List It} {o:Op} {r:List Op} (c:jo g h (o::r)) (a:Ap h (o::r)) (hp:0<pS g (ov h o) r):tp h (o::r)=tp (ov h o) r:=by
 have c':=c.ov a;have a':=a.ov;unfold tp;rcases ji o with e|e
 ·rw[o7 e,oU e];unfold ov;rw[if_pos e]
 ·have es:ov h o=h.tail:=by unfold ov;rw[if_neg (by rw[e];decide)]
  rw[es] at hp c' a' ⊢;cases h with
  |nil =>
   have:0<gE [] r:=by
    rcases OP hp with h1|⟨z,h1,_⟩
    ·exact h1
    ·cases h1
   rw[sX e,if_neg (by omega)]
   show aj=if gE [] r=0 then _ else aj
   rw[if_neg (by omega)]
  |cons y h =>
   rw[nC e,oQ e];show(if gE h r=0 then aa (up (aa y) (hi (tk h r))) else aj)=(if gE h r=0 then aa (hi (tk h r)) else aj)
   split
   ·rename_i h0;rcases OP hp with h1|⟨z,h1,h2⟩
    ·rw[pb] at h1;omega
    ·have h3:=(c' z (.inl h1)).1 h2;obtain⟨m,m1,m2⟩:=IS h3;have hyz:ah y z:=Dc a.ord h1;rw[pb] at m1;rw[m1,PC];unfold mx;rw[if_pos (by rcases m2 with m2|m2;exact m2▸hyz;exact Qd hyz m2)]
   ·rfl
def pY (z:It) (h:List It):List Op->Option It
 |[]=>aa z
 |o::r=>if o.ins=ao then pY z (ig o.it h) r else if h.headD iz=z then(if h.tail=[] then aj else pY (h.tail.headD iz) h.tail r) else pY z h.tail r
theorem Ox {z:It} {h:List It} {o:Op} {r:List Op} (e:o.ins=ao):pY z h (o::r)=pY z (ig o.it h) r:=by rw[pY,if_pos e]
theorem Ov {z y:It} {h:List It} {o:Op} {r:List Op} (e:o.ins=an) (kG:y≠z):pY z (y::h) (o::r)=pY z h r:=by rw[pY,if_neg (by rw[e];decide),if_neg (show ¬ (y::h).headD iz=z from kG)];rfl
theorem Vf {z:It} {o:Op} {r:List Op} (e:o.ins=an):pY z [z] (o::r)=aj:=by rw[pY,if_neg (by rw[e];decide),if_pos (show[z].headD iz=z from rfl),if_pos (show[z].tail=[] from rfl)]
theorem Vb {z w:It} {h:List It} {o:Op} {r:List Op} (e:o.ins=an):pY z (z::w::h) (o::r)=pY w (w::h) r:=by rw[pY,if_neg (by rw[e];decide),if_pos (show(z::w::h).headD iz=z from rfl),if_neg (show ¬ (z::w::h).tail=[] by simp)];rfl
theorem xA:∀ {r:List Op} {h:List It} {z:It},z∈h->z∉tk h r->pY z h r=aa z
 |[],h,z,_,_=>rfl
 |o::r,h,z,hz,hn=>by
  rcases ji o with e|e
  ·rw[oU e] at hn;rw[Ox e];exact xA (kd.2 (.inr hz)) hn
  ·cases h with
   |nil=>cases hz
   |cons y h =>
    rw[oQ e,bN,not_or] at hn;rw[Ov e (Ne.symm hn.1)];rcases bN.1 hz with m|m
    ·exact absurd m hn.1
    ·exact xA m hn.2
theorem Nb {y:It} {h:List It} (a:Ord (y::h)):qb y (y::h)=h:=by
 refine As (zJ a) (EW a) fun z=>?_
 rw[pE,bN]
 constructor
 ·rintro ⟨m|m,n⟩
  ·exact absurd m n
  ·exact m
 ·intro m;exact⟨.inr m,fun e=>yJ a (e▸m)⟩
theorem adT {y z:It} {h:List It} (kG:y≠z):qb z (y::h)=y::qb z h:=by
 unfold qb;rw[j5,decide_eq_false kG];rfl
theorem ahT {y z:It} {h:List It} (a:Ord h) (hy:y∉h) (kG:y≠z):qb z (ig y h)=ig y (qb z h):=by
 refine As (zJ (pF a hy)) (pF (zJ a) fun m=>hy (pE.1 m).1) fun w=>?_
 rw[pE,kd,kd,pE]
 constructor
 ·rintro ⟨m|m,n⟩
  ·exact .inl m
  ·exact .inr ⟨m,n⟩
 ·rintro (m|⟨m,n⟩)
  ·exact⟨.inl m,m▸kG⟩
  ·exact⟨.inr m,n⟩
theorem EJ:∀ {r:List Op} {h:List It} {z:It},Ap h r->z∈h ->
  fin (qb z h) r=(match pY z h r with|none=>fin h r|some w=>qb w (fin h r)) /\
  gE (qb z h) r=gE h r+(if pY z h r=aj then 1 else 0) /\
  (∀ w,w∈tk (qb z h) r↔w≠z/\(w∈tk h r∨pY z h r=aa w))/\(∀ w,pY z h r=aa w->w∈fin h r)
 |[],h,z,a,hz=>by
  refine⟨rfl,rfl,fun w=>?_,fun w hw=>by cases hw;exact hz⟩
  show w∈([]:List It)↔w≠z/\(w∈([]:List It)∨aa z=aa w)
  constructor
  ·intro m;cases m
  ·rintro ⟨n,m|m⟩
   ·exact m
   ·cases m;exact absurd rfl n
 |o::r,h,z,a,hz=>by
  rcases ji o with e|e
  ·obtain⟨a',n1,n2⟩:=a.ins e;have kG:o.it≠z:=fun c=>n1 (c▸hz)
   have ih:=EJ a' (kd.2 (.inr hz));rw[ahT a.ord n1 kG] at ih;rw[tJ e,tJ e,o7 e,o7 e,oU e,oU e,Ox e];exact ih
  ·have a':=a.del e;cases h with
   |nil=>cases hz
   |cons y h =>
    have hyi:y∉gB r:=by have:=a.ap y bL;rwa [ru e] at this
    have ytk:y∉tk h r:=fun m=>by
     rcases rv a' y m with m|m
     ·exact yJ a.ord m
     ·exact hyi m
    have an9:y∉fin h r:=fun m=>by
     rcases((rz a' y).1 m).1 with m|m
     ·exact yJ a.ord m
     ·exact hyi m
    by_cases kG:y=z
    ·subst kG;rw[Nb a.ord];cases h with
     |nil =>
      rw[nW e,nW e,sX e,nC e,Cl e,oQ e,Vf e];refine⟨rfl,?_,fun w=>?_,fun w hw=>by cases hw⟩
      ·rw[if_pos rfl];omega
      ·rw[bN]
       constructor
       ·intro m;exact⟨fun c=>ytk (c▸m),.inl (.inr m)⟩
       ·rintro ⟨n,(m|m)|m⟩
        ·exact absurd m n
        ·exact m
        ·cases m
     |cons w h =>
      obtain⟨i1,i2,i3,i4⟩:=EJ a' bL;rw[pb] at i1 i2 i3 i4;rw[Nb (EW a.ord)] at i1 i2 i3;rw[nW e,nW e,nC e,nC e,oQ e,oQ e,Vb e];refine⟨i1,i2,fun v=>?_,i4⟩
      have wy:w≠y:=fun c=>yJ a.ord (c▸bL)
      rw[bN,bN,i3]
      constructor
      ·rintro (m|⟨n,m|m⟩)
       ·subst m;refine⟨wy,?_⟩
        by_cases c:v∈tk (v::h) r
        ·exact .inl (.inr c)
        ·exact .inr (xA bL c)
       ·exact⟨fun c=>ytk (c▸m),.inl (.inr m)⟩
       ·exact⟨fun c=>an9 (c▸i4 _ m),.inr m⟩
      ·rintro ⟨n,(m|m)|m⟩
       ·exact absurd m n
       ·by_cases c:v=w
        ·exact .inl c
        ·exact .inr ⟨c,.inl m⟩
       ·by_cases c:v=w
        ·exact .inl c
        ·exact .inr ⟨c,.inr m⟩
    ·have HX:z∈h:=by
      rcases bN.1 hz with m|m
      ·exact absurd m.symm kG
      ·exact m
     obtain⟨i1,i2,i3,i4⟩:=EJ a' HX;rw[pb] at i1 i2 i3 i4;rw[adT kG,nW e,nW e,nC e,nC e,oQ e,oQ e,Ov e kG];refine⟨i1,i2,fun v=>?_,i4⟩
     rw[bN,bN,i3]
     constructor
     ·rintro (m|⟨n,m|m⟩)
      ·exact⟨m▸kG,.inl (.inl m)⟩
      ·exact⟨n,.inl (.inr m)⟩
      ·exact⟨n,.inr m⟩
     ·rintro ⟨n,(m|m)|m⟩
      ·exact .inl m
      ·exact .inr ⟨n,.inl m⟩
      ·exact .inr ⟨n,.inr m⟩
theorem O_:∀ {r:List Op} {h:List It},0<gE h r->∀ z,z∈h->z∈tk h r
 |[],h,hp,z,hz=>by simp[gE] at hp
 |o::r,h,hp,z,hz=>by
  rcases ji o with e|e
  ·rw[o7 e] at hp;rw[oU e];exact O_ hp z (kd.2 (.inr hz))
  ·cases h with
   |nil=>cases hz
   |cons y h =>
    rw[nC e] at hp;rw[oQ e];rcases bN.1 hz with m|m
    ·exact m▸bL
    ·exact dX _ (O_ hp z m)
theorem Ud:∀ {r:List Op} {h:List It},Ap h r->∀ {y z:It},z∈tk h r->y∈h->ah y z->y∈tk h r
 |[],h,a,y,z,hz,hy,c=>by cases hz
 |o::r,h,a,y,z,hz,hy,c=>by
  rcases ji o with e|e
  ·rw[oU e] at *
   exact Ud (a.ins e).1 hz (kd.2 (.inr hy)) c
  ·cases h with
   |nil=>cases hy
   |cons w h =>
    rw[oQ e] at *
    rcases bN.1 hy with m|m
    ·exact m▸bL
    ·rcases bN.1 hz with m'|m'
     ·subst m';exact absurd (Dc a.ord m) (sO c)
     ·exact dX _ (Ud (a.del e) m' m c)
def JN (g:It->Bool) (h:List It):List Op->List It
 |[]=>h
 |o::r=>if pS g h (o::r)=0 then h else JN g (ov h o) r
theorem EP {g:It->Bool} {h:List It} {r:List Op} (hz:pS g h r=0):JN g h r=h:=by
 cases r with
 |nil=>rfl
 |cons o r=>rw[JN,if_pos hz]
theorem RX {h:List It} {o:Op} (e:o.ins=ao):ov h o=ig o.it h:=by unfold ov;rw[if_pos e]
theorem LV {h:List It} {o:Op} (e:o.ins=an):ov h o=h.tail:=by unfold ov;rw[if_neg (by rw[e];decide)]
theorem Fe {g:It->Bool}:∀ {r:List Op} {h:List It},0<gE h r->JN g h r=[]
 |[],h,hp=>by simp[gE] at hp
 |o::r,h,hp=>by
  rw[JN,if_neg (by unfold pS;omega)]
  rcases ji o with e|e
  ·rw[RX e];rw[o7 e] at hp;exact Fe hp
  ·rw[LV e];cases h with
   |nil =>
    rcases mC (gE [] r) with c|c
    ·exact EP (h:=[]) (by unfold pS;rw[c];rfl)
    ·exact Fe (h:=[]) c
   |cons y h =>
    rw[nC e] at hp;exact Fe hp
theorem HE {g:It->Bool}:∀ {r:List Op} {h:List It} {z:It},Ap h r->jo g h r->z∈h->g z=ao->pY z h r=(JN g h r).head?
 |[],h,z,a,c,hz,hg=>by have:=(c z (.inl hz)).1 hg;cases this
 |o::r,h,z,a,c,hz,hg=>by
  have hp:pS g h (o::r)≠0:=by
   have:0<h.countP g:=JV.2 ⟨z,hz,hg⟩;unfold pS;omega
  have a':=a.ov;have c':=c.ov a;rw[JN,if_neg hp];rcases ji o with e|e
  ·rw[RX e] at *
   rw[Ox e];exact HE a' c' (kd.2 (.inr hz)) hg
  ·rw[LV e] at *
   cases h with
   |nil=>cases hz
   |cons y h =>
    rw[pb] at *
    by_cases kG:y=z
    ·subst kG;cases h with
     |nil =>
      rw[Vf e];rcases mC (gE [] r) with k|k
      ·rw[EP (by unfold pS;rw[k];rfl)];rfl
      ·rw[Fe k];rfl
     |cons w h =>
      rw[Vb e];rcases mC (pS g (w::h) r) with k|k
      ·rw[EP k];have hw:w∉tk (w::h) r:=fun m=>by
        have:=(c' w (.inl bL)).2 m;rw[(H5 k).2 w bL] at this;cases this
       exact xA bL hw
      ·refine HE a' c' bL ?_;refine(c' w (.inl bL)).2 ?_;rcases OP k with k1|⟨v,k1,k2⟩
       ·exact O_ k1 w bL
       ·have k3:=(c' v (.inl k1)).1 k2;rcases bN.1 k1 with m|m
        ·exact m▸k3
        ·exact Ud a' k3 bL (Dc a'.ord m)
    ·rw[Ov e kG];have HX:z∈h:=by
      rcases bN.1 hz with m|m
      ·exact absurd m.symm kG
      ·exact m
     exact HE a' c' HX hg
theorem ak5 {g:It->Bool} {r:List Op} {y:It} {h:List It} (a:Ap (y::h) r) (c:jo g (y::h) r):pY y (y::h) r=(JN g (y::h) r).head?:=by
 rcases mC (pS g (y::h) r) with k|k
 ·rw[EP k];refine xA bL fun m=>?_
  have:=(c y (.inl bL)).2 m;rw[(H5 k).2 y bL] at this;cases this
 ·refine HE a c bL ?_;refine(c y (.inl bL)).2 ?_;rcases OP k with k1|⟨v,k1,k2⟩
  ·exact O_ k1 y bL
  ·have k3:=(c v (.inl k1)).1 k2;rcases bN.1 k1 with m|m
   ·exact m▸k3
   ·exact Ud a k3 bL (Dc a.ord m)
theorem qg:∀ (a b:List Op) (h:List It),fin h (a++b)=fin (fin h a) b
 |[],b,h=>rfl
 |o::a,b,h=>by show fin (ov h o) (a++b)=fin (fin (ov h o) a) b;exact qg a b _
theorem wq:∀ (a b:List Op) (h:List It),tk h (a++b)=tk h a++tk (fin h a) b
 |[],b,h=>rfl
 |o::a,b,h=>by
  rcases ji o with e|e
  ·rw[mI,oU e,oU e,tJ e];exact wq a b _
  ·rw[mI,wz e,wz e,nW e,wq a b,rY]
theorem u0:∀ (a b:List Op) (h:List It),gE h (a++b)=gE h a+gE (fin h a) b
 |[],b,h=>by show _=0+_;rw[bW];rfl
 |o::a,b,h=>by
  rcases ji o with e|e
  ·rw[mI,o7 e,o7 e,tJ e];exact u0 a b _
  ·rw[mI,zM e,zM e,nW e,u0 a b];omega
theorem EH:∀ {a b:List Op} {h:List It},Ap h (a++b)->Ap (fin h a) b
 |[],b,h,k=>k
 |o::a,b,h,k=>EH (a:=a) k.ov
theorem HG {g:It->Bool}:∀ {a b:List Op} {h:List It},Ap h (a++b)->jo g h (a++b)->jo g (fin h a) b
 |[],b,h,k,c=>c
 |o::a,b,h,k,c=>HG (a:=a) k.ov (c.ov k)
def wts (g:It->Bool):List Op->Int
 |[]=>0
 |o::r=>wt g o+wts g r
theorem afP {g:It->Bool}:∀ {a b:List Op} {h:List It},Ap h (a++b)->jo g h (a++b)->(pS g (fin h a) b:Int)=pS g h (a++b)+wts g a
 |[],b,h,k,c=>by show(pS g h b:Int)=pS g h b+0;omega
 |o::a,b,h,k,c=>by
  have h1:=afP (a:=a) (b:=b) k.ov (c.ov k);have h2:=ahV (r:=a++b) c k;show(pS g (fin (ov h o) a) b:Int)=pS g h (o::(a++b))+(wt g o+wts g a)
  omega
theorem YM {g:It->Bool}:∀ {m b:List Op} {h:List It},Ap h (m++b)->jo g h (m++b)->(∀ a c,m=a++c->a≠[]->0<pS g (fin h a) (c++b))->tp h (m++b)=tp (fin h m) b
 |[],b,h,k,c,hp=>rfl
 |o::m,b,h,k,c,hp=>by
  have h1:tp h (o::(m++b))=tp (ov h o) (m++b):=agE c k (hp [o] m rfl (by simp))
  rw[mI,h1];exact YM (m:=m) k.ov (c.ov k) fun a c' e kG=>hp (o::a) c' (by rw[e];rfl) (by simp)
theorem acH {g:It->Bool}:∀ {r:List Op} {h:List It},Ap h r->jo g h r->∃ a b,r=a++b/\JN g h r=fin h a/\pS g (fin h a) b=0/\∀ c d,r=c++d->c.length<a.length->0<pS g (fin h c) d
 |[],h,k,c=>⟨[],[],rfl,rfl,by
   unfold pS;have:h.countP g=0:=JW.2 fun z hz hg=>by have:=(c z (.inl hz)).1 hg;cases this
   show 0+h.countP g=0
   omega,fun c d e hl=>by simp at hl⟩
 |o::r,h,k,c=>by
  rw[JN];split
  ·rename_i h0;exact⟨[],o::r,rfl,rfl,h0,fun c d e hl=>by simp at hl⟩
  ·rename_i h0;obtain⟨a,b,e1,e2,e3,e4⟩:=acH k.ov (c.ov k);refine⟨o::a,b,by rw[e1];rfl,e2,e3,fun c' d e hl=>?_⟩
   cases c' with
   |nil=>rw[pz] at e;subst e;exact Nat.pos_of_ne_zero h0
   |cons o' c' =>
    rw[mI,List.cons.injEq] at e;obtain⟨rfl,e⟩:=e;exact e4 c' d e (by simpa using hl)
end Pa
namespace Gv
open Rx
section
variable {E A:Type} {O:iX E A}
def rA (O:iX E A) (e:E) (l:List E):Nat:=(oZ O e l).length
theorem ahO (e:E):rA O e []=0:=rfl
theorem Qn {e y:E} {l:List E} (h:0<O.cmp e y):rA O e (y::l)=rA O e l+1:=by
 unfold rA;rw[(xT h).1];rfl
theorem L3 {e y:E} {l:List E} (h:¬ 0<O.cmp e y):rA O e (y::l)=0:=by
 unfold rA;rw[(Nn h).1];rfl
theorem ajQ (e:E) (l:List E):rA O e l≤l.length:=by
 have:=congrArg ae (Ho (O:=O) e l);rw[bE] at this;unfold rA;omega
theorem WJ {e:E}:∀ {l:List E} {j:Nat},j<rA O e l->0<O.cmp e (l.getD j O.e0)
 |[],j,h=>by rw[ahO] at h;omega
 |y::l,j,h=>by
  by_cases c:0<O.cmp e y
  ·rw[Qn c] at h;cases j with
   |zero=>simpa using c
   |succ j=>rw[wQ];exact WJ (by omega)
  ·rw[L3 c] at h;omega
theorem V7 {e:E}:∀ {l:List E},rA O e l<l.length->¬ 0<O.cmp e (l.getD (rA O e l) O.e0)
 |[],h=>by simp at h
 |y::l,h=>by
  by_cases c:0<O.cmp e y
  ·rw[Qn c] at h ⊢;rw[wQ];exact V7 (by simpa using h)
  ·rw[L3 c];simpa using c
theorem O3 (e:E) (l:List E):oZ O e l=l.take (rA O e l):=by
 have h:=GO (l₁:=oZ O e l) (l₂:=sm O e l) rfl;rw[Ho] at h;exact h.symm
theorem PF (e:E) (l:List E):sm O e l=l.drop (rA O e l):=by
 have h:=GP (l₁:=oZ O e l) (l₂:=sm O e l) rfl;rw[Ho] at h;exact h.symm
theorem VQ (e:E) (l:List E):(jI O e l).isSome=(decide (rA O e l<l.length)&&decide (O.cmp e (l.getD (rA O e l) O.e0)=0)):=by
 unfold jI;rw[PF]
 by_cases h:rA O e l<l.length
 ·rw[pf h,au,bc h,decide_eq_true h];simp only[lS,js];split
  ·rename_i c;rw[decide_eq_true c];rfl
  ·rename_i c;rw[decide_eq_false c];rfl
 ·rw[List.drop_eq_nil_of_le (by omega),decide_eq_false h];rfl
theorem Wo (e:E) (l:List E):lF O e l=l.take (rA O e l)++e::l.drop (if(jI O e l).isSome then rA O e l+1 else rA O e l):=by
 unfold lF;rw[O3,PF];cases h:jI O e l with
 |none=>rfl
 |some x=>simp[Ih]
variable {S:List E->A} {dm:List E->Prop} (Z:zE O S dm)
include Z
theorem U4 {e:E} {l:List E} {i:Nat} (hs:uZ O l) (hi:i<l.length) (he:O.cmp e (l.getD i O.e0)=0):rA O e l=i:=by
 have gi:l.getD i O.e0=l[i]:=by rw[au,bc hi];rfl
 rcases od (rA O e l) i with h|h|h
 ·have h1:=V7 (O:=O) (e:=e) (l:=l) (by omega)
  have g:l.getD (rA O e l) O.e0=l[rA O e l]'(by omega):=by rw[au,bc (by omega)];rfl
  rw[gi] at he;have h2:=(sk.1 hs) (rA O e l) i (by omega) hi h
  have h3:=Z.ZE _ _ _ he h2;rw[g] at h1;exact absurd ((Z.swap _ _).1 h3) h1
 ·exact h
 ·have:=WJ (O:=O) (e:=e) (l:=l) h;omega
theorem ag' {e:E} {l:List E} {i:Nat} (hs:uZ O l) (hi:i<l.length) (he:O.cmp e (l.getD i O.e0)=0):iG O e l=(l.getD i O.e0,ao):=by
 have hr:=U4 Z hs hi he;have gi:l.getD i O.e0=l[i]:=by rw[au,bc hi];rfl
 have hh:jI O e l=aa (l.getD i O.e0):=by
  unfold jI;rw[PF,hr,pf hi];simp only;rw[gi] at he ⊢;rw[if_pos he]
 unfold iG;rw[hh];rfl
end
end Gv
namespace Gv
open Rx
set_option linter.unusedSectionVars false
section
variable {E A:Type} {O:iX E A} {S:List E->A} {dm:List E->Prop} (Z:zE O S dm)
structure AT (O:iX E A) (S:List E->A) (may:A->A->Bool) (P:Nat->Bool) (L:List E):Prop extends Asks O S may P L where
 ex:∀ p l q,p++(l++q)=L->l≠[]->may (S p) (S l)=ao->∃ i,p.length≤i/\i<p.length+l.length/\P i=ao
def Gf (h a b:Nat) (f r:Int) (kk:Nat):Prop:=kk≤4*h/\(f≤a->kk≤2*h)/\(r<0->kk≤2*h)/\(f≤a->r<0->kk=0)/\((b:Int)≤f->kk=0)
def Gp (h a b:Nat) (u r:Int) (kk:Nat):Prop:=kk≤4*h/\((b:Int)≤u->kk≤2*h)/\(r<0->kk≤2*h)/\((b:Int)≤u->r<0->kk=0)/\(u≤a->kk=0)
theorem aag {hl hq a ll b:Nat} {f r:Int} {kk:Nat} (x:Gf hl a (a+ll) f r kk) (h3:0≤r) (hc:¬ ((b:Nat):Int)≤f):Gf (1+max hl hq) a b f r (1+kk):=by
 obtain⟨x1,x2,x3,x4,x5⟩:=x;exact⟨by omega,fun w=>by have:=x2 w;omega,fun w=>by omega,fun w w'=>by omega,fun w=>absurd w hc⟩
theorem aaX {hl hq a ll b:Nat} {f r rl:Int} {kk:Nat} (x:Gf hl a (a+ll) f rl kk) (h3:rl<0) (h0:0≤r) (hc:¬ ((b:Nat):Int)≤f):Gf (1+max hl hq) a b f r (1+kk):=by
 obtain⟨x1,x2,x3,x4,x5⟩:=x;have z3:=x3 h3;exact⟨by omega,fun w=>by have:=x2 w;omega,fun w=>by omega,fun w w'=>by omega,fun w=>absurd w hc⟩
theorem Xd {hl hq a ll lq am:Nat} {f rl rq:Int} {kk Pr:Nat} (x:Gf hl a (a+ll) f rl kk) (y:Gf hq am (am+lq) f rq Pr) (hm:am=a+ll+1) (h3:rl<0) (h0:f≤a->¬ rq<0) (hc:¬ ((a+(ll+(lq+1)):Nat):Int)≤f) :
  Gf (1+max hl hq) a (a+(ll+(lq+1))) f rq (1+kk+1+Pr):=by
 subst hm;obtain⟨x1,x2,x3,x4,x5⟩:=x;obtain⟨y1,y2,y3,y4,y5⟩:=y;have z3:=x3 h3;refine⟨?_,fun w=>?_,fun w=>?_,fun w w'=>absurd w' (h0 w),fun w=>absurd w hc⟩
 ·by_cases w2:f≤((a+ll+1:Nat):Int)
  ·have:=y2 w2;omega
  ·have:=x5 (by omega);omega
 ·have:=y2 (by omega);have:=x4 w h3;omega
 ·have:=y3 w
  by_cases w2:f≤((a+ll+1:Nat):Int)
  ·have:=y4 w2 w;omega
  ·have:=x5 (by omega);omega
theorem XA {hl hq a ll lq b am:Nat} {u r:Int} {kk:Nat} (x:Gp hq am (am+lq) u r kk) (hm:am=a+ll+1) (h3:0≤r) (hb:b=a+(ll+(lq+1))) (hc:¬ u≤((a:Nat):Int)):Gp (1+max hl hq) a b u r (2+kk):=by
 subst hm;obtain⟨x1,x2,x3,x4,x5⟩:=x;exact⟨by omega,fun w=>by have:=x2 (by omega);omega,fun w=>by omega,fun w w'=>by omega,fun w=>absurd w hc⟩
theorem adj {hl hq a ll lq b am:Nat} {u r rl:Int} {kk:Nat} (x:Gp hq am (am+lq) u rl kk) (hm:am=a+ll+1) (h3:rl<0) (h0:0≤r) (hb:b=a+(ll+(lq+1))) (hc:¬ u≤((a:Nat):Int)):Gp (1+max hl hq) a b u r (2+kk):=by
 subst hm;obtain⟨x1,x2,x3,x4,x5⟩:=x;have z3:=x3 h3;exact⟨by omega,fun w=>by have:=x2 (by omega);omega,fun w=>by omega,fun w w'=>by omega,fun w=>absurd w hc⟩
theorem Zc {hl hq a ll lq am:Nat} {u rl rq:Int} {kk Pr:Nat} (x:Gp hq am (am+lq) u rq kk) (hm:am=a+ll+1) (y:Gp hl a (a+ll) u rl Pr) (h3:rq<0) (h0:((a+(ll+(lq+1)):Nat):Int)≤u->¬ rl<0) (hc:¬ u≤((a:Nat):Int)) :
  Gp (1+max hl hq) a (a+(ll+(lq+1))) u rl (2+kk+Pr):=by
 subst hm;obtain⟨x1,x2,x3,x4,x5⟩:=x;obtain⟨y1,y2,y3,y4,y5⟩:=y;have z3:=x3 h3;refine⟨?_,fun w=>?_,fun w=>?_,fun w w'=>absurd w' (h0 w),fun w=>absurd w hc⟩
 ·by_cases w2:((a+ll:Nat):Int)≤u
  ·have:=y2 w2;omega
  ·have:=x5 (by omega);omega
 ·have:=y2 (by omega);have:=x4 (by omega) h3;omega
 ·have:=y3 w
  by_cases w2:((a+ll:Nat):Int)≤u
  ·have:=y4 w2 w;omega
  ·have:=x5 (by omega);omega
include Z
theorem IM {n:Nat} {may:A->A->Bool} {P:Nat->Bool} {L:List E} {f:Int} (hA:AT O S may P L) (hg:dm L):∀ (t:Tr E) {k:Nat} {m:Po E A} {p s:List E},gp n m->Rp O S m t->p++(t.elems++s)=L->t.h<k ->
  ∃ kk,Gf t.h p.length (p.length+t.elems.length) f (first O may k m (nd O S t) ⟨p.length,S p⟩ f).1 kk/\iV [] kk (zn O) m (first O may k m (nd O S t) ⟨p.length,S p⟩ f).2
 |t,0,m,p,s,_,_,_,hk=>by omega
 |.nil,k+1,m,p,s,ho,hr,hL,hk=>by
  rw[first,if_pos (.inl (by rw[rJ];rfl))]
  exact⟨0,⟨dv _,fun _=>dv _,fun _=>dv _,fun _ _=>rfl,fun _=>rfl⟩,iV.refl _ _ _ _⟩
 |.node r l x q,k+1,m,p,s,ho,⟨sn,ni,mj,mw⟩,hL,hk=>by
  have whole:=(IV Z (f:=f) hA.toAsks hg (.node r l x q) (k:=k+1) (m:=m) (p:=p) (s:=s) ho ⟨sn,ni,mj,mw⟩ hL hk).1;simp only[Tr.h] at hk;have hlen:=Z.len _ hg;have qk:=rT (O:=O) (S:=S) Z.nil (.node r l x q);rw[← Tr.fe] at qk;have kl:lk O m l.root=nd O S l:=mj.root ho;have kq:lk O m q.root=nd O S q:=mw.root ho;have e1:(nd O S (Tr.node r l x q)).l=l.root:=rfl;have e2:(nd O S (Tr.node r l x q)).r=q.root:=rfl;have e3:(nd O S (Tr.node r l x q)).e=x:=rfl;have e5:¬ (nd O S (Tr.node r l x q)).h=0:=by rw[rJ];simp only[Tr.h];omega
  have SM:=congrArg ae hL;rw[Tr.gL] at hL;have Wp:p++(l.elems++(x::q.elems++s))=L:=by simpa using hL
  have ON:(p++l.elems)++x::(q.elems++s)=L:=by simpa using hL
  have K_:(p++l.elems++[x])++(q.elems++s)=L:=by simpa using hL
  have hex:=hA.ex p (Tr.node r l x q).elems s (by rw[Tr.gL];exact hL) (by rw[Tr.gL];simp)
  have GC:(Tr.node r l x q).elems.length=l.elems.length+(q.elems.length+1):=by rw[Tr.gL];simp
  have UH:l.h<k:=by omega
  have hkq:q.h<k:=by omega
  have hhh:(Tr.node r l x q).h=1+max l.h q.h:=rfl;rw[first,e1,e2,e3,qk] at whole ⊢
  simp only[kl,lu,iE,kq,rT Z.nil,← Tr.fe] at whole ⊢;simp only[bE] at SM;have w1:W ((p.length:Int)+((Tr.node r l x q).elems.length:Int))=(p.length:Int)+(Tr.node r l x q).elems.length:=uK (by omega)
  rw[w1] at whole ⊢
  by_cases c1:(nd O S (Tr.node r l x q)).h=0∨(p.length:Int)+(Tr.node r l x q).elems.length≤f
  ·rw[if_pos c1];exact⟨0,⟨dv _,fun _=>dv _,fun _=>dv _,fun _ _=>rfl,fun _=>rfl⟩,iV.refl _ _ _ _⟩
  ·rw[if_neg c1] at whole ⊢;have hc:¬ ((p.length+(Tr.node r l x q).elems.length:Nat):Int)≤f:=fun h=>c1 (.inr (by omega))
   by_cases c2:(p.length:Int)≥f/\may (S p) (S (Tr.node r l x q).elems)=an
   ·rw[if_pos c2];exact⟨0,⟨dv _,fun _=>dv _,fun _=>dv _,fun _ _=>rfl,fun _=>rfl⟩,iV.refl _ _ _ _⟩
   ·rw[if_neg c2] at whole ⊢;have Q0:f≤p.length->∃ i:Nat,p.length≤i/\i<p.length+(Tr.node r l x q).elems.length/\P i=ao:=fun hf=>by
     cases hm:may (S p) (S (Tr.node r l x q).elems) with
     |false=>exact absurd ⟨hf,hm⟩ c2
     |true=>exact hex hm
    obtain⟨kk,x0,i2⟩:=IM hA hg l (k:=k) (m:=aG m l.root) (p:=p) (s:=x::q.elems++s) (di.2 ho) (mj.aG _) Wp UH;have hu:=(gK (zn O) m l.root).to i2 (S:=[]) (fun s hs=>by simp at hs) (a_ _)
    rw[hhh]
    by_cases c3:(first O may k (aG m l.root) (nd O S l) ⟨p.length,S p⟩ f).1≥0
    ·rw[if_pos c3];exact⟨_,aag x0 c3 hc,hu⟩
    ·rw[if_neg c3] at whole ⊢;have KS:dm (p++l.elems):=Z.left _ (x::(q.elems++s)) (by rw[ON];exact hg)
     have Us:dm ((p++l.elems)++[x]):=Z.left _ (q.elems++s) (by rw[K_];exact hg)
     rw[pM Z KS,BS Z,pM Z Us] at whole ⊢
     by_cases c4:((p++l.elems).length:Int)≥f/\may (S (p++l.elems)) (O.sum x)=ao
     ·rw[if_pos c4];exact⟨_,aaX x0 (Jq.mp c3) (xK _) hc,hu⟩
     ·rw[if_neg c4] at whole ⊢;obtain⟨Pr,y0,j2⟩:=IM hA hg q (k:=k) (m:=aG (first O may k (aG m l.root) (nd O S l) ⟨p.length,S p⟩ f).2 q.root) (p:=p++l.elems++[x]) (s:=s) (di.2 (Ng.2 (di.2 ho)))
       ((Rp.frame hu (fun s _ hs=>by cases hs) mw).aG _) K_ hkq
      refine⟨_,?_,(hu.to (gK _ _ q.root) (S:=[]) (fun s hs=>by simp at hs) (a_ _)).to j2 (fun s hs=>by simp at hs) (a_ _)⟩
      have AX:(p++l.elems++[x]).length=p.length+l.elems.length+1:=by simp;omega
      rw[GC] at hc ⊢;refine Xd x0 y0 AX (Jq.mp c3) (fun hf hr=>?_) hc
      obtain⟨i,g1,g2,g3⟩:=Q0 hf;clear Q0 hex;rcases whole with⟨h1,h2⟩|⟨j,h1,_⟩
      ·rw[h2 i g1 g2 (by omega)] at g3;cases g3
      ·rw[h1] at hr;exact absurd hr (Jm.mpr (xK j))
theorem KU {n:Nat} {may:A->A->Bool} {P:Nat->Bool} {L:List E} {u:Int} (hA:AT O S may P L) (hg:dm L):∀ (t:Tr E) {k:Nat} {m:Po E A} {p s:List E},gp n m->Rp O S m t->p++(t.elems++s)=L->t.h<k ->
  ∃ kk,Gp t.h p.length (p.length+t.elems.length) u (last O may k m (nd O S t) ⟨p.length,S p⟩ u).1 kk/\iV [] kk (zn O) m (last O may k m (nd O S t) ⟨p.length,S p⟩ u).2
 |t,0,m,p,s,_,_,_,hk=>by omega
 |.nil,k+1,m,p,s,ho,hr,hL,hk=>by
  rw[last,if_pos (.inl (by rw[rJ];rfl))]
  exact⟨0,⟨dv _,fun _=>dv _,fun _=>dv _,fun _ _=>rfl,fun _=>rfl⟩,iV.refl _ _ _ _⟩
 |.node r l x q,k+1,m,p,s,ho,⟨sn,ni,mj,mw⟩,hL,hk=>by
  have whole:=(LN Z (u:=u) hA.toAsks hg (.node r l x q) (k:=k+1) (m:=m) (p:=p) (s:=s) ho ⟨sn,ni,mj,mw⟩ hL hk).1;simp only[Tr.h] at hk;have hlen:=Z.len _ hg;have qk:=rT (O:=O) (S:=S) Z.nil (.node r l x q);rw[← Tr.fe] at qk;have kl:lk O m l.root=nd O S l:=mj.root ho;have kq:lk O m q.root=nd O S q:=mw.root ho;have e1:(nd O S (Tr.node r l x q)).l=l.root:=rfl;have e2:(nd O S (Tr.node r l x q)).r=q.root:=rfl;have e3:(nd O S (Tr.node r l x q)).e=x:=rfl;have e5:¬ (nd O S (Tr.node r l x q)).h=0:=by rw[rJ];simp only[Tr.h];omega
  have SM:=congrArg ae hL;rw[Tr.gL] at hL;have Wp:p++(l.elems++(x::q.elems++s))=L:=by simpa using hL
  have ON:(p++l.elems)++x::(q.elems++s)=L:=by simpa using hL
  have K_:(p++l.elems++[x])++(q.elems++s)=L:=by simpa using hL
  have hex:=hA.ex p (Tr.node r l x q).elems s (by rw[Tr.gL];exact hL) (by rw[Tr.gL];simp)
  have GC:(Tr.node r l x q).elems.length=l.elems.length+(q.elems.length+1):=by rw[Tr.gL];simp
  have UH:l.h<k:=by omega
  have hkq:q.h<k:=by omega
  have hhh:(Tr.node r l x q).h=1+max l.h q.h:=rfl;rw[last,e1,e2,e3,qk] at whole ⊢;simp only[kl,mD,iE,kq,rT Z.nil,← Tr.fe] at whole ⊢;simp only[bE] at SM;have w1:W ((p.length:Int)+((Tr.node r l x q).elems.length:Int))=(p.length:Int)+(Tr.node r l x q).elems.length:=uK (by omega)
  rw[w1] at whole ⊢
  by_cases c1:(nd O S (Tr.node r l x q)).h=0∨(p.length:Int)≥u
  ·rw[if_pos c1];exact⟨0,⟨dv _,fun _=>dv _,fun _=>dv _,fun _ _=>rfl,fun _=>rfl⟩,iV.refl _ _ _ _⟩
  ·rw[if_neg c1] at whole ⊢;have hc:¬ u≤((p.length:Nat):Int):=fun h=>c1 (.inr h)
   by_cases c2:(p.length:Int)+(Tr.node r l x q).elems.length≤u/\may (S p) (S (Tr.node r l x q).elems)=an
   ·rw[if_pos c2];exact⟨0,⟨dv _,fun _=>dv _,fun _=>dv _,fun _ _=>rfl,fun _=>rfl⟩,iV.refl _ _ _ _⟩
   ·rw[if_neg c2] at whole ⊢;have Q0:((p.length+(Tr.node r l x q).elems.length:Nat):Int)≤u->∃ i:Nat,p.length≤i/\i<p.length+(Tr.node r l x q).elems.length/\P i=ao:=fun hf=>by
     cases hm:may (S p) (S (Tr.node r l x q).elems) with
     |false=>exact absurd ⟨by omega,hm⟩ c2
     |true=>exact hex hm
    have KS:dm (p++l.elems):=Z.left _ (x::(q.elems++s)) (by rw[ON];exact hg)
    have Us:dm ((p++l.elems)++[x]):=Z.left _ (q.elems++s) (by rw[K_];exact hg)
    rw[pM Z KS,BS Z,pM Z Us] at whole ⊢;obtain⟨kk,x0,i2⟩:=KU hA hg q (k:=k) (m:=aG (aG m l.root) q.root) (p:=p++l.elems++[x]) (s:=s) (di.2 (di.2 ho)) ((mw.aG _).aG _) K_ hkq;have hu:=(ud (O:=O) m l.root q.root).to i2 (S:=[]) (fun s hs=>by simp at hs) (a_ _)
    have AX:(p++l.elems++[x]).length=p.length+l.elems.length+1:=by simp;omega
    rw[hhh]
    by_cases c3:(last O may k (aG (aG m l.root) q.root) (nd O S q) ⟨(p++l.elems++[x]).length,S (p++l.elems++[x])⟩ u).1≥0
    ·rw[if_pos c3];exact⟨_,XA x0 AX c3 (by rw[GC]) hc,hu⟩
    ·rw[if_neg c3] at whole ⊢
     by_cases c4:((p++l.elems).length:Int)<u/\may (S (p++l.elems)) (O.sum x)=ao
     ·rw[if_pos c4];exact⟨_,adj x0 AX (Jq.mp c3) (xK _) (by rw[GC]) hc,hu⟩
     ·rw[if_neg c4] at whole ⊢;obtain⟨Pr,y0,j2⟩:=KU hA hg l (k:=k) (m:=(last O may k (aG (aG m l.root) q.root) (nd O S q) ⟨(p++l.elems++[x]).length,S (p++l.elems++[x])⟩ u).2) (p:=p) (s:=x::q.elems++s) (RI.2 (di.2 (di.2 ho)))
       (Rp.frame hu (fun s _ hs=>by cases hs) mj) Wp UH
      refine⟨_,?_,hu.to j2 (S:=[]) (fun s hs=>by simp at hs) (a_ _)⟩
      rw[GC] at Q0 whole ⊢;refine Zc x0 AX y0 (Jq.mp c3) (fun hf hr=>?_) hc
      obtain⟨i,g1,g2,g3⟩:=Q0 hf;clear Q0 hex;rcases whole with⟨h1,h2⟩|⟨j,h1,_⟩
      ·rw[h2 i g1 g2 (by omega)] at g3;cases g3
      ·rw[h1] at hr;exact absurd hr (Jm.mpr (xK j))
theorem acJ {n K:Nat} {f:Int} {may:A->A->Bool} {P:Nat->Bool} {m:Po E A} {a b:Tr E} (h:St O S dm n m a b) (hA:AT O S may P a.elems) (hk:a.h<K) :
  ns (4*a.h+1) m (first O may K (aG m a.root) (lk O m a.root) ⟨0,O.a0⟩ f).2:=by
 have h2:=h.aG a.root;obtain⟨kk,r1,r2⟩:=IM Z (f:=f) hA h.ga a (k:=K) (p:=[]) (s:=[]) h2.ok h2.ra (by simp) hk
 have e0:(([]:List E).length:Int)=0:=rfl;rw[e0,Z.nil] at r2;rw[h.lk];exact(h.up (r:=a.root) r2).qZ.mono (by have:=r1.1;omega)
theorem aeI {n K:Nat} {f:Int} {may:A->A->Bool} {P:Nat->Bool} {m:Po E A} {a b:Tr E} (h:St O S dm n m a b) (hA:AT O S may P a.elems) (hk:a.h<K) :
  ns (4*a.h+1) m (last O may K (aG m a.root) (lk O m a.root) ⟨0,O.a0⟩ f).2:=by
 have h2:=h.aG a.root;obtain⟨kk,r1,r2⟩:=KU Z (u:=f) hA h.ga a (k:=K) (p:=[]) (s:=[]) h2.ok h2.ra (by simp) hk
 have e0:(([]:List E).length:Int)=0:=rfl;rw[e0,Z.nil] at r2;rw[h.lk];exact(h.up (r:=a.root) r2).qZ.mono (by have:=r1.1;omega)
end
theorem TS.S4 {E A:Type} {k:Kd E A} {may:A->A->Bool} {P:Nat->Bool} {s:TS k} {f:Int} (h:AT k.O k.S may P s.l):ns (4*nF s.l.length+1) s.m (s.first may f).m:=by
 obtain⟨a,b,h1,h2,h3,h4,h5,h6⟩:=s.ok;have hk:=s.k1;show ns _ s.m (kT k.O may KK (aG s.m s.r) (lk k.O s.m s.r) ⟨0,k.O.a0⟩ f).2
 rw[← h4] at h hk;rw[← h4,← h1];have hb:=a.D4 h3.ba;rw[← Tr.fe] at hb;exact(acJ k.Z h3 h (jk (sC a) hk)).mono (by omega)
theorem TS.Wd {E A:Type} {k:Kd E A} {may:A->A->Bool} {P:Nat->Bool} {s:TS k} {f:Int} (h:AT k.O k.S may P s.l):ns (4*nF s.l.length+1) s.m (s.last may f).m:=by
 obtain⟨a,b,h1,h2,h3,h4,h5,h6⟩:=s.ok;have hk:=s.k1;show ns _ s.m (kf k.O may KK (aG s.m s.r) (lk k.O s.m s.r) ⟨0,k.O.a0⟩ f).2
 rw[← h4] at h hk;rw[← h4,← h1];have hb:=a.D4 h3.ba;rw[← Tr.fe] at hb;exact(aeI k.Z h3 h (jk (sC a) hk)).mono (by omega)
end Gv
namespace Br
open Rx Wv
def kO (n:Nat) (p:Int):Nat:=min p.toNat n
theorem VP (n:Nat) (p:Int):kO n p≤n:=Nat.min_le_right _ _
theorem zW {n i:Nat} (h:i≤n):kO n (i:Int)=i:=by unfold kO;omega
def wo (l:List Mk) (base:Int) (i:Nat):Int:=base+Ay (l.map uR) i
theorem EU (l:List Mk) (base:Int):wo l base 0=base:=by simp[wo,Ay]
def nxt (l:List Mk) (base:Int):Nat->Nat->Int
 |_,0=>-1
 |i,j+1=>if wo l base i≤0 then i else nxt l base (i+1) j
def prv (l:List Mk) (base:Int):Nat->Int
 |0=>if wo l base 0≤0 then 0 else -1
 |i+1=>if wo l base (i+1)≤0 then((i+1:Nat):Int) else prv l base i
def Qx (l:List Mk) (p base:Int):Int:=nxt l base (kO l.length p) (l.length+1-kO l.length p)
def FF (l:List Mk) (p base:Int):Int:=prv l base (kO l.length p)
def XY (l:List Mk) (base:Int) (a b:Nat) (r:Int):Prop:=(r = -1/\∀ i,a≤i->i≤b->¬ wo l base i≤0)∨∃ j:Nat,r=j/\a≤j/\j≤b/\wo l base j≤0/\∀ i,a≤i->i<j->¬ wo l base i≤0
def IsP (l:List Mk) (base:Int) (b:Nat) (r:Int):Prop:=(r = -1/\∀ i,i≤b->¬ wo l base i≤0)∨∃ j:Nat,r=j/\j≤b/\wo l base j≤0/\∀ i,j<i->i≤b->¬ wo l base i≤0
theorem PL {l:List Mk} {base:Int} {a b:Nat} {r r':Int} (h:XY l base a b r) (h':XY l base a b r'):r=r':=by
 rcases h with⟨rfl,h⟩|⟨j,rfl,h1,h2,h3,h4⟩<;>rcases h' with⟨rfl,h'⟩|⟨j',rfl,SF,h2',w8,J5⟩
 ·rfl
 ·exact absurd w8 (h j' SF h2')
 ·exact absurd h3 (h' j h1 h2)
 ·rcases od j j' with c|c|c
  ·exact absurd h3 (J5 j h1 c)
  ·rw[c]
  ·exact absurd w8 (h4 j' SF c)
theorem V2 {l:List Mk} {base:Int} {b:Nat} {r r':Int} (h:IsP l base b r) (h':IsP l base b r'):r=r':=by
 rcases h with⟨rfl,h⟩|⟨j,rfl,h1,h3,h4⟩<;>rcases h' with⟨rfl,h'⟩|⟨j',rfl,SF,w8,J5⟩
 ·rfl
 ·exact absurd w8 (h j' SF)
 ·exact absurd h3 (h' j h1)
 ·rcases od j j' with c|c|c
  ·exact absurd w8 (h4 j' c SF)
  ·rw[c]
  ·exact absurd h3 (J5 j c h1)
theorem abU (l:List Mk) (base:Int):∀ (j i:Nat),XY l base i (i+j) (nxt l base i (j+1))
 |0,i=>by
  rw[nxt];split
  ·exact .inr ⟨i,rfl,a_ _,by omega,by assumption,fun k h1 h2=>by omega⟩
  ·refine .inl ⟨rfl,fun k h1 h2=>?_⟩
   obtain rfl:k=i:=by omega
   assumption
 |j+1,i=>by
  rw[nxt];split
  ·exact .inr ⟨i,rfl,a_ _,by omega,by assumption,fun k h1 h2=>by omega⟩
  ·rename_i h0;rcases abU l base j (i+1) with⟨h1,h2⟩|⟨k,h1,h2,h3,h4,h5⟩
   ·refine .inl ⟨h1,fun k g1 g2=>?_⟩
    rcases ct i k with c|c
    ·exact h2 k c (by omega)
    ·obtain rfl:k=i:=by omega
     exact h0
   ·refine .inr ⟨k,h1,by omega,by omega,h4,fun m g1 g2=>?_⟩
    rcases ct i m with c|c
    ·exact h5 m c g2
    ·obtain rfl:m=i:=by omega
     exact h0
theorem abZ (l:List Mk) (base:Int):∀ b,IsP l base b (prv l base b)
 |0=>by
  rw[prv];split
  ·exact .inr ⟨0,rfl,a_ _,by assumption,fun k h1 h2=>by omega⟩
  ·refine .inl ⟨rfl,fun k h1=>?_⟩
   obtain rfl:k=0:=by omega
   assumption
 |b+1=>by
  rw[prv];split
  ·exact .inr ⟨b+1,rfl,a_ _,by assumption,fun k h1 h2=>by omega⟩
  ·rename_i h0;rcases abZ l base b with⟨h1,h2⟩|⟨k,h1,h2,h3,h4⟩
   ·refine .inl ⟨h1,fun k g1=>?_⟩
    rcases ct b k with c|c
    ·obtain rfl:k=b+1:=by omega
     exact h0
    ·exact h2 k c
   ·refine .inr ⟨k,h1,by omega,h3,fun m g1 g2=>?_⟩
    rcases ct b m with c|c
    ·obtain rfl:m=b+1:=by omega
     exact h0
    ·exact h4 m g1 c
theorem aa2 (l:List Mk) (p base:Int):XY l base (kO l.length p) l.length (Qx l p base):=by
 have h:=abU l base (l.length-kO l.length p) (kO l.length p);have hc:=VP l.length p;rw[show kO l.length p+(l.length-kO l.length p)=l.length by omega,show l.length-kO l.length p+1=l.length+1-kO l.length p by omega] at h
 exact h
theorem Qt (l:List Mk) (p base:Int):IsP l base (kO l.length p) (FF l p base):=abZ _ _ _
def uJ (l:List Mk) (p:Int):Option It:=hi (mh an (l.drop (kO l.length p)))
def qh (l:List Mk) (p:Int):Option It:=lo (mh ao (l.take (kO l.length p)))
theorem abK {x:List Int} {c:Int}:∀ {k:Nat},0<k->(Jr x k≤c↔∃ j,j<k/\Ay x (j+1)≤c)
 |0,h=>by omega
 |1,_=>by
  refine⟨fun h=>⟨0,by omega,h⟩,fun⟨j,h1,h2⟩=>?_⟩
  obtain rfl:j=0:=by omega
  exact h2
 |k+2,_=>by
  have ih:=abK (x:=x) (c:=c) (k:=k+1) (by omega)
  show min (Jr x (k+1)) (Ay x (k+2))≤c↔_
  constructor
  ·intro h
   by_cases c1:Jr x (k+1)≤c
   ·obtain⟨j,h1,h2⟩:=ih.1 c1;exact⟨j,by omega,h2⟩
   ·refine⟨k+1,by omega,?_⟩
    rw[show k+1+1=k+2 from rfl];omega
  ·rintro ⟨j,h1,h2⟩
   by_cases c1:j<k+1
   ·have:=ih.2 ⟨j,c1,h2⟩;omega
   ·obtain rfl:j=k+1:=by omega
    rw[show k+1+1=k+2 from rfl] at h2
    omega
theorem ada {p l q:List Mk} {base:Int} {j:Nat} (h:j≤l.length):wo (p++(l++q)) base (p.length+j)=wo (p++(l++q)) base p.length+Ay (l.map uR) j:=by
 unfold wo;rw[dM,show p.length=(p.map uR).length by simp,Sf,show(p.map uR).length=(p.map uR).length+0 by rfl,Sf,dM,W1 (y:=l.map uR) (by simpa using h)]
 simp only[Nat.add_zero];have:Ay (l.map uR++q.map uR) 0=0:=by simp[Ay]
 omega
theorem ah3 {p q:List Mk} {base:Int}:wo (p++q) base p.length=base+(S8 p).w.s:=by
 show base+_=base+Ay (p.map uR) (p.map uR).length
 rw[dM,W1 (by simp),fZ]
theorem ad_ {L:List Mk} {base:Int} {may:Sw->Sw->Bool} (h:∀ p l q,p++(l++q)=L->l≠[]->(may (S8 p) (S8 l)=ao↔base+(S8 p).w.s+(S8 l).w.l≤0)) :
  Gv.AT O8 S8 may (fun i=>decide (wo L base (i+1)≤0)) L:=by
 have key:∀ p l q,p++(l++q)=L->l≠[]->(may (S8 p) (S8 l)=ao↔∃ j,j<l.length/\wo L base (p.length+j+1)≤0):=fun p l q hL hl=>by
  rw[h p l q hL hl];have hp:=ah3 (p:=p) (q:=l++q) (base:=base);have e:(S8 l).w.l=Jr (l.map uR) l.length:=by show Jr _ (l.map uR).length=_;rw[fZ]
  have aii:=abK (x:=l.map uR) (c:=-(base+(S8 p).w.s)) (k:=l.length) (JX.2 hl);rw[← e] at aii;have e1:base+(S8 p).w.s+(S8 l).w.l≤0↔(S8 l).w.l ≤ -(base+(S8 p).w.s):=by omega
  rw[e1,aii]
  constructor
  ·rintro ⟨j,h1,h2⟩
   refine⟨j,h1,?_⟩;rw[← hL,show p.length+j+1=p.length+(j+1) by omega,ada (by omega),hp]
   omega
  ·rintro ⟨j,h1,h2⟩
   refine⟨j,h1,?_⟩;rw[← hL,show p.length+j+1=p.length+(j+1) by omega,ada (by omega),hp] at h2
   omega
 refine⟨⟨fun p x q hL=>?_,fun p l q hL i h1 h2 h3=>?_⟩,fun p l q hL hl hm=>?_⟩
 ·have k:=key p [x] q (by simpa using hL) (by simp)
  rw[show O8.sum x=S8 [x] from(Uy x).symm,QL,k,decide_eq_true_eq]
  constructor
  ·intro h;exact⟨0,by simp,h⟩
  ·rintro ⟨j,h1,h2⟩
   obtain rfl:j=0:=by simpa using h1
   exact h2
 ·have hl:l≠[]:=fun h=>by rw[h] at h2;simp at h2;omega
  rw[key p l q hL hl];exact⟨i-p.length,by omega,by rw[show p.length+(i-p.length)+1=i+1 by omega];exact of_decide_eq_true h3⟩
 ·obtain⟨j,h1,h2⟩:=(key p l q hL hl).1 hm;exact⟨p.length+j,by omega,by omega,decide_eq_true h2⟩
theorem Zo {L:List Mk} {base:Int} {a:Nat} {r:Int} (ha:a≤L.length) (h0:a=0->¬ base≤0) (h:Gv.B5 (fun i=>decide (wo L base (i+1)≤0)) 0 L.length ((a:Int)-1) r):XY L base a L.length (if r<0 then -1 else r+1):=by
 rcases h with⟨h1,h2⟩|⟨j,h1,h2,h3,h4,h5,h6⟩
 ·rw[if_pos (by omega)]
  refine .inl ⟨rfl,fun i g1 g2=>?_⟩
  rcases mC i with c|c
  ·rw[c,EU];exact h0 (by omega)
  ·have:=of_decide_eq_false (h2 (i-1) (by omega) (by omega) (by omega))
   rwa [show i-1+1=i by omega] at this
 ·rw[if_neg (by omega)]
  refine .inr ⟨j+1,by omega,by omega,by omega,of_decide_eq_true h5,fun i g1 g2=>?_⟩
  rcases mC i with c|c
  ·rw[c,EU];exact h0 (by omega)
  ·have:=of_decide_eq_false (h6 (i-1) (by omega) (by omega) (by omega))
   rwa [show i-1+1=i by omega] at this
theorem ae0 {L:List Mk} {base:Int} {b:Nat} {r:Int} (hb:b≤L.length) (h:Gv.EZ (fun i=>decide (wo L base (i+1)≤0)) 0 L.length b r):IsP L base b (if r≥0 then r+1 else if base≤0 then 0 else -1):=by
 rcases h with⟨h1,h2⟩|⟨j,h1,h2,h3,h4,h5,h6⟩
 ·rw[if_neg (by omega)]
  have CS:∀ i,0<i->i≤b->¬ wo L base i≤0:=fun i g1 g2=>by
   have:=of_decide_eq_false (h2 (i-1) (by omega) (by omega) (by omega))
   rwa [show i-1+1=i by omega] at this
  by_cases c:base≤0
  ·rw[if_pos c];exact .inr ⟨0,rfl,dv _,by rw[EU];exact c,fun i g1 g2=>CS i g1 g2⟩
  ·rw[if_neg c];refine .inl ⟨rfl,fun i g2=>?_⟩
   rcases mC i with g|g
   ·rw[g,EU];exact c
   ·exact CS i g g2
 ·rw[if_pos (by omega)]
  refine .inr ⟨j+1,by omega,by omega,of_decide_eq_true h5,fun i g1 g2=>?_⟩
  have:=of_decide_eq_false (h6 (i-1) (by omega) (by omega) (by omega))
  rwa [show i-1+1=i by omega] at this
end Br
namespace Pa
open Rx Wv Br
def gO (l:List Op):It->Bool:=fun z=>decide (z∈tk [] l)
def SL (l:List Op) (o:Op):Mk:=⟨o.t,o.ins,o.it,o.ins&&decide (o.it∈fin [] l),an,iz⟩
def jO (l:List Op):List Mk:=l.map (SL l)
theorem yb (l:List Op):(jO l).length=l.length:=fZ ..
abbrev pk (l:List Op):Int:=(gE [] l:Int)
theorem mc {l:List Op} (h:(gB l).Nodup):Ap [] l:=⟨r9,h,fun x hx=>by cases hx⟩
theorem Hi (l:List Op):jo (gO l) [] l:=fun z _=>by unfold gO;rw[decide_eq_true_eq]
theorem BX {l:List Op} {z:It}:z∈gB l↔∃ o,o∈l/\o.ins=ao/\o.it=z:=by
 unfold gB;rw[px]
 constructor
 ·rintro ⟨o,h1,h2⟩;exact⟨o,(py.1 h1).1,(py.1 h1).2,h2⟩
 ·rintro ⟨o,h1,h2,h3⟩;exact⟨o,py.2 ⟨h1,h2⟩,h3⟩
theorem ac5 {l:List Op} (h:(gB l).Nodup) {o:Op} (ho:o∈l) (hi:o.ins=ao):o.it∈fin [] l↔gO l o.it=an:=by
 rw[rz (mc h)];unfold gO;rw[decide_eq_false_iff_not];exact⟨fun h=>h.2,fun h=>⟨.inr (BX.2 ⟨o,ho,hi,rfl⟩),h⟩⟩
theorem aiI {l:List Op} (h:(gB l).Nodup) {o:Op} (ho:o∈l):uR (SL l o)=wt (gO l) o:=by
 unfold uR wt OS SL;rcases ji o with e|e
 ·simp only[e,if_true,js,true_and,decide_eq_true_eq];have hh:=ac5 h ho e
  by_cases c:o.it∈fin [] l
  ·rw[if_pos c,hh.1 c];rfl
  ·rw[if_neg c];cases k:gO l o.it
   ·exact absurd (hh.2 k) c
   ·rfl
 ·simp only[e,Cy,Bool.false_eq_true,if_false,false_and]
theorem YB (g:It->Bool):∀ a:List Op,wts g a=(a.map (wt g)).sum
 |[]=>rfl
 |o::a=>by show wt g o+wts g a=_;rw[YB g a,gC,List.sum_cons]
theorem Pw {l:List Op} (h:(gB l).Nodup) {i:Nat} (hi:i≤l.length):wo (jO l) (pk l) i=(pS (gO l) (fin [] (l.take i)) (l.drop i):Int):=by
 have h1:=afP (g:=gO l) (a:=l.take i) (b:=l.drop i) (h:=[]) (by rw[cR];exact mc h) (by rw[cR];exact Hi l)
 rw[cR] at h1;rw[h1];have h2:pS (gO l) [] l=gE [] l:=by unfold pS;rw[QM];rfl
 rw[h2];unfold wo Ay;have h3:(jO l).map uR=l.map (wt (gO l)):=by
  unfold jO;rw[List.map_map];exact oj fun o ho=>aiI h ho
 rw[h3,YB,nO]
theorem Fi:∀ {l:List It} {m:It},hi l=aa m->m∈l
 |a::l,m,h=>by
  have h:up (aa a) (hi l)=aa m:=h;cases e:hi l with
  |none=>rw[e] at h;cases h;exact bL
  |some b =>
   rw[e,PC] at h;cases h;rcases TY a b with c|c
   ·rw[c];exact bL
   ·rw[c];exact dX _ (Fi e)
theorem Vo {a b:List It} (h:∀ z,z∈a↔z∈b):hi a=hi b:=by
 cases ea:hi a with
 |none =>
  cases eb:hi b with
  |none=>rfl
  |some m =>
   obtain⟨m',h1,_⟩:=IS ((h m).2 (Fi eb));rw[ea] at h1;cases h1
 |some m =>
  obtain⟨m',h1,h2⟩:=IS ((h m).1 (Fi ea));obtain⟨m2,h3,h4⟩:=IS ((h m').2 (Fi h1));rw[ea] at h3;cases h3;rw[h1];rcases h2 with h2|h2
  ·rw[h2]
  ·rcases h4 with h4|h4
   ·rw[h4]
   ·exact absurd h2 (sO h4)
theorem abt:∀ {l:List It},Ord l->lo l=l.head?
 |[],_=>rfl
 |y::l,h=>by
  show dn (aa y) (lo l)=aa y
  rw[abt (EW h)];cases l with
  |nil=>rfl
  |cons w l =>
   show(if ah w y then aa w else aa y)=aa y
   rw[if_neg (sO (Dc h bL))]
theorem lo_le:∀ {l:List It} {z:It},z∈l->∃ m,lo l=aa m/\(m=z∨ah m z)
 |l,z,hz=>by
  cases e:lo l with
  |none =>
   have:=(Ys l).2 (List.ne_nil_of_mem hz);rw[e] at this;cases this
  |some m =>
   refine⟨m,rfl,?_⟩;have:=ac0 l m e z hz
   by_cases c:m=z
   ·exact .inl c
   ·rcases Ue c with c|c
    ·exact .inr c
    ·exact absurd c this
theorem Ht:∀ {l:List It} {m:It},lo l=aa m->m∈l
 |a::l,m,h=>by
  have h:dn (aa a) (lo l)=aa m:=h;cases e:lo l with
  |none=>rw[e] at h;cases h;exact bL
  |some b =>
   rw[e] at h;have h:(if ah b a then aa b else aa a)=aa m:=h
   split at h
   ·cases h;exact dX _ (Ht e)
   ·cases h;exact bL
theorem ala {a b:List It} (h:∀ z,z∈a↔z∈b):lo a=lo b:=by
 cases ea:lo a with
 |none =>
  cases eb:lo b with
  |none=>rfl
  |some m =>
   obtain⟨m',h1,_⟩:=lo_le ((h m).2 (Ht eb));rw[ea] at h1;cases h1
 |some m =>
  obtain⟨m',h1,h2⟩:=lo_le ((h m).1 (Ht ea));obtain⟨m2,h3,h4⟩:=lo_le ((h m').2 (Ht h1));rw[ea] at h3;cases h3;rw[h1];rcases h2 with h2|h2
  ·rw[h2]
  ·rcases h4 with h4|h4
   ·rw[h4]
   ·exact absurd h2 (sO h4)
theorem uc {b:Bool} {L:List Mk} {z:It}:z∈mh b L↔∃ m,m∈L/\m.ins=ao/\m.here=b/\m.it=z:=by
 unfold mh;rw[px]
 constructor
 ·rintro ⟨m,h1,h2⟩
  obtain⟨h1,h3⟩:=py.1 h1;rw[aM,beq_iff_eq] at h3;exact⟨m,h1,h3.1,h3.2,h2⟩
 ·rintro ⟨m,h1,h2,h3,h4⟩
  exact⟨m,py.2 ⟨h1,by rw[aM,beq_iff_eq];exact⟨h2,h3⟩⟩,h4⟩
theorem VK {l a:List Op} (h:(gB l).Nodup) (ha:∀ o,o∈a->o∈l) {b:Bool} {z:It}:z∈mh b (a.map (SL l))↔z∈gB a/\gO l z = !b:=by
 rw[uc,BX];have key:∀ o,o∈a->o.ins=ao->((SL l o).here=b↔gO l o.it = !b):=fun o h1 h2=>by
  have h3:=ac5 h (ha o h1) h2;show(o.ins&&decide (o.it∈fin [] l))=b↔_
  rw[h2,js];cases c:gO l o.it
  ·rw[c] at h3;rw[decide_eq_true (h3.2 rfl)];cases b<;>simp
  ·rw[c] at h3;rw[decide_eq_false (fun m=>by have:=h3.1 m;cases this)]
   cases b<;>simp
 constructor
 ·rintro ⟨m,h1,h2,h3,h4⟩
  obtain⟨o,g1,rfl⟩:=px.1 h1;have h4:o.it=z:=h4;subst h4;exact⟨⟨o,g1,h2,rfl⟩,(key o g1 h2).1 h3⟩
 ·rintro ⟨⟨o,h1,h2,rfl⟩,h3⟩
  exact⟨SL l o,px.2 ⟨o,h1,rfl⟩,h2,(key o h1 h2).2 h3,rfl⟩
theorem Zg {l a b:List Op} (h:(gB l).Nodup) (e:l=a++b) (hz:pS (gO l) (fin [] a) b=0):∀ z,z∈fin [] a↔z∈gB a/\gO l z=an:=by
 intro z;subst e;have k:=mc h;have h1:=H5 hz;have ka:Ap [] a:=⟨r9,by
  have:=h;unfold gB at this ⊢;rw[mB,dM] at this;exact(ch.1 this).1,fun x hx=>by cases hx⟩
 constructor
 ·intro m;have h2:=((rz ka z).1 m).1;refine⟨?_,h1.2 z m⟩;rcases h2 with h2|h2
  ·cases h2
  ·exact h2
 ·rintro ⟨m,hg⟩
  refine(rz ka z).2 ⟨.inr m,fun c=>?_⟩
  unfold gO at hg;rw[decide_eq_false_iff_not,wq] at hg;exact hg (List.mem_append_left _ c)
theorem abc {l a b:List Op} (h:(gB l).Nodup) (e:l=a++b) (hz:pS (gO l) (fin [] a) b=0):∀ z,z∈tk (fin [] a) b↔z∈gB b/\gO l z=ao:=by
 intro z;subst e;have h1:=H5 hz;have ab:Ap (fin [] a) b:=EH (mc h);have cb:jo (gO (a++b)) (fin [] a) b:=HG (mc h) (Hi _)
 constructor
 ·intro m;have h2:=rv ab z m;have h3:=(cb z h2).2 m;rcases h2 with h2|h2
  ·rw[h1.2 z h2] at h3;cases h3
  ·exact⟨h2,h3⟩
 ·rintro ⟨m,hg⟩
  exact(cb z (.inr m)).1 hg
theorem afI {l:List Op} (h:(gB l).Nodup) {p:Nat} (hp:p≤l.length) :
  tp (fin [] (l.take p)) (l.drop p)=if FF (jO l) p (pk l)<0 then aj else aa (hi (mh an ((jO l).drop (FF (jO l) p (pk l)).toNat))):=by
 have hP:=Qt (jO l) p (pk l);rw[yb,zW hp] at hP;have aee:∀ i,i≤l.length->¬ wo (jO l) (pk l) i≤0->0<pS (gO l) (fin [] (l.take i)) (l.drop i):=fun i hi hn=>by
  rw[Pw h hi] at hn;omega
 have back:∀ j,j≤p->(∀ i,j<i->i≤p->¬ wo (jO l) (pk l) i≤0)->tp (fin [] (l.take j)) (l.drop j)=tp (fin [] (l.take p)) (l.drop p):=fun j hj CS=>by
  have e1:l.drop j=(l.drop j).take (p-j)++l.drop p:=by
   have:=(cR (p-j) (l.drop j)).symm;rw[sF,show j+(p-j)=p by omega] at this
   exact this
  have e2:l.take p=l.take j++(l.drop j).take (p-j):=by
   have:l.take (j+(p-j))=l.take j++(l.drop j).take (p-j):=wD
   rwa [show j+(p-j)=p by omega] at this
  have k:Ap (fin [] (l.take j)) (l.drop j):=EH (by rw[cR];exact mc h)
  have c:jo (gO l) (fin [] (l.take j)) (l.drop j):=HG (by rw[cR];exact mc h) (by rw[cR];exact Hi l)
  have:=YM (g:=gO l) (m:=(l.drop j).take (p-j)) (b:=l.drop p) (h:=fin [] (l.take j)) (by rw[← e1];exact k) (by rw[← e1];exact c) fun a c' ea kG=>by
   have hla:(a++c').length=p-j:=by rw[← ea,ej,jC];omega
   rw[bE] at hla;have h0:0<a.length:=JX.2 kG;have f1:l.take (j+a.length)=l.take j++a:=by
    have:l.take (j+a.length)=l.take j++(l.drop j).take a.length:=wD;rw[this,e1,ea,rY,GO]
    rfl
   have f2:l.drop (j+a.length)=c'++l.drop p:=by
    rw[← sF,e1,ea,rY,GP]
    rfl
   have:=aee (j+a.length) (by omega) (CS _ (by omega) (by omega))
   rw[f1,f2,qg] at this;exact this
  rw[← e1] at this;rw[this,e2,qg]
 rcases hP with⟨h1,h2⟩|⟨j,h1,h2,h3,h4⟩
 ·rw[h1,if_pos (by omega),← back 0 (dv _) fun i _ hi=>h2 i hi]
  have h0:=aee 0 (dv _) (h2 0 (dv _));rw[sE,List.drop_zero] at h0 ⊢;have h0:0<pS (gO l) [] l:=h0;unfold pS at h0;rw[QM] at h0;show tp [] l=aj
  unfold tp;rw[if_neg (by omega)]
 ·rw[h1,if_neg (by omega),← back j h2 h4]
  have hz:pS (gO l) (fin [] (l.take j)) (l.drop j)=0:=by
   rw[Pw h (by omega)] at h3;omega
  have e:l=l.take j++l.drop j:=(cR _ _).symm;unfold tp;rw[if_pos (H5 hz).1];have e3:((j:Nat):Int).toNat=j:=Int.toNat_natCast j;rw[e3];have e4:(jO l).drop j=(l.drop j).map (SL l):=by unfold jO;rw[mT]
  rw[e4,Vo fun z=>?_]
  rw[abc h e hz,VK h fun o ho=>v9 ho]
  rfl
theorem agn {l:List Op} (h:(gB l).Nodup) {p:Nat} (hp:p≤l.length) :
  ∃ b:Nat,Qx (jO l) p (pk l)=b/\p≤b/\b≤l.length/\(JN (gO l) (fin [] (l.take p)) (l.drop p)).head?=lo (mh ao ((jO l).take b)):=by
 have k:Ap (fin [] (l.take p)) (l.drop p):=EH (by rw[cR];exact mc h)
 have c:jo (gO l) (fin [] (l.take p)) (l.drop p):=HG (by rw[cR];exact mc h) (by rw[cR];exact Hi l)
 obtain⟨a,b,e1,e2,e3,e4⟩:=acH k c;have JI:a.length+b.length=l.length-p:=by
  have:=congrArg ae e1;rw[jC,bE] at this;omega
 have f1:l.take (p+a.length)=l.take p++a:=by
  have:l.take (p+a.length)=l.take p++(l.drop p).take a.length:=wD;rw[this,e1,GO]
  rfl
 have f2:l.drop (p+a.length)=b:=by
  rw[← sF,e1,GP]
  rfl
 have hz:pS (gO l) (fin [] (l.take (p+a.length))) (l.drop (p+a.length))=0:=by rw[f1,f2,qg];exact e3
 have hN:=aa2 (jO l) p (pk l);rw[yb,zW hp] at hN;have hI:XY (jO l) (pk l) p l.length ((p+a.length:Nat):Int):=.inr ⟨p+a.length,rfl,by omega,by omega,by rw[Pw h (by omega),hz];exact Int.le_refl _,fun i h1 h2=>by
  rw[Pw h (by omega)]
  have s1:l.drop p=(l.drop p).take (i-p)++l.drop i:=by
   have:=(cR (i-p) (l.drop p)).symm;rw[sF,show p+(i-p)=i by omega] at this
   exact this
  have s2:l.take i=l.take p++(l.drop p).take (i-p):=by
   have:l.take (p+(i-p))=l.take p++(l.drop p).take (i-p):=wD
   rwa [show p+(i-p)=i by omega] at this
  have:=e4 _ _ s1 (by rw[ej,jC];omega)
  rw[s2,qg];omega⟩
 refine⟨p+a.length,PL hN hI,by omega,by omega,?_⟩
 have e:l=l.take (p+a.length)++l.drop (p+a.length):=(cR _ _).symm;have e5:fin (fin [] (l.take p)) a=fin [] (l.take (p+a.length)):=by rw[f1,qg]
 have o5:Ord (fin [] (l.take (p+a.length))):=(EH (a:=l.take (p+a.length)) (b:=l.drop (p+a.length)) (h:=[]) (by rw[cR];exact mc h)).ord
 rw[e2,e5,← abt o5];have e6:(jO l).take (p+a.length)=(l.take (p+a.length)).map (SL l):=by unfold jO;rw[nO]
 rw[e6];refine ala fun z=>?_
 rw[Zg h e hz,VK h fun o ho=>pB ho]
 rfl
def ld (l:List Op) (p:Nat) (o:Op):List Op:=l.take p++o::l.drop p
def kn (l:List Op) (p:Nat):List Op:=l.take p++l.drop (p+1)
abbrev og (l:List Op) (k:Nat):Op:=l.getD k ⟨0,an,⟨0,0⟩⟩
theorem Au (a b:List Op):gB (a++b)=gB a++gB b:=by unfold gB;rw[mB,dM]
theorem PB {l:List Op} {k:Nat} (h:k<l.length):l.drop k=og l k::l.drop (k+1):=by
 rw[pf h,og,au,bc h];rfl
theorem parts {l:List Op} {k:Nat} (h:k<l.length):l=l.take k++og l k::l.drop (k+1):=by
 rw[← PB h,cR]
theorem Ni {a b:List Op} (h:(gB (a++b)).Nodup):(gB a).Nodup/\(gB b).Nodup/\∀ z,z∈gB a->z∉gB b:=by
 rw[Au] at h;have:=ch.1 h;exact⟨this.1,this.2.1,fun z hz hb=>this.2.2 z hz z hb rfl⟩
theorem afv {l:List Op} {p:Nat} {o:Op} (h:(gB l).Nodup) (ho:o.ins=ao->o.it∉gB l):(gB (ld l p o)).Nodup:=by
 unfold ld;rw[Au];have e:gB l=gB (l.take p)++gB (l.drop p):=by rw[← Au,cR]
 rw[e] at h ho;rcases ji o with c|c
 ·rw[yl c];have h':=ch.1 h;have ho:=ho c;rw[bY,not_or] at ho;refine ch.2 ⟨h'.1,fP.2 ⟨ho.2,h'.2.1⟩,fun a ha b hb JI=>?_⟩
  rcases bN.1 hb with m|m
  ·exact ho.1 (by rw[← m,← JI];exact ha)
  ·exact h'.2.2 a ha b m JI
 ·rw[ru c];exact h
theorem al4 {l:List Op} {k:Nat} (h:(gB l).Nodup) (hk:k<l.length):(gB (kn l k)).Nodup/\∀ z,z∈gB (kn l k)↔z∈gB l/\¬ ((og l k).ins=ao/\z=(og l k).it):=by
 have e:=congrArg gB (parts hk);rw[Au] at e;unfold kn;rw[Au,e];rw[e] at h;rcases ji (og l k) with c|c
 ·rw[yl c] at h ⊢;have h':=ch.1 h;have h2:=fP.1 h'.2.1;refine⟨ch.2 ⟨h'.1,h2.2,fun a ha b hb=>h'.2.2 a ha b (dX _ hb)⟩,fun z=>?_⟩
  simp only[bY,bN,c,true_and]
  constructor
  ·rintro (m|m)
   ·exact⟨.inl m,fun e=>h'.2.2 z m _ bL e⟩
   ·exact⟨.inr (.inr m),fun e=>h2.1 (e▸m)⟩
  ·rintro ⟨m|m|m,n⟩
   ·exact .inl m
   ·exact absurd m n
   ·exact .inr m
 ·rw[ru c] at h ⊢;refine⟨h,fun z=>?_⟩
  rw[c];simp
theorem Pv (l:List Op) (p:Nat):fin [] l=fin (fin [] (l.take p)) (l.drop p):=by rw[← qg,cR]
theorem TN (l:List Op) (p:Nat):tk [] l=tk [] (l.take p)++tk (fin [] (l.take p)) (l.drop p):=by rw[← wq,cR]
theorem O0 (l:List Op) (p:Nat):gE [] l=gE [] (l.take p)+gE (fin [] (l.take p)) (l.drop p):=by rw[← u0,cR]
theorem Qe {l:List Op} (h:(gB l).Nodup) (p:Nat):Ap (fin [] (l.take p)) (l.drop p):=EH (by rw[cR];exact mc h)
theorem acC {l:List Op} (h:(gB l).Nodup) (p:Nat):jo (gO l) (fin [] (l.take p)) (l.drop p):=HG (by rw[cR];exact mc h) (by rw[cR];exact Hi l)
theorem ahq {l:List Op} (h:(gB l).Nodup) (p:Nat) {z:It} (hz:z∈fin [] (l.take p)):z∈gB (l.take p):=by
 have h':(gB (l.take p++l.drop p)).Nodup:=by rw[cR];exact h
 have:=((rz (mc (Ni h').1) z).1 hz).1;exact this.elim (fun h=>by cases h) id
theorem Oj {l:List Op} (h:(gB l).Nodup) (p:Nat) {z:It} (hz:z∈tk [] (l.take p)):z∉fin [] (l.take p)/\z∉gB (l.drop p):=by
 have h':(gB (l.take p++l.drop p)).Nodup:=by rw[cR];exact h
 have k:=Ni h';refine⟨fun c=>((rz (mc k.1) z).1 c).2 hz,fun c=>?_⟩
 exact k.2.2 z ((rv (mc k.1) z hz).elim (fun h=>by cases h) id) c
abbrev qR (l:List Op) (p:Nat):Int:=FF (jO l) p (pk l)
abbrev MY (l:List Op) (p:Nat):Int:=Qx (jO l) p (pk l)
theorem abb {l:List Op} {p:Nat} (hp:p≤l.length) (hb:¬ qR l p<0):uJ (jO l) (qR l p)=hi (mh an ((jO l).drop (qR l p).toNat)):=by
 unfold uJ;have hP:=Qt (jO l) p (pk l);rw[yb,zW hp] at hP;rcases hP with⟨h1,_⟩|⟨j,h1,h2,_⟩
 ·exact absurd (show qR l p<0 by show FF (jO l) p (pk l)<0;rw[h1];omega) hb
 ·have h1:qR l p=j:=h1;rw[h1,yb,zW (by omega)]
  rfl
theorem alq {l:List Op} {p:Nat} {x:It} {t:Int} (h:(gB l).Nodup) (hx:x∉gB l) (hp:p≤l.length) :
  (qR l p<0->fin [] (ld l p ⟨t,ao,x⟩)=fin [] l/\gE [] l=gE [] (ld l p ⟨t,ao,x⟩)+1/\∀ w,w∈tk [] (ld l p ⟨t,ao,x⟩)↔w∈tk [] l∨w=x) /\
  (¬ qR l p<0->∃ z,up (aa x) (uJ (jO l) (qR l p))=aa z/\z∉fin [] l/\(z=x∨z∈tk [] l)/\fin [] (ld l p ⟨t,ao,x⟩)=ig z (fin [] l)/\gE [] (ld l p ⟨t,ao,x⟩)=gE [] l/\∀ w,w∈tk [] (ld l p ⟨t,ao,x⟩)↔(w∈tk [] l∨w=x)/\w≠z):=by
 have k:=Qe h p;have e:gB l=gB (l.take p)++gB (l.drop p):=by rw[← Au,cR]
 have X1:=hx;rw[e,bY,not_or] at X1;have hxh:x∉fin [] (l.take p):=fun c=>X1.1 (ahq h p c)
 obtain⟨a1,a2,a3,a4⟩:=L4 k hxh X1.2;have hT:=afI h hp;have ea:tG x (fin [] (l.take p)) (l.drop p)=upO x (tp (fin [] (l.take p)) (l.drop p)):=Pj;have f1:fin [] (ld l p ⟨t,ao,x⟩)=fin (ig x (fin [] (l.take p))) (l.drop p):=by unfold ld;rw[qg,tJ rfl]
 have f2:gE [] (ld l p ⟨t,ao,x⟩)=gE [] (l.take p)+gE (ig x (fin [] (l.take p))) (l.drop p):=by unfold ld;rw[u0,o7 rfl]
 have f3:tk [] (ld l p ⟨t,ao,x⟩)=tk [] (l.take p)++tk (ig x (fin [] (l.take p))) (l.drop p):=by unfold ld;rw[wq,oU rfl]
 rw[f1,f2,f3,O0 l p,Pv l p,TN l p];have hxt:x∉tk [] (l.take p):=fun c=>by
  have h':(gB (l.take p++l.drop p)).Nodup:=by rw[cR];exact h
  exact X1.1 ((rv (mc (Ni h').1) x c).elim (fun h=>by cases h) id)
 constructor
 ·intro hb;have hb:FF (jO l) p (pk l)<0:=hb;rw[if_pos hb] at hT;rw[hT] at ea;have ea:tG x (fin [] (l.take p)) (l.drop p)=aj:=ea;rw[ea] at a1 a2 a3;refine⟨a1,by rw[if_pos rfl] at a2;omega,fun w=>?_⟩
  rw[bY,bY,a3 w]
  constructor
  ·rintro (m|⟨m|m,_⟩)
   ·exact .inl (.inl m)
   ·exact .inl (.inr m)
   ·exact .inr m
  ·rintro ((m|m)|m)
   ·exact .inl m
   ·exact .inr ⟨.inl m,fun c=>by cases c⟩
   ·exact .inr ⟨.inr m,fun c=>by cases c⟩
 ·intro hb;have YU:=abb hp hb;have hb:¬ FF (jO l) p (pk l)<0:=hb;rw[if_neg hb] at hT;rw[hT] at ea;have ea:tG x (fin [] (l.take p)) (l.drop p)=up (aa x) (uJ (jO l) (qR l p)):=by rw[YU];exact ea
  have hs:=Yo x (uJ (jO l) (qR l p));cases hz:up (aa x) (uJ (jO l) (qR l p)) with
  |none=>rw[hz] at hs;cases hs
  |some z =>
   rw[ea,hz] at a1 a2 a3 a4;have a4:=a4 z rfl;rw[if_neg (by simp)] at a2
   refine⟨z,rfl,a4.1,?_,a1,by omega,fun w=>?_⟩
   ·rcases a4.2 with c|c
    ·exact .inl c
    ·exact .inr (vk _ c)
   ·rw[bY,bY,a3 w];have ne:∀ w,(aa z≠aa w)↔w≠z:=fun w=>⟨fun c e=>c (by rw[e]),fun c e=>c (by injection e with e;exact e.symm)⟩
    rw[ne w]
    constructor
    ·rintro (m|⟨m|m,n⟩)
     ·refine⟨.inl (.inl m),fun c=>?_⟩
      subst c;rcases a4.2 with c|c
      ·exact hxt (c▸m)
      ·have t:=Oj h p m;exact(rv k w c).elim t.1 t.2
     ·exact⟨.inl (.inr m),n⟩
     ·exact⟨.inr m,n⟩
    ·rintro ⟨(m|m)|m,n⟩
     ·exact .inl m
     ·exact .inr ⟨.inl m,n⟩
     ·exact .inr ⟨.inr m,n⟩
theorem alc {l:List Op} {p:Nat} {x:It} {t:Int} (h:(gB l).Nodup) (hp:p≤l.length) :
  (qh (jO l) (MY l p)=aj->fin [] (ld l p ⟨t,an,x⟩)=fin [] l/\gE [] (ld l p ⟨t,an,x⟩)=gE [] l+1/\∀ w,w∈tk [] (ld l p ⟨t,an,x⟩)↔w∈tk [] l) /\
  (∀ z,qh (jO l) (MY l p)=aa z->z∈fin [] l/\fin [] (ld l p ⟨t,an,x⟩)=qb z (fin [] l)/\gE [] (ld l p ⟨t,an,x⟩)=gE [] l/\∀ w,w∈tk [] (ld l p ⟨t,an,x⟩)↔w∈tk [] l∨w=z):=by
 have k:=Qe h p;have c:=acC h p;obtain⟨b,b1,b2,b3,b4⟩:=agn h hp;have hl:qh (jO l) (MY l p)=lo (mh ao ((jO l).take b)):=by
  show lo (mh ao ((jO l).take (kO (jO l).length (Qx (jO l) p (pk l)))))=_
  rw[b1,yb,zW b3]
 rw[← b4] at hl;rw[hl];have f1:fin [] (ld l p ⟨t,an,x⟩)=fin (fin [] (l.take p)).tail (l.drop p):=by unfold ld;rw[qg,nW rfl]
 have f2:gE [] (ld l p ⟨t,an,x⟩)=gE [] (l.take p)+gE (fin [] (l.take p)) (⟨t,an,x⟩::l.drop p):=by unfold ld;rw[u0]
 have f3:tk [] (ld l p ⟨t,an,x⟩)=tk [] (l.take p)++tk (fin [] (l.take p)) (⟨t,an,x⟩::l.drop p):=by unfold ld;rw[wq]
 rw[f1,f2,f3,O0 l p,Pv l p,TN l p];generalize tk [] (l.take p)=T at *
 generalize gE [] (l.take p)=F at *
 generalize fin [] (l.take p)=H at *
 generalize l.drop p=r at *
 cases H with
 |nil =>
  rw[Cl rfl,sX rfl];have hn:(JN (gO l) [] r).head?=aj:=by
   rcases mC (gE [] r) with q|q
   ·rw[EP (by unfold pS;rw[q];rfl)];rfl
   ·rw[Fe q];rfl
  rw[hn];exact⟨fun _=>⟨rfl,by omega,fun w=>sD⟩,fun z hz=>by cases hz⟩
 |cons y H =>
  have hb:=ak5 k c;rw[← hb];obtain⟨a1,a2,a3,a4⟩:=EJ k (bL (a:=y) (l:=H));rw[Nb k.ord] at a1 a2 a3;have hy:y∈tk (y::H) r∨pY y (y::H) r=aa y:=by
   by_cases m:y∈tk (y::H) r
   ·exact .inl m
   ·exact .inr (xA bL m)
  rw[nC rfl,oQ rfl,pb]
  constructor
  ·intro e;rw[e] at a1 a2 a3 hy;rw[if_pos rfl] at a2;refine⟨a1,by omega,fun w=>?_⟩
   rw[bY,bY,bN,a3 w];have hy:y∈tk (y::H) r:=hy.elim id fun c=>by cases c
   constructor
   ·rintro (m|m|⟨_,m|m⟩)
    ·exact .inl m
    ·exact .inr (m▸hy)
    ·exact .inr m
    ·cases m
   ·rintro (m|m)
    ·exact .inl m
    ·by_cases e:w=y
     ·exact .inr (.inl e)
     ·exact .inr (.inr ⟨e,.inl m⟩)
  ·intro z e;rw[e] at a1 a2 a3 hy;rw[if_neg (by simp)] at a2
   refine⟨a4 z e,a1,by omega,fun w=>?_⟩
   rw[bY,bY,bN,a3 w]
   constructor
   ·rintro (m|m|⟨_,m|m⟩)
    ·exact .inl (.inl m)
    ·rcases hy with q|q
     ·exact .inl (.inr (m▸q))
     ·injection q with q;exact .inr (m.trans q.symm)
    ·exact .inl (.inr m)
    ·injection m with m;exact .inr m.symm
   ·rintro ((m|m)|m)
    ·exact .inl m
    ·by_cases e:w=y
     ·exact .inr (.inl e)
     ·exact .inr (.inr ⟨e,.inl m⟩)
    ·by_cases e:w=y
     ·exact .inr (.inl e)
     ·exact .inr (.inr ⟨e,.inr (by rw[m])⟩)
theorem adN {y:It} {h:List It} (a:Ord (y::h)):ig y h=y::h:=by
 cases h with
 |nil=>rfl
 |cons w h=>rw[ig,if_pos (Dc a bL)]
theorem ahb {l:List Op} {k:Nat} (h:(gB l).Nodup) (hk:k<l.length) (hd:(og l k).ins=an) :
  (qR l k<0->fin [] (kn l k)=fin [] l/\gE [] l=gE [] (kn l k)+1/\∀ w,w∈tk [] (kn l k)↔w∈tk [] l) /\
  (¬ qR l k<0->∃ z,uJ (jO l) (qR l k)=aa z/\z∉fin [] l/\z∈tk [] l/\fin [] (kn l k)=ig z (fin [] l)/\gE [] (kn l k)=gE [] l/\∀ w,w∈tk [] (kn l k)↔w∈tk [] l/\w≠z):=by
 have hp:k≤l.length:=Nat.le_of_lt hk;have a:=Qe h k;have hT:=afI h hp;have YU:=abb (l:=l) hp;have hta:=fun z=>Oj (z:=z) h k
 have f1:fin [] (kn l k)=fin (fin [] (l.take k)) (l.drop (k+1)):=by unfold kn;rw[qg]
 have f2:gE [] (kn l k)=gE [] (l.take k)+gE (fin [] (l.take k)) (l.drop (k+1)):=by unfold kn;rw[u0]
 have f3:tk [] (kn l k)=tk [] (l.take k)++tk (fin [] (l.take k)) (l.drop (k+1)):=by unfold kn;rw[wq]
 rw[f1,f2,f3,O0 l k,Pv l k,TN l k];rw[PB hk] at a hT hta ⊢;generalize tk [] (l.take k)=T at *
 generalize gE [] (l.take k)=F at *
 generalize fin [] (l.take k)=H at *
 generalize l.drop (k+1)=r at *
 generalize og l k=o at *
 cases H with
 |nil =>
  rw[Cl hd,sX hd,nW hd,List.tail_nil];have e:tp [] (o::r)=aj:=by unfold tp;rw[sX hd,if_neg (by omega)]
  rw[e] at hT;have hb:qR l k<0:=by
   by_cases c:qR l k<0
   ·exact c
   ·have c':¬ FF (jO l) k (pk l)<0:=c;rw[if_neg c'] at hT;cases hT
  exact⟨fun _=>⟨rfl,by omega,fun w=>sD⟩,fun n=>absurd hb n⟩
 |cons y H =>
  have a':Ap H r:=by have:=a.del hd;exact this
  have hyH:y∉H:=yJ a.ord;have hyr:y∉gB r:=by have:=a.ap y bL;rwa [ru hd] at this
  obtain⟨a1,a2,a3,a4⟩:=L4 a' hyH hyr;have ea:tG y H r=upO y (tp H r):=Pj;have e:tp (y::H) (o::r)=if gE H r=0 then aa (hi (y::tk H r)) else aj:=by unfold tp;rw[nC hd,oQ hd]
  rw[e] at hT;rw[nC hd,oQ hd,nW hd,pb];rw[adN a.ord] at a1 a2 a3
  constructor
  ·intro hb;have qC:FF (jO l) k (pk l)<0:=hb;rw[if_pos qC] at hT;have hf:¬ gE H r=0:=fun c=>by rw[if_pos c] at hT;cases hT
   have ea:tG y H r=aj:=by rw[ea];unfold tp;rw[if_neg hf];rfl
   rw[ea] at a1 a2 a3;rw[if_pos rfl] at a2;refine⟨a1,by omega,fun w=>?_⟩
   rw[bY,bY,bN,a3 w]
   constructor
   ·rintro (m|⟨m|m,_⟩)
    ·exact .inl m
    ·exact .inr (.inr m)
    ·exact .inr (.inl m)
   ·rintro (m|m|m)
    ·exact .inl m
    ·exact .inr ⟨.inr m,fun c=>by cases c⟩
    ·exact .inr ⟨.inl m,fun c=>by cases c⟩
  ·intro hb;have YU:=YU hb;have qC:¬ FF (jO l) k (pk l)<0:=hb;rw[if_neg qC] at hT;have hf:gE H r=0:=by
    by_cases c:gE H r=0
    ·exact c
    ·rw[if_neg c] at hT;cases hT
   rw[if_pos hf] at hT;have hT:aa (hi (y::tk H r))=aa (hi (mh an ((jO l).drop (qR l k).toNat))):=hT;injection hT with hT
   rw[← hT] at YU;have ea:tG y H r=hi (y::tk H r):=by rw[ea];unfold tp;rw[if_pos hf];rfl
   have hs:(hi (y::tk H r)).isSome=ao:=(XU _).2 (by simp)
   cases hz:hi (y::tk H r) with
   |none=>rw[hz] at hs;cases hs
   |some z =>
    rw[ea,hz] at a1 a2 a3 a4;have a4:=a4 z rfl;rw[if_neg (by simp)] at a2
    have hzm:z∈y::tk H r:=Fi hz;refine⟨z,YU.trans hz,a4.1,vk _ hzm,a1,by omega,fun w=>?_⟩
    rw[bY,bY,bN,a3 w];have ne:∀ w,(aa z≠aa w)↔w≠z:=fun w=>⟨fun c e=>c (by rw[e]),fun c e=>c (by injection e with e;exact e.symm)⟩
    rw[ne w]
    constructor
    ·rintro (m|⟨m|m,n⟩)
     ·refine⟨.inl m,fun c=>?_⟩
      subst c;have t:=hta w m;rw[ru hd] at t;rcases bN.1 hzm with c|c
      ·exact t.1 (by rw[c];exact bL)
      ·exact(rv a' w c).elim (fun c=>t.1 (dX _ c)) t.2
     ·exact⟨.inr (.inr m),n⟩
     ·exact⟨.inr (.inl m),n⟩
    ·rintro ⟨m|m|m,n⟩
     ·exact .inl m
     ·exact .inr ⟨.inr m,n⟩
     ·exact .inr ⟨.inl m,n⟩
theorem agJ {x:It} {h:List It} (a:Ord h) (hx:x∉h):qb x (ig x h)=h:=by
 refine As (zJ (pF a hx)) a fun z=>?_
 rw[pE,kd]
 constructor
 ·rintro ⟨m|m,n⟩
  ·exact absurd m n
  ·exact m
 ·exact fun m=>⟨.inr m,fun c=>hx (c▸m)⟩
theorem anA {l:List Op} {k:Nat} (h:(gB l).Nodup) (hk:k<l.length) (kQ:(og l k).ins=ao) :
  Ap (fin [] (l.take (k+1))) (l.drop (k+1))/\(og l k).it∈fin [] (l.take (k+1))/\qb (og l k).it (fin [] (l.take (k+1)))=fin [] (l.take k)/\tk [] (l.take (k+1))=tk [] (l.take k)/\gE [] (l.take (k+1))=gE [] (l.take k):=by
 have a:=Qe h k;rw[PB hk] at a;have e:l.take (k+1)=l.take k++[og l k]:=by rw[List.take_succ_eq_append_getElem hk,og,au,bc hk];rfl
 have e1:fin [] (l.take (k+1))=ig (og l k).it (fin [] (l.take k)):=by rw[e,qg,tJ kQ];rfl
 have e2:tk [] (l.take (k+1))=tk [] (l.take k):=by rw[e,wq,oU kQ,tk,List.append_nil]
 have e3:gE [] (l.take (k+1))=gE [] (l.take k):=by rw[e,u0,o7 kQ,gE];rfl
 obtain⟨a1,a2,a3⟩:=a.ins kQ;refine⟨Qe h (k+1),by rw[e1];exact kd.2 (.inl rfl),by rw[e1];exact agJ a.ord a2,e2,e3⟩
theorem agH {l:List Op} {k:Nat} (h:(gB l).Nodup) (hk:k<l.length) (kQ:(og l k).ins=ao) :
  ((og l k).it∈fin [] l->fin [] (kn l k)=qb (og l k).it (fin [] l)/\gE [] (kn l k)=gE [] l/\∀ w,w∈tk [] (kn l k)↔w∈tk [] l) /\
  ((og l k).it∉fin [] l->(og l k).it∈tk [] l/\(qh (jO l) (MY l (k+1))=aj->fin [] (kn l k)=fin [] l/\gE [] (kn l k)=gE [] l+1/\∀ w,w∈tk [] (kn l k)↔w∈tk [] l/\w≠(og l k).it) /\
   (∀ z,qh (jO l) (MY l (k+1))=aa z->z∈fin [] l/\fin [] (kn l k)=qb z (fin [] l)/\gE [] (kn l k)=gE [] l/\∀ w,w∈tk [] (kn l k)↔(w∈tk [] l∨w=z)/\w≠(og l k).it)):=by
 obtain⟨a,m1,m2,m3,m4⟩:=anA h hk kQ;have c:=acC h (k+1);have hp:k+1≤l.length:=hk;obtain⟨b,b1,b2,b3,b4⟩:=agn h hp;have hl:qh (jO l) (MY l (k+1))=lo (mh ao ((jO l).take b)):=by
  show lo (mh ao ((jO l).take (kO (jO l).length (Qx (jO l) ((k+1:Nat):Int) (pk l)))))=_
  rw[b1,yb,zW b3]
 rw[← b4] at hl;rw[hl];have U0:gO l (og l k).it=decide ((og l k).it∈tk [] l):=rfl;have hx:(og l k).it∈gB l:=by
  have:=congrArg gB (parts hk);rw[Au,yl kQ] at this;rw[this];exact vk _ bL
 have MR:=rz (mc h) (og l k).it;have hta:=Oj (z:=(og l k).it) h (k+1);have f1:fin [] (kn l k)=fin (qb (og l k).it (fin [] (l.take (k+1)))) (l.drop (k+1)):=by unfold kn;rw[qg,m2]
 have f2:gE [] (kn l k)=gE [] (l.take (k+1))+gE (qb (og l k).it (fin [] (l.take (k+1)))) (l.drop (k+1)):=by unfold kn;rw[u0,m2,m4]
 have f3:tk [] (kn l k)=tk [] (l.take (k+1))++tk (qb (og l k).it (fin [] (l.take (k+1)))) (l.drop (k+1)):=by unfold kn;rw[wq,m2,m3]
 rw[f1,f2,f3];rw[O0 l (k+1),Pv l (k+1),TN l (k+1)] at *
 obtain⟨a1,a2,a3,a4⟩:=EJ a m1;have hbr:=fun hg=>HE (z:=(og l k).it) a c m1 hg
 generalize tk [] (l.take (k+1))=T at *
 generalize gE [] (l.take (k+1))=F at *
 generalize fin [] (l.take (k+1))=H at *
 generalize l.drop (k+1)=r at *
 generalize(og l k).it=x at *
 have hxT:x∉T:=fun c=>(hta c).1 m1
 constructor
 ·intro kj;have hn:x∉tk H r:=fun c=>(MR.1 kj).2 (vk _ c)
  have e:=xA m1 hn;rw[e] at a1 a2 a3;rw[if_neg (by simp)] at a2
  refine⟨a1,by omega,fun w=>?_⟩
  rw[bY,bY,a3 w]
  constructor
  ·rintro (m|⟨n,m|m⟩)
   ·exact .inl m
   ·exact .inr m
   ·injection m with m;exact absurd m.symm n
  ·rintro (m|m)
   ·exact .inl m
   ·exact .inr ⟨fun c=>hn (c▸m),.inl m⟩
 ·intro CS;have htk:x∈T++tk H r:=by
   by_cases q:x∈T++tk H r
   ·exact q
   ·exact absurd (MR.2 ⟨.inr hx,q⟩) CS
  have hbr:=hbr (by rw[U0];exact decide_eq_true htk)
  rw[← hbr];refine⟨htk,fun e=>?_,fun z e=>?_⟩
  ·rw[e] at a1 a2 a3;rw[if_pos rfl] at a2;refine⟨a1,by omega,fun w=>?_⟩
   rw[bY,bY,a3 w]
   constructor
   ·rintro (m|⟨n,m|m⟩)
    ·exact⟨.inl m,fun c=>hxT (c▸m)⟩
    ·exact⟨.inr m,n⟩
    ·cases m
   ·rintro ⟨m|m,n⟩
    ·exact .inl m
    ·exact .inr ⟨n,.inl m⟩
  ·rw[e] at a1 a2 a3;rw[if_neg (by simp)] at a2
   refine⟨a4 z e,a1,by omega,fun w=>?_⟩
   rw[bY,bY,a3 w]
   constructor
   ·rintro (m|⟨n,m|m⟩)
    ·exact⟨.inl (.inl m),fun c=>hxT (c▸m)⟩
    ·exact⟨.inl (.inr m),n⟩
    ·injection m with m;exact⟨.inr m.symm,n⟩
   ·rintro ⟨(m|m)|m,n⟩
    ·exact .inl m
    ·exact .inr ⟨n,.inl m⟩
    ·exact .inr ⟨n,.inr (by rw[m])⟩
end Pa
namespace Sh
open Rx Wv
def k9:Gv.Kd Sl Sz:=⟨O9,S9,Lw,(fun l=>inferInstanceAs (Decidable (l.length≤1000))),Zb,(fun x h=>h),dv _,(fun x y h=>by
 unfold Lw at *
 rw[bE] at *
 rw[List.length_tail];omega)⟩
def sl (x:It):Sl:=⟨x,an,0⟩
abbrev mM (l:List It):List Sl:=l.map sl
def Ord (l:List It):Prop:=l.Pairwise ah
theorem Ra {l:List It}:L7 O9 (mM l)↔Ord l:=by
 unfold L7 Ord mM;rw[DU]
 constructor<;>intro h<;>refine h.imp ?_
 ·intro a b h;exact(Eg _ _).1 h
 ·intro a b h;exact(Eg _ _).2 h
def sR (x:It):List It->Nat
 |[]=>0
 |y::l=>if ah y x then sR x l+1 else 0
instance (a b:It):Decidable (ah a b):=inferInstanceAs (Decidable (_∨_))
theorem D3 (x:It):∀ l:List It,Gv.rA O9 (sl x) (mM l)=sR x l
 |[]=>rfl
 |y::l=>by
  by_cases h:ah y x
  ·have h':0<O9.cmp (sl x) (sl y):=(xw _ _).2 h;show Gv.rA O9 (sl x) (sl y::mM l)=_
   rw[Gv.Qn h',D3 x l,sR,if_pos h]
  ·have h':¬ 0<O9.cmp (sl x) (sl y):=fun c=>h ((xw _ _).1 c)
   show Gv.rA O9 (sl x) (sl y::mM l)=_
   rw[Gv.L3 h',sR,if_neg h]
theorem VC (x:It) (l:List It):sR x l≤l.length:=by
 rw[← D3];have:=Gv.ajQ (O:=O9) (sl x) (mM l);simpa using this
theorem Ja (l:List It) (j:Nat):(mM l).getD j Y2=sl (l.getD j iz):=by
 unfold mM;simp only[au,fu];cases l[j]?<;>rfl
def qd (x:It):List It->Nat
 |[]=>0
 |y::l=>if y=x then 0 else qd x l+1
theorem Wf (x:It):∀ l:List It,qd x l≤l.length
 |[]=>a_ _
 |y::l=>by
  have:=Wf x l;rw[qd];split<;>simp<;>omega
theorem H2 {x:It}:∀ {l:List It} {j:Nat},j<qd x l->l.getD j iz≠x
 |[],j,h=>by simp[qd] at h
 |y::l,j,h=>by
  rw[qd] at h;split at h
  ·omega
  ·cases j with
   |zero=>simpa using by assumption
   |succ j=>rw[wQ];exact H2 (by omega)
theorem wY {x:It}:∀ {l:List It},qd x l<l.length->l.getD (qd x l) iz=x
 |[],h=>by simp at h
 |y::l,h=>by
  rw[qd] at h ⊢;split at h
  ·rw[if_pos (by assumption)];simpa using by assumption
  ·rw[if_neg (by assumption),wQ];exact wY (by simpa using h)
theorem akF {x:It} {l:List It} {i:Nat} (h:∀ j,j<i->l.getD j iz≠x) (hi:i<l.length) (hx:l.getD i iz=x):qd x l=i:=by
 rcases od (qd x l) i with c|c|c
 ·exact absurd (wY (x:=x) (l:=l) (by omega)) (h _ c)
 ·exact c
 ·exact absurd hx (H2 c)
theorem akW {x:It} {l:List It} (h:∀ j,j<l.length->l.getD j iz≠x):qd x l=l.length:=by
 have:=Wf x l;rcases ct (qd x l) l.length with c|c
 ·exact absurd (wY c) (h _ c)
 ·omega
theorem H4 (a:It):¬ ah a a:=fun h=>sO h h
theorem acn (x y:It):O9.cmp (sl x) (sl y)=0↔x=y:=CN x y
theorem ZW {x:It} {l:List It} (ho:Ord l) (h:qd x l<l.length):sR x l=qd x l:=by
 rw[← D3];refine Gv.U4 Zb (Ra.2 ho) (by simpa using h) ?_
 have e:(mM l).getD (qd x l) O9.e0=sl x:=by
  show(mM l).getD (qd x l) Y2=sl x
  rw[Ja,wY h]
 rw[e,acn]
def n3 (x:It) (l:List It):Bool:=decide (qd x l<l.length)
theorem U6 (x:It) {l:List It} (ho:Ord l):(Az O9 (sl x) (mM l)).isSome=n3 x l:=by
 rw[Gv.VQ,D3];unfold n3;have e:(mM l).getD (sR x l) O9.e0=sl (l.getD (sR x l) iz):=Ja l _;rw[e];simp only[acn,fZ]
 by_cases h:qd x l<l.length
 ·have hr:=ZW ho h;rw[hr,decide_eq_true h,decide_eq_true (wY h).symm];rfl
 ·rw[decide_eq_false h]
  by_cases h2:sR x l<l.length
  ·have:¬ x=l.getD (sR x l) iz:=fun c=>h (by
    have:=H2 (x:=x) (l:=l) (j:=sR x l);rcases ct (sR x l) (qd x l) with c2|c2
    ·exact absurd c.symm (this c2)
    ·omega)
   rw[decide_eq_false this,vg]
  ·rw[decide_eq_false h2];rfl
def r_ (x:It) (l:List It):List It:=if n3 x l=ao then l else l.take (sR x l)++x::l.drop (sR x l)
def wT (x:It) (l:List It):List It:=if n3 x l=ao then l.take (qd x l)++l.drop (qd x l+1) else l
theorem VM {x:It} {l:List It} (ho:Ord l):rE O9 (sl x) (mM l)=mM (r_ x l):=by
 rw[Gv.Wo,U6 x ho,D3];unfold r_;cases h:n3 x l with
 |true =>
  have h':qd x l<l.length:=of_decide_eq_true h;have hr:=ZW ho h';simp only[if_true];rw[hr];have e:l=l.take (qd x l)++x::l.drop (qd x l+1):=by
   have hx:=wY h';rw[au,bc h'] at hx
   conv=>lhs;rw[← cR (qd x l) l,pf h']
   rw[show l[qd x l]=x from hx]
  conv=>rhs;rw[e]
  simp[mM,nO,mT]
 |false=>simp[mM,nO,mT]
theorem agX {x:It} {l:List It} (ho:Ord l):CB O9 (sl x) (mM l)=mM (wT x l):=by
 have hh:=U6 x ho;unfold CB wT;rw[Gv.O3,Gv.PF,D3];cases h:n3 x l with
 |true =>
  have h':qd x l<l.length:=of_decide_eq_true h;have hr:=ZW ho h';rw[h] at hh;cases hc:Az O9 (sl x) (mM l) with
  |none=>rw[hc] at hh;cases hh
  |some y=>simp[mM,Ih,hr,nO,mT]
 |false =>
  rw[h] at hh;cases hc:Az O9 (sl x) (mM l) with
  |none=>rfl
  |some y=>rw[hc] at hh;cases hh
theorem ajZ {x:It} {l:List It} {j:Nat} (h:j<sR x l):ah (l.getD j iz) x:=by
 rw[← D3] at h;have:=Gv.WJ (O:=O9) h;rw[show(mM l).getD j O9.e0=sl (l.getD j iz) from Ja l j] at this
 exact(xw _ _).1 this
theorem abf {x:It} {l:List It} (ho:Ord l) (hn:n3 x l=an) {j:Nat} (h:sR x l≤j) (hj:j<l.length):ah x (l.getD j iz):=by
 have h0:¬ ah (l.getD (sR x l) iz) x:=fun c=>by
  have:=Gv.V7 (O:=O9) (e:=sl x) (l:=mM l) (by rw[D3];simp;omega)
  rw[D3,show(mM l).getD (sR x l) O9.e0=sl (l.getD (sR x l) iz) from Ja l _] at this
  exact this ((xw _ _).2 c)
 have kG:∀ k,k<l.length->l.getD k iz≠x:=fun k hk c=>by
  have yt:¬ qd x l<l.length:=of_decide_eq_false hn;exact H2 (x:=x) (l:=l) (j:=k) (by have:=Wf x l;omega) c
 have h1:ah x (l.getD (sR x l) iz):=by
  rcases Classical.em (ah x (l.getD (sR x l) iz)) with c|c
  ·exact c
  ·exact absurd (ab4 c h0).symm (kG _ (by omega))
 rcases ct (sR x l) j with c|c
 ·have g:∀ k (hk:k<l.length),l.getD k iz=l[k]:=fun k hk=>by rw[au,bc hk];rfl
  have:=(sk.1 ho) (sR x l) j (by omega) hj c
  rw[g _ hj];rw[g _ (by omega)] at h1
  exact VT h1 this
 ·rwa [show j=sR x l by omega]
theorem abh {x:It} {l:List It} (ho:Ord l) (hn:n3 x l=an):∀ n,sR x l≤n->n≤l.length->tS x l n=sR x l
 |0,h,_=>by rw[tS];omega
 |n+1,h,hl=>by
  rw[tS];rcases ct (sR x l) (n+1) with c|c
  ·rw[if_pos (abf ho hn (by omega) (by omega))]
   exact abh ho hn n (by omega) (by omega)
  ·rw[if_neg (fun h2=>sO h2 (ajZ (by omega)))]
   omega
theorem R7 {x:It} {l:List It} (ho:Ord l) (hn:n3 x l=an):Wv.ins x l=r_ x l:=by
 unfold Wv.ins r_;rw[abh ho hn _ (VC x l) (a_ _),if_neg (by rw[hn];decide)]
theorem ahS {l:List It}:Ord l->mY l=l:=NM (P:=fun l=>Ord l->mY l=l) (fun _=>rfl) (fun l x ih h=>by
 have h1:Ord l:=(nX.1 h).1;have h2:∀ y∈l,ah y x:=fun y hy=>(nX.1 h).2.2 y hy x (List.mem_singleton_self x)
 have hn:n3 x l=an:=by
  refine decide_eq_false fun c=>?_
  have:=h2 _ (zA (d:=iz) c);rw[wY c] at this;exact H4 _ this
 have hr:sR x l=l.length:=by
  rcases ct (sR x l) l.length with c|c
  ·exact absurd (abf h1 hn (a_ _) c) (sO (h2 _ (zA c)))
  ·have:=VC x l;omega
 rw[Fa,ih h1,R7 h1 hn];unfold r_;rw[if_neg (by rw[hn];decide),hr]
 simp) l
theorem agM {x:It} {l:List It} (ho:Ord l) (hn:n3 x l=an):mY (l++[x])=r_ x l:=by
 rw[Fa,ahS ho,R7 ho hn]
theorem Yg {x:It} {l:List It} (ho:Ord l):Ord (r_ x l):=by
 rw[← Ra,← VM ho];exact Gv.L6 Zb (Ra.2 ho)
theorem adO (x:It) (l:List It):(r_ x l).length≤l.length+1:=by
 unfold r_;split
 ·omega
 ·simp;have:=VC x l;omega
end Sh
namespace Pa
open Rx Wv Br
open Sh (r_ wT mM sl n3 qd wY H2)
def vq (H:List It) (o:Op):Mk:=⟨o.t,o.ins,o.it,o.ins&&decide (o.it∈H),an,iz⟩
def gw (H:List It) (l:List Op):List Mk:=l.map (vq H)
theorem vJ (l:List Op):jO l=gw (fin [] l) l:=rfl
theorem mV (H:List It) (l:List Op):(gw H l).length=l.length:=fZ ..
theorem acK {H H':List It} {o:Op} (h:o.ins=ao->(o.it∈H↔o.it∈H')):vq H o=vq H' o:=by
 unfold vq;rcases ji o with c|c
 ·rw[decide_eq_decide.2 (h c)]
 ·rw[c];rfl
theorem Dn {H H':List It} {l:List Op} (h:∀ z,z∈gB l->(z∈H↔z∈H')):gw H l=gw H' l :=
 oj fun o ho=>acK fun c=>h _ (BX.2 ⟨o,ho,c,rfl⟩)
theorem oN (H:List It) {l:List Op} {k:Nat} (h:k<l.length):(gw H l).getD k mz=vq H (og l k):=by
 unfold gw og;rw[au,au,fu,bc h];rfl
def Tm (l:List Op):Prop:=l.Pairwise fun a b=>a.t<b.t
theorem US {H:List It} {l:List Op} (h:Tm l):L7 O8 (gw H l):=by
 unfold L7 gw;rw[DU];exact Mh (fun c=>(Ev _ _).2 c) h
def nc (t:Int) (l:List Op):Nat:=l.findIdx fun o=>!decide (o.t<t)
theorem P6 (t:Int) (l:List Op):nc t l≤l.length:=List.findIdx_le_length
theorem Gc {H:List It} {e:Mk}:∀ l:List Op,Gv.rA O8 e (gw H l)=nc e.t l
 |[]=>rfl
 |o::l=>by
  unfold nc;rw[List.findIdx_cons];show Gv.rA O8 e (vq H o::gw H l)=_
  by_cases c:o.t<e.t
  ·rw[Gv.Qn ((Rd e (vq H o)).2 c),Gc l,decide_eq_true c];rfl
  ·rw[Gv.L3 fun k=>c ((Rd e (vq H o)).1 k),decide_eq_false c];rfl
theorem acU {t:Int} {l:List Op} (h:Tm l) {k:Nat} (hk:k<l.length) (ht:(og l k).t=t):nc t l=k:=by
 have:=Gv.U4 (O:=O8) T5 (e:=⟨t,an,iz,an,an,iz⟩) (l:=gw [] l) (i:=k) (US h) (by rw[mV];exact hk) (by
  show O8.cmp _ ((gw [] l).getD k mz)=0
  rw[oN [] hk,Cb];exact ht.symm)
 rwa [Gc] at this
theorem KT {l:List Op} {k:Nat} (h:k<l.length):og l k∈l:=by
 rw[og,au,bc h];exact FZ h
def DF (l:List Op) (t:Int):Prop:=∀ o,o∈l->o.t≠t
theorem LW (l:List Op) (t:Int):DF l t∨∃ k,k<l.length/\(og l k).t=t:=by
 by_cases h:∃ k,k<l.length/\(og l k).t=t
 ·exact .inr h
 ·refine .inl fun o ho e=>h ?_
  obtain⟨k,hk,rfl⟩:=mf ho;exact⟨k,hk,by rw[og,au,bc hk];exact e⟩
theorem Ou {H:List It} {e:Mk} {l:List Op} (h:DF l e.t):(Az O8 e (gw H l)).isSome=an:=by
 rw[Gv.VQ]
 by_cases c:Gv.rA O8 e (gw H l)<(gw H l).length
 ·have c':=c;rw[Gc,mV] at c';have:¬ O8.cmp e ((gw H l).getD (Gv.rA O8 e (gw H l)) O8.e0)=0:=by
   show ¬ O8.cmp e ((gw H l).getD (Gv.rA O8 e (gw H l)) mz)=0
   rw[Gc,oN H c',Cb];exact fun q=>h _ (KT c') q.symm
  rw[decide_eq_false this,vg]
 ·rw[decide_eq_false c,Cy]
theorem K6 {H:List It} {e:Mk} {l:List Op} (h:Tm l) {k:Nat} (hk:k<l.length) (ht:(og l k).t=e.t):(Az O8 e (gw H l)).isSome=ao/\Gv.rA O8 e (gw H l)=k:=by
 have r:Gv.rA O8 e (gw H l)=k:=by rw[Gc];exact acU h hk ht
 refine⟨?_,r⟩;rw[Gv.VQ,r,mV,decide_eq_true hk,js,decide_eq_true_eq];show O8.cmp e ((gw H l).getD k mz)=0
 rw[oN H hk,Cb];exact ht.symm
theorem Ry {H:List It} {l:List Op} {o:Op} {m:Mk} (h:DF l o.t) (hm:m=vq H o):rE O8 m (gw H l)=gw H (ld l (nc o.t l) o):=by
 subst hm;rw[Gv.Wo,if_neg (by rw[Ou (e:=vq H o) h];decide),Gc]
 unfold ld gw;rw[dM,gC,nO,mT]
 rfl
theorem agA {H:List It} {l:List Op} {m:Mk} {k:Nat} (h:Tm l) (hk:k<l.length) (ht:(og l k).t=m.t):rE O8 m (gw H l)=(gw H l).take k++m::(gw H l).drop (k+1):=by
 have q:=K6 (H:=H) h hk ht;rw[Gv.Wo,if_pos q.1,q.2]
theorem adU {H:List It} {l:List Op} {m:Mk} {k:Nat} (h:Tm l) (hk:k<l.length) (ht:(og l k).t=m.t):CB O8 m (gw H l)=gw H (kn l k):=by
 have q:=K6 (H:=H) h hk ht;unfold CB;cases c:Az O8 m (gw H l) with
 |none=>rw[c] at q;cases q.1
 |some y =>
  simp only;rw[Gv.O3,Gv.PF,q.2,Ih];unfold kn gw;rw[dM,nO,mT]
theorem apart {l:List Op} {k:Nat} (h:(gB l).Nodup) (hk:k<l.length) (kQ:(og l k).ins=ao):(og l k).it∉gB (l.take k)/\(og l k).it∉gB (l.drop (k+1)):=by
 have e:=congrArg gB (parts hk);rw[Au,yl kQ] at e;rw[e] at h;have h':=ch.1 h;exact⟨fun m=>h'.2.2 _ m _ bL rfl,(fP.1 h'.2.1).1⟩
theorem flip {H H':List It} {l:List Op} {k:Nat} (h:(gB l).Nodup) (hk:k<l.length) (kQ:(og l k).ins=ao) (hH:∀ z,z≠(og l k).it->(z∈H↔z∈H')):(gw H l).take k++vq H' (og l k)::(gw H l).drop (k+1)=gw H' l:=by
 obtain⟨n1,n2⟩:=apart h hk kQ
 conv=>rhs;rw[parts hk]
 unfold gw;rw[dM,gC,← nO,← mT];have e1:(l.take k).map (vq H)=(l.take k).map (vq H'):=Dn fun z hz=>hH z fun c=>n1 (c▸hz)
 have e2:(l.drop (k+1)).map (vq H)=(l.drop (k+1)).map (vq H'):=Dn fun z hz=>hH z fun c=>n2 (c▸hz)
 rw[e1,e2]
theorem NQ {l:List Op} {i k:Nat} (h:(gB l).Nodup) (hk:k<l.length) (hi:i<l.length) (h1:(og l k).ins=ao) (h2:(og l i).ins=ao) (he:(og l i).it=(og l k).it):i=k:=by
 obtain⟨n1,n2⟩:=apart h hk h1;rcases od i k with c|c|c
 ·refine absurd (BX.2 ⟨og l i,?_,h2,he⟩) n1;rw[v_];exact⟨i,by rw[ej];omega,by rw[Mi,og,au,bc hi];rfl⟩
 ·exact c
 ·refine absurd (BX.2 ⟨og l i,?_,h2,he⟩) n2;rw[v_];exact⟨i-(k+1),by rw[jC];omega,by rw[Mj,og,au];simp only[show k+1+(i-(k+1))=i by omega];rw[bc hi];rfl⟩
theorem af8 {l:List Op} {o:Op} (h:Tm l) (hf:DF l o.t):Tm (ld l (nc o.t l) o):=by
 have:=Gv.L6 (O:=O8) T5 (e:=vq [] o) (US (H:=[]) h);rw[Ry (H:=[]) hf rfl] at this;unfold L7 gw at this;rw[DU] at this;exact Mh (fun c=>(Ev _ _).1 c) this
theorem al6 {l:List Op} (h:Tm l) (k:Nat):Tm (kn l k):=by
 have e:(kn l k).Sublist l:=by
  have:(l.take k++l.drop (k+1)).Sublist (l.take k++l.drop k):=(DV _).append (List.drop_sublist_drop_left l (Nat.le_succ k))
  rwa [cR] at this
 exact Ii e h
theorem uT {x:It} {l:List It}:n3 x l=ao↔x∈l:=by
 unfold n3;rw[decide_eq_true_eq]
 constructor
 ·intro c;have:=wY c;rw[← this,au,bc c];exact FZ c
 ·intro m;obtain⟨k,hk,e⟩:=mf m
  by_cases c:qd x l<l.length
  ·exact c
  ·exact absurd (show l.getD k iz=x by rw[au,bc hk];exact e) (H2 (by omega))
theorem YI {x:It} {l:List It} (h:Ord l) (hx:x∉l):r_ x l=ig x l:=by
 refine As (Sh.Yg h) (pF h hx) fun z=>?_
 unfold r_;rw[if_neg fun c=>hx (uT.1 c),kd,bY,bN]
 have:=cR (Sh.sR x l) l
 constructor
 ·rintro (m|m|m)
  ·exact .inr (pB m)
  ·exact .inl m
  ·exact .inr (v9 m)
 ·rintro (m|m)
  ·exact .inr (.inl m)
  ·rw[← this] at m;rcases bY.1 m with m|m
   ·exact .inl m
   ·exact .inr (.inr m)
theorem aeG {x:It} {l:List It} (h:Ord l):wT x l=qb x l:=by
 unfold wT;split
 ·rename_i c;have cd:qd x l<l.length:=of_decide_eq_true c;have e:l=l.take (qd x l)++x::l.drop (qd x l+1):=by
   have hx:=wY cd;rw[au,bc cd] at hx
   conv=>lhs;rw[← cR (qd x l) l,pf cd]
   rw[show l[qd x l]=x from hx]
  have hn:l.Nodup:=h.imp fun c=>alG c
  have yt:=hn;rw[e] at yt;have h1:=ch.1 yt;have h2:=fP.1 h1.2.1
  conv=>rhs;rw[e]
  unfold qb;rw[mB,j5,if_neg (by simp)]
  rw[BP.2,BP.2]
  ·intro z hz;have:z≠x:=fun c=>h2.1 (c▸hz)
   simp[this]
  ·intro z hz;have:z≠x:=fun c=>h1.2.2 z hz x bL c
   simp[this]
 ·rename_i c;have hx:x∉l:=fun m=>c (uT.2 m)
  unfold qb;rw[BP.2];intro z hz;have:z≠x:=fun c=>hx (c▸hz)
  simp[this]
def gn (l:List Op):List It:=mY (tk [] l)
theorem Qi:∀ {r:List Op} {h:List It},Ap h r->(tk h r).Nodup
 |[],h,a=>List.nodup_nil
 |o::r,h,a=>by
  rcases ji o with e|e
  ·rw[oU e];exact Qi (a.ins e).1
  ·cases h with
   |nil=>rw[Cl e];exact Qi (a.del e)
   |cons y h =>
    rw[oQ e];have a':Ap h r:=a.del e;refine fP.2 ⟨fun m=>?_,Qi a'⟩
    rcases rv a' y m with c|c
    ·exact yJ a.ord c
    ·have:=a.ap y bL;rw[ru e] at this;exact this c
theorem ac7:∀ l:List It,l.Nodup->Ord (mY l)/\∀ z,z∈mY l↔z∈l :=
 NM (P:=fun l=>l.Nodup->Ord (mY l)/\∀ z,z∈mY l↔z∈l) (fun _=>⟨r9,fun z=>sD⟩) fun l x ih h=>by
  have h':=ch.1 h;obtain⟨i1,i2⟩:=ih h'.1;have hx:x∉mY l:=fun m=>h'.2.2 x ((i2 x).1 m) x bL rfl
  have e:mY (l++[x])=ig x (mY l):=by
   rw[Fa,Sh.R7 i1 (by cases c:n3 x (mY l);rfl;exact absurd (uT.1 c) hx),YI i1 hx]
  rw[e];refine⟨pF i1 hx,fun z=>?_⟩
  rw[kd,bY,i2 z];simp only[bN,v7,or_false];exact⟨fun c=>c.symm,fun c=>c.symm⟩
theorem rh {l:List Op} (h:(gB l).Nodup):Ord (gn l):=(ac7 _ (Qi (mc h))).1
theorem tT {l:List Op} (h:(gB l).Nodup) {z:It}:z∈gn l↔z∈tk [] l:=(ac7 _ (Qi (mc h))).2 z
theorem zX {l:List Op} (h:(gB l).Nodup):Ord (fin [] l):=Yz (mc h)
theorem WC (l:List Op):(gn l).length=(tk [] l).length:=Ya _
end Pa
namespace Gv
section
variable {E A:Type} {O:iX E A} {S:List E->A} {dm:List E->Prop}
theorem GW {n:Nat}:∀ (t:Tr E) {k:Nat} {m:Po E A},gp n m->Rp O S m t->t.h<k->∃ kk,kk≤2*t.elems.length+1/\iV [] kk (zn O) m (cx O k m t.root).2
 |t,0,m,_,_,hk=>by omega
 |.nil,k+1,m,ho,hr,hk=>by
  have h0:(lk O m (Tr.nil (E:=E)).root).h=0:=by rw[(show Rp O S m .nil from trivial).root ho];rfl
  rw[cx,if_pos h0];exact⟨1,by omega,gK _ _ _⟩
 |.node r l x q,k+1,m,ho,⟨sn,ni,mj,mw⟩,hk=>by
  have h0:¬ (lk O m r).h=0:=by rw[ni,rJ];simp only[Tr.h];omega
  simp only[Tr.wZ];simp only[Tr.h] at hk;rw[cx,if_neg h0,ni,ry];obtain⟨k1,c1,i2⟩:=GW l (k:=k) (m:=aG m r) (di.2 ho) (mj.aG _) (by omega)
  have hu:=(gK (zn O) m r).to i2 (S:=[]) (fun s hs=>by simp at hs) (a_ _)
  obtain⟨k2,c2,j2⟩:=GW q (k:=k) (m:=(cx O k (aG m r) l.root).2) (qV.2 (di.2 ho)) (Rp.frame hu (fun s _ hs=>by cases hs) mw) (by omega)
  refine⟨_,?_,hu.to j2 (fun s hs=>by simp at hs) (a_ _)⟩
  rw[Tr.gL,bE,List.length_cons];omega
end
namespace TS
variable {E A:Type} {k:Kd E A}
theorem ahm (s:TS k):ns (2*s.l.length+2) s.m s.all.m:=by
 obtain⟨a,b,h1,h2,h3,h4,h5,h6⟩:=s.ok;obtain⟨kk,c1,c2⟩:=GW (O:=k.O) (S:=k.S) a (k:=KK) (m:=aG s.m s.r) (di.2 h3.ok) (h3.ra.aG _) (by have:=s.k1;have:=sC a;rw[h4] at this;omega)
 have:=(gK (zn k.O) s.m s.r).to c2 (S:=[]) (fun s hs=>by simp at hs) (a_ _)
 show ns _ s.m (cx k.O KK (aG s.m s.r) s.r).2
 have hv:=this.v;rw[h1] at hv;exact hv.mono (by rw[h4] at c1;omega)
theorem alz (s:TS k) (i:Int):ns (2*nF s.l.length+1) s.m (s.at_ i).m:=by
 obtain⟨d,m',e1,e2⟩:=s.ok.at_ (K:=KK) (i:=i) s.k1;show ns _ s.m (qX k.O KK s.m s.r i).2
 rw[e1];exact e2.qZ
theorem Wq {N:Type} {k:Nat} {a b:PM N} {v:Int} (h:ns k a b) (h0:0≤a.cY) (h1:a.cY≤v) (h2:v+k≤4000000000000000000):0≤b.cY/\b.cY≤v+k:=by
 obtain⟨j,hj,e⟩:=h;rcases e with⟨e,rfl⟩|e
 ·rw[e];omega
 ·rw[e,uK (by omega)];omega
theorem qD (s:TS k):nF s.l.length≤29:=by
 have:=aeH s.HR;have e:nF 1000=29:=by decide
 omega
end TS
end Gv
namespace Pa
open Rx Wv Br
theorem Wh {L:List Mk} {may:Sw->Sw->Bool} {g:Mk->Bool} (h0:g mz=an) (hm:∀ a l,may a (S8 l)=ao↔∃ m,m∈l/\g m=ao):Gv.AT O8 S8 may (fun i=>g (L.getD i mz)) L:=by
 have key:∀ p l q a,p++(l++q)=L->(may a (S8 l)=ao↔∃ i,p.length≤i/\i<p.length+l.length/\g (L.getD i mz)=ao):=fun p l q a hL=>by
  rw[hm]
  constructor
  ·rintro ⟨m,h1,h2⟩
   obtain⟨j,hj,rfl⟩:=mf h1;refine⟨p.length+j,by omega,by omega,?_⟩
   rw[← hL,au,dW (by omega),show p.length+j-p.length=j by omega,da hj,bc hj]
   exact h2
  ·rintro ⟨i,h1,h2,h3⟩
   have hj:i-p.length<l.length:=by omega
   refine⟨l[i-p.length],FZ hj,?_⟩;rw[← hL,au,dW h1,da hj,bc hj] at h3;exact h3
 refine⟨⟨fun p x q hL=>?_,fun p l q hL i h1 h2 h3=>(key p l q _ hL).2 ⟨i,h1,h2,h3⟩⟩,fun p l q hL hl hm=>(key p l q _ hL).1 hm⟩
 have k:=key p [x] q (S8 p) (by simpa using hL)
 rw[show O8.sum x=S8 [x] from(Uy x).symm,QL,k]
 simp only[List.length_singleton];exact⟨fun h=>⟨p.length,a_ _,by omega,h⟩,fun⟨i,h1,h2,h3⟩=>by rwa [show i=p.length by omega] at h3⟩
def iP (x:Int) (a o:Sw):Bool:=decide (nq (nq (x+a.w.s)+o.w.l)≤0)
def qf (x:It) (a o:Sw):Bool:=o.gf&&decide (kX o.g x≥0)
def qi (x:It) (a o:Sw):Bool:=o.lf&&decide (kX o.l x≤0)
theorem LD (a b:It):kX a b≥0↔a=b∨ah b a:=by
 rw[← xw a b,← Sh.CN a b];omega
theorem LC (a b:It):kX a b≤0↔a=b∨ah a b:=by
 rw[← Sh.Eg a b,← Sh.CN a b];omega
abbrev isG (x:It):Mk->Bool:=fun m=>m.ins&&((m.here==an)&&decide (kX m.it x≥0))
abbrev isL (x:It):Mk->Bool:=fun m=>m.ins&&((m.here==ao)&&decide (kX m.it x≤0))
theorem afJ (x:It) (L:List Mk):Gv.AT O8 S8 (qf x) (fun i=>isG x (L.getD i mz)) L:=Wh rfl fun a l=>by
 show((hi (mh an l)).isSome&&decide (kX ((hi (mh an l)).getD iz) x≥0))=ao↔_
 rw[aM,decide_eq_true_eq]
 constructor
 ·rintro ⟨h1,h2⟩
  obtain⟨y,hy⟩:=F0.1 h1;rw[hy,lS] at h2;obtain⟨m,g1,g2,g3,g4⟩:=uc.1 (Fi hy);refine⟨m,g1,?_⟩;show(m.ins&&((m.here==an)&&decide (kX m.it x≥0)))=ao
  rw[g2,g3,g4,decide_eq_true h2];rfl
 ·rintro ⟨m,g1,g2⟩
  simp only[isG,aM,beq_iff_eq,decide_eq_true_eq] at g2;obtain⟨y,hy,h3⟩:=IS (l:=mh an l) (uc.2 ⟨m,g1,g2.1,g2.2.1,rfl⟩);refine⟨by rw[hy];rfl,?_⟩
  rw[hy,lS,LD];have h4:=(LD _ _).1 g2.2.2;rcases h3 with h3|h3
  ·rw[h3];exact h4
  ·rcases h4 with h4|h4
   ·rw[← h4];exact .inr h3
   ·exact .inr (Qd h4 h3)
theorem afA (x:It) (L:List Mk):Gv.AT O8 S8 (qi x) (fun i=>isL x (L.getD i mz)) L:=Wh rfl fun a l=>by
 show((lo (mh ao l)).isSome&&decide (kX ((lo (mh ao l)).getD iz) x≤0))=ao↔_
 rw[aM,decide_eq_true_eq]
 constructor
 ·rintro ⟨h1,h2⟩
  obtain⟨y,hy⟩:=F0.1 h1;rw[hy,lS] at h2;obtain⟨m,g1,g2,g3,g4⟩:=uc.1 (Ht hy);refine⟨m,g1,?_⟩;show(m.ins&&((m.here==ao)&&decide (kX m.it x≤0)))=ao
  rw[g2,g3,g4,decide_eq_true h2];rfl
 ·rintro ⟨m,g1,g2⟩
  simp only[isL,aM,beq_iff_eq,decide_eq_true_eq] at g2;obtain⟨y,hy,h3⟩:=lo_le (l:=mh ao l) (uc.2 ⟨m,g1,g2.1,g2.2.1,rfl⟩);refine⟨by rw[hy];rfl,?_⟩
  rw[hy,lS,LC];have h4:=(LC _ _).1 g2.2.2;rcases h3 with h3|h3
  ·rw[h3];exact h4
  ·rcases h4 with h4|h4
   ·rw[← h4];exact .inr h3
   ·exact .inr (Qd h3 h4)
theorem ag_ {H:List It} {l:List Op} {f k:Nat} {r:Int} {z:It} (hn:(gB l).Nodup) (hk:k<l.length) (kQ:(og l k).ins=ao) (hz:(og l k).it=z) (hH:z∉H) (hf:f≤k)
  (hb:hi (mh an ((gw H l).drop f))=aa z) (hr:Gv.B5 (fun i=>isG z ((gw H l).getD i mz)) 0 (gw H l).length f r):r=k:=by
 have hP:isG z ((gw H l).getD k mz)=ao:=by
  rw[oN H hk];show((og l k).ins&&((((og l k).ins&&decide ((og l k).it∈H))==an)&&decide (kX (og l k).it z≥0)))=ao
  rw[kQ,hz,decide_eq_false hH,decide_eq_true ((LD z z).2 (.inl rfl))];rfl
 have nQ:k<(gw H l).length:=by rw[mV];exact hk
 rcases hr with⟨h1,h2⟩|⟨j,h1,h2,h3,h4,h5,h6⟩
 ·have c:=h2 k (dv _) nQ (by omega)
  exact absurd (hP.symm.trans c) (by decide)
 ·have hj:j<l.length:=by rw[mV] at h3;exact h3
  have Mw:=h5;simp only[oN H hj] at h5;have h5:((og l j).ins&&((((og l j).ins&&decide ((og l j).it∈H))==an)&&decide (kX (og l j).it z≥0)))=ao:=h5;rw[aM,aM,beq_iff_eq,decide_eq_true_eq] at h5;obtain⟨a1,a2,a3⟩:=h5;have hm:(og l j).it∈mh an ((gw H l).drop f):=by
   refine uc.2 ⟨(gw H l).getD j mz,?_,by rw[oN H hj];exact a1,by rw[oN H hj];exact a2,by rw[oN H hj];rfl⟩
   rw[v_];refine⟨j-f,by rw[jC];omega,?_⟩
   rw[Mj,au,bc h3];simp only[show f+(j-f)=j by omega,lS]
  obtain⟨y,b1,b2⟩:=IS hm;rw[hb] at b1;injection b1 with b1
  subst b1;have e:(og l j).it=(og l k).it:=by
   rw[hz];rcases(LD _ _).1 a3 with c|c
   ·exact c
   ·rcases b2 with d|d
    ·exact d.symm
    ·exact absurd d (sO c)
  rw[h1,NQ hn hk hj kQ a1 e]
theorem ajj {H:List It} {l:List Op} {u k:Nat} {r:Int} {z:It} (hn:(gB l).Nodup) (hk:k<l.length) (kQ:(og l k).ins=ao) (hz:(og l k).it=z) (hH:z∈H) (hf:k<u)
  (hb:lo (mh ao ((gw H l).take u))=aa z) (hr:Gv.EZ (fun i=>isL z ((gw H l).getD i mz)) 0 (gw H l).length u r):r=k:=by
 have hP:isL z ((gw H l).getD k mz)=ao:=by
  rw[oN H hk];show((og l k).ins&&((((og l k).ins&&decide ((og l k).it∈H))==ao)&&decide (kX (og l k).it z≤0)))=ao
  rw[kQ,hz,decide_eq_true hH,decide_eq_true ((LC z z).2 (.inl rfl))];rfl
 have nQ:k<(gw H l).length:=by rw[mV];exact hk
 rcases hr with⟨h1,h2⟩|⟨j,h1,h2,h3,h4,h5,h6⟩
 ·have c:=h2 k (dv _) nQ (by omega)
  exact absurd (hP.symm.trans c) (by decide)
 ·have hj:j<l.length:=by rw[mV] at h3;exact h3
  simp only[oN H hj] at h5;have h5:((og l j).ins&&((((og l j).ins&&decide ((og l j).it∈H))==ao)&&decide (kX (og l j).it z≤0)))=ao:=h5;rw[aM,aM,beq_iff_eq,decide_eq_true_eq] at h5;obtain⟨a1,a2,a3⟩:=h5;have hm:(og l j).it∈mh ao ((gw H l).take u):=by
   refine uc.2 ⟨(gw H l).getD j mz,?_,by rw[oN H hj];exact a1,by rw[oN H hj];exact a2,by rw[oN H hj];rfl⟩
   rw[v_];have hl:j<((gw H l).take u).length:=by rw[ej];omega
   refine⟨j,hl,?_⟩;rw[Mi,au,bc h3]
   rfl
  obtain⟨y,b1,b2⟩:=lo_le hm;rw[hb] at b1;injection b1 with b1
  subst b1;have e:(og l j).it=(og l k).it:=by
   rw[hz];rcases(LC _ _).1 a3 with c|c
   ·exact c
   ·rcases b2 with d|d
    ·exact d.symm
    ·exact absurd d (sO c)
  rw[h1,NQ hn hk hj kQ a1 e]
end Pa
namespace G8
open Rx
set_option maxRecDepth 100000
def TWg {R:Type}:eM R:=[(1000000000,lW)]
theorem akR {R:Type} {D:fR R}:cN D Tryz.prog (TWg:eM R):=⟨iF,trivial⟩
def TQ {R:Type}:Prim R:=fun args hh=>match args,hh with
 |[.agg ⟨aS⟩,.agg ⟨oS⟩,.pointer (aa ⟨0,0,aj⟩)],[aa (.inl (3,[.int .i64 x]))]=>aa ⟨aS=ky (wK aS)/\oS=ky (wK oS),.bool (Pa.iP x (wK aS) (wK oS)),aj,hh,[],[]⟩
 |_,_=>aj
theorem YX {R:Type} {D:fR R}:b8 D Tryz.prog 154 (a9 TQ):=by
 refine fx Tryz.f154 fun args hh x hx=>?_
 unfold TQ at hx;split at hx
 ·rename_i aS oS x;cases hx;refine q4 fun _ hv=>?_
  obtain⟨j7,sT⟩:=hv;generalize wK aS=a at *;subst j7;generalize wK oS=o at *;subst sT
  generalize hG:cj (R:=R) _ _=G;refine cK (T:=TWg) akR mixed 200 ?_;refine bM (q:=Vc True/\Vc True/\aY (G (aE (decide (ck ar (ck ar (x+Ti.Td.s (Wv.Sw.w a))+Ti.Td.l (Wv.Sw.w o))≤(0:Int)))) [aa (.inl (3,[.int ar x])),aa (.inl (53,(ky a))),aa (.inl (53,(ky o)))])) ?_ (by kernel_rfl)
  subst hG
  repeat' (first|apply cZ|apply Vc.mk|apply fits.mk|intro h|apply aY.mk)
  all_goals (try simp only[sB] at *)
  all_goals first|contradiction|omega|exact jF ‹_›|exact jH ‹_›|exact jG ‹_›|exact⟨rfl,by omega⟩|exact rfl|(simp[*,-au];done)|skip
  exact⟨[0],rfl,rfl,⟨.inl rfl,trivial⟩,rfl,rfl,rfl,rfl⟩
 ·cases hx
def TSc {R:Type}:eM R:=[(69,bJ zN 2 (a9 Sh.Nj)),(106,bJ zN 2 (a9 Sh.Gd))]
theorem aa' {R:Type} {D:fR R}:cN D Tryz.prog (TSc:eM R):=⟨aT _ _ Sh.KJ,aT _ _ Sh.zR,trivial⟩
def aav {R:Type}:Prim R:=fun args hh=>match args,hh with
 |[.agg ⟨aS⟩,.agg ⟨oS⟩,.pointer (aa ⟨0,0,aj⟩)],[aa (.inl (75,[.int .i64 k,.int .i64 i,.bool e,.int .i64 tt]))]=>aa ⟨aS=ky (wK aS)/\oS=ky (wK oS),.bool (Pa.qf ⟨k,i⟩ (wK aS) (wK oS)),aj,hh,[],[]⟩
 |_,_=>aj
theorem ag8 {R:Type} {D:fR R}:b8 D Tryz.prog 105 (a9 aav):=by
 refine fx Tryz.f105 fun args hh x hx=>?_
 unfold aav at hx;split at hx
 ·rename_i aS oS k i e tt;cases hx;refine q4 fun _ hv=>?_
  obtain⟨j7,sT⟩:=hv;generalize wK aS=a at *;subst j7;generalize wK oS=o at *;subst sT
  generalize hG:cj (R:=R) _ _=G;refine cK (T:=TSc) aa' mixed 200 ?_;refine bM (q:=let Z1:=bk ar;(OH o=ao->Vc (aE (OH o)=aE ao)/\Vc True/\Vc True/\aY (G (aE (decide (hU Sh.O9 (Sh.Sl.mk (Wv.Sw.g o) an (0:Int)) (Sh.Sl.mk (cX k i) e tt)≥(0:Int)))) [aa (.inl (75,[Z1 k,Z1 i,.bool e,Z1 tt])),aa (.inl (53,(ky a))),aa (.inl (53,(ky o)))]))/\(OH o=an->Vc (aE (OH o)=aE an)/\aY (G (aE an) [aa (.inl (75,[Z1 k,Z1 i,.bool e,Z1 tt])),aa (.inl (53,(ky a))),aa (.inl (53,(ky o)))]))) ?_ (by kernel_rfl)
  intro Z1;subst Z1;have done:∀ (x:Bool) (rest:Hp R),x=Pa.qf ⟨k,i⟩ a o->G (.bool x) (aa (.inl (75,[.int .i64 k,.int .i64 i,.bool e,.int .i64 tt]))::rest):=by
   intro x rest h;subst h;subst hG;exact⟨[0],rfl,rfl,⟨.inl rfl,trivial⟩,rfl,rfl,rfl,rfl⟩
  clear hG;exact⟨fun h=>⟨⟨congrArg aE h⟩,⟨trivial⟩,⟨trivial⟩,⟨done _ _ (by unfold Pa.qf;rw[h];rfl)⟩⟩,fun h=>⟨⟨congrArg aE h⟩,⟨done _ _ (by unfold Pa.qf;rw[h];rfl)⟩⟩⟩
 ·cases hx
def aai {R:Type}:Prim R:=fun args hh=>match args,hh with
 |[.agg ⟨aS⟩,.agg ⟨oS⟩,.pointer (aa ⟨0,0,aj⟩)],[aa (.inl (75,[.int .i64 k,.int .i64 i,.bool e,.int .i64 tt]))]=>aa ⟨aS=ky (wK aS)/\oS=ky (wK oS),.bool (Pa.qi ⟨k,i⟩ (wK aS) (wK oS)),aj,hh,[],[]⟩
 |_,_=>aj
theorem agY {R:Type} {D:fR R}:b8 D Tryz.prog 110 (a9 aai):=by
 refine fx Tryz.f110 fun args hh x hx=>?_
 unfold aai at hx;split at hx
 ·rename_i aS oS k i e tt;cases hx;refine q4 fun _ hv=>?_
  obtain⟨j7,sT⟩:=hv;generalize wK aS=a at *;subst j7;generalize wK oS=o at *;subst sT
  generalize hG:cj (R:=R) _ _=G;refine cK (T:=TSc) aa' mixed 200 ?_;refine bM (q:=let Z1:=bk ar;(OI o=ao->Vc (aE (OI o)=aE ao)/\Vc True/\Vc True/\aY (G (aE (decide (hU Sh.O9 (Sh.Sl.mk (Wv.Sw.l o) an (0:Int)) (Sh.Sl.mk (cX k i) e tt)≤(0:Int)))) [aa (.inl (75,[Z1 k,Z1 i,.bool e,Z1 tt])),aa (.inl (53,(ky a))),aa (.inl (53,(ky o)))]))/\(OI o=an->Vc (aE (OI o)=aE an)/\aY (G (aE an) [aa (.inl (75,[Z1 k,Z1 i,.bool e,Z1 tt])),aa (.inl (53,(ky a))),aa (.inl (53,(ky o)))]))) ?_ (by kernel_rfl)
  intro Z1;subst Z1;have done:∀ (x:Bool) (rest:Hp R),x=Pa.qi ⟨k,i⟩ a o->G (.bool x) (aa (.inl (75,[.int .i64 k,.int .i64 i,.bool e,.int .i64 tt]))::rest):=by
   intro x rest h;subst h;subst hG;exact⟨[0],rfl,rfl,⟨.inl rfl,trivial⟩,rfl,rfl,rfl,rfl⟩
  clear hG;exact⟨fun h=>⟨⟨congrArg aE h⟩,⟨trivial⟩,⟨trivial⟩,⟨done _ _ (by unfold Pa.qi;rw[h];rfl)⟩⟩,fun h=>⟨⟨congrArg aE h⟩,⟨done _ _ (by unfold Pa.qi;rw[h];rfl)⟩⟩⟩
 ·cases hx
set_option maxHeartbeats 16000000
def HZ  (k:Nat):Prim Rs:=fun args hh=>match args,hh with
 |[.pointer (aa ⟨0,0,aj⟩),.agg ⟨xN⟩,.agg ⟨pP⟩,.int .i64 f_,.func (.func 154) ⟨[]⟩ ⟨[.pointer (aa ⟨1,0,aj⟩)]⟩],[aa (.inl (110,[.pointer (aa ⟨2,0,aj⟩),.int .i64 ti,.int .i64 tg])),aa (.inl (3,[.int .i64 xx])),aa (.inr (.inr (.inr (.db m))))]=>aa ⟨xN=bj (gh xN)/\pP=bZ (pv pP)/\(PP m/\gP ax k m (gh xN)),.int .i64 (kT ax (Pa.iP xx) k m (gh xN) (pv pP) f_).1,aj,[aa (.inl (110,[.pointer (aa ⟨2,0,aj⟩),.int .i64 ti,.int .i64 tg])),aa (.inl (3,[.int .i64 xx])),aa (.inr (.inr (.inr (.db (kT ax (Pa.iP xx) k m (gh xN) (pv pP) f_).2))))],[],[(0,0)]⟩
 |_,_=>aj
def YW (k:Nat):eM Rs:=[(1000000000,lW),(154,bJ zN 2 (a9 TQ)),(80,bJ zN 2 (a9 km)),(98,bJ zN 2 (a9 AV)),(148,bJ zN 2 (a9 ef)),(142,bJ zN 2 (a9 (HZ k)))]
theorem SE:∀ k:Nat,b8 D Tryz.prog 142 (a9 (HZ k))
 |0=>by
  refine fx Tryz.f142 fun args hh x hx=>?_
  unfold HZ at hx;split at hx
  ·rename_i xN pP f_ ti tg xx m;cases hx;refine q4 fun _ hv=>?_
   exact kV (iw (iw (iw hv)))
  ·cases hx
 |k+1=>by
  have ih:=SE k;refine fx Tryz.f142 fun args hh x hx=>?_
  unfold HZ at hx;split at hx
  ·rename_i xN pP f_ ti tg xx m;cases hx;refine q4 fun _ hv=>?_
   obtain⟨j7,sT,hv⟩:=hv;generalize gh xN=xn at *;subst j7;generalize pv pP=pp at *;subst sT;obtain⟨hp,hd⟩:=hv
   generalize hG:cj (R:=Rs) _ _=G;refine cK (T:=(YW k)) (show cN D Tryz.prog (YW k) from⟨iF,aT _ _ YX,aT _ _ look_ok,aT _ _ yI,aT _ _ uX,aT _ _ ih,trivial⟩) mixed 200 ?_
   refine bM (q:=let Z9:=bk ar;let Z1:=(ck ar (bP pp+bP (bw xn))≤f_);let Z2:=(bu ax m (bd xn));let Z3:=(kT ax (Pa.iP xx) k (aL m (bd xn)) Z2 pp f_);let Z4:=(eK ax pp (bw Z2));let Z5:=(n7 ax (b6 xn));let Z6:=(bu ax (av Z3) (bo xn));let Z7:=(aL (av Z3) (bo xn));let Z8:=(kT ax (Pa.iP xx) k Z7 Z6 (eK ax Z4 Z5) f_);((cw xn==(0:Int))=an->Vc True/\(decide Z1=ao->aY (G (Z9 (-1:Int)) [dF 2 ti tg,aa (.inl (3,[Z9 xx])),oP m,aa (.inl (136,(bj xn))),aa (.inl (134,(bZ pp)))]))/\(decide Z1=an->(decide (bP pp≥f_)=ao->Vc ((ky (bH pp))=ky (bH pp)/\(ky (bH (bw xn)))=ky (bH (bw xn)))/\((!Pa.iP xx (bH pp) (bH (bw xn)))=ao->aY (G (Z9 (-1:Int)) [dF 2 ti tg,aa (.inl (3,[Z9 xx])),oP m,aa (.inl (136,(bj xn))),aa (.inl (134,(bZ pp)))]))/\((!Pa.iP xx (bH pp) (bH (bw xn)))=an->Vc (PP m)/\Vc ((bj Z2)=bj Z2/\(bZ pp)=bZ pp/\PP (aL m (bd xn))/\gP ax k (aL m (bd xn)) Z2)/\(decide (ay Z3≥(0:Int))=ao->aY (G (Z9 (ay Z3)) [dF 2 ti tg,aa (.inl (3,[Z9 xx])),oP (av Z3),aa (.inl (136,(bj xn))),aa (.inl (134,(bZ pp))),aa (.inl (136,(bj Z2)))]))/\(decide (ay Z3≥(0:Int))=an->Vc ((bZ pp)=bZ pp/\(bZ (bw Z2))=bZ (bw Z2)/\True)/\Vc ((dt (b6 xn))=dt (b6 xn)/\True)/\(decide (bP Z4≥f_)=ao->Vc ((ky (bH Z4))=ky (bH Z4)/\(ky (bH Z5))=ky (bH Z5))/\(Pa.iP xx (bH Z4) (bH Z5)=ao->aY (G (Z9 (bP Z4)) [dF 2 ti tg,aa (.inl (3,[Z9 xx])),oP (av Z3),aa (.inl (136,(bj xn))),aa (.inl (134,(bZ Z4))),aa (.inl (136,(bj Z2))),aa (.inl (134,(bZ Z5)))]))/\(Pa.iP xx (bH Z4) (bH Z5)=an->Vc (PP (av Z3))/\Vc ((bZ Z4)=bZ Z4/\(bZ Z5)=bZ Z5/\True)/\Vc ((bj Z6)=bj Z6/\(bZ (eK ax Z4 Z5))=bZ (eK ax Z4 Z5)/\PP Z7/\gP ax k Z7 Z6)/\aY (G (Z9 (ay Z8)) [dF 2 ti tg,aa (.inl (3,[Z9 xx])),oP (av Z8),aa (.inl (136,(bj xn))),aa (.inl (134,(bZ Z4))),aa (.inl (136,(bj Z2))),aa (.inl (134,(bZ Z5)))])))/\(decide (bP Z4≥f_)=an->Vc (PP (av Z3))/\Vc ((bZ Z4)=bZ Z4/\(bZ Z5)=bZ Z5/\True)/\Vc ((bj Z6)=bj Z6/\(bZ (eK ax Z4 Z5))=bZ (eK ax Z4 Z5)/\PP Z7/\gP ax k Z7 Z6)/\aY (G (Z9 (ay Z8)) [dF 2 ti tg,aa (.inl (3,[Z9 xx])),oP (av Z8),aa (.inl (136,(bj xn))),aa (.inl (134,(bZ Z4))),aa (.inl (136,(bj Z2))),aa (.inl (134,(bZ Z5)))])))))/\(decide (bP pp≥f_)=an->Vc (PP m)/\Vc ((bj Z2)=bj Z2/\(bZ pp)=bZ pp/\PP (aL m (bd xn))/\gP ax k (aL m (bd xn)) Z2)/\(decide (ay Z3≥(0:Int))=ao->aY (G (Z9 (ay Z3)) [dF 2 ti tg,aa (.inl (3,[Z9 xx])),oP (av Z3),aa (.inl (136,(bj xn))),aa (.inl (134,(bZ pp))),aa (.inl (136,(bj Z2)))]))/\(decide (ay Z3≥(0:Int))=an->Vc ((bZ pp)=bZ pp/\(bZ (bw Z2))=bZ (bw Z2)/\True)/\Vc ((dt (b6 xn))=dt (b6 xn)/\True)/\(decide (bP Z4≥f_)=ao->Vc ((ky (bH Z4))=ky (bH Z4)/\(ky (bH Z5))=ky (bH Z5))/\(Pa.iP xx (bH Z4) (bH Z5)=ao->aY (G (Z9 (bP Z4)) [dF 2 ti tg,aa (.inl (3,[Z9 xx])),oP (av Z3),aa (.inl (136,(bj xn))),aa (.inl (134,(bZ Z4))),aa (.inl (136,(bj Z2))),aa (.inl (134,(bZ Z5)))]))/\(Pa.iP xx (bH Z4) (bH Z5)=an->Vc (PP (av Z3))/\Vc ((bZ Z4)=bZ Z4/\(bZ Z5)=bZ Z5/\True)/\Vc ((bj Z6)=bj Z6/\(bZ (eK ax Z4 Z5))=bZ (eK ax Z4 Z5)/\PP Z7/\gP ax k Z7 Z6)/\aY (G (Z9 (ay Z8)) [dF 2 ti tg,aa (.inl (3,[Z9 xx])),oP (av Z8),aa (.inl (136,(bj xn))),aa (.inl (134,(bZ Z4))),aa (.inl (136,(bj Z2))),aa (.inl (134,(bZ Z5)))])))/\(decide (bP Z4≥f_)=an->Vc (PP (av Z3))/\Vc ((bZ Z4)=bZ Z4/\(bZ Z5)=bZ Z5/\True)/\Vc ((bj Z6)=bj Z6/\(bZ (eK ax Z4 Z5))=bZ (eK ax Z4 Z5)/\PP Z7/\gP ax k Z7 Z6)/\aY (G (Z9 (ay Z8)) [dF 2 ti tg,aa (.inl (3,[Z9 xx])),oP (av Z8),aa (.inl (136,(bj xn))),aa (.inl (134,(bZ Z4))),aa (.inl (136,(bj Z2))),aa (.inl (134,(bZ Z5)))]))))))/\((cw xn==(0:Int))=ao->aY (G (Z9 (-1:Int)) [dF 2 ti tg,aa (.inl (3,[Z9 xx])),oP m,aa (.inl (136,(bj xn))),aa (.inl (134,(bZ pp)))]))) ?_ (by kernel_rfl)
   intro Z9 Z1 Z2 Z3 Z4 Z5 Z6 Z7 Z8;subst Z8 Z7 Z6 Z5 Z4 Z3 Z2 Z1 Z9;simp only[gP] at hd;have e1:∀ e,(n7 ax e).sum=ax.sum e:=fun _=>rfl
   have done:∀ (i:Int) (m':Pl) (rest:Hp Rs),kT ax (Pa.iP xx) (k+1) m xn pp f_=(i,m')->G (.int .i64 i) ([aa (.inl (110,[.pointer (aa ⟨2,0,aj⟩),.int .i64 ti,.int .i64 tg])),aa (.inl (3,[.int .i64 xx])),aa (.inr (.inr (.inr (.db m'))))]++rest):=by
    intro i m' rest e;subst hG;refine⟨[0,1,2],?_,rfl,⟨.inl rfl,.inl rfl,?_,trivial⟩,rfl,rfl,rfl,rfl⟩
    ·simp only[e];rfl
    ·simp only[e];rfl
   clear hG;rw[kT] at done
   dsimp only [nq] at done
   simp only[e1]
   repeat' (first|apply cZ|apply Vc.mk|apply fits.mk|intro h|apply aY.mk)
   all_goals (try simp only[sB] at *)
   all_goals first|contradiction|omega|exact jF ‹_›|exact jH ‹_›|exact jG ‹_›|exact⟨rfl,by omega⟩|exact rfl|(simp[*,-au];done)|skip
   all_goals first|assumption|(simp only[jl];assumption)|skip
   all_goals first|exact ox (hd.resolve_left (by omega)).1 (fun s=>by simp only[Gv.iE,lT,mK])|(simp only[lT,mK,Gv.iE];first|exact ox (hd.resolve_left (by omega)).2 (fun s=>by simp only[Gv.iE,lT,mK])|exact ox (hd.resolve_left (by omega)).1 (fun s=>by simp only[Gv.iE,lT,mK]))|skip
   all_goals (refine done _ _ _ ?_;repeat' split)
   all_goals first|rfl|(exfalso;omega)|(exfalso;simp_all;done)|(exfalso;simp_all;omega)
  ·cases hx
def J7  (k:Nat):Prim Rs:=fun args hh=>match args,hh with
 |[.pointer (aa ⟨0,0,aj⟩),.agg ⟨xN⟩,.agg ⟨pP⟩,.int .i64 f_,.func (.func 154) ⟨[]⟩ ⟨[.pointer (aa ⟨1,0,aj⟩)]⟩],[aa (.inl (110,[.pointer (aa ⟨2,0,aj⟩),.int .i64 ti,.int .i64 tg])),aa (.inl (3,[.int .i64 xx])),aa (.inr (.inr (.inr (.db m))))]=>aa ⟨xN=bj (gh xN)/\pP=bZ (pv pP)/\(PP m/\gP ax k m (gh xN)),.int .i64 (kf ax (Pa.iP xx) k m (gh xN) (pv pP) f_).1,aj,[aa (.inl (110,[.pointer (aa ⟨2,0,aj⟩),.int .i64 ti,.int .i64 tg])),aa (.inl (3,[.int .i64 xx])),aa (.inr (.inr (.inr (.db (kf ax (Pa.iP xx) k m (gh xN) (pv pP) f_).2))))],[],[(0,0)]⟩
 |_,_=>aj
def ace (k:Nat):eM Rs:=[(1000000000,lW),(154,bJ zN 2 (a9 TQ)),(80,bJ zN 2 (a9 km)),(98,bJ zN 2 (a9 AV)),(148,bJ zN 2 (a9 ef)),(143,bJ zN 2 (a9 (J7 k)))]
theorem V8:∀ k:Nat,b8 D Tryz.prog 143 (a9 (J7 k))
 |0=>by
  refine fx Tryz.f143 fun args hh x hx=>?_
  unfold J7 at hx;split at hx
  ·rename_i xN pP f_ ti tg xx m;cases hx;refine q4 fun _ hv=>?_
   exact kV (iw (iw (iw hv)))
  ·cases hx
 |k+1=>by
  have ih:=V8 k;refine fx Tryz.f143 fun args hh x hx=>?_
  unfold J7 at hx;split at hx
  ·rename_i xN pP f_ ti tg xx m;cases hx;refine q4 fun _ hv=>?_
   obtain⟨j7,sT,hv⟩:=hv;generalize gh xN=xn at *;subst j7;generalize pv pP=pp at *;subst sT;obtain⟨hp,hd⟩:=hv
   generalize hG:cj (R:=Rs) _ _=G;refine cK (T:=(ace k)) (show cN D Tryz.prog (ace k) from⟨iF,aT _ _ YX,aT _ _ look_ok,aT _ _ yI,aT _ _ uX,aT _ _ ih,trivial⟩) mixed 200 ?_
   refine bM (q:=let Z8:=bk ar;let Z1:=(ck ar (bP pp+bP (bw xn))≤f_);let Z2:=(bu ax m (bd xn));let Z3:=(eK ax pp (bw Z2));let Z4:=(n7 ax (b6 xn));let Z5:=(bu ax (aL m (bd xn)) (bo xn));let Z6:=(aL (aL m (bd xn)) (bo xn));let Z7:=(kf ax (Pa.iP xx) k Z6 Z5 (eK ax Z3 Z4) f_);((cw xn==(0:Int))=an->(decide (bP pp≥f_)=ao->aY (G (Z8 (-1:Int)) [dF 2 ti tg,aa (.inl (3,[Z8 xx])),oP m,aa (.inl (136,(bj xn))),aa (.inl (134,(bZ pp)))]))/\(decide (bP pp≥f_)=an->Vc True/\(decide Z1=ao->Vc ((ky (bH pp))=ky (bH pp)/\(ky (bH (bw xn)))=ky (bH (bw xn)))/\((!Pa.iP xx (bH pp) (bH (bw xn)))=ao->aY (G (Z8 (-1:Int)) [dF 2 ti tg,aa (.inl (3,[Z8 xx])),oP m,aa (.inl (136,(bj xn))),aa (.inl (134,(bZ pp)))]))/\((!Pa.iP xx (bH pp) (bH (bw xn)))=an->Vc (PP m)/\Vc ((bZ pp)=bZ pp/\(bZ (bw Z2))=bZ (bw Z2)/\True)/\Vc ((dt (b6 xn))=dt (b6 xn)/\True)/\Vc (PP (aL m (bd xn)))/\Vc ((bZ Z3)=bZ Z3/\(bZ Z4)=bZ Z4/\True)/\Vc ((bj Z5)=bj Z5/\(bZ (eK ax Z3 Z4))=bZ (eK ax Z3 Z4)/\PP Z6/\gP ax k Z6 Z5)/\(decide (ay Z7≥(0:Int))=ao->aY (G (Z8 (ay Z7)) [dF 2 ti tg,aa (.inl (3,[Z8 xx])),oP (av Z7),aa (.inl (136,(bj xn))),aa (.inl (134,(bZ pp))),aa (.inl (136,(bj Z2))),aa (.inl (134,(bZ Z3))),aa (.inl (134,(bZ Z4)))]))/\(decide (ay Z7≥(0:Int))=an->(decide (bP Z3<f_)=ao->Vc ((ky (bH Z3))=ky (bH Z3)/\(ky (bH Z4))=ky (bH Z4))/\(Pa.iP xx (bH Z3) (bH Z4)=ao->aY (G (Z8 (bP Z3)) [dF 2 ti tg,aa (.inl (3,[Z8 xx])),oP (av Z7),aa (.inl (136,(bj xn))),aa (.inl (134,(bZ pp))),aa (.inl (136,(bj Z2))),aa (.inl (134,(bZ Z3))),aa (.inl (134,(bZ Z4)))]))/\(Pa.iP xx (bH Z3) (bH Z4)=an->Vc ((bj Z2)=bj Z2/\(bZ pp)=bZ pp/\PP (av Z7)/\gP ax k (av Z7) Z2)/\aY (G (Z8 (ay (kf ax (Pa.iP xx) k (av Z7) Z2 pp f_))) [dF 2 ti tg,aa (.inl (3,[Z8 xx])),oP (av (kf ax (Pa.iP xx) k (av Z7) Z2 pp f_)),aa (.inl (136,(bj xn))),aa (.inl (134,(bZ pp))),aa (.inl (136,(bj Z2))),aa (.inl (134,(bZ Z3))),aa (.inl (134,(bZ Z4)))])))/\(decide (bP Z3<f_)=an->Vc ((bj Z2)=bj Z2/\(bZ pp)=bZ pp/\PP (av Z7)/\gP ax k (av Z7) Z2)/\aY (G (Z8 (ay (kf ax (Pa.iP xx) k (av Z7) Z2 pp f_))) [dF 2 ti tg,aa (.inl (3,[Z8 xx])),oP (av (kf ax (Pa.iP xx) k (av Z7) Z2 pp f_)),aa (.inl (136,(bj xn))),aa (.inl (134,(bZ pp))),aa (.inl (136,(bj Z2))),aa (.inl (134,(bZ Z3))),aa (.inl (134,(bZ Z4)))])))))/\(decide Z1=an->Vc (PP m)/\Vc ((bZ pp)=bZ pp/\(bZ (bw Z2))=bZ (bw Z2)/\True)/\Vc ((dt (b6 xn))=dt (b6 xn)/\True)/\Vc (PP (aL m (bd xn)))/\Vc ((bZ Z3)=bZ Z3/\(bZ Z4)=bZ Z4/\True)/\Vc ((bj Z5)=bj Z5/\(bZ (eK ax Z3 Z4))=bZ (eK ax Z3 Z4)/\PP Z6/\gP ax k Z6 Z5)/\(decide (ay Z7≥(0:Int))=ao->aY (G (Z8 (ay Z7)) [dF 2 ti tg,aa (.inl (3,[Z8 xx])),oP (av Z7),aa (.inl (136,(bj xn))),aa (.inl (134,(bZ pp))),aa (.inl (136,(bj Z2))),aa (.inl (134,(bZ Z3))),aa (.inl (134,(bZ Z4)))]))/\(decide (ay Z7≥(0:Int))=an->(decide (bP Z3<f_)=ao->Vc ((ky (bH Z3))=ky (bH Z3)/\(ky (bH Z4))=ky (bH Z4))/\(Pa.iP xx (bH Z3) (bH Z4)=ao->aY (G (Z8 (bP Z3)) [dF 2 ti tg,aa (.inl (3,[Z8 xx])),oP (av Z7),aa (.inl (136,(bj xn))),aa (.inl (134,(bZ pp))),aa (.inl (136,(bj Z2))),aa (.inl (134,(bZ Z3))),aa (.inl (134,(bZ Z4)))]))/\(Pa.iP xx (bH Z3) (bH Z4)=an->Vc ((bj Z2)=bj Z2/\(bZ pp)=bZ pp/\PP (av Z7)/\gP ax k (av Z7) Z2)/\aY (G (Z8 (ay (kf ax (Pa.iP xx) k (av Z7) Z2 pp f_))) [dF 2 ti tg,aa (.inl (3,[Z8 xx])),oP (av (kf ax (Pa.iP xx) k (av Z7) Z2 pp f_)),aa (.inl (136,(bj xn))),aa (.inl (134,(bZ pp))),aa (.inl (136,(bj Z2))),aa (.inl (134,(bZ Z3))),aa (.inl (134,(bZ Z4)))])))/\(decide (bP Z3<f_)=an->Vc ((bj Z2)=bj Z2/\(bZ pp)=bZ pp/\PP (av Z7)/\gP ax k (av Z7) Z2)/\aY (G (Z8 (ay (kf ax (Pa.iP xx) k (av Z7) Z2 pp f_))) [dF 2 ti tg,aa (.inl (3,[Z8 xx])),oP (av (kf ax (Pa.iP xx) k (av Z7) Z2 pp f_)),aa (.inl (136,(bj xn))),aa (.inl (134,(bZ pp))),aa (.inl (136,(bj Z2))),aa (.inl (134,(bZ Z3))),aa (.inl (134,(bZ Z4)))]))))))/\((cw xn==(0:Int))=ao->aY (G (Z8 (-1:Int)) [dF 2 ti tg,aa (.inl (3,[Z8 xx])),oP m,aa (.inl (136,(bj xn))),aa (.inl (134,(bZ pp)))]))) ?_ (by kernel_rfl)
   intro Z8 Z1 Z2 Z3 Z4 Z5 Z6 Z7;subst Z7 Z6 Z5 Z4 Z3 Z2 Z1 Z8;simp only[gP] at hd;have e1:∀ e,(n7 ax e).sum=ax.sum e:=fun _=>rfl
   have done:∀ (i:Int) (m':Pl) (rest:Hp Rs),kf ax (Pa.iP xx) (k+1) m xn pp f_=(i,m')->G (.int .i64 i) ([aa (.inl (110,[.pointer (aa ⟨2,0,aj⟩),.int .i64 ti,.int .i64 tg])),aa (.inl (3,[.int .i64 xx])),aa (.inr (.inr (.inr (.db m'))))]++rest):=by
    intro i m' rest e;subst hG;refine⟨[0,1,2],?_,rfl,⟨.inl rfl,.inl rfl,?_,trivial⟩,rfl,rfl,rfl,rfl⟩
    ·simp only[e];rfl
    ·simp only[e];rfl
   clear hG;rw[kf] at done
   dsimp only [nq] at done
   simp only[e1]
   repeat' (first|apply cZ|apply Vc.mk|apply fits.mk|intro h|apply aY.mk)
   all_goals (try simp only[sB] at *)
   all_goals first|contradiction|omega|exact jF ‹_›|exact jH ‹_›|exact jG ‹_›|exact⟨rfl,by omega⟩|exact rfl|(simp[*,-au];done)|skip
   all_goals first|assumption|(simp only[jl];assumption)|skip
   all_goals first|exact ox (hd.resolve_left (by omega)).1 (fun s=>by simp only[Gv.iE,lT,mK])|(simp only[lT,mK,Gv.iE];first|exact ox (hd.resolve_left (by omega)).2 (fun s=>by simp only[Gv.iE,lT,mK])|exact ox (hd.resolve_left (by omega)).1 (fun s=>by simp only[Gv.iE,lT,mK]))|skip
   all_goals (refine done _ _ _ ?_;repeat' split)
   all_goals first|rfl|(exfalso;omega)|(exfalso;simp_all;done)|(exfalso;simp_all;omega)
  ·cases hx
def Ol (K:Nat):Prim Rs:=fun args hh=>match args,hh with
 |[.pointer (aa ⟨0,0,aj⟩),.int .i64 f_,.func (.func 154) ⟨[]⟩ ⟨[.pointer (aa ⟨1,0,aj⟩)]⟩],[aa (.inl (110,[.pointer (aa ⟨2,0,aj⟩),.int .i64 ti,.int .i64 tg])),aa (.inl (3,[.int .i64 xx])),aa (.inr (.inr (.inr (.db m))))]=>aa ⟨PP m/\gP ax K (aL m (⟨ti,tg⟩:bn)) (bu ax m (⟨ti,tg⟩:bn)),.int .i64 (kT ax (Pa.iP xx) K (aL m (⟨ti,tg⟩:bn)) (bu ax m (⟨ti,tg⟩:bn)) ⟨0,ax.a0⟩ f_).1,aj,[aa (.inl (110,[.pointer (aa ⟨2,0,aj⟩),.int .i64 ti,.int .i64 tg])),aa (.inl (3,[.int .i64 xx])),aa (.inr (.inr (.inr (.db (kT ax (Pa.iP xx) K (aL m (⟨ti,tg⟩:bn)) (bu ax m (⟨ti,tg⟩:bn)) ⟨0,ax.a0⟩ f_).2))))],[],[(0,0)]⟩
 |_,_=>aj
def UF (K:Nat):eM Rs:=[(80,bJ zN 2 (a9 km)),(142,bJ zN 2 (a9 (HZ K)))]
theorem aaw (K:Nat):b8 D Tryz.prog 108 (a9 (Ol K)):=by
 refine fx Tryz.f108 fun args hh x hx=>?_
 unfold Ol at hx;split at hx
 ·rename_i f_ ti tg xx m;cases hx;refine q4 fun _ hv=>?_
  obtain⟨hp,hd⟩:=hv;generalize hG:cj (R:=Rs) _ _=G;refine cK (T:=(UF K)) (show cN D Tryz.prog (UF K) from⟨aT _ _ look_ok,aT _ _ (SE K),trivial⟩) mixed 200 ?_
  refine bM (q:=let Z1:=(bu ax m (aO ti tg));let Z2:=(bZ (mJ 0 (xJ (ja 0 0 0) (ja 0 0 0) 0 0 (cX 0 0) an (cX 0 0) an (cX 0 0))));let Z3:=(kT ax (Pa.iP xx) K (aL m (aO ti tg)) Z1 (mJ (0:Int) (xJ (ja (0:Int) (0:Int) (0:Int)) (ja (0:Int) (0:Int) (0:Int)) (0:Int) (0:Int) (cX (0:Int) (0:Int)) an (cX (0:Int) (0:Int)) an (cX (0:Int) (0:Int)))) f_);Vc (PP m)/\Vc ((bj Z1)=bj Z1/\Z2=Z2/\PP (aL m (aO ti tg))/\gP ax K (aL m (aO ti tg)) Z1)/\aY (G (bk ar (ay Z3)) [dF 2 ti tg,aa (.inl (3,[.int ar xx])),oP (av Z3)])) ?_ (by kernel_rfl)
  intro Z1 Z2 Z3;subst Z3 Z2 Z1;subst hG
  repeat' (first|apply cZ|apply Vc.mk|apply fits.mk|intro h|apply aY.mk)
  all_goals (try simp only[sB] at *)
  all_goals first|contradiction|omega|exact jF ‹_›|exact jH ‹_›|exact jG ‹_›|exact⟨rfl,by omega⟩|exact rfl|(simp[*,-au];done)|skip
  all_goals first|assumption|(simp only[jl];assumption)|skip
  exact⟨[0,1,2],rfl,rfl,⟨.inl rfl,.inl rfl,rfl,trivial⟩,rfl,rfl,rfl,rfl⟩
 ·cases hx
def Q_ (K:Nat):Prim Rs:=fun args hh=>match args,hh with
 |[.pointer (aa ⟨0,0,aj⟩),.int .i64 f_,.func (.func 154) ⟨[]⟩ ⟨[.pointer (aa ⟨1,0,aj⟩)]⟩],[aa (.inl (110,[.pointer (aa ⟨2,0,aj⟩),.int .i64 ti,.int .i64 tg])),aa (.inl (3,[.int .i64 xx])),aa (.inr (.inr (.inr (.db m))))]=>aa ⟨PP m/\gP ax K (aL m (⟨ti,tg⟩:bn)) (bu ax m (⟨ti,tg⟩:bn)),.int .i64 (kf ax (Pa.iP xx) K (aL m (⟨ti,tg⟩:bn)) (bu ax m (⟨ti,tg⟩:bn)) ⟨0,ax.a0⟩ f_).1,aj,[aa (.inl (110,[.pointer (aa ⟨2,0,aj⟩),.int .i64 ti,.int .i64 tg])),aa (.inl (3,[.int .i64 xx])),aa (.inr (.inr (.inr (.db (kf ax (Pa.iP xx) K (aL m (⟨ti,tg⟩:bn)) (bu ax m (⟨ti,tg⟩:bn)) ⟨0,ax.a0⟩ f_).2))))],[],[(0,0)]⟩
 |_,_=>aj
def Yf (K:Nat):eM Rs:=[(80,bJ zN 2 (a9 km)),(143,bJ zN 2 (a9 (J7 K)))]
theorem abq (K:Nat):b8 D Tryz.prog 111 (a9 (Q_ K)):=by
 refine fx Tryz.f111 fun args hh x hx=>?_
 unfold Q_ at hx;split at hx
 ·rename_i f_ ti tg xx m;cases hx;refine q4 fun _ hv=>?_
  obtain⟨hp,hd⟩:=hv;generalize hG:cj (R:=Rs) _ _=G;refine cK (T:=(Yf K)) (show cN D Tryz.prog (Yf K) from⟨aT _ _ look_ok,aT _ _ (V8 K),trivial⟩) mixed 200 ?_
  refine bM (q:=let Z1:=(bu ax m (aO ti tg));let Z2:=(bZ (mJ 0 (xJ (ja 0 0 0) (ja 0 0 0) 0 0 (cX 0 0) an (cX 0 0) an (cX 0 0))));let Z3:=(kf ax (Pa.iP xx) K (aL m (aO ti tg)) Z1 (mJ (0:Int) (xJ (ja (0:Int) (0:Int) (0:Int)) (ja (0:Int) (0:Int) (0:Int)) (0:Int) (0:Int) (cX (0:Int) (0:Int)) an (cX (0:Int) (0:Int)) an (cX (0:Int) (0:Int)))) f_);Vc (PP m)/\Vc ((bj Z1)=bj Z1/\Z2=Z2/\PP (aL m (aO ti tg))/\gP ax K (aL m (aO ti tg)) Z1)/\aY (G (bk ar (ay Z3)) [dF 2 ti tg,aa (.inl (3,[.int ar xx])),oP (av Z3)])) ?_ (by kernel_rfl)
  intro Z1 Z2 Z3;subst Z3 Z2 Z1;subst hG
  repeat' (first|apply cZ|apply Vc.mk|apply fits.mk|intro h|apply aY.mk)
  all_goals (try simp only[sB] at *)
  all_goals first|contradiction|omega|exact jF ‹_›|exact jH ‹_›|exact jG ‹_›|exact⟨rfl,by omega⟩|exact rfl|(simp[*,-au];done)|skip
  all_goals first|assumption|(simp only[jl];assumption)|skip
  exact⟨[0,1,2],rfl,rfl,⟨.inl rfl,.inl rfl,rfl,trivial⟩,rfl,rfl,rfl,rfl⟩
 ·cases hx
def HY  (k:Nat):Prim Rs:=fun args hh=>match args,hh with
 |[.pointer (aa ⟨0,0,aj⟩),.agg ⟨xN⟩,.agg ⟨pP⟩,.int .i64 f_,.func (.func 105) ⟨[]⟩ ⟨[.pointer (aa ⟨1,0,aj⟩)]⟩],[aa (.inl (110,[.pointer (aa ⟨2,0,aj⟩),.int .i64 ti,.int .i64 tg])),aa (.inl (75,[.int .i64 xk,.int .i64 xi,.bool xe,.int .i64 xt])),aa (.inr (.inr (.inr (.db m))))]=>aa ⟨xN=bj (gh xN)/\pP=bZ (pv pP)/\(PP m/\gP ax k m (gh xN)),.int .i64 (kT ax (Pa.qf ⟨xk,xi⟩) k m (gh xN) (pv pP) f_).1,aj,[aa (.inl (110,[.pointer (aa ⟨2,0,aj⟩),.int .i64 ti,.int .i64 tg])),aa (.inl (75,[.int .i64 xk,.int .i64 xi,.bool xe,.int .i64 xt])),aa (.inr (.inr (.inr (.db (kT ax (Pa.qf ⟨xk,xi⟩) k m (gh xN) (pv pP) f_).2))))],[],[(0,0)]⟩
 |_,_=>aj
def Yq (k:Nat):eM Rs:=[(1000000000,lW),(105,bJ zN 2 (a9 aav)),(80,bJ zN 2 (a9 km)),(98,bJ zN 2 (a9 AV)),(148,bJ zN 2 (a9 ef)),(142,bJ zN 2 (a9 (HY k)))]
theorem Sv:∀ k:Nat,b8 D Tryz.prog 142 (a9 (HY k))
 |0=>by
  refine fx Tryz.f142 fun args hh x hx=>?_
  unfold HY at hx;split at hx
  ·rename_i xN pP f_ ti tg xk xi xe xt m;cases hx;refine q4 fun _ hv=>?_
   exact kV (iw (iw (iw hv)))
  ·cases hx
 |k+1=>by
  have ih:=Sv k;refine fx Tryz.f142 fun args hh x hx=>?_
  unfold HY at hx;split at hx
  ·rename_i xN pP f_ ti tg xk xi xe xt m;cases hx;refine q4 fun _ hv=>?_
   obtain⟨j7,sT,hv⟩:=hv;generalize gh xN=xn at *;subst j7;generalize pv pP=pp at *;subst sT;obtain⟨hp,hd⟩:=hv
   generalize hG:cj (R:=Rs) _ _=G;refine cK (T:=(Yq k)) (show cN D Tryz.prog (Yq k) from⟨iF,aT _ _ ag8,aT _ _ look_ok,aT _ _ yI,aT _ _ uX,aT _ _ ih,trivial⟩) mixed 200 ?_
   refine bM (q:=let Z9:=bk ar;let Z1:=(ck ar (bP pp+bP (bw xn))≤f_);let Z2:=(bu ax m (bd xn));let Z3:=(kT ax (Pa.qf (cX xk xi)) k (aL m (bd xn)) Z2 pp f_);let Z4:=(eK ax pp (bw Z2));let Z5:=(n7 ax (b6 xn));let Z6:=(bu ax (av Z3) (bo xn));let Z7:=(aL (av Z3) (bo xn));let Z8:=(kT ax (Pa.qf (cX xk xi)) k Z7 Z6 (eK ax Z4 Z5) f_);((cw xn==(0:Int))=an->Vc True/\(decide Z1=ao->aY (G (Z9 (-1:Int)) [dF 2 ti tg,aa (.inl (75,[Z9 xk,Z9 xi,.bool xe,Z9 xt])),oP m,aa (.inl (136,(bj xn))),aa (.inl (134,(bZ pp)))]))/\(decide Z1=an->(decide (bP pp≥f_)=ao->Vc ((ky (bH pp))=ky (bH pp)/\(ky (bH (bw xn)))=ky (bH (bw xn)))/\((!Pa.qf (cX xk xi) (bH pp) (bH (bw xn)))=ao->aY (G (Z9 (-1:Int)) [dF 2 ti tg,aa (.inl (75,[Z9 xk,Z9 xi,.bool xe,Z9 xt])),oP m,aa (.inl (136,(bj xn))),aa (.inl (134,(bZ pp)))]))/\((!Pa.qf (cX xk xi) (bH pp) (bH (bw xn)))=an->Vc (PP m)/\Vc ((bj Z2)=bj Z2/\(bZ pp)=bZ pp/\PP (aL m (bd xn))/\gP ax k (aL m (bd xn)) Z2)/\(decide (ay Z3≥(0:Int))=ao->aY (G (Z9 (ay Z3)) [dF 2 ti tg,aa (.inl (75,[Z9 xk,Z9 xi,.bool xe,Z9 xt])),oP (av Z3),aa (.inl (136,(bj xn))),aa (.inl (134,(bZ pp))),aa (.inl (136,(bj Z2)))]))/\(decide (ay Z3≥(0:Int))=an->Vc ((bZ pp)=bZ pp/\(bZ (bw Z2))=bZ (bw Z2)/\True)/\Vc ((dt (b6 xn))=dt (b6 xn)/\True)/\(decide (bP Z4≥f_)=ao->Vc ((ky (bH Z4))=ky (bH Z4)/\(ky (bH Z5))=ky (bH Z5))/\(Pa.qf (cX xk xi) (bH Z4) (bH Z5)=ao->aY (G (Z9 (bP Z4)) [dF 2 ti tg,aa (.inl (75,[Z9 xk,Z9 xi,.bool xe,Z9 xt])),oP (av Z3),aa (.inl (136,(bj xn))),aa (.inl (134,(bZ Z4))),aa (.inl (136,(bj Z2))),aa (.inl (134,(bZ Z5)))]))/\(Pa.qf (cX xk xi) (bH Z4) (bH Z5)=an->Vc (PP (av Z3))/\Vc ((bZ Z4)=bZ Z4/\(bZ Z5)=bZ Z5/\True)/\Vc ((bj Z6)=bj Z6/\(bZ (eK ax Z4 Z5))=bZ (eK ax Z4 Z5)/\PP Z7/\gP ax k Z7 Z6)/\aY (G (Z9 (ay Z8)) [dF 2 ti tg,aa (.inl (75,[Z9 xk,Z9 xi,.bool xe,Z9 xt])),oP (av Z8),aa (.inl (136,(bj xn))),aa (.inl (134,(bZ Z4))),aa (.inl (136,(bj Z2))),aa (.inl (134,(bZ Z5)))])))/\(decide (bP Z4≥f_)=an->Vc (PP (av Z3))/\Vc ((bZ Z4)=bZ Z4/\(bZ Z5)=bZ Z5/\True)/\Vc ((bj Z6)=bj Z6/\(bZ (eK ax Z4 Z5))=bZ (eK ax Z4 Z5)/\PP Z7/\gP ax k Z7 Z6)/\aY (G (Z9 (ay Z8)) [dF 2 ti tg,aa (.inl (75,[Z9 xk,Z9 xi,.bool xe,Z9 xt])),oP (av Z8),aa (.inl (136,(bj xn))),aa (.inl (134,(bZ Z4))),aa (.inl (136,(bj Z2))),aa (.inl (134,(bZ Z5)))])))))/\(decide (bP pp≥f_)=an->Vc (PP m)/\Vc ((bj Z2)=bj Z2/\(bZ pp)=bZ pp/\PP (aL m (bd xn))/\gP ax k (aL m (bd xn)) Z2)/\(decide (ay Z3≥(0:Int))=ao->aY (G (Z9 (ay Z3)) [dF 2 ti tg,aa (.inl (75,[Z9 xk,Z9 xi,.bool xe,Z9 xt])),oP (av Z3),aa (.inl (136,(bj xn))),aa (.inl (134,(bZ pp))),aa (.inl (136,(bj Z2)))]))/\(decide (ay Z3≥(0:Int))=an->Vc ((bZ pp)=bZ pp/\(bZ (bw Z2))=bZ (bw Z2)/\True)/\Vc ((dt (b6 xn))=dt (b6 xn)/\True)/\(decide (bP Z4≥f_)=ao->Vc ((ky (bH Z4))=ky (bH Z4)/\(ky (bH Z5))=ky (bH Z5))/\(Pa.qf (cX xk xi) (bH Z4) (bH Z5)=ao->aY (G (Z9 (bP Z4)) [dF 2 ti tg,aa (.inl (75,[Z9 xk,Z9 xi,.bool xe,Z9 xt])),oP (av Z3),aa (.inl (136,(bj xn))),aa (.inl (134,(bZ Z4))),aa (.inl (136,(bj Z2))),aa (.inl (134,(bZ Z5)))]))/\(Pa.qf (cX xk xi) (bH Z4) (bH Z5)=an->Vc (PP (av Z3))/\Vc ((bZ Z4)=bZ Z4/\(bZ Z5)=bZ Z5/\True)/\Vc ((bj Z6)=bj Z6/\(bZ (eK ax Z4 Z5))=bZ (eK ax Z4 Z5)/\PP Z7/\gP ax k Z7 Z6)/\aY (G (Z9 (ay Z8)) [dF 2 ti tg,aa (.inl (75,[Z9 xk,Z9 xi,.bool xe,Z9 xt])),oP (av Z8),aa (.inl (136,(bj xn))),aa (.inl (134,(bZ Z4))),aa (.inl (136,(bj Z2))),aa (.inl (134,(bZ Z5)))])))/\(decide (bP Z4≥f_)=an->Vc (PP (av Z3))/\Vc ((bZ Z4)=bZ Z4/\(bZ Z5)=bZ Z5/\True)/\Vc ((bj Z6)=bj Z6/\(bZ (eK ax Z4 Z5))=bZ (eK ax Z4 Z5)/\PP Z7/\gP ax k Z7 Z6)/\aY (G (Z9 (ay Z8)) [dF 2 ti tg,aa (.inl (75,[Z9 xk,Z9 xi,.bool xe,Z9 xt])),oP (av Z8),aa (.inl (136,(bj xn))),aa (.inl (134,(bZ Z4))),aa (.inl (136,(bj Z2))),aa (.inl (134,(bZ Z5)))]))))))/\((cw xn==(0:Int))=ao->aY (G (Z9 (-1:Int)) [dF 2 ti tg,aa (.inl (75,[Z9 xk,Z9 xi,.bool xe,Z9 xt])),oP m,aa (.inl (136,(bj xn))),aa (.inl (134,(bZ pp)))]))) ?_ (by kernel_rfl)
   intro Z9 Z1 Z2 Z3 Z4 Z5 Z6 Z7 Z8;subst Z8 Z7 Z6 Z5 Z4 Z3 Z2 Z1 Z9;simp only[gP] at hd;have e1:∀ e,(n7 ax e).sum=ax.sum e:=fun _=>rfl
   have done:∀ (i:Int) (m':Pl) (rest:Hp Rs),kT ax (Pa.qf ⟨xk,xi⟩) (k+1) m xn pp f_=(i,m')->G (.int .i64 i) ([aa (.inl (110,[.pointer (aa ⟨2,0,aj⟩),.int .i64 ti,.int .i64 tg])),aa (.inl (75,[.int .i64 xk,.int .i64 xi,.bool xe,.int .i64 xt])),aa (.inr (.inr (.inr (.db m'))))]++rest):=by
    intro i m' rest e;subst hG;refine⟨[0,1,2],?_,rfl,⟨.inl rfl,.inl rfl,?_,trivial⟩,rfl,rfl,rfl,rfl⟩
    ·simp only[e];rfl
    ·simp only[e];rfl
   clear hG;rw[kT] at done
   dsimp only [nq] at done
   simp only[e1]
   repeat' (first|apply cZ|apply Vc.mk|apply fits.mk|intro h|apply aY.mk)
   all_goals (try simp only[sB] at *)
   all_goals first|contradiction|omega|exact jF ‹_›|exact jH ‹_›|exact jG ‹_›|exact⟨rfl,by omega⟩|exact rfl|(simp[*,-au];done)|skip
   all_goals first|assumption|(simp only[jl];assumption)|skip
   all_goals first|exact ox (hd.resolve_left (by omega)).1 (fun s=>by simp only[Gv.iE,lT,mK])|(simp only[lT,mK,Gv.iE];first|exact ox (hd.resolve_left (by omega)).2 (fun s=>by simp only[Gv.iE,lT,mK])|exact ox (hd.resolve_left (by omega)).1 (fun s=>by simp only[Gv.iE,lT,mK]))|skip
   all_goals (refine done _ _ _ ?_;repeat' split)
   all_goals first|rfl|(exfalso;omega)|(exfalso;simp_all;done)|(exfalso;simp_all;omega)
  ·cases hx
def Nw (K:Nat):Prim Rs:=fun args hh=>match args,hh with
 |[.pointer (aa ⟨0,0,aj⟩),.int .i64 f_,.func (.func 105) ⟨[]⟩ ⟨[.pointer (aa ⟨1,0,aj⟩)]⟩],[aa (.inl (110,[.pointer (aa ⟨2,0,aj⟩),.int .i64 ti,.int .i64 tg])),aa (.inl (75,[.int .i64 xk,.int .i64 xi,.bool xe,.int .i64 xt])),aa (.inr (.inr (.inr (.db m))))]=>aa ⟨PP m/\gP ax K (aL m (⟨ti,tg⟩:bn)) (bu ax m (⟨ti,tg⟩:bn)),.int .i64 (kT ax (Pa.qf ⟨xk,xi⟩) K (aL m (⟨ti,tg⟩:bn)) (bu ax m (⟨ti,tg⟩:bn)) ⟨0,ax.a0⟩ f_).1,aj,[aa (.inl (110,[.pointer (aa ⟨2,0,aj⟩),.int .i64 ti,.int .i64 tg])),aa (.inl (75,[.int .i64 xk,.int .i64 xi,.bool xe,.int .i64 xt])),aa (.inr (.inr (.inr (.db (kT ax (Pa.qf ⟨xk,xi⟩) K (aL m (⟨ti,tg⟩:bn)) (bu ax m (⟨ti,tg⟩:bn)) ⟨0,ax.a0⟩ f_).2))))],[],[(0,0)]⟩
 |_,_=>aj
def VX (K:Nat):eM Rs:=[(80,bJ zN 2 (a9 km)),(142,bJ zN 2 (a9 (HY K)))]
theorem aax (K:Nat):b8 D Tryz.prog 108 (a9 (Nw K)):=by
 refine fx Tryz.f108 fun args hh x hx=>?_
 unfold Nw at hx;split at hx
 ·rename_i f_ ti tg xk xi xe xt m;cases hx;refine q4 fun _ hv=>?_
  obtain⟨hp,hd⟩:=hv;generalize hG:cj (R:=Rs) _ _=G;refine cK (T:=(VX K)) (show cN D Tryz.prog (VX K) from⟨aT _ _ look_ok,aT _ _ (Sv K),trivial⟩) mixed 200 ?_
  refine bM (q:=let Z1:=(bu ax m (aO ti tg));let Z2:=(bZ (mJ 0 (xJ (ja 0 0 0) (ja 0 0 0) 0 0 (cX 0 0) an (cX 0 0) an (cX 0 0))));let Z3:=(kT ax (Pa.qf (cX xk xi)) K (aL m (aO ti tg)) Z1 (mJ (0:Int) (xJ (ja (0:Int) (0:Int) (0:Int)) (ja (0:Int) (0:Int) (0:Int)) (0:Int) (0:Int) (cX (0:Int) (0:Int)) an (cX (0:Int) (0:Int)) an (cX (0:Int) (0:Int)))) f_);Vc (PP m)/\Vc ((bj Z1)=bj Z1/\Z2=Z2/\PP (aL m (aO ti tg))/\gP ax K (aL m (aO ti tg)) Z1)/\aY (G (bk ar (ay Z3)) [dF 2 ti tg,aa (.inl (75,[.int ar xk,.int ar xi,.bool xe,.int ar xt])),oP (av Z3)])) ?_ (by kernel_rfl)
  intro Z1 Z2 Z3;subst Z3 Z2 Z1;subst hG
  repeat' (first|apply cZ|apply Vc.mk|apply fits.mk|intro h|apply aY.mk)
  all_goals (try simp only[sB] at *)
  all_goals first|contradiction|omega|exact jF ‹_›|exact jH ‹_›|exact jG ‹_›|exact⟨rfl,by omega⟩|exact rfl|(simp[*,-au];done)|skip
  all_goals first|assumption|(simp only[jl];assumption)|skip
  exact⟨[0,1,2],rfl,rfl,⟨.inl rfl,.inl rfl,rfl,trivial⟩,rfl,rfl,rfl,rfl⟩
 ·cases hx
end G8
end Go.Proofs.YtjlomlgdgpoepaaGreat
