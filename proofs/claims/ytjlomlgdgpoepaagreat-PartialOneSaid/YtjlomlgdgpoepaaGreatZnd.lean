import Derived.Test.YtjlomlgdgpoepaaGreatZnc
import Derived.Test.YtjlomlgdgpoepaaGreatZnb
set_option linter.unusedVariables false
set_option linter.unusedSimpArgs false
namespace Go.Proofs.YtjlomlgdgpoepaaGreat
open Gv renaming AZ→Dh,BL→Cf,DT→Bf,Deep→jb,Dx→Fs,Ref→bk,W→mY,YD→KT,aE→aK,cv→bW,df→jc,ed→eD,fX→gT,find→iF,first→kJ,glue→sf,iL→kf,jL→jR,ji→gH,jx→z8,kB→lQ,kY→lM,kZ→nE,last→jZ,level→gv,link→kC,lk→br,look→jQ,lx→q7,mX→ja,me→lu,ml→mA,nL→uP,na→Cg,oQ→vx,oU→vy,one→nK,pick→jt,qH→lC,q_→oL,qa→n3,qk→sH,replace→nF,sm→qw,sn→D5,sw→xh,tX→vC,tie→sG,tj→vz,tq→vD,ue→LA,vr→uN
open Gv.Node renaming all→bt,e→bY,h→cu,l→bc,mk→fy,r→bn
open Gv.PM renaming cap→ic,held→fM
open Gv.Part renaming mk→my,n→bM,sum→bG
open Gv.Ref renaming g→cC,i→cB,mk→aO
open Gv.iO renaming cmp→gV
open Rx renaming Ends→cj
open Ti renaming Ga→WA,oW→z7,qs→I2,yd→RS
open Ti.Td renaming mk→iP
open Wv renaming B8→xR,Ig→I0,O8→aw
open Wv.It renaming i→m9,k→m8,mk→cU
open Wv.Mk renaming here→xS,ins→z6,it→qd,mk→Ft,tf→Ce,tk→qe,t→D6
open Wv.Sw renaming gf→N',lf→Oa,mk→xj
open _root_.And renaming intro→cX,right→ig
open _root_.Array renaming mk→aJ,toList→dv
open _root_.Bool renaming and_eq_true→aM,and_false→uM,eq_iff_iff→Qk,false_and→Cd,false→an,true_and→jh,true→ao
open _root_.Eq renaming symm→qY
open _root_.False renaming elim→kL
open _root_.Go.Func renaming ntmps→pf,results→dw
open _root_.Go.IntKind renaming i64→ar,wrap→ck
open _root_.Go.Value renaming agg→bz,bool→aC,int→bm,pointer→aB,slice→bD,tuple→cq
open _root_.Iff renaming rfl→r9
open _root_.Int renaming natCast_nonneg→xl,not_le→I1,not_lt→IX
open _root_.List renaming append_assoc→rG,cons_append→mw,countP_cons→vF,countP_eq_zero→Jx,countP_nil→Ql,countP_pos_iff→Jw,drop_drop→sc,drop_eq_getElem_cons→oV,drop_left'→Gj,filter_append→oJ,filter_cons→kg,filter_eq_self→Bv,getD_cons_succ→wx,getD_eq_getElem?_getD→au,getElem?_append_left→cZ,getElem?_append_right→dS,getElem?_eq_getElem→bd,getElem?_map→fh,getElem_drop→LQ,getElem_mem→Fu,getElem_of_mem→sM,getElem_take→LP,length_append→bF,length_drop→jr,length_map→fS,length_pos_iff→Jy,length_take→dQ,length→ae,map_append→dJ,map_congr_left→nV,map_cons→gw,map_drop→mJ,map_take→nw,map→ay,mem_append_right→uQ,mem_append→b7,mem_cons_of_mem→eo,mem_cons_self→bL,mem_cons→bO,mem_filter→pc,mem_iff_getElem→vH,mem_map→pb,mem_of_mem_drop→vG,mem_of_mem_tail→Bg,mem_of_mem_take→ph,nil_append→pd,nodup_append→cf,nodup_cons→fH,not_mem_nil→vE,pairwise_append→nD,pairwise_cons→gD,pairwise_iff_getElem→DK,pairwise_map→Ds,singleton_append→HL,tail_cons→oN,tail_drop→HN,take_add→v_,take_append_drop→cP,take_left'→Gi,take_succ_cons→Jv,take_zero→r_
open _root_.List.Pairwise renaming filter→aaf,imp→LO,nil→rI,sublist→YF
open _root_.List.Sublist renaming refl→acU
open _root_.Nat renaming eq_zero_or_pos→mj,le_add_left→tF,le_refl→a_,lt_of_le_of_lt→iZ,lt_or_ge→cr,lt_succ_self→fC,lt_trichotomy→nR,zero_add→bU,zero_le→dh
open _root_.Option renaming getD_some→lL,isSome_iff_exists→Fv,none→aj,some→aa
open _root_.Prod renaming ext→kd,fst→ax,snd→av
open _root_.Sum renaming inl→dd
namespace G8
open Rx
set_option maxRecDepth 100000
def UC:eJ Rs:=[(80,bJ zN 2 (a9 j9)),(155,bJ zN 2 (a9 AO))]
theorem RI:cN D Tryz.prog UC:=⟨aU _ _ look_ok,aU _ _ xI,trivial⟩
def ID:Prim Rs:=fun args hh=>match args,hh with
 |[.pointer (aa ⟨0,0,aj⟩),.agg ⟨[.int .i64 ri,.int .i64 rg]⟩,.agg ⟨xN⟩],[aa (.inl (110,[.pointer (aa ⟨1,0,aj⟩),.int .i64 ti,.int .i64 tg])),aa (.inr (.inr (.inr (.da m))))]=>aa ⟨xN=bj (fU xN)/\(PP m),.agg ⟨[.int .i64 ri,.int .i64 rg]⟩,aj,[aa (.inl (110,[.pointer (aa ⟨1,0,aj⟩),.int .i64 ti,.int .i64 tg])),aa (.inr (.inr (.inr (.da (sG aw m ⟨ri,rg⟩ (fU xN))))))],[],[(0,0)]⟩
 |_,_=>aj
theorem AL:b9 D Tryz.prog 134 (a9 ID):=by
 refine fu Tryz.f134 fun args hh x hx=>?_
 unfold ID at hx;split at hx
 ·rename_i ri rg xN ti tg m;cases hx;refine q4 fun _ hv=>?_
  obtain⟨jT,hv⟩:=hv;generalize fU xN=xn at *;subst jT
  generalize hG:cj (R:=Rs) _ _=G;refine cL (T:=UC) RI mixed 200 ?_;refine bK (q:=let Z2:=bm ar;let Z1:=(br aw (aK m (bc xn)) (bn xn));Vc (PP m)/\Vc (PP (aK m (bc xn)))/\Vc ((bj xn)=bj xn/\(bj (br aw m (bc xn)))=bj (br aw m (bc xn))/\(bj Z1)=bj Z1/\PP (aK (aK m (bc xn)) (bn xn)))/\aX (G (bz (aJ [Z2 ri,Z2 rg])) [dD 1 ti tg,oP (D5 aw (aK (aK m (bc xn)) (bn xn)) (aO ri rg) xn (br aw m (bc xn)) Z1),aa (.inl (108,[Z2 ri,Z2 rg])),aa (.inl (136,(bj xn))),aa (.inl (108,[Z2 ri,Z2 rg]))])) ?_ (by kernel_rfl)
  intro Z2 Z1;subst Z1 Z2;subst hG
  repeat' (first|apply cX|apply Vc.mk|apply fits.mk|intro h|apply aX.mk)
  all_goals (try simp only[sB] at *)
  all_goals first|contradiction|omega|exact jv ‹_›|exact jw ‹_›|exact ju ‹_›|exact⟨rfl,by omega⟩|exact rfl|(simp[*,-au];done)|skip
  all_goals first|assumption|(simp only[ja];assumption)|skip
  exact⟨[0,1],rfl,rfl,⟨.inl rfl,rfl,trivial⟩,rfl,rfl,rfl,rfl⟩
 ·cases hx
def HT:eJ Rs:=[(80,bJ zN 2 (a9 j9)),(134,bJ zN 2 (a9 ID))]
theorem En:cN D Tryz.prog HT:=⟨aU _ _ look_ok,aU _ _ AL,trivial⟩
def E_:Prim Rs:=fun args hh=>match args,hh with
 |[.pointer (aa ⟨0,0,aj⟩),.agg ⟨[.int .i64 ri,.int .i64 rg]⟩,.agg ⟨xN⟩],[aa (.inl (110,[.pointer (aa ⟨1,0,aj⟩),.int .i64 ti,.int .i64 tg])),aa (.inr (.inr (.inr (.da m))))]=>aa ⟨xN=bj (fU xN)/\(PP m),.agg ⟨[.int .i64 (fU xN).r.i,.int .i64 (fU xN).r.g]⟩,aj,[aa (.inl (110,[.pointer (aa ⟨1,0,aj⟩),.int .i64 ti,.int .i64 tg])),aa (.inr (.inr (.inr (.da (vx aw m ⟨ri,rg⟩ (fU xN))))))],[],[(0,0)]⟩
 |_,_=>aj
theorem B3:b9 D Tryz.prog 156 (a9 E_):=by
 refine fu Tryz.f156 fun args hh x hx=>?_
 unfold E_ at hx;split at hx
 ·rename_i ri rg xN ti tg m;cases hx;refine q4 fun _ hv=>?_
  obtain⟨jT,hv⟩:=hv;generalize fU xN=xn at *;subst jT
  generalize hG:cj (R:=Rs) _ _=G;refine cL (T:=HT) En mixed 200 ?_;refine bK (q:=let Z5:=bm ar;let Z1:=(br aw m (bn xn));let Z2:=(fy (bY xn) (bc xn) (bc Z1) (bt xn) (cu xn));let Z3:=(fy (bY Z1) (aO ri rg) (bn Z1) (bt Z1) (cu Z1));let Z4:=(sG aw (aK m (bn xn)) (aO ri rg) Z2);Vc (PP m)/\Vc ((bj Z2)=bj Z2/\PP (aK m (bn xn)))/\Vc ((bj Z3)=bj Z3/\PP Z4)/\aX (G (bz (aJ [Z5 (cB (bn xn)),Z5 (cC (bn xn))])) [dD 1 ti tg,oP (sG aw Z4 (bn xn) Z3),aa (.inl (108,[Z5 ri,Z5 rg])),aa (.inl (136,(bj Z2))),aa (.inl (108,[Z5 (cB (bn xn)),Z5 (cC (bn xn))])),aa (.inl (108,[Z5 (cB (bn xn)),Z5 (cC (bn xn))])),aa (.inl (136,(bj Z3)))])) ?_ (by kernel_rfl)
  intro Z5 Z1 Z2 Z3 Z4;subst Z4 Z3 Z2 Z1 Z5;subst hG
  repeat' (first|apply cX|apply Vc.mk|apply fits.mk|intro h|apply aX.mk)
  all_goals (try simp only[sB] at *)
  all_goals first|contradiction|omega|exact jv ‹_›|exact jw ‹_›|exact ju ‹_›|exact⟨rfl,by omega⟩|exact rfl|(simp[*,-au];done)|skip
  all_goals first|assumption|(simp only[ja];assumption)|skip
  exact⟨[0,1],rfl,rfl,⟨.inl rfl,rfl,trivial⟩,rfl,rfl,rfl,rfl⟩
 ·cases hx
def EE:Prim Rs:=fun args hh=>match args,hh with
 |[.pointer (aa ⟨0,0,aj⟩),.agg ⟨[.int .i64 ri,.int .i64 rg]⟩,.agg ⟨xN⟩],[aa (.inl (110,[.pointer (aa ⟨1,0,aj⟩),.int .i64 ti,.int .i64 tg])),aa (.inr (.inr (.inr (.da m))))]=>aa ⟨xN=bj (fU xN)/\(PP m),.agg ⟨[.int .i64 (fU xN).l.i,.int .i64 (fU xN).l.g]⟩,aj,[aa (.inl (110,[.pointer (aa ⟨1,0,aj⟩),.int .i64 ti,.int .i64 tg])),aa (.inr (.inr (.inr (.da (vy aw m ⟨ri,rg⟩ (fU xN))))))],[],[(0,0)]⟩
 |_,_=>aj
theorem BG:b9 D Tryz.prog 157 (a9 EE):=by
 refine fu Tryz.f157 fun args hh x hx=>?_
 unfold EE at hx;split at hx
 ·rename_i ri rg xN ti tg m;cases hx;refine q4 fun _ hv=>?_
  obtain⟨jT,hv⟩:=hv;generalize fU xN=xn at *;subst jT
  generalize hG:cj (R:=Rs) _ _=G;refine cL (T:=HT) En mixed 200 ?_;refine bK (q:=let Z5:=bm ar;let Z1:=(br aw m (bc xn));let Z2:=(fy (bY xn) (bn Z1) (bn xn) (bt xn) (cu xn));let Z3:=(fy (bY Z1) (bc Z1) (aO ri rg) (bt Z1) (cu Z1));let Z4:=(sG aw (aK m (bc xn)) (aO ri rg) Z2);Vc (PP m)/\Vc ((bj Z2)=bj Z2/\PP (aK m (bc xn)))/\Vc ((bj Z3)=bj Z3/\PP Z4)/\aX (G (bz (aJ [Z5 (cB (bc xn)),Z5 (cC (bc xn))])) [dD 1 ti tg,oP (sG aw Z4 (bc xn) Z3),aa (.inl (108,[Z5 ri,Z5 rg])),aa (.inl (136,(bj Z2))),aa (.inl (108,[Z5 (cB (bc xn)),Z5 (cC (bc xn))])),aa (.inl (108,[Z5 (cB (bc xn)),Z5 (cC (bc xn))])),aa (.inl (136,(bj Z3)))])) ?_ (by kernel_rfl)
  intro Z5 Z1 Z2 Z3 Z4;subst Z4 Z3 Z2 Z1 Z5;subst hG
  repeat' (first|apply cX|apply Vc.mk|apply fits.mk|intro h|apply aX.mk)
  all_goals (try simp only[sB] at *)
  all_goals first|contradiction|omega|exact jv ‹_›|exact jw ‹_›|exact ju ‹_›|exact⟨rfl,by omega⟩|exact rfl|(simp[*,-au];done)|skip
  all_goals first|assumption|(simp only[ja];assumption)|skip
  exact⟨[0,1],rfl,rfl,⟨.inl rfl,rfl,trivial⟩,rfl,rfl,rfl,rfl⟩
 ·cases hx
def Uf:eJ Rs:=[(1000000000,lP),(80,bJ zN 2 (a9 j9)),(155,bJ zN 2 (a9 AO)),(156,bJ zN 2 (a9 E_)),(157,bJ zN 2 (a9 EE))]
theorem QM:cN D Tryz.prog Uf:=⟨ix,aU _ _ look_ok,aU _ _ xI,aU _ _ B3,aU _ _ BG,trivial⟩
def uq:Prim Rs:=fun args hh=>match args,hh with
 |[.pointer (aa ⟨0,0,aj⟩),.agg ⟨[.int .i64 ri,.int .i64 rg]⟩,.agg ⟨xN⟩],[aa (.inl (110,[.pointer (aa ⟨1,0,aj⟩),.int .i64 ti,.int .i64 tg])),aa (.inr (.inr (.inr (.da m))))]=>aa ⟨xN=bj (fU xN)/\(PP m),.agg ⟨[.int .i64 (gv aw m ⟨ri,rg⟩ (fU xN)).1.i,.int .i64 (gv aw m ⟨ri,rg⟩ (fU xN)).1.g]⟩,aj,[aa (.inl (110,[.pointer (aa ⟨1,0,aj⟩),.int .i64 ti,.int .i64 tg])),aa (.inr (.inr (.inr (.da (gv aw m ⟨ri,rg⟩ (fU xN)).2))))],[],[(0,0)]⟩
 |_,_=>aj
theorem ss:b9 D Tryz.prog 136 (a9 uq):=by
 refine fu Tryz.f136 fun args hh x hx=>?_
 unfold uq at hx;split at hx
 ·rename_i ri rg xN ti tg m;cases hx;refine q4 fun _ hv=>?_
  obtain⟨jT,hv⟩:=hv;generalize fU xN=xn at *;subst jT
  generalize hG:cj (R:=Rs) _ _=G;refine cL (T:=Uf) QM mixed 200 ?_;refine bK (q:=let dx:=bm ar;let Z1:=(br aw m (bc xn));let Z2:=(br aw (aK m (bc xn)) (bn xn));let Z3:=(cu Z1>ck ar (cu Z2+(1:Int)));let Z4:=(aK (aK m (bc xn)) (bn xn));let Z5:=(cu (br aw Z4 (bn Z1))>cu (br aw (aK Z4 (bn Z1)) (bc Z1)));let Z6:=(aK (aK Z4 (bn Z1)) (bc Z1));let Z7:=(fy (bY xn) (bn Z1) (bn xn) (bt xn) (cu xn));let Z8:=(cu Z2>ck ar (cu Z1+(1:Int)));let Z9:=(cu (br aw Z4 (bc Z2))>cu (br aw (aK Z4 (bc Z2)) (bn Z2)));let dO:=(aK (aK Z4 (bc Z2)) (bn Z2));let b6:=(fy (bY xn) (bc xn) (bc Z2) (bt xn) (cu xn));Vc (PP m)/\Vc (PP (aK m (bc xn)))/\Vc True/\(decide Z3=ao->Vc (PP Z4)/\Vc (PP (aK Z4 (bn Z1)))/\(decide Z5=ao->Vc ((bj Z1)=bj Z1/\PP Z6)/\Vc ((bj Z7)=bj Z7/\PP (vx aw Z6 (bc xn) Z1))/\aX (G (bz (aJ [dx (cB (bc Z7)),dx (cC (bc Z7))])) [dD 1 ti tg,oP (vy aw (vx aw Z6 (bc xn) Z1) (aO ri rg) Z7),aa (.inl (108,[dx ri,dx rg])),aa (.inl (136,(bj Z7))),aa (.inl (108,[dx (cB (bc Z7)),dx (cC (bc Z7))])),aa (.inl (136,(bj Z1))),aa (.inl (136,(bj Z2)))]))/\(decide Z5=an->Vc ((bj xn)=bj xn/\PP Z6)/\aX (G (bz (aJ [dx (cB (bc xn)),dx (cC (bc xn))])) [dD 1 ti tg,oP (vy aw Z6 (aO ri rg) xn),aa (.inl (108,[dx ri,dx rg])),aa (.inl (136,(bj xn))),aa (.inl (108,[dx (cB (bc xn)),dx (cC (bc xn))])),aa (.inl (136,(bj Z1))),aa (.inl (136,(bj Z2)))])))/\(decide Z3=an->Vc True/\(decide Z8=ao->Vc (PP Z4)/\Vc (PP (aK Z4 (bc Z2)))/\(decide Z9=ao->Vc ((bj Z2)=bj Z2/\PP dO)/\Vc ((bj b6)=bj b6/\PP (vy aw dO (bn xn) Z2))/\aX (G (bz (aJ [dx (cB (bn b6)),dx (cC (bn b6))])) [dD 1 ti tg,oP (vx aw (vy aw dO (bn xn) Z2) (aO ri rg) b6),aa (.inl (108,[dx ri,dx rg])),aa (.inl (136,(bj b6))),aa (.inl (108,[dx (cB (bn b6)),dx (cC (bn b6))])),aa (.inl (136,(bj Z1))),aa (.inl (136,(bj Z2)))]))/\(decide Z9=an->Vc ((bj xn)=bj xn/\PP dO)/\aX (G (bz (aJ [dx (cB (bn xn)),dx (cC (bn xn))])) [dD 1 ti tg,oP (vx aw dO (aO ri rg) xn),aa (.inl (108,[dx ri,dx rg])),aa (.inl (136,(bj xn))),aa (.inl (108,[dx (cB (bn xn)),dx (cC (bn xn))])),aa (.inl (136,(bj Z1))),aa (.inl (136,(bj Z2)))])))/\(decide Z8=an->Vc ((bj xn)=bj xn/\(bj Z1)=bj Z1/\(bj Z2)=bj Z2/\PP Z4)/\aX (G (bz (aJ [dx ri,dx rg])) [dD 1 ti tg,oP (D5 aw Z4 (aO ri rg) xn Z1 Z2),aa (.inl (108,[dx ri,dx rg])),aa (.inl (136,(bj xn))),aa (.inl (108,[dx ri,dx rg])),aa (.inl (136,(bj Z1))),aa (.inl (136,(bj Z2)))])))) ?_ (by kernel_rfl)
  intro dx Z1 Z2 Z3 Z4 Z5 Z6 Z7 Z8 Z9 dO b6;subst b6 dO Z9 Z8 Z7 Z6 Z5 Z4 Z3 Z2 Z1 dx;have done:∀ (i g:Int) (m':Pl) (rest:Hp Rs),gv aw m ⟨ri,rg⟩ xn=(⟨i,g⟩,m')->G (.agg ⟨[.int .i64 i,.int .i64 g]⟩) ([aa (.inl (110,[.pointer (aa ⟨1,0,aj⟩),.int .i64 ti,.int .i64 tg])),aa (.inr (.inr (.inr (.da m'))))]++rest):=by
   intro i g m' rest e;subst hG;refine⟨[0,1],?_,rfl,⟨.inl rfl,?_,trivial⟩,rfl,rfl,rfl,rfl⟩
   ·simp only[e];rfl
   ·simp only[e];rfl
  clear hG
  repeat' (first|apply cX|apply Vc.mk|apply fits.mk|intro h|apply aX.mk)
  all_goals (try simp only[sB] at *)
  all_goals first|contradiction|omega|exact jv ‹_›|exact jw ‹_›|exact ju ‹_›|exact⟨rfl,by omega⟩|exact rfl|(simp[*,-au];done)|skip
  all_goals first|assumption|(simp only[ja];assumption)|skip
  all_goals (refine done _ _ _ _ ?_;unfold gv;(try dsimp only [mY]);repeat' split)
  all_goals first|rfl|(exfalso;omega)
 ·cases hx
def As  (k:Nat):Prim Rs:=fun args hh=>match args,hh with
 |[.pointer (aa ⟨0,0,aj⟩),.agg ⟨[.int .i64 ri,.int .i64 rg]⟩,.agg ⟨[.int .i64 fi,.int .i64 fg]⟩,.agg ⟨kE⟩],[aa (.inl (110,[.pointer (aa ⟨1,0,aj⟩),.int .i64 ti,.int .i64 tg])),aa (.inr (.inr (.inr (.da m))))]=>aa ⟨kE=du (fR kE)/\(PP m/\jb aw k m ⟨ri,rg⟩),.agg ⟨[.int .i64 (nE aw k m ⟨ri,rg⟩ ⟨fi,fg⟩ (fR kE)).1.i,.int .i64 (nE aw k m ⟨ri,rg⟩ ⟨fi,fg⟩ (fR kE)).1.g]⟩,aj,[aa (.inl (110,[.pointer (aa ⟨1,0,aj⟩),.int .i64 ti,.int .i64 tg])),aa (.inr (.inr (.inr (.da (nE aw k m ⟨ri,rg⟩ ⟨fi,fg⟩ (fR kE)).2))))],[],[(0,0)]⟩
 |_,_=>aj
def OS (k:Nat):eJ Rs:=[(222,bJ zN 2 (a9 I0)),(80,bJ zN 2 (a9 j9)),(136,bJ zN 2 (a9 uq)),(99,bJ zN 2 (a9 (As k)))]
theorem xD:∀ k:Nat,b9 D Tryz.prog 99 (a9 (As k))
 |0=>by
  refine fu Tryz.f99 fun args hh x hx=>?_
  unfold As at hx;split at hx
  ·rename_i ri rg fi fg kE ti tg m;cases hx;refine q4 fun _ hv=>?_
   exact kL (ig (ig hv))
  ·cases hx
 |k+1=>by
  have ih:=xD k;refine fu Tryz.f99 fun args hh x hx=>?_
  unfold As at hx;split at hx
  ·rename_i ri rg fi fg kE ti tg m;cases hx;refine q4 fun _ hv=>?_
   obtain⟨jT,hv⟩:=hv;generalize fR kE=ke at *;subst jT;obtain⟨hp,hd⟩:=hv
   generalize hG:cj (R:=Rs) _ _=G;refine cL (T:=(OS k)) (show cN D Tryz.prog (OS k) from⟨aU _ _ xR,aU _ _ look_ok,aU _ _ ss,aU _ _ ih,trivial⟩) mixed 200 ?_
   refine bK (q:=let b6:=bm ar;let Z1:=(br aw m (aO ri rg));let Z2:=(aK m (aO ri rg));let Z3:=(fy (bY Z1) (ax (nE aw k Z2 (bc Z1) (aO fi fg) ke)) (bn Z1) (bt Z1) (cu Z1));let Z4:=(av (nE aw k Z2 (bc Z1) (aO fi fg) ke));let Z5:=(cB (ax (gv aw Z4 (aO ri rg) Z3)));let Z6:=(cC (ax (gv aw Z4 (aO ri rg) Z3)));let Z7:=(fy (bY Z1) (bc Z1) (ax (nE aw k Z2 (bn Z1) (aO fi fg) ke)) (bt Z1) (cu Z1));let Z8:=(av (nE aw k Z2 (bn Z1) (aO fi fg) ke));let Z9:=(cB (ax (gv aw Z8 (aO ri rg) Z7)));let dO:=(cC (ax (gv aw Z8 (aO ri rg) Z7)));Vc (PP m)/\((cu Z1==(0:Int))=ao->aX (G (bz (aJ [b6 fi,b6 fg])) [dD 1 ti tg,oP Z2,aa (.inl (108,[b6 ri,b6 rg])),aa (.inl (108,[b6 fi,b6 fg])),aa (.inl (49,(du ke))),aa (.inl (108,[b6 fi,b6 fg])),aa (.inl (136,(bj Z1)))]))/\((cu Z1==(0:Int))=an->Vc True/\Vc True/\(decide (gV aw ke (bY Z1)<(0:Int))=ao->Vc ((du ke)=du ke/\PP Z2/\jb aw k Z2 (bc Z1))/\Vc ((bj Z3)=bj Z3/\PP Z4)/\aX (G (bz (aJ [b6 Z5,b6 Z6])) [dD 1 ti tg,oP (av (gv aw Z4 (aO ri rg) Z3)),aa (.inl (108,[b6 ri,b6 rg])),aa (.inl (108,[b6 fi,b6 fg])),aa (.inl (49,(du ke))),aa (.inl (108,[b6 Z5,b6 Z6])),aa (.inl (136,(bj Z3)))]))/\(decide (gV aw ke (bY Z1)<(0:Int))=an->Vc ((du ke)=du ke/\PP Z2/\jb aw k Z2 (bn Z1))/\Vc ((bj Z7)=bj Z7/\PP Z8)/\aX (G (bz (aJ [b6 Z9,b6 dO])) [dD 1 ti tg,oP (av (gv aw Z8 (aO ri rg) Z7)),aa (.inl (108,[b6 ri,b6 rg])),aa (.inl (108,[b6 fi,b6 fg])),aa (.inl (49,(du ke))),aa (.inl (108,[b6 Z9,b6 dO])),aa (.inl (136,(bj Z7)))])))) ?_ (by kernel_rfl)
   intro b6 Z1 Z2 Z3 Z4 Z5 Z6 Z7 Z8 Z9 dO;subst dO Z9 Z8 Z7 Z6 Z5 Z4 Z3 Z2 Z1 b6;simp only[jb] at hd;have done:∀ (i g:Int) (m':Pl) (rest:Hp Rs),nE aw (k+1) m ⟨ri,rg⟩ ⟨fi,fg⟩ ke=(⟨i,g⟩,m')->G (.agg ⟨[.int .i64 i,.int .i64 g]⟩) ([aa (.inl (110,[.pointer (aa ⟨1,0,aj⟩),.int .i64 ti,.int .i64 tg])),aa (.inr (.inr (.inr (.da m'))))]++rest):=by
    intro i g m' rest e;subst hG;refine⟨[0,1],?_,rfl,⟨.inl rfl,?_,trivial⟩,rfl,rfl,rfl,rfl⟩
    ·simp only[e];rfl
    ·simp only[e];rfl
   clear hG
   repeat' (first|apply cX|apply Vc.mk|apply fits.mk|intro h|apply aX.mk)
   all_goals (try simp only[sB] at *)
   all_goals first|contradiction|omega|exact jv ‹_›|exact jw ‹_›|exact ju ‹_›|exact⟨rfl,by omega⟩|exact rfl|(simp[*,-au];done)|skip
   all_goals first|assumption|(simp only[ja];assumption)|skip
   all_goals first|(rw[qw];rcases hd with hd|hd;exfalso;omega;first|exact hd.1|exact hd.2)|skip
   all_goals (refine done _ _ _ _ ?_;rw[nE];(try dsimp only [mY]);repeat' split)
   all_goals first|rfl|(exfalso;omega)|contradiction|exact kd (qY (by assumption)) rfl|(exfalso;simp_all;done)
  ·cases hx
def su  (k:Nat):Prim Rs:=fun args hh=>match args,hh with
 |[.pointer (aa ⟨0,0,aj⟩),.agg ⟨[.int .i64 ri,.int .i64 rg]⟩,.agg ⟨kE⟩],[aa (.inl (110,[.pointer (aa ⟨1,0,aj⟩),.int .i64 ti,.int .i64 tg])),aa (.inr (.inr (.inr (.da m))))]=>aa ⟨kE=du (fR kE)/\(PP m/\jb aw k m ⟨ri,rg⟩),.bool (nF aw k m ⟨ri,rg⟩ (fR kE)).1,aj,[aa (.inl (110,[.pointer (aa ⟨1,0,aj⟩),.int .i64 ti,.int .i64 tg])),aa (.inr (.inr (.inr (.da (nF aw k m ⟨ri,rg⟩ (fR kE)).2))))],[],[(0,0)]⟩
 |_,_=>aj
def PF (k:Nat):eJ Rs:=[(222,bJ zN 2 (a9 I0)),(80,bJ zN 2 (a9 j9)),(134,bJ zN 2 (a9 ID)),(96,bJ zN 2 (a9 (su k)))]
theorem rP:∀ k:Nat,b9 D Tryz.prog 96 (a9 (su k))
 |0=>by
  refine fu Tryz.f96 fun args hh x hx=>?_
  unfold su at hx;split at hx
  ·rename_i ri rg kE ti tg m;cases hx;refine q4 fun _ hv=>?_
   exact kL (ig (ig hv))
  ·cases hx
 |k+1=>by
  have ih:=rP k;refine fu Tryz.f96 fun args hh x hx=>?_
  unfold su at hx;split at hx
  ·rename_i ri rg kE ti tg m;cases hx;refine q4 fun _ hv=>?_
   obtain⟨jT,hv⟩:=hv;generalize fR kE=ke at *;subst jT;obtain⟨hp,hd⟩:=hv
   generalize hG:cj (R:=Rs) _ _=G;refine cL (T:=(PF k)) (show cN D Tryz.prog (PF k) from⟨aU _ _ xR,aU _ _ look_ok,aU _ _ AL,aU _ _ ih,trivial⟩) mixed 200 ?_
   refine bK (q:=let Z6:=bm ar;let Z1:=(br aw m (aO ri rg));let Z2:=(aK m (aO ri rg));let Z3:=(nF aw k Z2 (bc Z1) ke);let Z4:=(nF aw k Z2 (bn Z1) ke);let Z5:=(fy ke (bc Z1) (bn Z1) (bt Z1) (cu Z1));Vc (PP m)/\((cu Z1==(0:Int))=ao->aX (G (aC an) [dD 1 ti tg,oP Z2,aa (.inl (108,[Z6 ri,Z6 rg])),aa (.inl (49,(du ke))),aa (.inl (136,(bj Z1)))]))/\((cu Z1==(0:Int))=an->Vc True/\Vc True/\(decide (gV aw ke (bY Z1)<(0:Int))=ao->Vc ((du ke)=du ke/\PP Z2/\jb aw k Z2 (bc Z1))/\(ax Z3=ao->Vc ((bj Z1)=bj Z1/\PP (av Z3))/\aX (G (aC (ax Z3)) [dD 1 ti tg,oP (sG aw (av Z3) (aO ri rg) Z1),aa (.inl (108,[Z6 ri,Z6 rg])),aa (.inl (49,(du ke))),aa (.inl (136,(bj Z1)))]))/\(ax Z3=an->aX (G (aC (ax Z3)) [dD 1 ti tg,oP (av Z3),aa (.inl (108,[Z6 ri,Z6 rg])),aa (.inl (49,(du ke))),aa (.inl (136,(bj Z1)))])))/\(decide (gV aw ke (bY Z1)<(0:Int))=an->(decide (gV aw ke (bY Z1)>(0:Int))=ao->Vc ((du ke)=du ke/\PP Z2/\jb aw k Z2 (bn Z1))/\(ax Z4=ao->Vc ((bj Z1)=bj Z1/\PP (av Z4))/\aX (G (aC (ax Z4)) [dD 1 ti tg,oP (sG aw (av Z4) (aO ri rg) Z1),aa (.inl (108,[Z6 ri,Z6 rg])),aa (.inl (49,(du ke))),aa (.inl (136,(bj Z1)))]))/\(ax Z4=an->aX (G (aC (ax Z4)) [dD 1 ti tg,oP (av Z4),aa (.inl (108,[Z6 ri,Z6 rg])),aa (.inl (49,(du ke))),aa (.inl (136,(bj Z1)))])))/\(decide (gV aw ke (bY Z1)>(0:Int))=an->Vc ((bj Z5)=bj Z5/\PP Z2)/\aX (G (aC ao) [dD 1 ti tg,oP (sG aw Z2 (aO ri rg) Z5),aa (.inl (108,[Z6 ri,Z6 rg])),aa (.inl (49,(du ke))),aa (.inl (136,(bj Z5)))]))))) ?_ (by kernel_rfl)
   intro Z6 Z1 Z2 Z3 Z4 Z5;subst Z5 Z4 Z3 Z2 Z1 Z6;simp only[jb] at hd;have done:∀ (b:Bool) (m':Pl) (rest:Hp Rs),nF aw (k+1) m ⟨ri,rg⟩ ke=(b,m')->G (.bool b) ([aa (.inl (110,[.pointer (aa ⟨1,0,aj⟩),.int .i64 ti,.int .i64 tg])),aa (.inr (.inr (.inr (.da m'))))]++rest):=by
    intro b m' rest e;subst hG;refine⟨[0,1],?_,rfl,⟨.inl rfl,?_,trivial⟩,rfl,rfl,rfl,rfl⟩
    ·simp only[e];rfl
    ·simp only[e];rfl
   clear hG
   repeat' (first|apply cX|apply Vc.mk|apply fits.mk|intro h|apply aX.mk)
   all_goals (try simp only[sB] at *)
   all_goals first|contradiction|omega|exact jv ‹_›|exact jw ‹_›|exact ju ‹_›|exact⟨rfl,by omega⟩|exact rfl|(simp[*,-au];done)|skip
   all_goals first|assumption|(simp only[ja];assumption)|skip
   all_goals first|(rw[qw];rcases hd with hd|hd;exfalso;omega;first|exact hd.1|exact hd.2)|skip
   all_goals (refine done _ _ _ ?_;rw[nF];(try dsimp only [mY]);repeat' split)
   all_goals first|rfl|(exfalso;omega)|contradiction|exact kd (qY (by assumption)) rfl|(exfalso;simp_all;done)
  ·cases hx
def wY  (k:Nat):Prim Rs:=fun args hh=>match args,hh with
 |[.pointer (aa ⟨0,0,aj⟩),.agg ⟨[.int .i64 ri,.int .i64 rg]⟩],[aa (.inl (110,[.pointer (aa ⟨1,0,aj⟩),.int .i64 ti,.int .i64 tg])),aa (.inr (.inr (.inr (.da m))))]=>aa ⟨PP m/\xh aw k m ⟨ri,rg⟩,.tuple #[.agg ⟨[.int .i64 (kf aw k m ⟨ri,rg⟩).1.i,.int .i64 (kf aw k m ⟨ri,rg⟩).1.g]⟩,.agg ⟨[.int .i64 (kf aw k m ⟨ri,rg⟩).2.1.i,.int .i64 (kf aw k m ⟨ri,rg⟩).2.1.g]⟩],aj,[aa (.inl (110,[.pointer (aa ⟨1,0,aj⟩),.int .i64 ti,.int .i64 tg])),aa (.inr (.inr (.inr (.da (kf aw k m ⟨ri,rg⟩).2.2))))],[],[(0,0)]⟩
 |_,_=>aj
def JI (k:Nat):eJ Rs:=[(80,bJ zN 2 (a9 j9)),(136,bJ zN 2 (a9 uq)),(163,bJ zN 2 (a9 (wY k)))]
theorem vk:∀ k:Nat,b9 D Tryz.prog 163 (a9 (wY k))
 |0=>by
  refine fu Tryz.f163 fun args hh x hx=>?_
  unfold wY at hx;split at hx
  ·rename_i ri rg ti tg m;cases hx;refine q4 fun _ hv=>?_
   exact kL (ig hv)
  ·cases hx
 |k+1=>by
  have ih:=vk k;refine fu Tryz.f163 fun args hh x hx=>?_
  unfold wY at hx;split at hx
  ·rename_i ri rg ti tg m;cases hx;refine q4 fun _ hv=>?_
   obtain⟨hp,hd⟩:=hv;generalize hG:cj (R:=Rs) _ _=G;refine cL (T:=(JI k)) (show cN D Tryz.prog (JI k) from⟨aU _ _ look_ok,aU _ _ ss,aU _ _ ih,trivial⟩) mixed 200 ?_
   refine bK (q:=let Z9:=bm ar;let Z1:=(br aw m (aO ri rg));let Z2:=(if an=ao then !(cB (bc Z1)==(0:Int)&&(cC (bc Z1)==(0:Int)&&ao)) else cB (bc Z1)==(0:Int)&&(cC (bc Z1)==(0:Int)&&ao));let Z3:=(aK m (aO ri rg));let Z4:=(fy (bY Z1) (ax (kf aw k Z3 (bc Z1))) (bn Z1) (bt Z1) (cu Z1));let Z5:=(av (av (kf aw k Z3 (bc Z1))));let Z6:=(cB (ax (gv aw Z5 (aO ri rg) Z4)));let Z7:=(cC (ax (gv aw Z5 (aO ri rg) Z4)));let Z8:=(ax (av (kf aw k Z3 (bc Z1))));Vc (PP m)/\(Z2=ao->aX (G (cq (aJ [.agg (aJ [Z9 (cB (bn Z1)),Z9 (cC (bn Z1))]),bz (aJ [Z9 ri,Z9 rg])])) [dD 1 ti tg,oP Z3,aa (.inl (108,[Z9 ri,Z9 rg])),aa (.inl (108,[Z9 (cB (bn Z1)),Z9 (cC (bn Z1))])),aa (.inl (108,[Z9 ri,Z9 rg])),aa (.inl (136,(bj Z1)))]))/\(Z2=an->Vc (PP Z3/\xh aw k Z3 (bc Z1))/\Vc ((bj Z4)=bj Z4/\PP Z5)/\aX (G (cq (aJ [.agg (aJ [Z9 Z6,Z9 Z7]),bz (aJ [Z9 (cB Z8),Z9 (cC Z8)])])) [dD 1 ti tg,oP (av (gv aw Z5 (aO ri rg) Z4)),aa (.inl (108,[Z9 ri,Z9 rg])),aa (.inl (108,[Z9 Z6,Z9 Z7])),aa (.inl (108,[Z9 (cB Z8),Z9 (cC Z8)])),aa (.inl (136,(bj Z4)))]))) ?_ (by kernel_rfl)
   intro Z9 Z1 Z2 Z3 Z4 Z5 Z6 Z7 Z8;subst Z8 Z7 Z6 Z5 Z4 Z3 Z2 Z1 Z9;simp only[xh] at hd;have done:∀ (i g i2 g2:Int) (m':Pl) (rest:Hp Rs),kf aw (k+1) m ⟨ri,rg⟩=(⟨i,g⟩,⟨i2,g2⟩,m')->G (.tuple #[.agg ⟨[.int .i64 i,.int .i64 g]⟩,.agg ⟨[.int .i64 i2,.int .i64 g2]⟩]) ([aa (.inl (110,[.pointer (aa ⟨1,0,aj⟩),.int .i64 ti,.int .i64 tg])),aa (.inr (.inr (.inr (.da m'))))]++rest):=by
    intro i g i2 g2 m' rest e;subst hG;refine⟨[0,1],?_,rfl,⟨.inl rfl,?_,trivial⟩,rfl,rfl,rfl,rfl⟩
    ·simp only[e];rfl
    ·simp only[e];rfl
   clear hG
   try simp only[KT,Bf]
   repeat' (first|apply cX|apply Vc.mk|apply fits.mk|intro h|apply aX.mk)
   all_goals (try simp only[sB] at *)
   all_goals first|contradiction|omega|exact jv ‹_›|exact jw ‹_›|exact ju ‹_›|exact⟨rfl,by omega⟩|exact rfl|(simp[*,-au];done)|skip
   all_goals first|assumption|(simp only[ja];assumption)|skip
   all_goals first|(rw[Dh];first|assumption|(rw[if_neg (by assumption),Dh] at hd;exact hd))|skip
   all_goals (refine done _ _ _ _ _ _ ?_;rw[kf];(try dsimp only [mY]);repeat' split)
   all_goals first|rfl|(exfalso;omega)|contradiction|exact kd (qY (by assumption)) rfl|(exfalso;simp_all;done)
  ·cases hx
def Ai  (k:Nat):Prim Rs:=fun args hh=>match args,hh with
 |[.pointer (aa ⟨0,0,aj⟩),.agg ⟨[.int .i64 ai,.int .i64 ag]⟩,.agg ⟨[.int .i64 bi,.int .i64 bg]⟩,.agg ⟨[.int .i64 ci,.int .i64 cg]⟩],[aa (.inl (110,[.pointer (aa ⟨1,0,aj⟩),.int .i64 ti,.int .i64 tg])),aa (.inr (.inr (.inr (.da m))))]=>aa ⟨PP m/\vz aw k m ⟨ai,ag⟩ ⟨bi,bg⟩ ⟨ci,cg⟩,.agg ⟨[.int .i64 (kC aw k m ⟨ai,ag⟩ ⟨bi,bg⟩ ⟨ci,cg⟩).1.i,.int .i64 (kC aw k m ⟨ai,ag⟩ ⟨bi,bg⟩ ⟨ci,cg⟩).1.g]⟩,aj,[aa (.inl (110,[.pointer (aa ⟨1,0,aj⟩),.int .i64 ti,.int .i64 tg])),aa (.inr (.inr (.inr (.da (kC aw k m ⟨ai,ag⟩ ⟨bi,bg⟩ ⟨ci,cg⟩).2))))],[],[(0,0)]⟩
 |_,_=>aj
def Pj (k:Nat):eJ Rs:=[(1000000000,lP),(80,bJ zN 2 (a9 j9)),(136,bJ zN 2 (a9 uq)),(155,bJ zN 2 (a9 AO)),(164,bJ zN 2 (a9 (Ai k)))]
theorem xy:∀ k:Nat,b9 D Tryz.prog 164 (a9 (Ai k))
 |0=>by
  refine fu Tryz.f164 fun args hh x hx=>?_
  unfold Ai at hx;split at hx
  ·rename_i ai ag bi bg ci cg ti tg m;cases hx;refine q4 fun _ hv=>?_
   exact kL (ig hv)
  ·cases hx
 |k+1=>by
  have ih:=xy k;refine fu Tryz.f164 fun args hh x hx=>?_
  unfold Ai at hx;split at hx
  ·rename_i ai ag bi bg ci cg ti tg m;cases hx;refine q4 fun _ hv=>?_
   obtain⟨hp,hd⟩:=hv;generalize hG:cj (R:=Rs) _ _=G;refine cL (T:=(Pj k)) (show cN D Tryz.prog (Pj k) from⟨ix,aU _ _ look_ok,aU _ _ ss,aU _ _ xI,aU _ _ ih,trivial⟩) mixed 200 ?_
   refine bK (q:=let gk:=bm ar;let Z1:=(aO ai ag);let Z2:=(br aw m Z1);let Z3:=(aO ci cg);let Z4:=(br aw (aK m Z1) Z3);let Z5:=(cu Z2>ck ar (cu Z4+(1:Int)));let Z6:=(aK (aK m Z1) Z3);let Z7:=(aO bi bg);let Z8:=(fy (bY Z2) (bc Z2) (ax (kC aw k Z6 (bn Z2) Z7 Z3)) (bt Z2) (cu Z2));let Z9:=(gv aw (av (kC aw k Z6 (bn Z2) Z7 Z3)) Z1 Z8);let dO:=(cu Z4>ck ar (cu Z2+(1:Int)));let b6:=(fy (bY Z4) (ax (kC aw k Z6 Z1 Z7 (bc Z4))) (bn Z4) (bt Z4) (cu Z4));let dx:=(gv aw (av (kC aw k Z6 Z1 Z7 (bc Z4))) Z3 b6);let e_:=(fy (bY (br aw Z6 Z7)) Z1 Z3 (bt (br aw Z6 Z7)) (cu (br aw Z6 Z7)));Vc (PP m)/\Vc (PP (aK m Z1))/\Vc True/\(decide Z5=ao->Vc (PP Z6/\vz aw k Z6 (bn Z2) Z7 Z3)/\Vc ((bj Z8)=bj Z8/\PP (av (kC aw k Z6 (bn Z2) Z7 Z3)))/\aX (G (bz (aJ [gk (cB (ax Z9)),gk (cC (ax Z9))])) [dD 1 ti tg,oP (av Z9),aa (.inl (108,[gk ai,gk ag])),aa (.inl (108,[gk bi,gk bg])),aa (.inl (108,[gk ci,gk cg])),aa (.inl (108,[gk (cB (ax Z9)),gk (cC (ax Z9))])),aa (.inl (136,(bj Z8))),aa (.inl (136,(bj Z4)))]))/\(decide Z5=an->Vc True/\(decide dO=ao->Vc (PP Z6/\vz aw k Z6 Z1 Z7 (bc Z4))/\Vc ((bj b6)=bj b6/\PP (av (kC aw k Z6 Z1 Z7 (bc Z4))))/\aX (G (bz (aJ [gk (cB (ax dx)),gk (cC (ax dx))])) [dD 1 ti tg,oP (av dx),aa (.inl (108,[gk ai,gk ag])),aa (.inl (108,[gk bi,gk bg])),aa (.inl (108,[gk ci,gk cg])),aa (.inl (108,[gk (cB (ax dx)),gk (cC (ax dx))])),aa (.inl (136,(bj Z2))),aa (.inl (136,(bj b6)))]))/\(decide dO=an->Vc (PP Z6)/\Vc ((bj e_)=bj e_/\(bj Z2)=bj Z2/\(bj Z4)=bj Z4/\PP (aK Z6 Z7))/\aX (G (bz (aJ [gk bi,gk bg])) [dD 1 ti tg,oP (D5 aw (aK Z6 Z7) Z7 e_ Z2 Z4),aa (.inl (108,[gk ai,gk ag])),aa (.inl (108,[gk bi,gk bg])),aa (.inl (108,[gk ci,gk cg])),aa (.inl (108,[gk bi,gk bg])),aa (.inl (136,(bj Z2))),aa (.inl (136,(bj Z4))),aa (.inl (136,(bj e_)))])))) ?_ (by kernel_rfl)
   intro gk Z1 Z2 Z3 Z4 Z5 Z6 Z7 Z8 Z9 dO b6 dx e_;subst e_ dx b6 dO Z9 Z8 Z7 Z6 Z5 Z4 Z3 Z2 Z1 gk;rw[vz] at hd
   dsimp only [mY] at hd
   have done:∀ (i g:Int) (m':Pl) (rest:Hp Rs),kC aw (k+1) m ⟨ai,ag⟩ ⟨bi,bg⟩ ⟨ci,cg⟩=(⟨i,g⟩,m')->G (.agg ⟨[.int .i64 i,.int .i64 g]⟩) ([aa (.inl (110,[.pointer (aa ⟨1,0,aj⟩),.int .i64 ti,.int .i64 tg])),aa (.inr (.inr (.inr (.da m'))))]++rest):=by
    intro i g m' rest e;subst hG;refine⟨[0,1],?_,rfl,⟨.inl rfl,?_,trivial⟩,rfl,rfl,rfl,rfl⟩
    ·simp only[e];rfl
    ·simp only[e];rfl
   clear hG
   repeat' (first|apply cX|apply Vc.mk|apply fits.mk|intro h|apply aX.mk)
   all_goals (try simp only[sB] at *)
   all_goals first|contradiction|omega|exact jv ‹_›|exact jw ‹_›|exact ju ‹_›|exact⟨rfl,by omega⟩|exact rfl|(simp[*,-au];done)|skip
   all_goals first|assumption|(simp only[ja];assumption)|skip
   all_goals first|(rw[if_pos (by assumption)] at hd;exact hd)|(rw[if_neg (by omega),if_pos (by assumption)] at hd;exact hd)|skip
   all_goals (refine done _ _ _ _ ?_;rw[kC];(try dsimp only [mY]);repeat' split)
   all_goals first|rfl|(exfalso;omega)|contradiction|exact kd (qY (by assumption)) rfl|(exfalso;simp_all;done)
  ·cases hx
def HV (K:Nat):Prim Rs:=fun args hh=>match args,hh with
 |[.pointer (aa ⟨0,0,aj⟩),.agg ⟨[.int .i64 ai,.int .i64 ag]⟩,.agg ⟨[.int .i64 ci,.int .i64 cg]⟩],[aa (.inl (110,[.pointer (aa ⟨1,0,aj⟩),.int .i64 ti,.int .i64 tg])),aa (.inr (.inr (.inr (.da m))))]=>aa ⟨PP m/\Fs aw K m ⟨ai,ag⟩ ⟨ci,cg⟩,.agg ⟨[.int .i64 (sf aw K m ⟨ai,ag⟩ ⟨ci,cg⟩).1.i,.int .i64 (sf aw K m ⟨ai,ag⟩ ⟨ci,cg⟩).1.g]⟩,aj,[aa (.inl (110,[.pointer (aa ⟨1,0,aj⟩),.int .i64 ti,.int .i64 tg])),aa (.inr (.inr (.inr (.da (sf aw K m ⟨ai,ag⟩ ⟨ci,cg⟩).2))))],[],[(0,0)]⟩
 |_,_=>aj
def P3 (K:Nat):eJ Rs:=[(163,bJ zN 2 (a9 (wY K))),(164,bJ zN 2 (a9 (Ai K)))]
theorem GP (K:Nat):b9 D Tryz.prog 144 (a9 (HV K)):=by
 refine fu Tryz.f144 fun args hh x hx=>?_
 unfold HV at hx;split at hx
 ·rename_i ai ag ci cg ti tg m;cases hx;refine q4 fun _ hv=>?_
  obtain⟨hp,hd⟩:=hv;generalize hG:cj (R:=Rs) _ _=G;refine cL (T:=(P3 K)) (show cN D Tryz.prog (P3 K) from⟨aU _ _ (vk K),aU _ _ (xy K),trivial⟩) mixed 200 ?_
  refine bK (q:=let Z7:=bm ar;let Z1:=(if an=ao then !(ci==(0:Int)&&(cg==(0:Int)&&ao)) else ci==(0:Int)&&(cg==(0:Int)&&ao));let Z2:=(av (av (kf aw K m (aO ci cg))));let Z3:=(ax (av (kf aw K m (aO ci cg))));let Z4:=(ax (kf aw K m (aO ci cg)));let Z5:=(cB (ax (kC aw K Z2 (aO ai ag) Z3 Z4)));let Z6:=(cC (ax (kC aw K Z2 (aO ai ag) Z3 Z4)));(Z1=ao->aX (G (bz (aJ [Z7 ai,Z7 ag])) [dD 1 ti tg,oP m,aa (.inl (108,[Z7 ai,Z7 ag])),aa (.inl (108,[Z7 ci,Z7 cg])),aa (.inl (108,[Z7 ai,Z7 ag]))]))/\(Z1=an->Vc (PP m/\xh aw K m (aO ci cg))/\Vc (PP Z2/\vz aw K Z2 (aO ai ag) Z3 Z4)/\aX (G (bz (aJ [Z7 Z5,Z7 Z6])) [dD 1 ti tg,oP (av (kC aw K Z2 (aO ai ag) Z3 Z4)),aa (.inl (108,[Z7 ai,Z7 ag])),aa (.inl (108,[Z7 ci,Z7 cg])),aa (.inl (108,[Z7 Z5,Z7 Z6])),aa (.inl (108,[Z7 (cB Z4),Z7 (cC Z4)])),aa (.inl (108,[Z7 (cB Z3),Z7 (cC Z3)]))]))) ?_ (by kernel_rfl)
  intro Z7 Z1 Z2 Z3 Z4 Z5 Z6;subst Z6 Z5 Z4 Z3 Z2 Z1 Z7;unfold Fs at hd;have done:∀ (i g:Int) (m':Pl) (rest:Hp Rs),sf aw K m ⟨ai,ag⟩ ⟨ci,cg⟩=(⟨i,g⟩,m')->G (.agg ⟨[.int .i64 i,.int .i64 g]⟩) ([aa (.inl (110,[.pointer (aa ⟨1,0,aj⟩),.int .i64 ti,.int .i64 tg])),aa (.inr (.inr (.inr (.da m'))))]++rest):=by
   intro i g m' rest e;subst hG;refine⟨[0,1],?_,rfl,⟨.inl rfl,?_,trivial⟩,rfl,rfl,rfl,rfl⟩
   ·simp only[e];rfl
   ·simp only[e];rfl
  clear hG
  try simp only[KT,Bf]
  repeat' (first|apply cX|apply Vc.mk|apply fits.mk|intro h|apply aX.mk)
  all_goals (try simp only[sB] at *)
  all_goals first|contradiction|omega|exact jv ‹_›|exact jw ‹_›|exact ju ‹_›|exact⟨rfl,by omega⟩|exact rfl|(simp[*,-au];done)|skip
  all_goals first|assumption|(simp only[ja];assumption)|skip
  all_goals first|(rw[if_neg (by assumption)] at hd;first|exact hd.1|exact hd.2)|skip
  all_goals (refine done _ _ _ _ ?_;unfold sf;(try dsimp only [mY]);repeat' split)
  all_goals first|rfl|(exfalso;omega)|contradiction|exact kd (qY (by assumption)) rfl|(exfalso;simp_all;done)
 ·cases hx
def A3 (K:Nat) (k:Nat):Prim Rs:=fun args hh=>match args,hh with
 |[.pointer (aa ⟨0,0,aj⟩),.agg ⟨[.int .i64 ri,.int .i64 rg]⟩,.agg ⟨kE⟩],[aa (.inl (110,[.pointer (aa ⟨1,0,aj⟩),.int .i64 ti,.int .i64 tg])),aa (.inr (.inr (.inr (.da m))))]=>aa ⟨kE=du (fR kE)/\(PP m/\sH aw K k m ⟨ri,rg⟩ (fR kE)),.tuple #[.agg ⟨[.int .i64 (jt aw K k m ⟨ri,rg⟩ (fR kE)).1.i,.int .i64 (jt aw K k m ⟨ri,rg⟩ (fR kE)).1.g]⟩,.agg ⟨[.int .i64 (jt aw K k m ⟨ri,rg⟩ (fR kE)).2.1.i,.int .i64 (jt aw K k m ⟨ri,rg⟩ (fR kE)).2.1.g]⟩],aj,[aa (.inl (110,[.pointer (aa ⟨1,0,aj⟩),.int .i64 ti,.int .i64 tg])),aa (.inr (.inr (.inr (.da (jt aw K k m ⟨ri,rg⟩ (fR kE)).2.2))))],[],[(0,0)]⟩
 |_,_=>aj
def OA (K:Nat) (k:Nat):eJ Rs:=[(222,bJ zN 2 (a9 I0)),(80,bJ zN 2 (a9 j9)),(136,bJ zN 2 (a9 uq)),(144,bJ zN 2 (a9 (HV K))),(113,bJ zN 2 (a9 (A3 K k)))]
theorem xH (K:Nat):∀ k:Nat,b9 D Tryz.prog 113 (a9 (A3 K k))
 |0=>by
  refine fu Tryz.f113 fun args hh x hx=>?_
  unfold A3 at hx;split at hx
  ·rename_i ri rg kE ti tg m;cases hx;refine q4 fun _ hv=>?_
   exact kL (ig (ig hv))
  ·cases hx
 |k+1=>by
  have ih:=xH K k;refine fu Tryz.f113 fun args hh x hx=>?_
  unfold A3 at hx;split at hx
  ·rename_i ri rg kE ti tg m;cases hx;refine q4 fun _ hv=>?_
   obtain⟨jT,hv⟩:=hv;generalize fR kE=ke at *;subst jT;obtain⟨hp,hd⟩:=hv
   generalize hG:cj (R:=Rs) _ _=G;refine cL (T:=(OA K k)) (show cN D Tryz.prog (OA K k) from⟨aU _ _ xR,aU _ _ look_ok,aU _ _ ss,aU _ _ (GP K),aU _ _ ih,trivial⟩) mixed 200 ?_
   refine bK (q:=let fx:=bm ar;let Z1:=(br aw m (aO ri rg));let Z2:=(aJ [fx ri,fx rg]);let Z3:=(aK m (aO ri rg));let Z4:=(ax (av (jt aw K k Z3 (bc Z1) ke)));let Z5:=(if an=ao then !(cB Z4==(0:Int)&&(cC Z4==(0:Int)&&ao)) else cB Z4==(0:Int)&&(cC Z4==(0:Int)&&ao));let Z6:=(av (av (jt aw K k Z3 (bc Z1) ke)));let Z7:=(fy (bY Z1) (ax (jt aw K k Z3 (bc Z1) ke)) (bn Z1) (bt Z1) (cu Z1));let Z8:=(cB (ax (gv aw Z6 (aO ri rg) Z7)));let Z9:=(cC (ax (gv aw Z6 (aO ri rg) Z7)));let dO:=(ax (av (jt aw K k Z3 (bn Z1) ke)));let b6:=(if an=ao then !(cB dO==(0:Int)&&(cC dO==(0:Int)&&ao)) else cB dO==(0:Int)&&(cC dO==(0:Int)&&ao));let dx:=(av (av (jt aw K k Z3 (bn Z1) ke)));let e_:=(fy (bY Z1) (bc Z1) (ax (jt aw K k Z3 (bn Z1) ke)) (bt Z1) (cu Z1));let gk:=(cB (ax (gv aw dx (aO ri rg) e_)));let kU:=(cC (ax (gv aw dx (aO ri rg) e_)));let jS:=(ax (sf aw K Z3 (bc Z1) (bn Z1)));Vc (PP m)/\((cu Z1==(0:Int))=ao->aX (G (cq (aJ [.agg Z2,bz (aJ [fx 0,fx 0])])) [dD 1 ti tg,oP Z3,aa (.inl (108,[fx ri,fx rg])),aa (.inl (49,(du ke))),aa (.inl (108,[fx ri,fx rg])),aa (.inl (108,[fx 0,fx 0])),aa (.inl (136,(bj Z1)))]))/\((cu Z1==(0:Int))=an->Vc True/\Vc True/\(decide (gV aw ke (bY Z1)<(0:Int))=ao->Vc ((du ke)=du ke/\PP Z3/\sH aw K k Z3 (bc Z1) ke)/\(Z5=ao->aX (G (cq (aJ [.agg Z2,bz (aJ [fx (cB Z4),fx (cC Z4)])])) [dD 1 ti tg,oP Z6,aa (.inl (108,[fx ri,fx rg])),aa (.inl (49,(du ke))),aa (.inl (108,[fx ri,fx rg])),aa (.inl (108,[fx (cB Z4),fx (cC Z4)])),aa (.inl (136,(bj Z7)))]))/\(Z5=an->Vc ((bj Z7)=bj Z7/\PP Z6)/\aX (G (cq (aJ [.agg (aJ [fx Z8,fx Z9]),bz (aJ [fx (cB Z4),fx (cC Z4)])])) [dD 1 ti tg,oP (av (gv aw Z6 (aO ri rg) Z7)),aa (.inl (108,[fx ri,fx rg])),aa (.inl (49,(du ke))),aa (.inl (108,[fx Z8,fx Z9])),aa (.inl (108,[fx (cB Z4),fx (cC Z4)])),aa (.inl (136,(bj Z7)))])))/\(decide (gV aw ke (bY Z1)<(0:Int))=an->(decide (gV aw ke (bY Z1)>(0:Int))=ao->Vc ((du ke)=du ke/\PP Z3/\sH aw K k Z3 (bn Z1) ke)/\(b6=ao->aX (G (cq (aJ [.agg Z2,bz (aJ [fx (cB dO),fx (cC dO)])])) [dD 1 ti tg,oP dx,aa (.inl (108,[fx ri,fx rg])),aa (.inl (49,(du ke))),aa (.inl (108,[fx ri,fx rg])),aa (.inl (108,[fx (cB dO),fx (cC dO)])),aa (.inl (136,(bj e_)))]))/\(b6=an->Vc ((bj e_)=bj e_/\PP dx)/\aX (G (cq (aJ [.agg (aJ [fx gk,fx kU]),bz (aJ [fx (cB dO),fx (cC dO)])])) [dD 1 ti tg,oP (av (gv aw dx (aO ri rg) e_)),aa (.inl (108,[fx ri,fx rg])),aa (.inl (49,(du ke))),aa (.inl (108,[fx gk,fx kU])),aa (.inl (108,[fx (cB dO),fx (cC dO)])),aa (.inl (136,(bj e_)))])))/\(decide (gV aw ke (bY Z1)>(0:Int))=an->Vc (PP Z3/\Fs aw K Z3 (bc Z1) (bn Z1))/\aX (G (cq (aJ [.agg (aJ [fx (cB jS),fx (cC jS)]),bz Z2])) [dD 1 ti tg,oP (av (sf aw K Z3 (bc Z1) (bn Z1))),aa (.inl (108,[fx ri,fx rg])),aa (.inl (49,(du ke))),aa (.inl (108,[fx (cB jS),fx (cC jS)])),aa (.inl (108,[fx ri,fx rg])),aa (.inl (136,(bj Z1)))]))))) ?_ (by kernel_rfl)
   intro fx Z1 Z2 Z3 Z4 Z5 Z6 Z7 Z8 Z9 dO b6 dx e_ gk kU jS;subst jS kU gk e_ dx b6 dO Z9 Z8 Z7 Z6 Z5 Z4 Z3 Z2 Z1 fx;rw[sH] at hd;have done:∀ (i g i2 g2:Int) (m':Pl) (rest:Hp Rs),jt aw K (k+1) m ⟨ri,rg⟩ ke=(⟨i,g⟩,⟨i2,g2⟩,m')->G (.tuple #[.agg ⟨[.int .i64 i,.int .i64 g]⟩,.agg ⟨[.int .i64 i2,.int .i64 g2]⟩]) ([aa (.inl (110,[.pointer (aa ⟨1,0,aj⟩),.int .i64 ti,.int .i64 tg])),aa (.inr (.inr (.inr (.da m'))))]++rest):=by
    intro i g i2 g2 m' rest e;subst hG;refine⟨[0,1],?_,rfl,⟨.inl rfl,?_,trivial⟩,rfl,rfl,rfl,rfl⟩
    ·simp only[e];rfl
    ·simp only[e];rfl
   clear hG
   try simp only[KT,Bf]
   repeat' (first|apply cX|apply Vc.mk|apply fits.mk|intro h|apply aX.mk)
   all_goals (try simp only[sB] at *)
   all_goals first|contradiction|omega|exact jv ‹_›|exact jw ‹_›|exact ju ‹_›|exact⟨rfl,by omega⟩|exact rfl|(simp[*,-au];done)|skip
   all_goals first|assumption|(simp only[ja];assumption)|skip
   all_goals first|(rw[if_neg (by assumption),if_pos (by assumption)] at hd;exact hd)|(rw[if_neg (by assumption),if_neg (by omega),if_pos (by assumption)] at hd;exact hd)|(rw[if_neg (by assumption),if_neg (by omega),if_neg (by omega)] at hd;exact hd)|skip
   all_goals (refine done _ _ _ _ _ _ ?_;rw[jt];(try dsimp only [mY]);repeat' split)
   all_goals first|rfl|(exfalso;omega)|contradiction|exact kd (qY (by assumption)) rfl|(exfalso;simp_all;done)
  ·cases hx
def uH  (k:Nat):Prim Rs:=fun args hh=>match args,hh with
 |[.pointer (aa ⟨0,0,aj⟩),.slice (aa ⟨1,0,aa 8000⟩) n cp,.agg ⟨[.int .i64 ri,.int .i64 rg]⟩],[aa (.inl (110,[.pointer (aa ⟨2,0,aj⟩),.int .i64 ti,.int .i64 tg])),aa (.inr (.inl (49,⟨[.int .i64 0,.bool an,.int .i64 0,.int .i64 0,.bool an,.bool an,.int .i64 0,.int .i64 0],n2,[⟨a0,[],[]⟩,⟨[],a1,[]⟩,⟨a2,[],[]⟩,⟨a3,[],[]⟩,⟨[],a4,[]⟩,⟨[],a5,[]⟩,⟨a6,[],[]⟩,⟨a7,[],[]⟩]⟩))),aa (.inr (.inr (.inr (.da m))))]=>aa ⟨(PP m/\n2=n/\a0.length=n/\a1.length=n/\a2.length=n/\a3.length=n/\a4.length=n/\a5.length=n/\a6.length=n/\a7.length=n/\n+(bW aw k m ⟨ri,rg⟩).1.length<900000)/\jb aw k m ⟨ri,rg⟩,.slice (aa ⟨3,0,aa 8000⟩) (n+(bW aw k m ⟨ri,rg⟩).1.length) (if(bW aw k m ⟨ri,rg⟩).1.length=0 then cp else 0),aj,[aa (.inl (110,[.pointer (aa ⟨2,0,aj⟩),.int .i64 ti,.int .i64 tg])),aj,aa (.inr (.inr (.inr (.da (bW aw k m ⟨ri,rg⟩).2)))),aa (.inr (.inl (49,⟨[.int .i64 0,.bool an,.int .i64 0,.int .i64 0,.bool an,.bool an,.int .i64 0,.int .i64 0],(n+(bW aw k m ⟨ri,rg⟩).1.length),[⟨(a0++(bW aw k m ⟨ri,rg⟩).1.map fun e=>e.t),[],[]⟩,⟨[],(a1++(bW aw k m ⟨ri,rg⟩).1.map fun e=>e.ins),[]⟩,⟨(a2++(bW aw k m ⟨ri,rg⟩).1.map fun e=>e.it.k),[],[]⟩,⟨(a3++(bW aw k m ⟨ri,rg⟩).1.map fun e=>e.it.i),[],[]⟩,⟨[],(a4++(bW aw k m ⟨ri,rg⟩).1.map fun e=>e.here),[]⟩,⟨[],(a5++(bW aw k m ⟨ri,rg⟩).1.map fun e=>e.tf),[]⟩,⟨(a6++(bW aw k m ⟨ri,rg⟩).1.map fun e=>e.tk.k),[],[]⟩,⟨(a7++(bW aw k m ⟨ri,rg⟩).1.map fun e=>e.tk.i),[],[]⟩]⟩)))],[],[(0,0)]⟩
 |_,_=>aj
def GZ (k:Nat):eJ Rs:=[(80,bJ zN 2 (a9 j9)),(60,bJ zN 2 (a9 (uH k)))]
theorem qJ:∀ k:Nat,b9 D Tryz.prog 60 (a9 (uH k))
 |0=>by
  refine fu Tryz.f60 fun args hh x hx=>?_
  unfold uH at hx;split at hx
  ·rename_i n cp ri rg ti tg n2 a0 a1 a2 a3 a4 a5 a6 a7 m;cases hx;refine q4 fun _ hv=>?_
   exact kL (ig hv)
  ·cases hx
 |k+1=>by
  have ih:=qJ k;refine fu Tryz.f60 fun args hh x hx=>?_
  unfold uH at hx;split at hx
  ·rename_i n cp ri rg ti tg n2 a0 a1 a2 a3 a4 a5 a6 a7 m;cases hx;refine q4 fun _ hv=>?_
   obtain⟨⟨hp,rfl,ha0,ha1,ha2,ha3,ha4,ha5,ha6,ha7,hb⟩,hd⟩:=hv;generalize hG:cj (R:=Rs) _ _=G;refine cL (T:=(GZ k)) (show cN D Tryz.prog (GZ k) from⟨aU _ _ look_ok,aU _ _ ih,trivial⟩) mixed 200 ?_
   refine bK (q:=let Z1:=(br aw m (aO ri rg));let Z2:=(du (Ft 0 an (cU 0 0) an an (cU 0 0)));let Z3:=(aK m (aO ri rg));let Z4:=(ax (bW aw k Z3 (bc Z1)));let Z5:=(n2+ae Z4);let Z6:=(av (bW aw k Z3 (bc Z1)));let Z7:=(bY Z1);let Z8:=(ax (bW aw k Z6 (bn Z1)));Vc (PP m)/\((cu Z1==(0:Int))=ao->aX (G (bD (aa ⟨1,0,aa 8000⟩) n2 cp) [dD 2 ti tg,aa (.inr (.inl (49,Row.mk Z2 n2 [aW.mk a0 [] [],aW.mk [] a1 [],aW.mk a2 [] [],aW.mk a3 [] [],aW.mk [] a4 [],aW.mk [] a5 [],aW.mk a6 [] [],aW.mk a7 [] []]))),oP Z3,aa (.inl (108,[.int ar ri,.int ar rg])),aa (.inr (.inl (49,Row.mk Z2 0 [aW.mk [] [] [],aW.mk [] [] [],aW.mk [] [] [],aW.mk [] [] [],aW.mk [] [] [],aW.mk [] [] [],aW.mk [] [] [],aW.mk [] [] []]))),aa (.inl (136,(bj Z1)))]))/\((cu Z1==(0:Int))=an->Vc ((PP Z3/\n2=n2/\ae a0=n2/\ae a1=n2/\ae a2=n2/\ae a3=n2/\ae a4=n2/\ae a5=n2/\ae a6=n2/\ae a7=n2/\n2+ae Z4<900000)/\jb aw k Z3 (bc Z1))/\Vc (0+Z5≤n2+ae Z4/\1≤1/\(n2+ae Z4+1)*64≤140737488355328/\n2+ae Z4+1≤140737488355328)/\Vc ((PP Z6/\n2+ae Z4+1=n2+ae Z4+1/\ae (cut (a0++ay (fun e=>D6 e) Z4) 0 Z5++cut [D6 Z7] 0 1)=n2+ae Z4+1/\ae (cut (a1++ay (fun e=>z6 e) Z4) 0 Z5++cut [z6 Z7] 0 1)=n2+ae Z4+1/\ae (cut (a2++ay (fun e=>m8 (qd e)) Z4) 0 Z5++cut [m8 (qd Z7)] 0 1)=n2+ae Z4+1/\ae (cut (a3++ay (fun e=>m9 (qd e)) Z4) 0 Z5++cut [m9 (qd Z7)] 0 1)=n2+ae Z4+1/\ae (cut (a4++ay (fun e=>xS e) Z4) 0 Z5++cut [xS Z7] 0 1)=n2+ae Z4+1/\ae (cut (a5++ay (fun e=>Ce e) Z4) 0 Z5++cut [Ce Z7] 0 1)=n2+ae Z4+1/\ae (cut (a6++ay (fun e=>m8 (qe e)) Z4) 0 Z5++cut [m8 (qe Z7)] 0 1)=n2+ae Z4+1/\ae (cut (a7++ay (fun e=>m9 (qe e)) Z4) 0 Z5++cut [m9 (qe Z7)] 0 1)=n2+ae Z4+1/\n2+ae Z4+1+ae Z8<900000)/\jb aw k Z6 (bn Z1))/\aX (G (bD (aa ⟨9,0,aa 8000⟩) (n2+ae Z4+1+ae Z8) (if ae Z8=0 then 0 else 0)) [dD 2 ti tg,aj,oP (av (bW aw k Z6 (bn Z1))),aa (.inl (108,[.int ar ri,.int ar rg])),aa (.inr (.inl (49,Row.mk Z2 0 [aW.mk [] [] [],aW.mk [] [] [],aW.mk [] [] [],aW.mk [] [] [],aW.mk [] [] [],aW.mk [] [] [],aW.mk [] [] [],aW.mk [] [] []]))),aa (.inl (136,(bj Z1))),aj,aa (.inr (.inl (49,Row.mk Z2 1 [aW.mk [D6 Z7] [] [],aW.mk [] [z6 Z7] [],aW.mk [m8 (qd Z7)] [] [],aW.mk [m9 (qd Z7)] [] [],aW.mk [] [xS Z7] [],aW.mk [] [Ce Z7] [],aW.mk [m8 (qe Z7)] [] [],aW.mk [m9 (qe Z7)] [] []]))),aj,aa (.inr (.inl (49,Row.mk Z2 (n2+ae Z4+1+ae Z8) [aW.mk (cut (a0++ay (fun e=>D6 e) Z4) 0 Z5++cut [D6 Z7] 0 1++ay (fun e=>D6 e) Z8) [] [],aW.mk [] (cut (a1++ay (fun e=>z6 e) Z4) 0 Z5++cut [z6 Z7] 0 1++ay (fun e=>z6 e) Z8) [],aW.mk (cut (a2++ay (fun e=>m8 (qd e)) Z4) 0 Z5++cut [m8 (qd Z7)] 0 1++ay (fun e=>m8 (qd e)) Z8) [] [],aW.mk (cut (a3++ay (fun e=>m9 (qd e)) Z4) 0 Z5++cut [m9 (qd Z7)] 0 1++ay (fun e=>m9 (qd e)) Z8) [] [],aW.mk [] (cut (a4++ay (fun e=>xS e) Z4) 0 Z5++cut [xS Z7] 0 1++ay (fun e=>xS e) Z8) [],aW.mk [] (cut (a5++ay (fun e=>Ce e) Z4) 0 Z5++cut [Ce Z7] 0 1++ay (fun e=>Ce e) Z8) [],aW.mk (cut (a6++ay (fun e=>m8 (qe e)) Z4) 0 Z5++cut [m8 (qe Z7)] 0 1++ay (fun e=>m8 (qe e)) Z8) [] [],aW.mk (cut (a7++ay (fun e=>m9 (qe e)) Z4) 0 Z5++cut [m9 (qe Z7)] 0 1++ay (fun e=>m9 (qe e)) Z8) [] []])))]))) ?_ (by kernel_rfl)
   intro Z1 Z2 Z3 Z4 Z5 Z6 Z7 Z8;subst Z8 Z7 Z6 Z5 Z4 Z3 Z2 Z1;simp only[jb] at hd;subst hG;have c1:∀ x:Int,cut [x] 0 1=[x]:=fun x=>rfl
   have c2:∀ x:Bool,cut [x] 0 1=[x]:=fun x=>rfl
   have e0:(br aw m (⟨ri,rg⟩:bk)).h=0->bW aw (k+1) m (⟨ri,rg⟩:bk)=([],aK m (⟨ri,rg⟩:bk)):=fun h=>by rw[bW,if_pos h]
   have e1:(br aw m (⟨ri,rg⟩:bk)).h≠0->bW aw (k+1) m (⟨ri,rg⟩:bk)=((bW aw k (aK m (⟨ri,rg⟩:bk)) (br aw m (⟨ri,rg⟩:bk)).l).1++(br aw m (⟨ri,rg⟩:bk)).e::(bW aw k (bW aw k (aK m (⟨ri,rg⟩:bk)) (br aw m (⟨ri,rg⟩:bk)).l).2 (br aw m (⟨ri,rg⟩:bk)).r).1,(bW aw k (bW aw k (aK m (⟨ri,rg⟩:bk)) (br aw m (⟨ri,rg⟩:bk)).l).2 (br aw m (⟨ri,rg⟩:bk)).r).2):=fun h=>by rw[bW,if_neg h]
   have Mq:(br aw m (⟨ri,rg⟩:bk)).h≠0->n2+((bW aw k (aK m (⟨ri,rg⟩:bk)) (br aw m (⟨ri,rg⟩:bk)).l).1.length+((bW aw k (bW aw k (aK m (⟨ri,rg⟩:bk)) (br aw m (⟨ri,rg⟩:bk)).l).2 (br aw m (⟨ri,rg⟩:bk)).r).1.length+1))<900000:=fun h=>by rw[e1 h] at hb;simpa using hb
   generalize hx:bW aw k (aK m (⟨ri,rg⟩:bk)) (br aw m (⟨ri,rg⟩:bk)).l=x at *
   generalize hy:bW aw k x.2 (br aw m (⟨ri,rg⟩:bk)).r=y at *
   have hxp:PP x.2:=by rw[← hx];exact Gv.qJ.2 (jc.2 hp)
   have xd:∀ q,jb aw k x.2 q↔jb aw k m q:=fun q=>by rw[← hx,Gv.Mv,qw]
   simp only[fE (show(a0++x.1.map fun e=>e.t).length=n2+x.1.length by simp[ha0]),fE (show(a1++x.1.map fun e=>e.ins).length=n2+x.1.length by simp[ha1]),fE (show(a2++x.1.map fun e=>e.it.k).length=n2+x.1.length by simp[ha2]),fE (show(a3++x.1.map fun e=>e.it.i).length=n2+x.1.length by simp[ha3]),fE (show(a4++x.1.map fun e=>e.here).length=n2+x.1.length by simp[ha4]),fE (show(a5++x.1.map fun e=>e.tf).length=n2+x.1.length by simp[ha5]),fE (show(a6++x.1.map fun e=>e.tk.k).length=n2+x.1.length by simp[ha6]),fE (show(a7++x.1.map fun e=>e.tk.i).length=n2+x.1.length by simp[ha7]),c1,c2,qw,xd]
   repeat' (first|apply cX|apply Vc.mk|apply fits.mk|intro h|apply aX.mk)
   all_goals (try simp only[sB] at *)
   all_goals first|contradiction|omega|exact jv ‹_›|exact jw ‹_›|exact ju ‹_›|exact⟨rfl,by omega⟩|exact rfl|(simp[*,-au];done)|skip
   all_goals first|omega|assumption|exact jc.2 hp|(rcases hd with hd|hd;exfalso;omega;first|exact hd.1|exact hd.2)|(have:=Mq (by assumption);omega)|(simp;omega)|skip
   ·have h0:(br aw m (⟨ri,rg⟩:bk)).h=0:=by assumption
    rw[e0 h0];simp only[List.length_nil,if_true];refine⟨[0,1,2,1],?_,rfl,?_,rfl,rfl,rfl,(by kernel_rfl)⟩
    ·rfl
    ·simp[du,tW,AE,nth,fW,wI,pB,lR,gh,v7,ub,B6,zi,Gb,yP,AF]
   ·have h0:(br aw m (⟨ri,rg⟩:bk)).h≠0:=by assumption
    rw[e1 h0];have e2:n2+(x.1++(br aw m (⟨ri,rg⟩:bk)).e::y.1).length=n2+x.1.length+1+y.1.length:=by simp;omega
    have e3:(x.1++(br aw m (⟨ri,rg⟩:bk)).e::y.1).length≠0:=by simp
    simp only[e2,if_neg e3,ite_self];refine⟨[0,1,2,9],?_,rfl,?_,rfl,rfl,rfl,(by kernel_rfl)⟩
    ·rfl
    ·simp[du,tW,AE,nth,fW,wI,pB,lR,gh,v7,ub,B6,zi,Gb,yP,AF]
     all_goals first|rfl|omega|skip
  ·cases hx
set_option maxHeartbeats 16000000
def V0  (k:Nat):Prim Rs:=fun args hh=>match args,hh with
 |[.pointer (aa ⟨0,0,aj⟩),.agg ⟨xN⟩,.int .i64 x_,.int .i64 y_],[aa (.inl (110,[.pointer (aa ⟨1,0,aj⟩),.int .i64 ti,.int .i64 tg])),aa (.inr (.inr (.inr (.da m))))]=>aa ⟨xN=bj (fU xN)/\(PP m/\uN aw k m (fU xN) x_ y_),.agg ⟨bV (gT aw k m (fU xN) x_ y_).1⟩,aj,[aa (.inl (110,[.pointer (aa ⟨1,0,aj⟩),.int .i64 ti,.int .i64 tg])),aa (.inr (.inr (.inr (.da (gT aw k m (fU xN) x_ y_).2))))],[],[(0,0)]⟩
 |_,_=>aj
def ahX (k:Nat):eJ Rs:=[(1000000000,lP),(80,bJ zN 2 (a9 j9)),(98,bJ zN 2 (a9 Ag)),(148,bJ zN 2 (a9 ed)),(119,bJ zN 2 (a9 (V0 k)))]
theorem aao:∀ k:Nat,b9 D Tryz.prog 119 (a9 (V0 k))
 |0=>by
  refine fu Tryz.f119 fun args hh x hx=>?_
  unfold V0 at hx;split at hx
  ·rename_i xN x_ y_ ti tg m;cases hx;refine q4 fun _ hv=>?_
   exact kL (ig (ig hv))
  ·cases hx
 |k+1=>by
  have ih:=aao k;refine fu Tryz.f119 fun args hh x hx=>?_
  unfold V0 at hx;split at hx
  ·rename_i xN x_ y_ ti tg m;cases hx;refine q4 fun _ hv=>?_
   obtain⟨jT,hv⟩:=hv;generalize fU xN=xn at *;subst jT;obtain⟨hp,hd⟩:=hv
   generalize hG:cj (R:=Rs) _ _=G;refine cL (T:=(ahX k)) (show cN D Tryz.prog (ahX k) from⟨ix,aU _ _ look_ok,aU _ _ yy,aU _ _ uy,aU _ _ ih,trivial⟩) mixed 200 ?_
   refine bK (q:=let Z1:=(if(0:Int)>x_ then(0:Int) else x_);let Z2:=(bt xn);let Z3:=(bV (my 0 (xj (iP 0 0 0) (iP 0 0 0) 0 0 (cU 0 0) an (cU 0 0) an (cU 0 0))));let Z4:=(if bM Z2<y_ then bM Z2 else y_);let Z5:=(br aw m (bc xn));let Z6:=(bM (bt Z5)<if bM Z2<y_ then bM Z2 else y_);let Z7:=(ax (gT aw k (aK m (bc xn)) Z5 Z1 Z4));let Z8:=(eD aw Z7 (nK aw (bY xn)));let Z9:=(av (gT aw k (aK m (bc xn)) Z5 Z1 Z4));let dO:=(br aw Z9 (bn xn));let b6:=(ck ar (ck ar (Z1-bM (bt Z5))-(1:Int)));let dx:=(ck ar (ck ar (Z4-bM (bt Z5))-(1:Int)));let e_:=(gT aw k (aK Z9 (bn xn)) dO b6 dx);(decide (Z1≥if bM Z2<y_ then bM Z2 else y_)=ao->aX (G (bz (aJ Z3)) [dD 1 ti tg,oP m,aa (.inl (136,(bj xn))),aa (.inl (134,Z3))]))/\(decide (Z1≥if bM Z2<y_ then bM Z2 else y_)=an->((Z1==(0:Int))=ao->((Z4==bM Z2)=ao->aX (G (bz (aJ (bV Z2))) [dD 1 ti tg,oP m,aa (.inl (136,(bj xn))),aa (.inl (134,(bV Z2)))]))/\((Z4==bM Z2)=an->Vc (PP m)/\Vc ((bj Z5)=bj Z5/\PP (aK m (bc xn))/\uN aw k (aK m (bc xn)) Z5 Z1 Z4)/\(decide (Z1≤bM (bt Z5))=ao->(decide Z6=ao->Vc ((du (bY xn))=du (bY xn)/\True)/\Vc ((bV Z7)=bV Z7/\(bV (nK aw (bY xn)))=bV (nK aw (bY xn))/\True)/\Vc True/\(decide (Z4≤ck ar (bM (bt Z5)+(1:Int)))=ao->aX (G (bz (aJ (bV Z8))) [dD 1 ti tg,oP Z9,aa (.inl (136,(bj xn))),aa (.inl (134,(bV Z8))),aa (.inl (136,(bj Z5))),aa (.inl (134,(bV Z8)))]))/\(decide (Z4≤ck ar (bM (bt Z5)+(1:Int)))=an->Vc (PP Z9)/\Vc True/\Vc True/\Vc True/\Vc True/\Vc ((bj dO)=bj dO/\PP (aK Z9 (bn xn))/\uN aw k (aK Z9 (bn xn)) dO b6 dx)/\Vc ((bV Z8)=bV Z8/\(bV (ax e_))=bV (ax e_)/\True)/\aX (G (bz (aJ (bV (eD aw Z8 (ax e_))))) [dD 1 ti tg,oP (av e_),aa (.inl (136,(bj xn))),aa (.inl (134,(bV (eD aw Z8 (ax e_))))),aa (.inl (136,(bj Z5))),aa (.inl (134,(bV Z8)))])))/\(decide Z6=an->Vc True/\(decide (Z4≤ck ar (bM (bt Z5)+(1:Int)))=ao->aX (G (bz (aJ (bV Z7))) [dD 1 ti tg,oP Z9,aa (.inl (136,(bj xn))),aa (.inl (134,(bV Z7))),aa (.inl (136,(bj Z5))),aa (.inl (134,(bV Z7)))]))/\(decide (Z4≤ck ar (bM (bt Z5)+(1:Int)))=an->Vc (PP Z9)/\Vc True/\Vc True/\Vc True/\Vc True/\Vc ((bj dO)=bj dO/\PP (aK Z9 (bn xn))/\uN aw k (aK Z9 (bn xn)) dO b6 dx)/\Vc ((bV Z7)=bV Z7/\(bV (ax e_))=bV (ax e_)/\True)/\aX (G (bz (aJ (bV (eD aw Z7 (ax e_))))) [dD 1 ti tg,oP (av e_),aa (.inl (136,(bj xn))),aa (.inl (134,(bV (eD aw Z7 (ax e_))))),aa (.inl (136,(bj Z5))),aa (.inl (134,(bV Z7)))]))))/\(decide (Z1≤bM (bt Z5))=an->Vc True/\(decide (Z4≤ck ar (bM (bt Z5)+(1:Int)))=ao->aX (G (bz (aJ (bV Z7))) [dD 1 ti tg,oP Z9,aa (.inl (136,(bj xn))),aa (.inl (134,(bV Z7))),aa (.inl (136,(bj Z5))),aa (.inl (134,(bV Z7)))]))/\(decide (Z4≤ck ar (bM (bt Z5)+(1:Int)))=an->Vc (PP Z9)/\Vc True/\Vc True/\Vc True/\Vc True/\Vc ((bj dO)=bj dO/\PP (aK Z9 (bn xn))/\uN aw k (aK Z9 (bn xn)) dO b6 dx)/\Vc ((bV Z7)=bV Z7/\(bV (ax e_))=bV (ax e_)/\True)/\aX (G (bz (aJ (bV (eD aw Z7 (ax e_))))) [dD 1 ti tg,oP (av e_),aa (.inl (136,(bj xn))),aa (.inl (134,(bV (eD aw Z7 (ax e_))))),aa (.inl (136,(bj Z5))),aa (.inl (134,(bV Z7)))])))))/\((Z1==(0:Int))=an->Vc (PP m)/\Vc ((bj Z5)=bj Z5/\PP (aK m (bc xn))/\uN aw k (aK m (bc xn)) Z5 Z1 Z4)/\(decide (Z1≤bM (bt Z5))=ao->(decide Z6=ao->Vc ((du (bY xn))=du (bY xn)/\True)/\Vc ((bV Z7)=bV Z7/\(bV (nK aw (bY xn)))=bV (nK aw (bY xn))/\True)/\Vc True/\(decide (Z4≤ck ar (bM (bt Z5)+(1:Int)))=ao->aX (G (bz (aJ (bV Z8))) [dD 1 ti tg,oP Z9,aa (.inl (136,(bj xn))),aa (.inl (134,(bV Z8))),aa (.inl (136,(bj Z5))),aa (.inl (134,(bV Z8)))]))/\(decide (Z4≤ck ar (bM (bt Z5)+(1:Int)))=an->Vc (PP Z9)/\Vc True/\Vc True/\Vc True/\Vc True/\Vc ((bj dO)=bj dO/\PP (aK Z9 (bn xn))/\uN aw k (aK Z9 (bn xn)) dO b6 dx)/\Vc ((bV Z8)=bV Z8/\(bV (ax e_))=bV (ax e_)/\True)/\aX (G (bz (aJ (bV (eD aw Z8 (ax e_))))) [dD 1 ti tg,oP (av e_),aa (.inl (136,(bj xn))),aa (.inl (134,(bV (eD aw Z8 (ax e_))))),aa (.inl (136,(bj Z5))),aa (.inl (134,(bV Z8)))])))/\(decide Z6=an->Vc True/\(decide (Z4≤ck ar (bM (bt Z5)+(1:Int)))=ao->aX (G (bz (aJ (bV Z7))) [dD 1 ti tg,oP Z9,aa (.inl (136,(bj xn))),aa (.inl (134,(bV Z7))),aa (.inl (136,(bj Z5))),aa (.inl (134,(bV Z7)))]))/\(decide (Z4≤ck ar (bM (bt Z5)+(1:Int)))=an->Vc (PP Z9)/\Vc True/\Vc True/\Vc True/\Vc True/\Vc ((bj dO)=bj dO/\PP (aK Z9 (bn xn))/\uN aw k (aK Z9 (bn xn)) dO b6 dx)/\Vc ((bV Z7)=bV Z7/\(bV (ax e_))=bV (ax e_)/\True)/\aX (G (bz (aJ (bV (eD aw Z7 (ax e_))))) [dD 1 ti tg,oP (av e_),aa (.inl (136,(bj xn))),aa (.inl (134,(bV (eD aw Z7 (ax e_))))),aa (.inl (136,(bj Z5))),aa (.inl (134,(bV Z7)))]))))/\(decide (Z1≤bM (bt Z5))=an->Vc True/\(decide (Z4≤ck ar (bM (bt Z5)+(1:Int)))=ao->aX (G (bz (aJ (bV Z7))) [dD 1 ti tg,oP Z9,aa (.inl (136,(bj xn))),aa (.inl (134,(bV Z7))),aa (.inl (136,(bj Z5))),aa (.inl (134,(bV Z7)))]))/\(decide (Z4≤ck ar (bM (bt Z5)+(1:Int)))=an->Vc (PP Z9)/\Vc True/\Vc True/\Vc True/\Vc True/\Vc ((bj dO)=bj dO/\PP (aK Z9 (bn xn))/\uN aw k (aK Z9 (bn xn)) dO b6 dx)/\Vc ((bV Z7)=bV Z7/\(bV (ax e_))=bV (ax e_)/\True)/\aX (G (bz (aJ (bV (eD aw Z7 (ax e_))))) [dD 1 ti tg,oP (av e_),aa (.inl (136,(bj xn))),aa (.inl (134,(bV (eD aw Z7 (ax e_))))),aa (.inl (136,(bj Z5))),aa (.inl (134,(bV Z7)))])))))) ?_ (by kernel_rfl)
   intro Z1 Z2 Z3 Z4 Z5 Z6 Z7 Z8 Z9 dO b6 dx e_;subst e_ dx b6 dO Z9 Z8 Z7 Z6 Z5 Z4 Z3 Z2 Z1;rw[uN] at hd
   dsimp only [mY,Gv.mx,Gv.mn] at hd
   have done:∀ (o:Gv.Part Wv.Sw) (m':Pl) (rest:Hp Rs),gT aw (k+1) m xn x_ y_=(o,m')->G (.agg ⟨bV o⟩) ([aa (.inl (110,[.pointer (aa ⟨1,0,aj⟩),.int .i64 ti,.int .i64 tg])),aa (.inr (.inr (.inr (.da m'))))]++rest):=by
    intro o m' rest e;subst hG;refine⟨[0,1],?_,rfl,⟨.inl rfl,?_,trivial⟩,rfl,rfl,rfl,rfl⟩
    ·simp only[e];rfl
    ·simp only[e];rfl
   clear hG;rw[gT] at done
   dsimp only [mY,Gv.mx,Gv.mn] at done
   repeat' (first|apply cX|apply Vc.mk|apply fits.mk|intro h|apply aX.mk)
   all_goals (try simp only[sB] at *)
   all_goals first|contradiction|omega|exact jv ‹_›|exact jw ‹_›|exact ju ‹_›|exact⟨rfl,by omega⟩|exact rfl|(simp[*,-au];done)|skip
   all_goals first|assumption|(simp only[ja];assumption)|skip
   all_goals first|exact(hd (by omega) (by omega)).1|exact(hd (by omega) (by omega)).2 (by omega)|skip
   all_goals (refine done _ _ _ ?_;repeat' split)
   all_goals first|rfl|(exfalso;omega)
  ·cases hx
def TY:eJ Rs:=[(130,bJ zN 2 (a9 Nu))]
theorem QF:cN D Tryz.prog TY:=⟨aU _ _ UI,trivial⟩
def Iz:Prim Rs:=fun args hh=>match args,hh with
 |[.int .i64 c],[]=>aa ⟨True,.pointer (aa ⟨0,0,aj⟩),aj,[aa (.inl (110,[.pointer (aa ⟨1,0,aj⟩),.int .i64 Gv.r0.i,.int .i64 Gv.r0.g])),aa (.inr (.inr (.inr (.da ⟨[],[],[],[],0,min (max c 0) 16777216,0⟩))))],[],[(0,0)]⟩
 |_,_=>aj
theorem Rr:b9 D Tryz.prog 90 (a9 Iz):=by
 refine fu Tryz.f90 fun args hh x hx=>?_
 unfold Iz at hx;split at hx
 ·rename_i c;cases hx;refine q4 fun _ hv=>?_
  generalize hG:cj (R:=Rs) _ _=G;refine cL (T:=TY) QF mixed 200 ?_;refine bK (q:=Vc True/\aX (G (aB (aa ⟨1,0,aj⟩)) [oP (Gv.PM.mk [] [] [] [] (0:Int) (min (max c (0:Int)) (16777216:Int)) (0:Int)),dD 0 0 0])) ?_ (by kernel_rfl)
  subst hG
  repeat' (first|apply cX|apply Vc.mk|apply fits.mk|intro h|apply aX.mk)
  all_goals (try simp only[sB] at *)
  all_goals first|contradiction|omega|exact jv ‹_›|exact jw ‹_›|exact ju ‹_›|exact⟨rfl,by omega⟩|exact rfl|(simp[*,-au];done)|skip
  exact⟨[1,0],rfl,rfl,⟨.inl rfl,rfl,trivial⟩,rfl,rfl,rfl,rfl⟩
 ·cases hx
def Ks:eJ Rs:=[(80,bJ zN 2 (a9 j9))]
theorem JT:cN D Tryz.prog Ks:=⟨aU _ _ look_ok,trivial⟩
def B1:Prim Rs:=fun args hh=>match args,hh with
 |[.pointer (aa ⟨0,0,aj⟩)],[aa (.inl (110,[.pointer (aa ⟨1,0,aj⟩),.int .i64 ti,.int .i64 tg])),aa (.inr (.inr (.inr (.da m))))]=>aa ⟨PP m,.int .i64 (br aw m (⟨ti,tg⟩:bk)).all.n,aj,[aa (.inl (110,[.pointer (aa ⟨1,0,aj⟩),.int .i64 ti,.int .i64 tg])),aa (.inr (.inr (.inr (.da (aK m (⟨ti,tg⟩:bk))))))],[],[(0,0)]⟩
 |_,_=>aj
theorem JR:b9 D Tryz.prog 40 (a9 B1):=by
 refine fu Tryz.f40 fun args hh x hx=>?_
 unfold B1 at hx;split at hx
 ·rename_i ti tg m;cases hx;refine q4 fun _ hv=>?_
  generalize hG:cj (R:=Rs) _ _=G;refine cL (T:=Ks) JT mixed 200 ?_;refine bK (q:=Vc (PP m)/\aX (G (bm ar (bM (bt (br aw m (aO ti tg))))) [dD 1 ti tg,oP (aK m (aO ti tg))])) ?_ (by kernel_rfl)
  subst hG
  repeat' (first|apply cX|apply Vc.mk|apply fits.mk|intro h|apply aX.mk)
  all_goals (try simp only[sB] at *)
  all_goals first|contradiction|omega|exact jv ‹_›|exact jw ‹_›|exact ju ‹_›|exact⟨rfl,by omega⟩|exact rfl|(simp[*,-au];done)|skip
  all_goals first|assumption|(simp only[ja];assumption)|skip
  exact⟨[0,1],rfl,rfl,⟨.inl rfl,rfl,trivial⟩,rfl,rfl,rfl,rfl⟩
 ·cases hx
def V':eJ Rs:=[(117,bJ zN 2 (a9 B7))]
theorem Q4:cN D Tryz.prog V':=⟨aU _ _ Kb,trivial⟩
def yV:Prim Rs:=fun args hh=>match args,hh with
 |[.pointer (aa ⟨0,0,aj⟩)],[aa (.inl (110,[.pointer (aa ⟨1,0,aj⟩),.int .i64 ti,.int .i64 tg])),aa (.inr (.inr (.inr (.da m))))]=>aa ⟨True,.int .i64 m.cW,aj,hh,[],[]⟩
 |_,_=>aj
theorem HR:b9 D Tryz.prog 76 (a9 yV):=by
 refine fu Tryz.f76 fun args hh x hx=>?_
 unfold yV at hx;split at hx
 ·rename_i ti tg m;cases hx;refine q4 fun _ hv=>?_
  generalize hG:cj (R:=Rs) _ _=G;refine cL (T:=V') Q4 mixed 200 ?_;refine bK (q:=Vc True/\aX (G (bm ar (Gv.PM.cW m)) [dD 1 ti tg,oP m])) ?_ (by kernel_rfl)
  subst hG
  repeat' (first|apply cX|apply Vc.mk|apply fits.mk|intro h|apply aX.mk)
  all_goals (try simp only[sB] at *)
  all_goals first|contradiction|omega|exact jv ‹_›|exact jw ‹_›|exact ju ‹_›|exact⟨rfl,by omega⟩|exact rfl|(simp[*,-au];done)|skip
  exact⟨[0,1],rfl,rfl,⟨.inl rfl,rfl,trivial⟩,rfl,rfl,rfl,rfl⟩
 ·cases hx
def Ih (K:Nat):Prim Rs:=fun args hh=>match args,hh with
 |[.pointer (aa ⟨0,0,aj⟩),.agg ⟨kE⟩],[aa (.inl (110,[.pointer (aa ⟨1,0,aj⟩),.int .i64 ti,.int .i64 tg])),aa (.inr (.inr (.inr (.da m))))]=>aa ⟨kE=du (fR kE)/\(PP m/\Gv.QT aw K m (⟨ti,tg⟩:bk) (fR kE)),.bool (uP aw K m (⟨ti,tg⟩:bk) (fR kE)).1,aj,[aa (.inl (110,[.pointer (aa ⟨1,0,aj⟩),.int .i64 (uP aw K m (⟨ti,tg⟩:bk) (fR kE)).2.1.i,.int .i64 (uP aw K m (⟨ti,tg⟩:bk) (fR kE)).2.1.g])),aa (.inr (.inr (.inr (.da (uP aw K m (⟨ti,tg⟩:bk) (fR kE)).2.2))))],[],[(0,0)]⟩
 |_,_=>aj
def Om (K:Nat):eJ Rs:=[(96,bJ zN 2 (a9 (su K))),(98,bJ zN 2 (a9 Ag)),(97,bJ zN 2 (a9 Ia)),(99,bJ zN 2 (a9 (As K)))]
theorem Qu (K:Nat):b9 D Tryz.prog 67 (a9 (Ih K)):=by
 refine fu Tryz.f67 fun args hh x hx=>?_
 unfold Ih at hx;split at hx
 ·rename_i kE ti tg m;cases hx;refine q4 fun _ hv=>?_
  obtain⟨jT,hv⟩:=hv;generalize fR kE=ke at *;subst jT;obtain⟨hp,hd⟩:=hv
  generalize hG:cj (R:=Rs) _ _=G;refine cL (T:=(Om K)) (show cN D Tryz.prog (Om K) from⟨aU _ _ (rP K),aU _ _ yy,aU _ _ tu,aU _ _ (xD K),trivial⟩) mixed 200 ?_
  refine bK (q:=let Z1:=(nF aw K m (aO ti tg) ke);let Z2:=(fy ke (aO (0:Int) (0:Int)) (aO (0:Int) (0:Int)) (nK aw ke) (1:Int));let Z3:=(Gv.put zd (av Z1) Z2);let Z4:=(aC !decide (fM (av Z1)=ic (av Z1)));let Z5:=(nE aw K Z3 (aO ti tg) (lu zd (av Z1)) ke);Vc ((du ke)=du ke/\PP m/\jb aw K m (aO ti tg))/\(ax Z1=ao->aX (G (aC ao) [dD 1 ti tg,oP (av Z1),aa (.inl (49,(du ke)))]))/\(ax Z1=an->Vc ((du ke)=du ke/\True)/\Vc ((bj (fy ke (aO 0 0) (aO 0 0) (nK aw ke) 1))=bj Z2/\PP (av Z1))/\((!decide (fM (av Z1)=ic (av Z1)))=ao->Vc ((du ke)=du ke/\PP Z3/\jb aw K Z3 (aO ti tg))/\aX (G Z4 [dD 1 (cB (ax Z5)) (cC (ax Z5)),oP (av Z5),aa (.inl (49,(du ke))),aa (.inl (108,[.int ar (cB (lu zd (av Z1))),.int ar (cC (lu zd (av Z1)))]))]))/\((!decide (fM (av Z1)=ic (av Z1)))=an->aX (G Z4 [dD 1 ti tg,oP Z3,aa (.inl (49,(du ke))),aa (.inl (108,[.int ar (cB (lu zd (av Z1))),.int ar (cC (lu zd (av Z1)))]))])))) ?_ (by kernel_rfl)
  intro Z1 Z2 Z3 Z4 Z5;subst Z5 Z4 Z3 Z2 Z1;obtain⟨T5,xd⟩:=hd;have done:∀ (b:Bool) (i g:Int) (m':Pl) (rest:Hp Rs),uP aw K m (⟨ti,tg⟩:bk) ke=(b,⟨i,g⟩,m')->G (.bool b) ([aa (.inl (110,[.pointer (aa ⟨1,0,aj⟩),.int .i64 (⟨i,g⟩:bk).i,.int .i64 (⟨i,g⟩:bk).g])),aa (.inr (.inr (.inr (.da m'))))]++rest):=by
   intro b i g m' rest e;subst hG;refine⟨[0,1],?_,rfl,⟨.inl ?_,?_,trivial⟩,rfl,rfl,rfl,rfl⟩
   ·simp only[e];rfl
   ·simp only[e];rfl
   ·simp only[e];rfl
  clear hG
  repeat' (first|apply cX|apply Vc.mk|apply fits.mk|intro h|apply aX.mk)
  all_goals (try simp only[sB] at *)
  all_goals first|contradiction|omega|exact jv ‹_›|exact jw ‹_›|exact ju ‹_›|exact⟨rfl,by omega⟩|exact rfl|(simp[*,-au];done)|skip
  all_goals first|assumption|(simp only[ja];assumption)|skip
  all_goals first|exact(xd (by assumption)).1|exact(xd (by assumption)).2|skip
  all_goals (refine done _ _ _ _ _ ?_;unfold uP;repeat' split)
  all_goals first|rfl|(exfalso;simp_all;done)|(refine kd ?_ rfl;simp[*];done)
 ·cases hx
def Et (K:Nat):Prim Rs:=fun args hh=>match args,hh with
 |[.pointer (aa ⟨0,0,aj⟩),.agg ⟨kE⟩],[aa (.inl (110,[.pointer (aa ⟨1,0,aj⟩),.int .i64 ti,.int .i64 tg])),aa (.inr (.inr (.inr (.da m))))]=>aa ⟨kE=du (fR kE)/\(PP m/\sH aw K K m (⟨ti,tg⟩:bk) (fR kE)),.tuple #[.agg ⟨du (jR aw K m (⟨ti,tg⟩:bk) (fR kE)).1⟩,.bool (jR aw K m (⟨ti,tg⟩:bk) (fR kE)).2.1],aj,[aa (.inl (110,[.pointer (aa ⟨1,0,aj⟩),.int .i64 (jR aw K m (⟨ti,tg⟩:bk) (fR kE)).2.2.1.i,.int .i64 (jR aw K m (⟨ti,tg⟩:bk) (fR kE)).2.2.1.g])),aa (.inr (.inr (.inr (.da (jR aw K m (⟨ti,tg⟩:bk) (fR kE)).2.2.2))))],[],[(0,0)]⟩
 |_,_=>aj
def KA (K:Nat):eJ Rs:=[(113,bJ zN 2 (a9 (A3 K K))),(114,bJ zN 2 (a9 Cr))]
theorem M8 (K:Nat):b9 D Tryz.prog 74 (a9 (Et K)):=by
 refine fu Tryz.f74 fun args hh x hx=>?_
 unfold Et at hx;split at hx
 ·rename_i kE ti tg m;cases hx;refine q4 fun _ hv=>?_
  obtain⟨jT,hv⟩:=hv;generalize fR kE=ke at *;subst jT;obtain⟨hp,hd⟩:=hv
  generalize hG:cj (R:=Rs) _ _=G;refine cL (T:=(KA K)) (show cN D Tryz.prog (KA K) from⟨aU _ _ (xH K K),aU _ _ tc,trivial⟩) mixed 200 ?_
  refine bK (q:=let Z1:=(av (av (jt aw K K m (aO ti tg) ke)));let Z2:=(ax (av (jt aw K K m (aO ti tg) ke)));let Z3:=(cB (ax (jt aw K K m (aO ti tg) ke)));let Z4:=(cC (ax (jt aw K K m (aO ti tg) ke)));Vc ((du ke)=du ke/\PP m/\sH aw K K m (aO ti tg) ke)/\Vc (PP Z1)/\aX (G (cq (aJ [.agg (aJ (du (bY (jQ zd Z1 Z2)))),.bool (Gv.has Z1 Z2)])) [dD 1 Z3 Z4,oP (Gv.drop zd Z1 Z2),aa (.inl (49,(du ke))),aa (.inl (49,(du (bY (jQ zd Z1 Z2))))),aa (.inl (108,[.int ar Z3,.int ar Z4])),aa (.inl (108,[.int ar (cB Z2),.int ar (cC Z2)])),aa (.inl (136,(bj (jQ zd Z1 Z2))))])) ?_ (by kernel_rfl)
  intro Z1 Z2 Z3 Z4;subst Z4 Z3 Z2 Z1;subst hG
  repeat' (first|apply cX|apply Vc.mk|apply fits.mk|intro h|apply aX.mk)
  all_goals (try simp only[sB] at *)
  all_goals first|contradiction|omega|exact jv ‹_›|exact jw ‹_›|exact ju ‹_›|exact⟨rfl,by omega⟩|exact rfl|(simp[*,-au];done)|skip
  all_goals first|assumption|(simp only[ja];assumption)|skip
  exact⟨[0,1],rfl,rfl,⟨.inl rfl,rfl,trivial⟩,rfl,rfl,rfl,rfl⟩
 ·cases hx
def ZR (K:Nat):Prim Rs:=fun args hh=>match args,hh with
 |[.pointer (aa ⟨0,0,aj⟩),.int .i64 x_,.int .i64 y_],[aa (.inl (110,[.pointer (aa ⟨1,0,aj⟩),.int .i64 ti,.int .i64 tg])),aa (.inr (.inr (.inr (.da m))))]=>aa ⟨PP m/\uN aw K (aK m (⟨ti,tg⟩:bk)) (br aw m (⟨ti,tg⟩:bk)) x_ y_,.agg ⟨ko (gT aw K (aK m (⟨ti,tg⟩:bk)) (br aw m (⟨ti,tg⟩:bk)) x_ y_).1.sum⟩,aj,[aa (.inl (110,[.pointer (aa ⟨1,0,aj⟩),.int .i64 ti,.int .i64 tg])),aa (.inr (.inr (.inr (.da (gT aw K (aK m (⟨ti,tg⟩:bk)) (br aw m (⟨ti,tg⟩:bk)) x_ y_).2))))],[],[(0,0)]⟩
 |_,_=>aj
def afp (K:Nat):eJ Rs:=[(80,bJ zN 2 (a9 j9)),(119,bJ zN 2 (a9 (V0 K)))]
theorem ahc (K:Nat):b9 D Tryz.prog 78 (a9 (ZR K)):=by
 refine fu Tryz.f78 fun args hh x hx=>?_
 unfold ZR at hx;split at hx
 ·rename_i x_ y_ ti tg m;cases hx;refine q4 fun _ hv=>?_
  obtain⟨hp,hd⟩:=hv;generalize hG:cj (R:=Rs) _ _=G;refine cL (T:=(afp K)) (show cN D Tryz.prog (afp K) from⟨aU _ _ look_ok,aU _ _ (aao K),trivial⟩) mixed 200 ?_
  refine bK (q:=let Z1:=(br aw m (aO ti tg));let Z2:=(ko (bG (ax (gT aw K (aK m (aO ti tg)) Z1 x_ y_))));Vc (PP m)/\Vc ((bj Z1)=bj Z1/\PP (aK m (aO ti tg))/\uN aw K (aK m (aO ti tg)) Z1 x_ y_)/\aX (G (bz (aJ Z2)) [dD 1 ti tg,oP (av (gT aw K (aK m (aO ti tg)) Z1 x_ y_)),aa (.inl (53,Z2))])) ?_ (by kernel_rfl)
  intro Z1 Z2;subst Z2 Z1;subst hG
  repeat' (first|apply cX|apply Vc.mk|apply fits.mk|intro h|apply aX.mk)
  all_goals (try simp only[sB] at *)
  all_goals first|contradiction|omega|exact jv ‹_›|exact jw ‹_›|exact ju ‹_›|exact⟨rfl,by omega⟩|exact rfl|(simp[*,-au];done)|skip
  all_goals first|assumption|(simp only[ja];assumption)|skip
  exact⟨[0,1],rfl,rfl,⟨.inl rfl,rfl,trivial⟩,rfl,rfl,rfl,rfl⟩
 ·cases hx
theorem M9:Ll [0] (a9 B1):=by
 intro b args h x hx i hi hl;cases b with
 |false=>cases hx
 |true =>
  simp only[a9,je.go,B1] at hx;split at hx
  ·injection hx with hx
   subst hx;simp only[List.mem_singleton] at hi;subst hi
   rfl
  ·cases hx
def HS (K:Nat):Prim Rs:=fun args hh=>match args,hh with
 |[.pointer (aa ⟨0,0,aj⟩)],[aa (.inl (110,[.pointer (aa ⟨1,0,aj⟩),.int .i64 ti,.int .i64 tg])),aa (.inr (.inr (.inr (.da m))))]=>aa ⟨PP m/\jb aw K m (⟨ti,tg⟩:bk)/\(br aw m (⟨ti,tg⟩:bk)).all.n=(bW aw K (aK m (⟨ti,tg⟩:bk)) (⟨ti,tg⟩:bk)).1.length/\(bW aw K (aK m (⟨ti,tg⟩:bk)) (⟨ti,tg⟩:bk)).1.length<900000,.slice (aa ⟨2,0,aa 8000⟩) (bW aw K (aK m (⟨ti,tg⟩:bk)) (⟨ti,tg⟩:bk)).1.length 0,aj,[aa (.inl (110,[.pointer (aa ⟨1,0,aj⟩),.int .i64 ti,.int .i64 tg])),aa (.inr (.inr (.inr (.da (bW aw K (aK m (⟨ti,tg⟩:bk)) (⟨ti,tg⟩:bk)).2)))),aa (.inr (.inl (49,⟨[.int .i64 0,.bool an,.int .i64 0,.int .i64 0,.bool an,.bool an,.int .i64 0,.int .i64 0],(bW aw K (aK m (⟨ti,tg⟩:bk)) (⟨ti,tg⟩:bk)).1.length,[⟨((bW aw K (aK m (⟨ti,tg⟩:bk)) (⟨ti,tg⟩:bk)).1.map fun e=>e.t),[],[]⟩,⟨[],((bW aw K (aK m (⟨ti,tg⟩:bk)) (⟨ti,tg⟩:bk)).1.map fun e=>e.ins),[]⟩,⟨((bW aw K (aK m (⟨ti,tg⟩:bk)) (⟨ti,tg⟩:bk)).1.map fun e=>e.it.k),[],[]⟩,⟨((bW aw K (aK m (⟨ti,tg⟩:bk)) (⟨ti,tg⟩:bk)).1.map fun e=>e.it.i),[],[]⟩,⟨[],((bW aw K (aK m (⟨ti,tg⟩:bk)) (⟨ti,tg⟩:bk)).1.map fun e=>e.here),[]⟩,⟨[],((bW aw K (aK m (⟨ti,tg⟩:bk)) (⟨ti,tg⟩:bk)).1.map fun e=>e.tf),[]⟩,⟨((bW aw K (aK m (⟨ti,tg⟩:bk)) (⟨ti,tg⟩:bk)).1.map fun e=>e.tk.k),[],[]⟩,⟨((bW aw K (aK m (⟨ti,tg⟩:bk)) (⟨ti,tg⟩:bk)).1.map fun e=>e.tk.i),[],[]⟩]⟩)))],[],[(0,0)]⟩
 |_,_=>aj
def Ou (K:Nat):eJ Rs:=[(40,C4 [0] 2 (a9 B1)),(60,bJ zN 2 (a9 (uH K)))]
theorem Rz (K:Nat):b9 D Tryz.prog 21 (a9 (HS K)):=by
 refine fu Tryz.f21 fun args hh x hx=>?_
 unfold HS at hx;split at hx
 ·rename_i ti tg m;cases hx;refine q4 fun _ hv=>?_
  obtain⟨hp,hd⟩:=hv;generalize hG:cj (R:=Rs) _ _=G;refine cL (T:=(Ou K)) (show cN D Tryz.prog (Ou K) from⟨C2 _ _ JR M9,aU _ _ (qJ K),trivial⟩) mixed 200 ?_
  refine bK (q:=let Z1:=(bt (br aw m (aO ti tg)));let Z2:=(bW aw K (aK m (aO ti tg)) (aO ti tg));let Z3:=(ax Z2);let Z4:=(du (Ft 0 an (cU 0 0) an an (cU 0 0)));Vc (PP m)/\Vc ((0:Int)≤(0:Int)/\(0:Int)≤bM Z1/\bM Z1*(64:Int)≤(140737488355328:Int)/\bM Z1≤(140737488355328:Int))/\Vc ((PP (aK m (aO ti tg))/\0=0/\0=0/\0=0/\0=0/\0=0/\0=0/\0=0/\0=0/\0=0/\0+ae Z3<900000)/\jb aw K (aK m (aO ti tg)) (aO ti tg))/\aX (G (bD (aa ⟨4,0,aa 8000⟩) (0+ae Z3) (if ae Z3=0 then Int.toNat (bM Z1) else 0)) [dD 1 ti tg,oP (av Z2),aa (.inr (.inl (49,Row.mk Z4 0 [aW.mk [] [] [],aW.mk [] [] [],aW.mk [] [] [],aW.mk [] [] [],aW.mk [] [] [],aW.mk [] [] [],aW.mk [] [] [],aW.mk [] [] []]))),aj,aa (.inr (.inl (49,Row.mk Z4 (0+ae Z3) [aW.mk ([]++ay (fun e=>D6 e) Z3) [] [],aW.mk [] ([]++ay (fun e=>z6 e) Z3) [],aW.mk ([]++ay (fun e=>m8 (qd e)) Z3) [] [],aW.mk ([]++ay (fun e=>m9 (qd e)) Z3) [] [],aW.mk [] ([]++ay (fun e=>xS e) Z3) [],aW.mk [] ([]++ay (fun e=>Ce e) Z3) [],aW.mk ([]++ay (fun e=>m8 (qe e)) Z3) [] [],aW.mk ([]++ay (fun e=>m9 (qe e)) Z3) [] []])))])) ?_ (by kernel_rfl)
  intro Z1 Z2 Z3 Z4;subst Z4 Z3 Z2 Z1;subst hG;obtain⟨T5,xd,hd4⟩:=hd;have hd5:=(qw (s:=(⟨ti,tg⟩:bk))).2 T5;have e2:(if(bW aw K (aK m (⟨ti,tg⟩:bk)) (⟨ti,tg⟩:bk)).1.length=0 then(br aw m (⟨ti,tg⟩:bk)).all.n.toNat else 0)=0:=by rw[xd];split<;>omega
  simp only[e2,bU,pd]
  repeat' (first|apply cX|apply Vc.mk|apply fits.mk|intro h|apply aX.mk)
  all_goals (try simp only[sB] at *)
  all_goals first|contradiction|omega|exact jv ‹_›|exact jw ‹_›|exact ju ‹_›|exact⟨rfl,by omega⟩|exact rfl|(simp[*,-au];done)|skip
  all_goals first|omega|assumption|exact jc.2 hp|(simp;done)|skip
  refine⟨[0,1,4],?_,rfl,?_,rfl,rfl,rfl,rfl⟩
  ·rfl
  ·simp[du,tW,AE,nth,fW,wI,pB,lR,gh,v7,ub,B6,zi,Gb,yP,AF]
   all_goals first|rfl|skip
 ·cases hx
def Em (K:Nat):Prim Rs:=fun args hh=>match args,hh with
 |[.pointer (aa ⟨0,0,aj⟩),.agg ⟨kE⟩],[aa (.inl (110,[.pointer (aa ⟨1,0,aj⟩),.int .i64 ti,.int .i64 tg])),aa (.inr (.inr (.inr (.da m))))]=>aa ⟨kE=du (fR kE)/\(PP m/\vC aw K (aK m (⟨ti,tg⟩:bk)) (br aw m (⟨ti,tg⟩:bk)) (fR kE)),.tuple #[.agg ⟨du (iF aw K (aK m (⟨ti,tg⟩:bk)) (br aw m (⟨ti,tg⟩:bk)) (fR kE)).1.1⟩,.bool (iF aw K (aK m (⟨ti,tg⟩:bk)) (br aw m (⟨ti,tg⟩:bk)) (fR kE)).1.2],aj,[aa (.inl (110,[.pointer (aa ⟨1,0,aj⟩),.int .i64 ti,.int .i64 tg])),aa (.inr (.inr (.inr (.da (iF aw K (aK m (⟨ti,tg⟩:bk)) (br aw m (⟨ti,tg⟩:bk)) (fR kE)).2))))],[],[(0,0)]⟩
 |_,_=>aj
def Aq (K:Nat):eJ Rs:=[(80,bJ zN 2 (a9 j9)),(222,bJ zN 2 (a9 I0))]
theorem NH (K:Nat):b9 D Tryz.prog 73 (a9 (Em K)):=by
 refine fu Tryz.f73 fun args hh x hx=>?_
 unfold Em at hx;split at hx
 ·rename_i kE ti tg m;cases hx;refine q4 fun _ hv=>?_
  obtain⟨jT,hv⟩:=hv;generalize fR kE=ke at *;subst jT;obtain⟨hp,hd⟩:=hv
  generalize hG:cj (R:=Rs) _ _=G;refine cL (T:=(Aq K)) (show cN D Tryz.prog (Aq K) from⟨aU _ _ look_ok,aU _ _ xR,trivial⟩) mixed 200 ?_
  refine bK (q:=let Z1:=(aB (aa ⟨0,0,aj⟩));Vc (PP m)/\At D Tryz.prog (dC Tryz.f73) 2 (ia Tryz.prog (dv (dw Tryz.f73)) G) [.inl [1,1,0,0],.inr (.inl 0),.inl [1,1,1]] (SS.mk (aa Z1::aa (bz (aJ (du ke)))::aj::aa (aB (aa ⟨2,0,aj⟩))::aa (aB (aa ⟨3,0,aj⟩))::aa (aC an)::aa (aB (aa ⟨4,0,aj⟩))::aj::aj::aa Z1::aa Z1::aa Z1::aa (aB (aa ⟨0,1,aj⟩))::aa (bz (aJ [.int ar ti,.int ar tg]))::aa (bz (aJ (bj (br aw m (aO ti tg)))))::nH (n4 (aj::aj::aj::[]))) [(5,an)] [dD 1 ti tg,oP (aK m (aO ti tg)),aa (.inl (49,(du ke))),aa (.inl (49,(du (Ft 0 an (cU 0 0) an an (cU 0 0))))),aa (.inl (136,(bj (br aw m (aO ti tg)))))])) ?_ (by kernel_rfl)
  intro Z1;subst Z1;refine⟨⟨hp⟩,?_⟩;refine ld (by kernel_rfl) (ι:=Nat×Nd×Pl) (fun s=>PP s.2.2/\vC aw s.1 s.2.2 s.2.1 ke/\iF aw s.1 s.2.2 s.2.1 ke=iF aw K (aK m (⟨ti,tg⟩:bk)) (br aw m (⟨ti,tg⟩:bk)) ke) [0,3,4,5,6] (fun s=>[.pointer (aa ⟨0,0,aj⟩),.pointer (aa ⟨2,0,aj⟩),.pointer (aa ⟨3,0,aj⟩),.bool an,.pointer (aa ⟨4,0,aj⟩)]) (fun s=>[aa (.inl (110,[.pointer (aa ⟨1,0,aj⟩),.int .i64 ti,.int .i64 tg])),aa (.inr (.inr (.inr (.da s.2.2)))),aa (.inl (49,du ke)),aa (.inl (49,[.int .i64 0,.bool an,.int .i64 0,.int .i64 0,.bool an,.bool an,.int .i64 0,.int .i64 0])),aa (.inl (136,bj s.2.1))]) (fun s=>s.1) (Tryz.f73).ntmps (fun s hs=>⟨rfl,rfl,tF _ _⟩) ⟨(K,br aw m (⟨ti,tg⟩:bk),aK m (⟨ti,tg⟩:bk)),⟨jc.2 hp,hd,rfl⟩,⟨[0,1,2,3,4],rfl,⟨.inl rfl,rfl,.inl rfl,.inl rfl,.inl rfl,trivial⟩,rfl,rfl,rfl,rfl⟩⟩ fun s hs=>?_
  obtain⟨k,n,m2⟩:=s;obtain⟨s1,s2,s3⟩:=hs;simp only at s1 s2 s3;rcases k with _|k
  ·exact s2.elim
  refine cL (T:=Aq K) (show cN D Tryz.prog (Aq K) from⟨aU _ _ look_ok,aU _ _ xR,trivial⟩) mixed 200 ?_
  refine bK (q:=let Z5:=aB (aa ⟨2,0,aj⟩);let Z6:=aB (aa ⟨0,0,aj⟩);let Z7:=aB (aa ⟨4,0,aj⟩);let Z8:=aB (aa ⟨3,0,aj⟩);let Z1:=(gV aw ke (bY (ax (n,m2)))==(0:Int));let Z2:=(av (n,m2));let Z3:=(gV aw ke (bY (ax (n,m2)))<(0:Int));let Z4:=(du (Ft 0 an (cU 0 0) an an (cU 0 0)));(decide (cu (ax (n,m2))>(0:Int))=ao->Vc True/\Vc True/\(Z1=ao->aX (G (cq (aJ [.agg (aJ (du (bY (ax (n,m2))))),.bool ao])) [dD 1 ti tg,oP Z2,aa (.inl (49,(du ke))),aa (.inl (49,(du (bY (ax (n,m2)))))),aa (.inl (136,(bj (ax (n,m2)))))]))/\(Z1=an->(decide Z3=ao->Vc (PP Z2)/\aX (∃ j,(PP (av (av j))/\vC aw (ax j) (av (av j)) (ax (av j)) ke/\iF aw (ax j) (av (av j)) (ax (av j)) ke=iF aw K (aK m (aO ti tg)) (br aw m (aO ti tg)) ke)/\ax j<k+1/\km Rs 2 (pf Tryz.f73) [0,3,4,5,6] [Z6,Z5,Z8,.bool an,Z7] [dD 1 ti tg,oP (av (av j)),aa (.inl ((49:TypeId),du ke)),aa (.inl ((49:TypeId),Z4)),aa (.inl ((136:TypeId),bj (ax (av j))))] [aa (Z6),aa (Z5),aa (Z8),aa (aC an),aa (Z7)] [dD 1 ti tg,oP (aK Z2 (bc (ax (n,m2)))),aa (.inl (49,(du ke))),aa (.inl (49,Z4)),aa (.inl (136,(bj (br aw Z2 (bc (ax (n,m2)))))))] 38))/\(decide Z3=an->Vc (PP Z2)/\aX (∃ j,(PP (av (av j))/\vC aw (ax j) (av (av j)) (ax (av j)) ke/\iF aw (ax j) (av (av j)) (ax (av j)) ke=iF aw K (aK m (aO ti tg)) (br aw m (aO ti tg)) ke)/\ax j<k+1/\km Rs 2 (pf Tryz.f73) [0,3,4,5,6] [Z6,Z5,Z8,.bool an,Z7] [dD 1 ti tg,oP (av (av j)),aa (.inl ((49:TypeId),du ke)),aa (.inl ((49:TypeId),Z4)),aa (.inl ((136:TypeId),bj (ax (av j))))] [aa (Z6),aa (Z5),aa (Z8),aa (aC an),aa (Z7)] [dD 1 ti tg,oP (aK Z2 (bn (ax (n,m2)))),aa (.inl (49,(du ke))),aa (.inl (49,Z4)),aa (.inl (136,(bj (br aw Z2 (bn (ax (n,m2)))))))] 38))))/\(decide (cu (ax (n,m2))>(0:Int))=an->aX (G (cq (aJ [.agg (aJ Z4),.bool an])) [dD 1 ti tg,oP Z2,aa (.inl (49,(du ke))),aa (.inl (49,Z4)),aa (.inl (136,(bj (ax (n,m2))))),aa (.inl (49,Z4))]))) ?_ (by kernel_rfl)
  intro Z5 Z6 Z7 Z8 Z1 Z2 Z3 Z4;subst Z4 Z3 Z2 Z1 Z8 Z7 Z6 Z5;rw[vC] at s2;rw[iF] at s3;subst hG
  repeat' (first|apply cX|apply Vc.mk|apply fits.mk|intro h|apply aX.mk)
  all_goals (try simp only[sB] at *)
  all_goals first|contradiction|omega|exact jv ‹_›|exact jw ‹_›|exact ju ‹_›|exact⟨rfl,by omega⟩|exact rfl|(simp[*,-au];done)|skip
  all_goals first|assumption|skip
  ·have h1:n.h>0:=by assumption
   have h2:aw.cmp ke n.e=0:=by assumption
   rw[if_pos h1,if_pos h2] at s3;rw[← s3];exact⟨[0,1],rfl,rfl,⟨.inl rfl,rfl,trivial⟩,rfl,rfl,rfl,rfl⟩
  ·have h1:n.h>0:=by assumption
   have h2:aw.cmp ke n.e≠0:=by assumption
   have h3:aw.cmp ke n.e<0:=by assumption
   rw[if_pos h1,if_neg h2,if_pos h3] at s3;exact⟨(k,br aw m2 n.l,aK m2 n.l),⟨jc.2 s1,(s2 h1 h2).1 (by omega),s3⟩,fC _,⟨[0,1,2,3,4],rfl,⟨.inl rfl,rfl,.inl rfl,.inl rfl,.inl rfl,trivial⟩,rfl,rfl,rfl,rfl⟩⟩
  ·have h1:n.h>0:=by assumption
   have h2:aw.cmp ke n.e≠0:=by assumption
   have h3:¬ aw.cmp ke n.e<0:=by omega
   rw[if_pos h1,if_neg h2,if_neg h3] at s3;exact⟨(k,br aw m2 n.r,aK m2 n.r),⟨jc.2 s1,(s2 h1 h2).2 (by omega),s3⟩,fC _,⟨[0,1,2,3,4],rfl,⟨.inl rfl,rfl,.inl rfl,.inl rfl,.inl rfl,trivial⟩,rfl,rfl,rfl,rfl⟩⟩
  ·have h1:¬ n.h>0:=by omega
   rw[if_neg h1] at s3;rw[← s3];exact⟨[0,1],rfl,rfl,⟨.inl rfl,rfl,trivial⟩,rfl,rfl,rfl,rfl⟩
 ·cases hx
def Fi (K:Nat):Prim Rs:=fun args hh=>match args,hh with
 |[.pointer (aa ⟨0,0,aj⟩),.agg ⟨kE⟩],[aa (.inl (110,[.pointer (aa ⟨1,0,aj⟩),.int .i64 ti,.int .i64 tg])),aa (.inr (.inr (.inr (.da m))))]=>aa ⟨kE=du (fR kE)/\(PP m/\vD aw K (aK m (⟨ti,tg⟩:bk)) (br aw m (⟨ti,tg⟩:bk)) (fR kE) 0),.int .i64 (lQ aw K (aK m (⟨ti,tg⟩:bk)) (br aw m (⟨ti,tg⟩:bk)) (fR kE) 0).1,aj,[aa (.inl (110,[.pointer (aa ⟨1,0,aj⟩),.int .i64 ti,.int .i64 tg])),aa (.inr (.inr (.inr (.da (lQ aw K (aK m (⟨ti,tg⟩:bk)) (br aw m (⟨ti,tg⟩:bk)) (fR kE) 0).2))))],[],[(0,0)]⟩
 |_,_=>aj
def AM (K:Nat):eJ Rs:=[(1000000000,lP),(80,bJ zN 2 (a9 j9)),(222,bJ zN 2 (a9 I0))]
theorem NJ (K:Nat):b9 D Tryz.prog 65 (a9 (Fi K)):=by
 refine fu Tryz.f65 fun args hh x hx=>?_
 unfold Fi at hx;split at hx
 ·rename_i kE ti tg m;cases hx;refine q4 fun _ hv=>?_
  obtain⟨jT,hv⟩:=hv;generalize fR kE=ke at *;subst jT;obtain⟨hp,hd⟩:=hv
  generalize hG:cj (R:=Rs) _ _=G;refine cL (T:=(AM K)) (show cN D Tryz.prog (AM K) from⟨ix,aU _ _ look_ok,aU _ _ xR,trivial⟩) mixed 200 ?_
  refine bK (q:=let Z1:=(aB (aa ⟨0,0,aj⟩));Vc (PP m)/\At D Tryz.prog (dC Tryz.f65) 2 (ia Tryz.prog (dv (dw Tryz.f65)) G) [.inl [1,1,1,0,0],.inr (.inl 0),.inl [1,1,1,1]] (SS.mk (aa Z1::aa (bz (aJ (du ke)))::aj::aa (aB (aa ⟨2,0,aj⟩))::aa (bm ar 0)::aa (bm ar 0)::aa (aB (aa ⟨3,0,aj⟩))::aj::aa Z1::aa Z1::aa Z1::aa (aB (aa ⟨0,1,aj⟩))::aa (bz (aJ [.int ar ti,.int ar tg]))::aa (bz (aJ (bj (br aw m (aO ti tg)))))::nH (n4 (n4 (n4 ([]))))) [] [dD 1 ti tg,oP (aK m (aO ti tg)),aa (.inl (49,(du ke))),aa (.inl (136,(bj (br aw m (aO ti tg)))))])) ?_ (by kernel_rfl)
  intro Z1;subst Z1;refine⟨⟨hp⟩,?_⟩;refine ld (by kernel_rfl) (ι:=Nat×Nd×Pl×Int) (fun s=>PP s.2.2.1/\vD aw s.1 s.2.2.1 s.2.1 ke s.2.2.2/\lQ aw s.1 s.2.2.1 s.2.1 ke s.2.2.2=lQ aw K (aK m (⟨ti,tg⟩:bk)) (br aw m (⟨ti,tg⟩:bk)) ke 0) [0,3,5,6] (fun s=>[.pointer (aa ⟨0,0,aj⟩),.pointer (aa ⟨2,0,aj⟩),.int .i64 s.2.2.2,.pointer (aa ⟨3,0,aj⟩)]) (fun s=>[aa (.inl (110,[.pointer (aa ⟨1,0,aj⟩),.int .i64 ti,.int .i64 tg])),aa (.inr (.inr (.inr (.da s.2.2.1)))),aa (.inl (49,du ke)),aa (.inl (136,bj s.2.1))]) (fun s=>s.1) (Tryz.f65).ntmps (fun s hs=>⟨rfl,rfl,tF _ _⟩) ⟨(K,br aw m (⟨ti,tg⟩:bk),aK m (⟨ti,tg⟩:bk),0),⟨jc.2 hp,hd,rfl⟩,⟨[0,1,2,3],rfl,⟨.inl rfl,rfl,.inl rfl,.inl rfl,trivial⟩,rfl,rfl,rfl,rfl⟩⟩ fun s hs=>?_
  obtain⟨k,n,m2,c⟩:=s;obtain⟨s1,s2,s3⟩:=hs;simp only at s1 s2 s3;rcases k with _|k
  ·exact s2.elim
  refine cL (T:=AM K) (show cN D Tryz.prog (AM K) from⟨ix,aU _ _ look_ok,aU _ _ xR,trivial⟩) mixed 200 ?_
  refine bK (q:=let Z3:=aB (aa ⟨2,0,aj⟩);let Z4:=aB (aa ⟨0,0,aj⟩);let Z5:=aB (aa ⟨3,0,aj⟩);let Z6:=bm ar;let Z1:=(ax (n,m2,c));let Z2:=(ax (av (n,m2,c)));(decide (cu Z1>(0:Int))=ao->Vc True/\Vc True/\(decide (gV aw ke (bY Z1)≤(0:Int))=ao->Vc (PP Z2)/\aX (∃ j,(PP (ax (av (av j)))/\vD aw (ax j) (ax (av (av j))) (ax (av j)) ke (av (av (av j)))/\lQ aw (ax j) (ax (av (av j))) (ax (av j)) ke (av (av (av j)))=lQ aw K (aK m (aO ti tg)) (br aw m (aO ti tg)) ke (0:Int))/\ax j<k+1/\km Rs 2 (pf Tryz.f65) [0,3,5,6] [Z4,Z3,Z6 (av (av (av j))),Z5] [dD 1 ti tg,oP (ax (av (av j))),aa (.inl ((49:TypeId),du ke)),aa (.inl ((136:TypeId),bj (ax (av j))))] [aa (Z4),aa (Z3),aa (Z6 (av (av (n,m2,c)))),aa (Z5)] [dD 1 ti tg,oP (aK Z2 (bc Z1)),aa (.inl (49,(du ke))),aa (.inl (136,(bj (br aw Z2 (bc Z1)))))] 42))/\(decide (gV aw ke (bY Z1)≤(0:Int))=an->Vc (PP Z2)/\Vc True/\Vc True/\aX (∃ j,(PP (ax (av (av j)))/\vD aw (ax j) (ax (av (av j))) (ax (av j)) ke (av (av (av j)))/\lQ aw (ax j) (ax (av (av j))) (ax (av j)) ke (av (av (av j)))=lQ aw K (aK m (aO ti tg)) (br aw m (aO ti tg)) ke (0:Int))/\ax j<k+1/\km Rs 2 (pf Tryz.f65) [0,3,5,6] [Z4,Z3,Z6 (av (av (av j))),Z5] [dD 1 ti tg,oP (ax (av (av j))),aa (.inl ((49:TypeId),du ke)),aa (.inl ((136:TypeId),bj (ax (av j))))] [aa (Z4),aa (Z3),aa (Z6 (ck ar (av (av (n,m2,c))+ck ar (bM (bt Z1)-bM (bt (br aw Z2 (bn Z1))))))),aa (Z5)] [dD 1 ti tg,oP (aK Z2 (bn Z1)),aa (.inl (49,(du ke))),aa (.inl (136,(bj (br aw Z2 (bn Z1))))),aa (.inl (136,(bj (br aw Z2 (bn Z1)))))] 42)))/\(decide (cu Z1>(0:Int))=an->aX (G (Z6 (av (av (n,m2,c)))) [dD 1 ti tg,oP Z2,aa (.inl (49,(du ke))),aa (.inl (136,(bj Z1)))]))) ?_ (by kernel_rfl)
  intro Z3 Z4 Z5 Z6 Z1 Z2;subst Z2 Z1 Z6 Z5 Z4 Z3;rw[vD] at s2;rw[lQ] at s3;subst hG
  repeat' (first|apply cX|apply Vc.mk|apply fits.mk|intro h|apply aX.mk)
  all_goals (try simp only[sB] at *)
  all_goals first|contradiction|omega|exact jv ‹_›|exact jw ‹_›|exact ju ‹_›|exact⟨rfl,by omega⟩|exact rfl|(simp[*,-au];done)|skip
  all_goals first|assumption|skip
  ·have h1:n.h>0:=by assumption
   have h2:aw.cmp ke n.e≤0:=by assumption
   rw[if_pos h1,if_pos h2] at s3;exact⟨(k,br aw m2 n.l,aK m2 n.l,c),⟨jc.2 s1,(s2 h1).1 (by omega),s3⟩,fC _,⟨[0,1,2,3],rfl,⟨.inl rfl,rfl,.inl rfl,.inl rfl,trivial⟩,rfl,rfl,rfl,rfl⟩⟩
  ·have h1:n.h>0:=by assumption
   have h2:¬ aw.cmp ke n.e≤0:=by omega
   rw[if_pos h1,if_neg h2] at s3;exact⟨(k,br aw m2 n.r,aK m2 n.r,mY (c+mY (n.all.n-(br aw m2 n.r).all.n))),⟨jc.2 s1,(s2 h1).2 (by omega),s3⟩,fC _,⟨[0,1,2,3],rfl,⟨.inl rfl,rfl,.inl rfl,.inl rfl,trivial⟩,rfl,rfl,rfl,rfl⟩⟩
  ·have h1:¬ n.h>0:=by omega
   rw[if_neg h1] at s3;rw[← s3];exact⟨[0,1],rfl,rfl,⟨.inl rfl,rfl,trivial⟩,rfl,rfl,rfl,rfl⟩
 ·cases hx
def MV (K:Nat):Prim Rs:=fun args hh=>match args,hh with
 |[.pointer (aa ⟨0,0,aj⟩),.int .i64 i_],[aa (.inl (110,[.pointer (aa ⟨1,0,aj⟩),.int .i64 ti,.int .i64 tg])),aa (.inr (.inr (.inr (.da m))))]=>aa ⟨PP m/\Gv.AtD aw K m (⟨ti,tg⟩:bk) i_,.tuple #[.agg ⟨du (lC aw K m (⟨ti,tg⟩:bk) i_).1.1⟩,.bool (lC aw K m (⟨ti,tg⟩:bk) i_).1.2],aj,[aa (.inl (110,[.pointer (aa ⟨1,0,aj⟩),.int .i64 ti,.int .i64 tg])),aa (.inr (.inr (.inr (.da (lC aw K m (⟨ti,tg⟩:bk) i_).2))))],[],[(0,0)]⟩
 |_,_=>aj
def HW (K:Nat):eJ Rs:=[(1000000000,lP),(80,bJ zN 2 (a9 j9))]
theorem UM (K:Nat):b9 D Tryz.prog 141 (a9 (MV K)):=by
 refine fu Tryz.f141 fun args hh x hx=>?_
 unfold MV at hx;split at hx
 ·rename_i i_ ti tg m;cases hx;refine q4 fun _ hv=>?_
  obtain⟨hp,hd⟩:=hv;generalize hG:cj (R:=Rs) _ _=G;refine cL (T:=(HW K)) (show cN D Tryz.prog (HW K) from⟨ix,aU _ _ look_ok,trivial⟩) mixed 200 ?_
  refine bK (q:=let Z4:=bm ar;let Z1:=(i_≥bM (bt (br aw m (aO ti tg))));let Z2:=(du (Ft 0 an (cU 0 0) an an (cU 0 0)));let Z3:=(aB (aa ⟨0,0,aj⟩));Vc (PP m)/\(decide (i_<(0:Int))=an->(decide Z1=ao->aX (G (cq (aJ [.agg (aJ Z2),.bool an])) [dD 1 ti tg,oP (aK m (aO ti tg)),aa (.inl (49,Z2)),aa (.inl (49,Z2)),aa (.inl (136,(bj (br aw m (aO ti tg)))))]))/\(decide Z1=an->At D Tryz.prog (dC Tryz.f141) 2 (ia Tryz.prog (dv (dw Tryz.f141)) G) [.inl [1,1,1,1,0],.inr (.inl 0)] (SS.mk (aa Z3::aa (Z4 i_)::aj::aj::aa (aB (aa ⟨2,0,aj⟩))::aa (aC an)::aa (aB (aa ⟨3,0,aj⟩))::aa (aB (aa ⟨4,0,aj⟩))::aj::aa Z3::aa Z3::aa Z3::aa (aB (aa ⟨0,1,aj⟩))::aa (bz (aJ [Z4 ti,Z4 tg]))::aa (bz (aJ (bj (br aw m (aO ti tg)))))::aa (Z4 i_)::aa (aC (decide (i_<(0:Int))))::aa (aC an)::aa (Z4 i_)::aa (aB (aa ⟨4,12,aj⟩))::aa (aB (aa ⟨4,12,aj⟩))::aa (Z4 (bM (bt (br aw m (aO ti tg)))))::aa (aC (decide Z1))::aa (aC an)::nH (n4 (n4 (n4 ([]))))) [(23,an),(17,an),(5,an)] [dD 1 ti tg,oP (aK m (aO ti tg)),aa (.inl (49,Z2)),aa (.inl (49,Z2)),aa (.inl (136,(bj (br aw m (aO ti tg)))))])))/\(decide (i_<(0:Int))=ao->aX (G (cq (aJ [.agg (aJ Z2),.bool an])) [dD 1 ti tg,oP (aK m (aO ti tg)),aa (.inl (49,Z2)),aa (.inl (49,Z2)),aa (.inl (136,(bj (br aw m (aO ti tg)))))]))) ?_ (by kernel_rfl)
  intro Z4 Z1 Z2 Z3;subst Z3 Z2 Z1 Z4;have n1:i_<0∨i_≥(br aw m (⟨ti,tg⟩:bk)).all.n->G (.tuple #[.agg ⟨[.int .i64 0,.bool an,.int .i64 0,.int .i64 0,.bool an,.bool an,.int .i64 0,.int .i64 0]⟩,.bool an])=G (.tuple #[.agg ⟨[.int .i64 0,.bool an,.int .i64 0,.int .i64 0,.bool an,.bool an,.int .i64 0,.int .i64 0]⟩,.bool an]):=fun _=>rfl
  have en:∀ rest,i_<0∨i_≥(br aw m (⟨ti,tg⟩:bk)).all.n->G (.tuple #[.agg ⟨[.int .i64 0,.bool an,.int .i64 0,.int .i64 0,.bool an,.bool an,.int .i64 0,.int .i64 0]⟩,.bool an]) ([aa (.inl (110,[.pointer (aa ⟨1,0,aj⟩),.int .i64 ti,.int .i64 tg])),aa (.inr (.inr (.inr (.da (aK m (⟨ti,tg⟩:bk))))))]++rest):=by
   intro rest h;have e:lC aw K m (⟨ti,tg⟩:bk) i_=((aw.e0,an),aK m (⟨ti,tg⟩:bk)):=by rw[lC,if_pos h]
   subst hG;rw[e];exact⟨[0,1],rfl,rfl,⟨.inl rfl,rfl,trivial⟩,rfl,rfl,rfl,rfl⟩
  refine⟨⟨hp⟩,fun h=>⟨fun h2=>⟨en _ (.inr (by simpa using h2))⟩,fun h2=>?_⟩,fun h=>⟨en _ (.inl (by simpa using h))⟩⟩
  have h3:¬ i_<0:=by simpa using h
  have h4:¬ i_≥(br aw m (⟨ti,tg⟩:bk)).all.n:=by simpa using h2
  have ee:lC aw K m (⟨ti,tg⟩:bk) i_=(((oL aw K (aK m (⟨ti,tg⟩:bk)) (br aw m (⟨ti,tg⟩:bk)) i_).1,ao),(oL aw K (aK m (⟨ti,tg⟩:bk)) (br aw m (⟨ti,tg⟩:bk)) i_).2):=by rw[lC,if_neg (by omega)]
  have xd:=hd h3 h4;refine ld (by kernel_rfl) (ι:=Nat×Nd×Pl×Int) (fun s=>PP s.2.2.1/\Cf aw s.1 s.2.2.1 s.2.1 s.2.2.2/\oL aw s.1 s.2.2.1 s.2.1 s.2.2.2=oL aw K (aK m (⟨ti,tg⟩:bk)) (br aw m (⟨ti,tg⟩:bk)) i_) [0,1,4,7] (fun s=>[.pointer (aa ⟨0,0,aj⟩),.int .i64 s.2.2.2,.pointer (aa ⟨2,0,aj⟩),.pointer (aa ⟨3,0,aj⟩)]) (fun s=>[aa (.inl (110,[.pointer (aa ⟨1,0,aj⟩),.int .i64 ti,.int .i64 tg])),aa (.inr (.inr (.inr (.da s.2.2.1)))),aa (.inl (49,[.int .i64 0,.bool an,.int .i64 0,.int .i64 0,.bool an,.bool an,.int .i64 0,.int .i64 0])),aa (.inl (136,bj s.2.1))]) (fun s=>s.1) (Tryz.f141).ntmps (fun s hs=>⟨rfl,rfl,tF _ _⟩) ⟨(K,br aw m (⟨ti,tg⟩:bk),aK m (⟨ti,tg⟩:bk),i_),⟨jc.2 hp,xd,rfl⟩,⟨[0,1,2,4],rfl,⟨.inl rfl,rfl,.inl rfl,.inl rfl,trivial⟩,rfl,rfl,rfl,rfl⟩⟩ fun s hs=>?_
  obtain⟨k,n,m2,c⟩:=s;obtain⟨s1,s2,s3⟩:=hs;simp only at s1 s2 s3;rcases k with _|k
  ·exact s2.elim
  refine cL (T:=HW K) (show cN D Tryz.prog (HW K) from⟨ix,aU _ _ look_ok,trivial⟩) mixed 200 ?_
  refine bK (q:=let Z5:=aB (aa ⟨2,0,aj⟩);let Z6:=aB (aa ⟨0,0,aj⟩);let Z7:=aB (aa ⟨3,0,aj⟩);let Z1:=(av (n,m2,c));let Z2:=(br aw (ax Z1) (bc (ax (n,m2,c))));let Z3:=(aK (ax Z1) (bc (ax (n,m2,c))));let Z4:=(du (Ft 0 an (cU 0 0) an an (cU 0 0)));Vc (PP (ax Z1))/\((av Z1==bM (bt Z2))=ao->aX (G (cq (aJ [.agg (aJ (du (bY (ax (n,m2,c))))),.bool ao])) [dD 1 ti tg,oP Z3,aa (.inl (49,(du (bY (ax (n,m2,c)))))),aa (.inl (136,(bj (ax (n,m2,c))))),aa (.inl (136,(bj Z2)))]))/\((av Z1==bM (bt Z2))=an->(decide (av Z1<bM (bt Z2))=ao->aX (∃ j,(PP (ax (av (av j)))/\Cf aw (ax j) (ax (av (av j))) (ax (av j)) (av (av (av j)))/\oL aw (ax j) (ax (av (av j))) (ax (av j)) (av (av (av j)))=oL aw K (aK m (aO ti tg)) (br aw m (aO ti tg)) i_)/\ax j<k+1/\km Rs 2 (pf Tryz.f141) [0,1,4,7] [Z6,.int ar (av (av (av j))),Z5,Z7] [dD 1 ti tg,oP (ax (av (av j))),aa (.inl ((49:TypeId),Z4)),aa (.inl ((136:TypeId),bj (ax (av j))))] [aa (Z6),aa (bm ar (av Z1)),aa (Z5),aa (Z7)] [dD 1 ti tg,oP Z3,aa (.inl (49,Z4)),aa (.inl (136,(bj Z2))),aa (.inl (136,(bj Z2)))] 52))/\(decide (av Z1<bM (bt Z2))=an->Vc True/\Vc True/\Vc (PP Z3)/\aX (∃ j,(PP (ax (av (av j)))/\Cf aw (ax j) (ax (av (av j))) (ax (av j)) (av (av (av j)))/\oL aw (ax j) (ax (av (av j))) (ax (av j)) (av (av (av j)))=oL aw K (aK m (aO ti tg)) (br aw m (aO ti tg)) i_)/\ax j<k+1/\km Rs 2 (pf Tryz.f141) [0,1,4,7] [Z6,.int ar (av (av (av j))),Z5,Z7] [dD 1 ti tg,oP (ax (av (av j))),aa (.inl ((49:TypeId),Z4)),aa (.inl ((136:TypeId),bj (ax (av j))))] [aa (Z6),aa (bm ar (ck ar (av Z1-ck ar (bM (bt Z2)+(1:Int))))),aa (Z5),aa (Z7)] [dD 1 ti tg,oP (aK Z3 (bn (ax (n,m2,c)))),aa (.inl (49,Z4)),aa (.inl (136,(bj (br aw Z3 (bn (ax (n,m2,c))))))),aa (.inl (136,(bj Z2)))] 52)))) ?_ (by kernel_rfl)
  intro Z5 Z6 Z7 Z1 Z2 Z3 Z4;subst Z4 Z3 Z2 Z1 Z7 Z6 Z5;rw[Cf] at s2;rw[oL] at s3;subst hG
  repeat' (first|apply cX|apply Vc.mk|apply fits.mk|intro h|apply aX.mk)
  all_goals (try simp only[sB] at *)
  all_goals first|contradiction|omega|exact jv ‹_›|exact jw ‹_›|exact ju ‹_›|exact⟨rfl,by omega⟩|exact rfl|(simp[*,-au];done)|skip
  all_goals first|assumption|exact jc.2 s1|skip
  ·have h1:c=(br aw m2 n.l).all.n:=by assumption
   rw[if_pos h1] at s3;rw[ee,← s3];exact⟨[0,1],rfl,rfl,⟨.inl rfl,rfl,trivial⟩,rfl,rfl,rfl,rfl⟩
  ·have h1:c≠(br aw m2 n.l).all.n:=by assumption
   have h2:c<(br aw m2 n.l).all.n:=by assumption
   rw[if_neg h1,if_pos h2] at s3;exact⟨(k,br aw m2 n.l,aK m2 n.l,c),⟨jc.2 s1,(s2 h1).1 (by omega),s3⟩,fC _,⟨[0,1,2,3],rfl,⟨.inl rfl,rfl,.inl rfl,.inl rfl,trivial⟩,rfl,rfl,rfl,rfl⟩⟩
  ·have h1:c≠(br aw m2 n.l).all.n:=by assumption
   have h2:¬ c<(br aw m2 n.l).all.n:=by omega
   rw[if_neg h1,if_neg h2] at s3;exact⟨(k,br aw (aK m2 n.l) n.r,aK (aK m2 n.l) n.r,mY (c-mY ((br aw m2 n.l).all.n+1))),⟨jc.2 (jc.2 s1),(s2 h1).2 (by omega),s3⟩,fC _,⟨[0,1,2,3],rfl,⟨.inl rfl,rfl,.inl rfl,.inl rfl,trivial⟩,rfl,rfl,rfl,rfl⟩⟩
 ·cases hx
end G8
namespace Sh
open Rx Wv
structure Sl where
 it:It
 kD:Bool
 time:Int
structure Sz where
 n:Int
def Yn:Sl:=⟨⟨0,0⟩,an,0⟩
def O9:Gv.iO Sl Sz:=⟨Yn,⟨0⟩,fun a b=>kP a.it b.it,fun _=>⟨1⟩,fun a b=>⟨mY (a.n+b.n)⟩⟩
def S9 (l:List Sl):Sz:=⟨l.length⟩
def Lu (l:List Sl):Prop:=l.length≤1000
theorem CL (a b:It):kP a b=0↔a=b:=by
 constructor
 ·intro h;refine It.Q0 ?_ ?_<;>(unfold kP at h;repeat' split at h)<;>omega
 ·rintro rfl;unfold kP;repeat' split
  all_goals omega
theorem DR (a b:It):kP a b<0↔ah a b:=by unfold kP ah;repeat' split;all_goals omega
theorem Un {a b c:It} (h:ah a b) (h':ah b c):ah a c:=by unfold ah at *;omega
theorem Zf:Gv.yG O9 S9 Lu where
 nil:=rfl
 one e:=rfl
 plus x y h _ _:=by
  unfold Lu at h;unfold S9;rw[bF] at *
  show(⟨mY ((x.length:Int)+(y.length:Int))⟩:Sz)=⟨((x.length+y.length:Nat):Int)⟩
  rw[Gv.ua (by omega)];push_cast;rfl
 left x y h:=by unfold Lu at *;rw[bF] at h;omega
 right x y h:=by unfold Lu at *;rw[bF] at h;omega
 len x h:=Nat.le_trans h (by decide)
 swap a b:=by show kP a.it b.it<0↔kP b.it a.it>0;rw[DR,wT]
 trans a b c h h':=by
  have h:kP a.it b.it<0:=h;have h':kP b.it c.it<0:=h';rw[DR] at h h';show kP a.it c.it<0
  rw[DR];exact Un h h'
 eqv a b c h h':=by
  have h:kP a.it b.it=0:=h;rw[CL] at h;have h':kP b.it c.it<0:=h';show kP a.it c.it<0
  rw[h];exact h'
 aaa a b c h h':=by
  have h:kP a.it b.it=0:=h;rw[CL] at h;have h':kP c.it b.it<0:=h';show kP c.it a.it<0
  rw[h];exact h'
set_option maxRecDepth 100000
def Nz {R:Type}:Prim R:=fun args hh=>match args,hh with
 |[.agg ⟨[.int .i64 a,.int .i64 b]⟩],[]=>aa ⟨True,.agg ⟨[.int .i64 a,.int .i64 b,.bool an,.int .i64 0]⟩,aj,hh,[],[]⟩
 |_,_=>aj
theorem KF {R:Type} {D:fJ R}:b9 D Tryz.prog 69 (a9 Nz):=by
 refine fu Tryz.f69 fun args hh x hx=>?_
 unfold Nz at hx;split at hx
 ·rename_i a b;cases hx;refine q4 fun _ hv=>?_
  generalize hG:cj (R:=R) _ _=G;refine oh (T:=[]) trivial mixed 200 (q:=let Z1:=bm ar;aX (G (bz (aJ [Z1 a,Z1 b,.bool an,Z1 0])) [aa (dd (31,[Z1 a,Z1 b])),aa (dd (75,[Z1 a,Z1 b,.bool an,Z1 0]))])) ?_ (by kernel_rfl)
  intro Z1;subst Z1;subst hG
  repeat' (first|apply cX|apply Vc.mk|apply fits.mk|intro h|apply aX.mk)
  all_goals (try simp only[sB] at *)
  all_goals first|contradiction|omega|exact jv ‹_›|exact jw ‹_›|exact ju ‹_›|exact⟨rfl,by omega⟩|exact rfl|(simp[*,-au];done)|skip
  exact⟨[],rfl,rfl,trivial,rfl,rfl,rfl,rfl⟩
 ·cases hx
def TCi {R:Type}:eJ R:=[(140,bJ zN 2 (a9 ZB))]
theorem ajS {R:Type} {D:fJ R}:cN D Tryz.prog (TCi:eJ R):=⟨aU _ _ aav,trivial⟩
def F0 {R:Type}:Prim R:=fun args hh=>match args,hh with
 |[.agg ⟨[.int .i64 a,.int .i64 b,.bool c,.int .i64 d]⟩,.agg ⟨[.int .i64 a',.int .i64 b',.bool c',.int .i64 d']⟩],[]=>aa ⟨True,.int .i64 (O9.cmp ⟨⟨a,b⟩,c,d⟩ ⟨⟨a',b'⟩,c',d'⟩),aj,hh,[],[]⟩
 |_,_=>aj
theorem zR {R:Type} {D:fJ R}:b9 D Tryz.prog 106 (a9 F0):=by
 refine fu Tryz.f106 fun args hh x hx=>?_
 unfold F0 at hx;split at hx
 ·rename_i a b c d a' b' c' d';cases hx;refine q4 fun _ hv=>?_
  generalize hG:cj (R:=R) _ _=G;refine oh (T:=TCi) ajS mixed 200 (q:=let Z1:=bm ar;Vc True/\aX (G (Z1 (kP (It.mk a b) (It.mk a' b'))) [aa (dd (75,[Z1 a,Z1 b,.bool c,Z1 d])),aa (dd (75,[Z1 a',Z1 b',.bool c',Z1 d']))])) ?_ (by kernel_rfl)
  intro Z1;subst Z1;subst hG
  repeat' (first|apply cX|apply Vc.mk|apply fits.mk|intro h|apply aX.mk)
  all_goals (try simp only[sB] at *)
  all_goals first|contradiction|omega|exact jv ‹_›|exact jw ‹_›|exact ju ‹_›|exact⟨rfl,by omega⟩|exact rfl|(simp[*,-au];done)|skip
  exact⟨[],rfl,rfl,trivial,rfl,rfl,rfl,rfl⟩
 ·cases hx
def ZK {R:Type}:Prim R:=fun args hh=>match args,hh with
 |[.agg ⟨[.int .i64 a,.int .i64 b,.bool c,.int .i64 d]⟩],[]=>aa ⟨True,.int .i64 (O9.sum ⟨⟨a,b⟩,c,d⟩).n,aj,hh,[],[]⟩
 |_,_=>aj
theorem ahB {R:Type} {D:fJ R}:b9 D Tryz.prog 241 (a9 ZK):=by
 refine fu Tryz.f241 fun args hh x hx=>?_
 unfold ZK at hx;split at hx
 ·rename_i a b c d;cases hx;refine q4 fun _ hv=>?_
  generalize hG:cj (R:=R) _ _=G;refine oh (T:=[]) trivial mixed 200 (q:=aX (G (bm ar 1) [aa (dd (75,[.int ar a,.int ar b,.bool c,.int ar d]))])) ?_ (by kernel_rfl)
  subst hG
  repeat' (first|apply cX|apply Vc.mk|apply fits.mk|intro h|apply aX.mk)
  all_goals (try simp only[sB] at *)
  all_goals first|contradiction|omega|exact jv ‹_›|exact jw ‹_›|exact ju ‹_›|exact⟨rfl,by omega⟩|exact rfl|(simp[*,-au];done)|skip
  exact⟨[],rfl,rfl,trivial,rfl,rfl,rfl,rfl⟩
 ·cases hx
def ajr {R:Type}:eJ R:=[(1000000000,lP)]
theorem agW {R:Type} {D:fJ R}:cN D Tryz.prog (ajr:eJ R):=⟨ix,trivial⟩
def VX {R:Type}:Prim R:=fun args hh=>match args,hh with
 |[.int .i64 a,.int .i64 b],[]=>aa ⟨True,.int .i64 (O9.plus ⟨a⟩ ⟨b⟩).n,aj,hh,[],[]⟩
 |_,_=>aj
theorem ad3 {R:Type} {D:fJ R}:b9 D Tryz.prog 242 (a9 VX):=by
 refine fu Tryz.f242 fun args hh x hx=>?_
 unfold VX at hx;split at hx
 ·rename_i a b;cases hx;refine q4 fun _ hv=>?_
  generalize hG:cj (R:=R) _ _=G;refine oh (T:=ajr) agW mixed 200 (q:=Vc True/\aX (G (bm ar (ck ar (a+b))) [])) ?_ (by kernel_rfl)
  subst hG
  repeat' (first|apply cX|apply Vc.mk|apply fits.mk|intro h|apply aX.mk)
  all_goals (try simp only[sB] at *)
  all_goals first|contradiction|omega|exact jv ‹_›|exact jw ‹_›|exact ju ‹_›|exact⟨rfl,by omega⟩|exact rfl|(simp[*,-au];done)|skip
  exact⟨[],rfl,rfl,trivial,rfl,rfl,rfl,rfl⟩
 ·cases hx
end Sh
namespace Pa
open Rx Wv
def Ord (l:List It):Prop:=l.Pairwise ah
theorem HA (a:It):¬ ah a a:=fun h=>si h h
theorem Of {a b c:It} (h:ah a b) (h':ah b c):ah a c:=by unfold ah at *;omega
theorem akZ {a b:It} (h:ah a b):a≠b:=fun e=>by subst e;exact HA _ h
theorem Tu {a b:It} (h:a≠b):ah a b∨ah b a:=by
 by_cases c:ah a b
 ·exact .inl c
 ·by_cases c':ah b a
  ·exact .inr c'
  ·exact absurd (abk c c') h
def gZ (x:It):List It->List It
 |[]=>[x]
 |y::l=>if ah x y then x::y::l else y::gZ x l
theorem jY {x z:It}:∀ {l:List It},z∈gZ x l↔z=x∨z∈l
 |[]=>by simp[gZ]
 |y::l=>by
  rw[gZ];split
  ·simp
  ·simp only[bO,jY (l:=l)]
   constructor
   ·rintro (h|h|h)
    ·exact .inr (.inl h)
    ·exact .inl h
    ·exact .inr (.inr h)
   ·rintro (h|h|h)
    ·exact .inr (.inl h)
    ·exact .inl h
    ·exact .inr (.inr h)
theorem pk {x:It}:∀ {l:List It},Ord l->x∉l->Ord (gZ x l)
 |[],_,_=>List.pairwise_singleton _ _
 |y::l,h,hx=>by
  have h1:=gD.1 h;have kz:x≠y:=fun e=>hx (e▸bL)
  rw[gZ];split
  ·rename_i c;exact gD.2 ⟨fun z hz=>by
    rcases bO.1 hz with e|e
    ·rw[e];exact c
    ·exact Of c (h1.1 z e),h⟩
  ·rename_i c;refine gD.2 ⟨fun z hz=>?_,pk h1.2 (fun e=>hx (eo _ e))⟩
   rcases jY.1 hz with e|e
   ·rw[e];rcases Tu kz with c'|c'
    ·exact absurd c' c
    ·exact c'
   ·exact h1.1 z e
theorem ze:∀ {a b:List It},Ord a->Ord b->(∀ x,x∈a↔x∈b)->a=b
 |[],[],_,_,_=>rfl
 |[],y::b,_,_,h=>by have:=(h y).2 bL;cases this
 |x::a,[],_,_,h=>by have:=(h x).1 bL;cases this
 |x::a,y::b,ha,hb,h=>by
  have PZ:=gD.1 ha;have qh:=gD.1 hb;have e:x=y:=by
   rcases bO.1 ((h x).1 bL) with e|e
   ·exact e
   ·rcases bO.1 ((h y).2 bL) with e'|e'
    ·exact e'.symm
    ·exact absurd (PZ.1 y e') (si (qh.1 x e))
  subst e;have:a=b:=ze PZ.2 qh.2 fun z=>by
   have hz:=h z;simp only[bO] at hz
   constructor
   ·intro m;rcases hz.1 (.inr m) with e|e
    ·subst e;exact absurd (PZ.1 _ m) (HA _)
    ·exact e
   ·intro m;rcases hz.2 (.inr m) with e|e
    ·subst e;exact absurd (qh.1 _ m) (HA _)
    ·exact e
  rw[this]
theorem ad7 {x y:It} {l:List It} (h:Ord l) (hx:x∉l) (hy:y∉l) (kz:x≠y):gZ x (gZ y l)=gZ y (gZ x l):=by
 refine ze (pk (pk h hy) ?_) (pk (pk h hx) ?_) fun z=>?_
 ·rw[jY];rintro (e|e);exact kz e;exact hx e
 ·rw[jY];rintro (e|e);exact kz e.symm;exact hy e
 ·simp only[jY]
  constructor<;>rintro (e|e|e)
  ·exact .inr (.inl e)
  ·exact .inl e
  ·exact .inr (.inr e)
  ·exact .inr (.inl e)
  ·exact .inl e
  ·exact .inr (.inr e)
def pU (z:It) (l:List It):List It:=l.filter fun y=>!decide (y=z)
theorem po {x z:It} {l:List It}:x∈pU z l↔x∈l/\x≠z:=by
 unfold pU;rw[pc]
 constructor
 ·rintro ⟨h1,h2⟩;exact⟨h1,fun e=>by rw[decide_eq_true e] at h2;cases h2⟩
 ·rintro ⟨h1,h2⟩;exact⟨h1,by rw[decide_eq_false h2];rfl⟩
theorem zb {z:It} {l:List It} (h:Ord l):Ord (pU z l):=aaf _ h
theorem ES {y:It} {l:List It} (h:Ord (y::l)):Ord l:=(gD.1 h).2
theorem Cy {y z:It} {l:List It} (h:Ord (y::l)) (hz:z∈l):ah y z:=(gD.1 h).1 z hz
theorem yg {y:It} {l:List It} (h:Ord (y::l)):y∉l:=fun m=>HA _ (Cy h m)
def mx (x y:It):It:=if ah x y then y else x
def mn (x y:It):It:=if ah x y then x else y
theorem adh {x y:It} {l:List It} (h:Ord (y::l)) (hx:x∉y::l):gZ x (y::l)=mn x y::gZ (mx x y) l:=by
 unfold mn mx;rw[gZ];split
 ·rename_i c
  congr 1
  cases l with
  |nil=>rfl
  |cons w l=>rw[gZ,if_pos (Cy h bL)]
 ·rfl
structure Op where
 t:Int
 ins:Bool
 it:It
def gC (r:List Op):List It:=(r.filter Op.ins).map Op.it
theorem xM {o:Op} {r:List Op} (h:o.ins=ao):gC (o::r)=o.it::gC r:=by unfold gC;rw[kg,if_pos h];rfl
theorem qT {o:Op} {r:List Op} (h:o.ins=an):gC (o::r)=gC r:=by unfold gC;rw[kg,if_neg (by rw[h];decide)]
def nX (h:List It) (o:Op):List It:=if o.ins=ao then gZ o.it h else h.tail
def fin (h:List It):List Op->List It
 |[]=>h
 |o::r=>fin (nX h o) r
def tk (h:List It):List Op->List It
 |[]=>[]
 |o::r=>if o.ins=ao then tk (gZ o.it h) r else h.take 1++tk h.tail r
def gI (h:List It):List Op->Nat
 |[]=>0
 |o::r=>if o.ins=ao then gI (gZ o.it h) r else(if h=[] then 1 else 0)+gI h.tail r
theorem td {h:List It} {o:Op} {r:List Op} (e:o.ins=ao):fin h (o::r)=fin (gZ o.it h) r:=by rw[fin,nX,if_pos e]
theorem nB {h:List It} {o:Op} {r:List Op} (e:o.ins=an):fin h (o::r)=fin h.tail r:=by rw[fin,nX,if_neg (by rw[e];decide)]
theorem oD {h:List It} {o:Op} {r:List Op} (e:o.ins=ao):tk h (o::r)=tk (gZ o.it h) r:=by rw[tk,if_pos e]
theorem vL {h:List It} {o:Op} {r:List Op} (e:o.ins=an):tk h (o::r)=h.take 1++tk h.tail r:=by rw[tk,if_neg (by rw[e];decide)]
theorem oC {h:List It} {o:Op} {r:List Op} (e:o.ins=ao):gI h (o::r)=gI (gZ o.it h) r:=by rw[gI,if_pos e]
theorem zZ {h:List It} {o:Op} {r:List Op} (e:o.ins=an):gI h (o::r)=(if h=[] then 1 else 0)+gI h.tail r:=by rw[gI,if_neg (by rw[e];decide)]
theorem sD {o:Op} {r:List Op} (e:o.ins=an):gI [] (o::r)=1+gI [] r:=by rw[zZ e,if_pos rfl];rfl
theorem nh {y:It} {h:List It} {o:Op} {r:List Op} (e:o.ins=an):gI (y::h) (o::r)=gI h r:=by rw[zZ e,if_neg (by simp),bU];rfl
theorem BM {o:Op} {r:List Op} (e:o.ins=an):tk [] (o::r)=tk [] r:=by rw[vL e];rfl
theorem oj {y:It} {h:List It} {o:Op} {r:List Op} (e:o.ins=an):tk (y::h) (o::r)=y::tk h r:=by rw[vL e];rfl
theorem iY (o:Op):o.ins=ao∨o.ins=an:=by cases o.ins<;>simp
structure Ap (h:List It) (r:List Op):Prop where
 ord:Ord h
 nd:(gC r).Nodup
 ap:∀ x,x∈h->x∉gC r
theorem Ap.ins {h:List It} {o:Op} {r:List Op} (a:Ap h (o::r)) (e:o.ins=ao):Ap (gZ o.it h) r/\o.it∉h/\o.it∉gC r:=by
 have h1:=a.nd;have h2:=a.ap;rw[xM e] at h1 h2;have n1:o.it∉h:=fun m=>h2 _ m bL
 have n2:=(fH.1 h1).1;refine⟨⟨pk a.ord n1,(fH.1 h1).2,fun x hx=>?_⟩,n1,n2⟩
 rcases jY.1 hx with e'|e'
 ·rw[e'];exact n2
 ·exact fun m=>h2 x e' (eo _ m)
theorem Ap.del {h:List It} {o:Op} {r:List Op} (a:Ap h (o::r)) (e:o.ins=an):Ap h.tail r:=by
 have h1:=a.nd;have h2:=a.ap;rw[qT e] at h1 h2;refine⟨?_,h1,fun x hx=>h2 x (Bg hx)⟩
 cases h with
 |nil=>exact a.ord
 |cons y h=>exact ES a.ord
theorem Ap.nX {h:List It} {o:Op} {r:List Op} (a:Ap h (o::r)):Ap (nX h o) r:=by
 unfold Pa.nX;rcases iY o with e|e
 ·rw[if_pos e];exact(a.ins e).1
 ·rw[if_neg (by rw[e];decide)];exact a.del e
theorem qV:∀ {r:List Op} {h:List It},Ap h r->∀ z,z∈tk h r->z∈h∨z∈gC r
 |[],h,a,z,hz=>by cases hz
 |o::r,h,a,z,hz=>by
  rcases iY o with e|e
  ·rw[oD e] at hz;rw[xM e];rcases qV (a.ins e).1 z hz with m|m
   ·rcases jY.1 m with m|m
    ·exact .inr (m▸bL)
    ·exact .inl m
   ·exact .inr (eo _ m)
  ·rw[vL e] at hz;rw[qT e];rcases b7.1 hz with m|m
   ·exact .inl (ph m)
   ·rcases qV (a.del e) z m with m|m
    ·exact .inl (Bg m)
    ·exact .inr m
theorem qU:∀ {r:List Op} {h:List It},Ap h r->∀ z,z∈fin h r↔(z∈h∨z∈gC r)/\z∉tk h r
 |[],h,a,z=>by simp[fin,tk,gC]
 |o::r,h,a,z=>by
  rcases iY o with e|e
  ·rw[td e,oD e,xM e,qU (a.ins e).1,jY,bO]
   constructor
   ·rintro ⟨(m|m)|m,n⟩
    ·exact⟨.inr (.inl m),n⟩
    ·exact⟨.inl m,n⟩
    ·exact⟨.inr (.inr m),n⟩
   ·rintro ⟨m|m|m,n⟩
    ·exact⟨.inl (.inr m),n⟩
    ·exact⟨.inl (.inl m),n⟩
    ·exact⟨.inr m,n⟩
  ·rw[nB e,vL e,qT e,qU (a.del e)];cases h with
   |nil=>simp
   |cons y h =>
    have hy:=yg a.ord;have hy2:y∉gC r:=by have:=a.ap y bL;rwa [qT e] at this
    have hy3:y∉tk h r:=fun m=>by
     rcases qV (a.del e) y m with m|m
     ·exact hy m
     ·exact hy2 m
    simp only[oN,bO,Jv,r_,b7,vE,or_false]
    constructor
    ·rintro ⟨m|m,n⟩
     ·exact⟨.inl (.inr m),fun c=>by rcases c with c|c;exact hy (c▸m);exact n c⟩
     ·exact⟨.inr m,fun c=>by rcases c with c|c;exact hy2 (c▸m);exact n c⟩
    ·rintro ⟨(m|m)|m,n⟩
     ·exact absurd (.inl m) n
     ·exact⟨.inl m,fun c=>n (.inr c)⟩
     ·exact⟨.inr m,fun c=>n (.inr c)⟩
theorem Yy:∀ {r:List Op} {h:List It},Ap h r->Ord (fin h r)
 |[],h,a=>a.ord
 |o::r,h,a=>by rw[fin];exact Yy a.nX
def sZ (x:It) (h:List It):List Op->Option It
 |[]=>aa x
 |o::r=>if o.ins=ao then sZ x (gZ o.it h) r else if h=[] then aj else sZ (mx x (h.headD iz)) h.tail r
theorem Yx {x:It} {h:List It} {o:Op} {r:List Op} (e:o.ins=ao):sZ x h (o::r)=sZ x (gZ o.it h) r:=by rw[sZ,if_pos e]
theorem VP {x:It} {o:Op} {r:List Op} (e:o.ins=an):sZ x [] (o::r)=aj:=by rw[sZ,if_neg (by rw[e];decide),if_pos rfl]
theorem X8 {x y:It} {h:List It} {o:Op} {r:List Op} (e:o.ins=an):sZ x (y::h) (o::r)=sZ (mx x y) h r:=by rw[sZ,if_neg (by rw[e];decide),if_neg (by simp)];rfl
theorem Te (x y:It):mx x y=x∨mx x y=y:=by unfold mx;split<;>simp
theorem ank (x y z:It):(z=mn x y∨z=mx x y)↔(z=x∨z=y):=by
 unfold mx mn;split
 ·rfl
 ·exact Or.comm
theorem Ly:∀ {r:List Op} {h:List It} {x:It},Ap h r->x∉h->x∉gC r ->
  fin (gZ x h) r=(match sZ x h r with|none=>fin h r|some z=>gZ z (fin h r)) /\
  gI h r=gI (gZ x h) r+(if sZ x h r=aj then 1 else 0) /\
  (∀ w,w∈tk (gZ x h) r↔(w∈tk h r∨w=x)/\sZ x h r≠aa w)/\(∀ z,sZ x h r=aa z->z∉fin h r/\(z=x∨z∈tk h r))
 |[],h,x,a,hx,hi=>by
  refine⟨rfl,rfl,fun w=>?_,fun z hz=>?_⟩
  ·show w∈([]:List It)↔(w∈([]:List It)∨w=x)/\aa x≠aa w
   constructor
   ·intro m;cases m
   ·rintro ⟨m|m,n⟩
    ·exact m
    ·exact absurd (by rw[m]) n
  ·cases hz;exact⟨hx,.inl rfl⟩
 |o::r,h,x,a,hx,hi=>by
  rcases iY o with e|e
  ·obtain⟨a',n1,n2⟩:=a.ins e;rw[xM e] at hi;have kz:x≠o.it:=fun c=>hi (c▸bL)
   have ih:=Ly (r:=r) (h:=gZ o.it h) (x:=x) a' (fun m=>by rcases jY.1 m with m|m;exact kz m;exact hx m) (fun m=>hi (eo _ m))
   rw[td e,td e,oC e,oC e,oD e,oD e,Yx e,ad7 a.ord n1 hx kz.symm];exact ih
  ·rw[qT e] at hi;have a':=a.del e;cases h with
   |nil =>
    rw[VP e,nB e,nB e,zZ e,zZ e,vL e,vL e];refine⟨rfl,?_,fun w=>?_,fun z hz=>by cases hz⟩
    ·show(if([]:List It)=[] then 1 else 0)+gI [] r=(if[x]=[] then 1 else 0)+gI [] r+1
     rw[if_pos rfl,if_neg (by simp)];omega
    ·show w∈[x]++tk [] r↔(w∈[]++tk [] r∨w=x)/\_
     simp only[pd,HL,bO]
     constructor
     ·rintro (m|m)
      ·exact⟨.inr m,by simp⟩
      ·exact⟨.inl m,by simp⟩
     ·rintro ⟨m|m,_⟩
      ·exact .inr m
      ·exact .inl m
   |cons y h =>
    have kz:x≠y:=fun c=>hx (c▸bL)
    have hxh:x∉h:=fun m=>hx (eo _ m)
    have hyh:=yg a.ord;have hyi:y∉gC r:=by have:=a.ap y bL;rwa [qT e] at this
    have hm1:mx x y∉h:=by rcases Te x y with c|c<;>rw[c]<;>assumption
    have Ku:mx x y∉gC r:=by rcases Te x y with c|c<;>rw[c]<;>assumption
    obtain⟨i1,i2,i3,i4⟩:=Ly (r:=r) (h:=h) (x:=mx x y) a' hm1 Ku;have ytk:y∉tk h r:=fun m=>by
     rcases qV a' y m with m|m
     ·exact hyh m
     ·exact hyi m
    rw[X8 e,nB e,nB e,zZ e,zZ e,vL e,vL e,adh a.ord hx];simp only[oN,Jv,r_,HL];rw[if_neg (by simp),if_neg (by simp),bU,bU]
    refine⟨i1,i2,fun w=>?_,fun z hz=>?_⟩
    ·rw[bO,i3,bO];have k:=ank x y w;have nmn:sZ (mx x y) h r≠aa (mn x y):=fun c=>by
      rcases(i4 _ c).2 with c2|c2
      ·unfold mx mn at c2;split at c2
       ·exact kz c2
       ·exact kz c2.symm
      ·have:mn x y=x∨mn x y=y:=by unfold mn;split<;>simp
       rcases this with c3|c3
       ·rw[c3] at c2;rcases qV a' x c2 with m|m
        ·exact hxh m
        ·exact hi m
       ·rw[c3] at c2;exact ytk c2
     constructor
     ·rintro (m|⟨m,n⟩)
      ·have:=k.1 (.inl m);refine⟨?_,m▸nmn⟩;rcases this with c|c
       ·exact .inr c
       ·exact .inl (.inl c)
      ·refine⟨?_,n⟩;rcases m with m|m
       ·exact .inl (.inr m)
       ·rcases k.1 (.inr m) with c|c
        ·exact .inr c
        ·exact .inl (.inl c)
     ·rintro ⟨(m|m)|m,n⟩
      ·rcases k.2 (.inr m) with c|c
       ·exact .inl c
       ·exact .inr ⟨.inr c,n⟩
      ·exact .inr ⟨.inl m,n⟩
      ·rcases k.2 (.inl m) with c|c
       ·exact .inl c
       ·exact .inr ⟨.inr c,n⟩
    ·obtain⟨z1,z2⟩:=i4 z hz;refine⟨z1,?_⟩;rcases z2 with c|c
     ·rcases Te x y with c2|c2
      ·exact .inl (c.trans c2)
      ·exact .inr (c.trans c2▸bL)
     ·exact .inr (eo _ c)
def tp (h:List It) (r:List Op):Option (Option It):=if gI h r=0 then aa (hi (tk h r)) else aj
def upO (x:It):Option (Option It)->Option It
 |none=>aj
 |some m=>up (aa x) m
theorem PO (x y:It):up (aa x) (aa y)=aa (mx x y):=by
 show(if ah x y then aa y else aa x)=aa (mx x y)
 unfold mx;split<;>rfl
theorem Oh:∀ {r:List Op} {h:List It} {x:It},sZ x h r=upO x (tp h r)
 |[],h,x=>rfl
 |o::r,h,x=>by
  rcases iY o with e|e
  ·rw[Yx e,Oh];unfold tp;rw[oC e,oD e]
  ·cases h with
   |nil =>
    rw[VP e];unfold tp;rw[sD e,if_neg (by omega)]
    rfl
   |cons y h =>
    rw[X8 e,Oh];unfold tp;rw[nh e,oj e];split
    ·show up (aa (mx x y)) (hi (tk h r))=up (aa x) (up (aa y) (hi (tk h r)))
     rw[← VW,PO]
    ·rfl
def pz (g:It->Bool) (h:List It) (r:List Op):Nat:=gI h r+h.countP g
def wt (g:It->Bool) (o:Op):Int:=if o.ins=ao then if g o.it=ao then 1 else 0 else -1
def je (g:It->Bool) (h:List It) (r:List Op):Prop:=∀ z,z∈h∨z∈gC r->(g z=ao↔z∈tk h r)
theorem je.nX {g:It->Bool} {h:List It} {o:Op} {r:List Op} (c:je g h (o::r)) (a:Ap h (o::r)):je g (nX h o) r:=by
 intro z hz;unfold Pa.nX at *
 rcases iY o with e|e
 ·rw[if_pos e] at *
  have := c z (by rw [xM e]; rcases hz with m | m
                  · rcases jY.1 m with m|m
                    · exact .inr (m▸bL)
                    · exact .inl m
                  · exact .inr (eo _ m))
  rw[oD e] at this;exact this
 ·rw[if_neg (by rw[e];decide)] at *
  have := c z (by rw [qT e]; rcases hz with m | m
                  · exact .inl (Bg m)
                  · exact .inr m)
  rw[vL e] at this;rw[this];cases h with
  |nil=>simp
  |cons y h =>
   have kz:z≠y:=by
    rintro rfl
    rcases hz with m|m
    ·exact yg a.ord m
    ·have:=a.ap z bL;rw[qT e] at this;exact this m
   simp[kz]
theorem O3 (g:It->Bool) (x:It):∀ l:List It,(gZ x l).countP g=l.countP g+if g x=ao then 1 else 0
 |[]=>by simp[gZ,vF]
 |y::l=>by
  rw[gZ];split
  ·rw[vF]
  ·rw[vF,O3 g x l,vF];omega
theorem ahq {g:It->Bool} {h:List It} {o:Op} {r:List Op} (c:je g h (o::r)) (a:Ap h (o::r)):(pz g (nX h o) r:Int)=pz g h (o::r)+wt g o:=by
 unfold pz wt nX;rcases iY o with e|e
 ·rw[if_pos e,if_pos e,oC e,O3];split<;>omega
 ·rw[if_neg (by rw[e];decide),if_neg (by rw[e];decide)]
  cases h with
  |nil =>
   rw[sD e];show((gI [] r+0:Nat):Int)=((1+gI [] r+0:Nat):Int) + -1
   omega
  |cons y h =>
   have hg:g y=ao:=(c y (.inl bL)).2 (by rw[vL e];simp)
   rw[nh e,vF,if_pos hg];show((gI h r+h.countP g:Nat):Int)=_
   omega
theorem PJ {g:It->Bool} {h:List It} {r:List Op} (hp:0<pz g h r):0<gI h r∨∃ z,z∈h/\g z=ao:=by
 unfold pz at hp;rcases mj (gI h r) with e|e
 ·rw[e,bU] at hp;obtain⟨z,h1,h2⟩:=Jw.1 hp;exact .inr ⟨z,h1,h2⟩
 ·exact .inl e
theorem HG {g:It->Bool} {h:List It} {r:List Op} (hp:pz g h r=0):gI h r=0/\∀ z,z∈h->g z=an:=by
 unfold pz at hp;refine⟨by omega,fun z hz=>?_⟩
 have:=Jx.1 (show h.countP g=0 by omega) z hz
 simpa using this
theorem Ik:∀ {l:List It} {z:It},z∈l->∃ m,hi l=aa m/\(m=z∨ah z m)
 |a::l,z,hz=>by
  rcases bO.1 hz with e|e
  ·subst e;show ∃ m,up (aa z) (hi l)=aa m/\_
   cases hi l with
   |none=>exact⟨z,rfl,.inl rfl⟩
   |some b =>
    rw[PO];refine⟨_,rfl,?_⟩;unfold mx;split
    ·rename_i c;exact .inr c
    ·exact .inl rfl
  ·obtain⟨m,h1,h2⟩:=Ik e;show ∃ m,up (aa a) (hi l)=aa m/\_
   rw[h1,PO];refine⟨_,rfl,?_⟩;unfold mx;split
   ·exact h2
   ·rename_i c;rcases h2 with h2|h2
    ·subst h2
     by_cases c2:m=a
     ·exact .inl c2.symm
     ·rcases Tu c2 with c3|c3
      ·exact .inr c3
      ·exact absurd c3 c
    ·by_cases c2:m=a
     ·subst c2;exact .inr h2
     ·rcases Tu c2 with c3|c3
      ·exact .inr (Of h2 c3)
      ·exact absurd c3 c
theorem agl {g:It->Bool} {h:List It} {o:Op} {r:List Op} (c:je g h (o::r)) (a:Ap h (o::r)) (hp:0<pz g (nX h o) r):tp h (o::r)=tp (nX h o) r:=by
 have c':=c.nX a;have a':=a.nX;unfold tp;rcases iY o with e|e
 ·rw[oC e,oD e];unfold nX;rw[if_pos e]
 ·have es:nX h o=h.tail:=by unfold nX;rw[if_neg (by rw[e];decide)]
  rw[es] at hp c' a' ⊢;cases h with
  |nil =>
   have:0<gI [] r:=by
    rcases PJ hp with h1|⟨z,h1,_⟩
    ·exact h1
    ·cases h1
   rw[sD e,if_neg (by omega)]
   show aj=if gI [] r=0 then _ else aj
   rw[if_neg (by omega)]
  |cons y h =>
   rw[nh e,oj e];show(if gI h r=0 then aa (up (aa y) (hi (tk h r))) else aj)=(if gI h r=0 then aa (hi (tk h r)) else aj)
   split
   ·rename_i h0;rcases PJ hp with h1|⟨z,h1,h2⟩
    ·rw[oN] at h1;omega
    ·have h3:=(c' z (.inl h1)).1 h2;obtain⟨m,m1,m2⟩:=Ik h3;have hyz:ah y z:=Cy a.ord h1;rw[oN] at m1;rw[m1,PO];unfold mx;rw[if_pos (by rcases m2 with m2|m2;exact m2▸hyz;exact Of hyz m2)]
   ·rfl
def pK (z:It) (h:List It):List Op->Option It
 |[]=>aa z
 |o::r=>if o.ins=ao then pK z (gZ o.it h) r else if h.headD iz=z then(if h.tail=[] then aj else pK (h.tail.headD iz) h.tail r) else pK z h.tail r
theorem NI {z:It} {h:List It} {o:Op} {r:List Op} (e:o.ins=ao):pK z h (o::r)=pK z (gZ o.it h) r:=by rw[pK,if_pos e]
theorem M3 {z y:It} {h:List It} {o:Op} {r:List Op} (e:o.ins=an) (kz:y≠z):pK z (y::h) (o::r)=pK z h r:=by rw[pK,if_neg (by rw[e];decide),if_neg (show ¬ (y::h).headD iz=z from kz)];rfl
theorem Vu {z:It} {o:Op} {r:List Op} (e:o.ins=an):pK z [z] (o::r)=aj:=by rw[pK,if_neg (by rw[e];decide),if_pos (show[z].headD iz=z from rfl),if_pos (show[z].tail=[] from rfl)]
theorem Ue {z w:It} {h:List It} {o:Op} {r:List Op} (e:o.ins=an):pK z (z::w::h) (o::r)=pK w (w::h) r:=by rw[pK,if_neg (by rw[e];decide),if_pos (show(z::w::h).headD iz=z from rfl),if_neg (show ¬ (z::w::h).tail=[] by simp)];rfl
theorem wQ:∀ {r:List Op} {h:List It} {z:It},z∈h->z∉tk h r->pK z h r=aa z
 |[],h,z,_,_=>rfl
 |o::r,h,z,hz,hn=>by
  rcases iY o with e|e
  ·rw[oD e] at hn;rw[NI e];exact wQ (jY.2 (.inr hz)) hn
  ·cases h with
   |nil=>cases hz
   |cons y h =>
    rw[oj e,bO,not_or] at hn;rw[M3 e (Ne.symm hn.1)];rcases bO.1 hz with m|m
    ·exact absurd m hn.1
    ·exact wQ m hn.2
theorem MR {y:It} {h:List It} (a:Ord (y::h)):pU y (y::h)=h:=by
 refine ze (zb a) (ES a) fun z=>?_
 rw[po,bO]
 constructor
 ·rintro ⟨m|m,n⟩
  ·exact absurd m n
  ·exact m
 ·intro m;exact⟨.inr m,fun e=>yg a (e▸m)⟩
theorem adk {y z:It} {h:List It} (kz:y≠z):pU z (y::h)=y::pU z h:=by
 unfold pU;rw[kg,decide_eq_false kz];rfl
theorem ag7 {y z:It} {h:List It} (a:Ord h) (hy:y∉h) (kz:y≠z):pU z (gZ y h)=gZ y (pU z h):=by
 refine ze (zb (pk a hy)) (pk (zb a) fun m=>hy (po.1 m).1) fun w=>?_
 rw[po,jY,jY,po]
 constructor
 ·rintro ⟨m|m,n⟩
  ·exact .inl m
  ·exact .inr ⟨m,n⟩
 ·rintro (m|⟨m,n⟩)
  ·exact⟨.inl m,m▸kz⟩
  ·exact⟨.inr m,n⟩
theorem E4:∀ {r:List Op} {h:List It} {z:It},Ap h r->z∈h ->
  fin (pU z h) r=(match pK z h r with|none=>fin h r|some w=>pU w (fin h r)) /\
  gI (pU z h) r=gI h r+(if pK z h r=aj then 1 else 0) /\
  (∀ w,w∈tk (pU z h) r↔w≠z/\(w∈tk h r∨pK z h r=aa w))/\(∀ w,pK z h r=aa w->w∈fin h r)
 |[],h,z,a,hz=>by
  refine⟨rfl,rfl,fun w=>?_,fun w hw=>by cases hw;exact hz⟩
  show w∈([]:List It)↔w≠z/\(w∈([]:List It)∨aa z=aa w)
  constructor
  ·intro m;cases m
  ·rintro ⟨n,m|m⟩
   ·exact m
   ·cases m;exact absurd rfl n
 |o::r,h,z,a,hz=>by
  rcases iY o with e|e
  ·obtain⟨a',n1,n2⟩:=a.ins e;have kz:o.it≠z:=fun c=>n1 (c▸hz)
   have ih:=E4 a' (jY.2 (.inr hz));rw[ag7 a.ord n1 kz] at ih;rw[td e,td e,oC e,oC e,oD e,oD e,NI e];exact ih
  ·have a':=a.del e;cases h with
   |nil=>cases hz
   |cons y h =>
    have hyi:y∉gC r:=by have:=a.ap y bL;rwa [qT e] at this
    have ytk:y∉tk h r:=fun m=>by
     rcases qV a' y m with m|m
     ·exact yg a.ord m
     ·exact hyi m
    have ann:y∉fin h r:=fun m=>by
     rcases((qU a' y).1 m).1 with m|m
     ·exact yg a.ord m
     ·exact hyi m
    by_cases kz:y=z
    ·subst kz;rw[MR a.ord];cases h with
     |nil =>
      rw[nB e,nB e,sD e,nh e,BM e,oj e,Vu e];refine⟨rfl,?_,fun w=>?_,fun w hw=>by cases hw⟩
      ·rw[if_pos rfl];omega
      ·rw[bO]
       constructor
       ·intro m;exact⟨fun c=>ytk (c▸m),.inl (.inr m)⟩
       ·rintro ⟨n,(m|m)|m⟩
        ·exact absurd m n
        ·exact m
        ·cases m
     |cons w h =>
      obtain⟨i1,i2,i3,i4⟩:=E4 a' bL;rw[oN] at i1 i2 i3 i4;rw[MR (ES a.ord)] at i1 i2 i3;rw[nB e,nB e,nh e,nh e,oj e,oj e,Ue e];refine⟨i1,i2,fun v=>?_,i4⟩
      have wy:w≠y:=fun c=>yg a.ord (c▸bL)
      rw[bO,bO,i3]
      constructor
      ·rintro (m|⟨n,m|m⟩)
       ·subst m;refine⟨wy,?_⟩
        by_cases c:v∈tk (v::h) r
        ·exact .inl (.inr c)
        ·exact .inr (wQ bL c)
       ·exact⟨fun c=>ytk (c▸m),.inl (.inr m)⟩
       ·exact⟨fun c=>ann (c▸i4 _ m),.inr m⟩
      ·rintro ⟨n,(m|m)|m⟩
       ·exact absurd m n
       ·by_cases c:v=w
        ·exact .inl c
        ·exact .inr ⟨c,.inl m⟩
       ·by_cases c:v=w
        ·exact .inl c
        ·exact .inr ⟨c,.inr m⟩
    ·have HB:z∈h:=by
      rcases bO.1 hz with m|m
      ·exact absurd m.symm kz
      ·exact m
     obtain⟨i1,i2,i3,i4⟩:=E4 a' HB;rw[oN] at i1 i2 i3 i4;rw[adk kz,nB e,nB e,nh e,nh e,oj e,oj e,M3 e kz];refine⟨i1,i2,fun v=>?_,i4⟩
     rw[bO,bO,i3]
     constructor
     ·rintro (m|⟨n,m|m⟩)
      ·exact⟨m▸kz,.inl (.inl m)⟩
      ·exact⟨n,.inl (.inr m)⟩
      ·exact⟨n,.inr m⟩
     ·rintro ⟨n,(m|m)|m⟩
      ·exact .inl m
      ·exact .inr ⟨n,.inl m⟩
      ·exact .inr ⟨n,.inr m⟩
theorem P4:∀ {r:List Op} {h:List It},0<gI h r->∀ z,z∈h->z∈tk h r
 |[],h,hp,z,hz=>by simp[gI] at hp
 |o::r,h,hp,z,hz=>by
  rcases iY o with e|e
  ·rw[oC e] at hp;rw[oD e];exact P4 hp z (jY.2 (.inr hz))
  ·cases h with
   |nil=>cases hz
   |cons y h =>
    rw[nh e] at hp;rw[oj e];rcases bO.1 hz with m|m
    ·exact m▸bL
    ·exact eo _ (P4 hp z m)
theorem Tq:∀ {r:List Op} {h:List It},Ap h r->∀ {y z:It},z∈tk h r->y∈h->ah y z->y∈tk h r
 |[],h,a,y,z,hz,hy,c=>by cases hz
 |o::r,h,a,y,z,hz,hy,c=>by
  rcases iY o with e|e
  ·rw[oD e] at *
   exact Tq (a.ins e).1 hz (jY.2 (.inr hy)) c
  ·cases h with
   |nil=>cases hy
   |cons w h =>
    rw[oj e] at *
    rcases bO.1 hy with m|m
    ·exact m▸bL
    ·rcases bO.1 hz with m'|m'
     ·subst m';exact absurd (Cy a.ord m) (si c)
     ·exact eo _ (Tq (a.del e) m' m c)
def Jd (g:It->Bool) (h:List It):List Op->List It
 |[]=>h
 |o::r=>if pz g h (o::r)=0 then h else Jd g (nX h o) r
theorem Eu {g:It->Bool} {h:List It} {r:List Op} (hz:pz g h r=0):Jd g h r=h:=by
 cases r with
 |nil=>rfl
 |cons o r=>rw[Jd,if_pos hz]
theorem QI {h:List It} {o:Op} (e:o.ins=ao):nX h o=gZ o.it h:=by unfold nX;rw[if_pos e]
theorem KY {h:List It} {o:Op} (e:o.ins=an):nX h o=h.tail:=by unfold nX;rw[if_neg (by rw[e];decide)]
theorem Ea {g:It->Bool}:∀ {r:List Op} {h:List It},0<gI h r->Jd g h r=[]
 |[],h,hp=>by simp[gI] at hp
 |o::r,h,hp=>by
  rw[Jd,if_neg (by unfold pz;omega)]
  rcases iY o with e|e
  ·rw[QI e];rw[oC e] at hp;exact Ea hp
  ·rw[KY e];cases h with
   |nil =>
    rcases mj (gI [] r) with c|c
    ·exact Eu (h:=[]) (by unfold pz;rw[c];rfl)
    ·exact Ea (h:=[]) c
   |cons y h =>
    rw[nh e] at hp;exact Ea hp
theorem Hj {g:It->Bool}:∀ {r:List Op} {h:List It} {z:It},Ap h r->je g h r->z∈h->g z=ao->pK z h r=(Jd g h r).head?
 |[],h,z,a,c,hz,hg=>by have:=(c z (.inl hz)).1 hg;cases this
 |o::r,h,z,a,c,hz,hg=>by
  have hp:pz g h (o::r)≠0:=by
   have:0<h.countP g:=Jw.2 ⟨z,hz,hg⟩;unfold pz;omega
  have a':=a.nX;have c':=c.nX a;rw[Jd,if_neg hp];rcases iY o with e|e
  ·rw[QI e] at *
   rw[NI e];exact Hj a' c' (jY.2 (.inr hz)) hg
  ·rw[KY e] at *
   cases h with
   |nil=>cases hz
   |cons y h =>
    rw[oN] at *
    by_cases kz:y=z
    ·subst kz;cases h with
     |nil =>
      rw[Vu e];rcases mj (gI [] r) with k|k
      ·rw[Eu (by unfold pz;rw[k];rfl)];rfl
      ·rw[Ea k];rfl
     |cons w h =>
      rw[Ue e];rcases mj (pz g (w::h) r) with k|k
      ·rw[Eu k];have hw:w∉tk (w::h) r:=fun m=>by
        have:=(c' w (.inl bL)).2 m;rw[(HG k).2 w bL] at this;cases this
       exact wQ bL hw
      ·refine Hj a' c' bL ?_;refine(c' w (.inl bL)).2 ?_;rcases PJ k with k1|⟨v,k1,k2⟩
       ·exact P4 k1 w bL
       ·have k3:=(c' v (.inl k1)).1 k2;rcases bO.1 k1 with m|m
        ·exact m▸k3
        ·exact Tq a' k3 bL (Cy a'.ord m)
    ·rw[M3 e kz];have HB:z∈h:=by
      rcases bO.1 hz with m|m
      ·exact absurd m.symm kz
      ·exact m
     exact Hj a' c' HB hg
theorem ahR {g:It->Bool} {r:List Op} {y:It} {h:List It} (a:Ap (y::h) r) (c:je g (y::h) r):pK y (y::h) r=(Jd g (y::h) r).head?:=by
 rcases mj (pz g (y::h) r) with k|k
 ·rw[Eu k];refine wQ bL fun m=>?_
  have:=(c y (.inl bL)).2 m;rw[(HG k).2 y bL] at this;cases this
 ·refine Hj a c bL ?_;refine(c y (.inl bL)).2 ?_;rcases PJ k with k1|⟨v,k1,k2⟩
  ·exact P4 k1 y bL
  ·have k3:=(c v (.inl k1)).1 k2;rcases bO.1 k1 with m|m
   ·exact m▸k3
   ·exact Tq a k3 bL (Cy a.ord m)
theorem p8:∀ (a b:List Op) (h:List It),fin h (a++b)=fin (fin h a) b
 |[],b,h=>rfl
 |o::a,b,h=>by show fin (nX h o) (a++b)=fin (fin (nX h o) a) b;exact p8 a b _
theorem vW:∀ (a b:List Op) (h:List It),tk h (a++b)=tk h a++tk (fin h a) b
 |[],b,h=>rfl
 |o::a,b,h=>by
  rcases iY o with e|e
  ·rw[mw,oD e,oD e,td e];exact vW a b _
  ·rw[mw,vL e,vL e,nB e,vW a b,rG]
theorem uz:∀ (a b:List Op) (h:List It),gI h (a++b)=gI h a+gI (fin h a) b
 |[],b,h=>by show _=0+_;rw[bU];rfl
 |o::a,b,h=>by
  rcases iY o with e|e
  ·rw[mw,oC e,oC e,td e];exact uz a b _
  ·rw[mw,zZ e,zZ e,nB e,uz a b];omega
theorem El:∀ {a b:List Op} {h:List It},Ap h (a++b)->Ap (fin h a) b
 |[],b,h,k=>k
 |o::a,b,h,k=>El (a:=a) k.nX
theorem GM {g:It->Bool}:∀ {a b:List Op} {h:List It},Ap h (a++b)->je g h (a++b)->je g (fin h a) b
 |[],b,h,k,c=>c
 |o::a,b,h,k,c=>GM (a:=a) k.nX (c.nX k)
def wts (g:It->Bool):List Op->Int
 |[]=>0
 |o::r=>wt g o+wts g r
theorem afQ {g:It->Bool}:∀ {a b:List Op} {h:List It},Ap h (a++b)->je g h (a++b)->(pz g (fin h a) b:Int)=pz g h (a++b)+wts g a
 |[],b,h,k,c=>by show(pz g h b:Int)=pz g h b+0;omega
 |o::a,b,h,k,c=>by
  have h1:=afQ (a:=a) (b:=b) k.nX (c.nX k);have h2:=ahq (r:=a++b) c k;show(pz g (fin (nX h o) a) b:Int)=pz g h (o::(a++b))+(wt g o+wts g a)
  omega
theorem Yj {g:It->Bool}:∀ {m b:List Op} {h:List It},Ap h (m++b)->je g h (m++b)->(∀ a c,m=a++c->a≠[]->0<pz g (fin h a) (c++b))->tp h (m++b)=tp (fin h m) b
 |[],b,h,k,c,hp=>rfl
 |o::m,b,h,k,c,hp=>by
  have h1:tp h (o::(m++b))=tp (nX h o) (m++b):=agl c k (hp [o] m rfl (by simp))
  rw[mw,h1];exact Yj (m:=m) k.nX (c.nX k) fun a c' e kz=>hp (o::a) c' (by rw[e];rfl) (by simp)
theorem aa9 {g:It->Bool}:∀ {r:List Op} {h:List It},Ap h r->je g h r->∃ a b,r=a++b/\Jd g h r=fin h a/\pz g (fin h a) b=0/\∀ c d,r=c++d->c.length<a.length->0<pz g (fin h c) d
 |[],h,k,c=>⟨[],[],rfl,rfl,by
   unfold pz;have:h.countP g=0:=Jx.2 fun z hz hg=>by have:=(c z (.inl hz)).1 hg;cases this
   show 0+h.countP g=0
   omega,fun c d e hl=>by simp at hl⟩
 |o::r,h,k,c=>by
  rw[Jd];split
  ·rename_i h0;exact⟨[],o::r,rfl,rfl,h0,fun c d e hl=>by simp at hl⟩
  ·rename_i h0;obtain⟨a,b,e1,e2,e3,e4⟩:=aa9 k.nX (c.nX k);refine⟨o::a,b,by rw[e1];rfl,e2,e3,fun c' d e hl=>?_⟩
   cases c' with
   |nil=>rw[pd] at e;subst e;exact Nat.pos_of_ne_zero h0
   |cons o' c' =>
    rw[mw,List.cons.injEq] at e;obtain⟨rfl,e⟩:=e;exact e4 c' d e (by simpa using hl)
end Pa
namespace Gv
open Rx
section
variable {E A:Type} {O:iO E A}
def qW (O:iO E A) (e:E) (l:List E):Nat:=(om O e l).length
theorem agp (e:E):qW O e []=0:=rfl
theorem PA {e y:E} {l:List E} (h:0<O.cmp e y):qW O e (y::l)=qW O e l+1:=by
 unfold qW;rw[(xv h).1];rfl
theorem Lk {e y:E} {l:List E} (h:¬ 0<O.cmp e y):qW O e (y::l)=0:=by
 unfold qW;rw[(Nb h).1];rfl
theorem aiw (e:E) (l:List E):qW O e l≤l.length:=by
 have:=congrArg ae (Ho (O:=O) e l);rw[bF] at this;unfold qW;omega
theorem VD {e:E}:∀ {l:List E} {j:Nat},j<qW O e l->0<O.cmp e (l.getD j O.e0)
 |[],j,h=>by rw[agp] at h;omega
 |y::l,j,h=>by
  by_cases c:0<O.cmp e y
  ·rw[PA c] at h;cases j with
   |zero=>simpa using c
   |succ j=>rw[wx];exact VD (by omega)
  ·rw[Lk c] at h;omega
theorem Uk {e:E}:∀ {l:List E},qW O e l<l.length->¬ 0<O.cmp e (l.getD (qW O e l) O.e0)
 |[],h=>by simp at h
 |y::l,h=>by
  by_cases c:0<O.cmp e y
  ·rw[PA c] at h ⊢;rw[wx];exact Uk (by simpa using h)
  ·rw[Lk c];simpa using c
theorem Pb (e:E) (l:List E):om O e l=l.take (qW O e l):=by
 have h:=Gi (l₁:=om O e l) (l₂:=rW O e l) rfl;rw[Ho] at h;exact h.symm
theorem Oz (e:E) (l:List E):rW O e l=l.drop (qW O e l):=by
 have h:=Gj (l₁:=om O e l) (l₂:=rW O e l) rfl;rw[Ho] at h;exact h.symm
theorem UR (e:E) (l:List E):(jx O e l).isSome=(decide (qW O e l<l.length)&&decide (O.cmp e (l.getD (qW O e l) O.e0)=0)):=by
 unfold jx;rw[Oz]
 by_cases h:qW O e l<l.length
 ·rw[oV h,au,bd h,decide_eq_true h];simp only[lL,jh];split
  ·rename_i c;rw[decide_eq_true c];rfl
  ·rename_i c;rw[decide_eq_false c];rfl
 ·rw[List.drop_eq_nil_of_le (by omega),decide_eq_false h];rfl
theorem Wi (e:E) (l:List E):lx O e l=l.take (qW O e l)++e::l.drop (if(jx O e l).isSome then qW O e l+1 else qW O e l):=by
 unfold lx;rw[Pb,Oz];cases h:jx O e l with
 |none=>rfl
 |some x=>simp[HN]
variable {S:List E->A} {dp:List E->Prop} (Z:yG O S dp)
include Z
theorem VK {e:E} {l:List E} {i:Nat} (hs:ue O l) (hi:i<l.length) (he:O.cmp e (l.getD i O.e0)=0):qW O e l=i:=by
 have gi:l.getD i O.e0=l[i]:=by rw[au,bd hi];rfl
 rcases nR (qW O e l) i with h|h|h
 ·have h1:=Uk (O:=O) (e:=e) (l:=l) (by omega)
  have g:l.getD (qW O e l) O.e0=l[qW O e l]'(by omega):=by rw[au,bd (by omega)];rfl
  rw[gi] at he;have h2:=(DK.1 hs) (qW O e l) i (by omega) hi h
  have h3:=Z.aaa _ _ _ he h2;rw[g] at h1;exact absurd ((Z.swap _ _).1 h3) h1
 ·exact h
 ·have:=VD (O:=O) (e:=e) (l:=l) h;omega
theorem afV {e:E} {l:List E} {i:Nat} (hs:ue O l) (hi:i<l.length) (he:O.cmp e (l.getD i O.e0)=0):iw O e l=(l.getD i O.e0,ao):=by
 have hr:=VK Z hs hi he;have gi:l.getD i O.e0=l[i]:=by rw[au,bd hi];rfl
 have hh:jx O e l=aa (l.getD i O.e0):=by
  unfold jx;rw[Oz,hr,oV hi];simp only;rw[gi] at he ⊢;rw[if_pos he]
 unfold iw;rw[hh];rfl
end
end Gv
namespace Gv
open Rx
set_option linter.unusedSectionVars false
section
variable {E A:Type} {O:iO E A} {S:List E->A} {dp:List E->Prop} (Z:yG O S dp)
structure AB (O:iO E A) (S:List E->A) (may:A->A->Bool) (P:Nat->Bool) (L:List E):Prop extends Asks O S may P L where
 ex:∀ p l q,p++(l++q)=L->l≠[]->may (S p) (S l)=ao->∃ i,p.length≤i/\i<p.length+l.length/\P i=ao
def F' (h a b:Nat) (f r:Int) (kk:Nat):Prop:=kk≤4*h/\(f≤a->kk≤2*h)/\(r<0->kk≤2*h)/\(f≤a->r<0->kk=0)/\((b:Int)≤f->kk=0)
def Gg (h a b:Nat) (u r:Int) (kk:Nat):Prop:=kk≤4*h/\((b:Int)≤u->kk≤2*h)/\(r<0->kk≤2*h)/\((b:Int)≤u->r<0->kk=0)/\(u≤a->kk=0)
theorem Ze {hl hq a ll b:Nat} {f r:Int} {kk:Nat} (x:F' hl a (a+ll) f r kk) (h3:0≤r) (hc:¬ ((b:Nat):Int)≤f):F' (1+max hl hq) a b f r (1+kk):=by
 obtain⟨x1,x2,x3,x4,x5⟩:=x;exact⟨by omega,fun w=>by have:=x2 w;omega,fun w=>by omega,fun w w'=>by omega,fun w=>absurd w hc⟩
theorem abu {hl hq a ll b:Nat} {f r rl:Int} {kk:Nat} (x:F' hl a (a+ll) f rl kk) (h3:rl<0) (h0:0≤r) (hc:¬ ((b:Nat):Int)≤f):F' (1+max hl hq) a b f r (1+kk):=by
 obtain⟨x1,x2,x3,x4,x5⟩:=x;have z3:=x3 h3;exact⟨by omega,fun w=>by have:=x2 w;omega,fun w=>by omega,fun w w'=>by omega,fun w=>absurd w hc⟩
theorem W7 {hl hq a ll lq am:Nat} {f rl rq:Int} {kk OG:Nat} (x:F' hl a (a+ll) f rl kk) (y:F' hq am (am+lq) f rq OG) (hm:am=a+ll+1) (h3:rl<0) (h0:f≤a->¬ rq<0) (hc:¬ ((a+(ll+(lq+1)):Nat):Int)≤f) :
  F' (1+max hl hq) a (a+(ll+(lq+1))) f rq (1+kk+1+OG):=by
 subst hm;obtain⟨x1,x2,x3,x4,x5⟩:=x;obtain⟨y1,y2,y3,y4,y5⟩:=y;have z3:=x3 h3;refine⟨?_,fun w=>?_,fun w=>?_,fun w w'=>absurd w' (h0 w),fun w=>absurd w hc⟩
 ·by_cases w2:f≤((a+ll+1:Nat):Int)
  ·have:=y2 w2;omega
  ·have:=x5 (by omega);omega
 ·have:=y2 (by omega);have:=x4 w h3;omega
 ·have:=y3 w
  by_cases w2:f≤((a+ll+1:Nat):Int)
  ·have:=y4 w2 w;omega
  ·have:=x5 (by omega);omega
theorem W_ {hl hq a ll lq b am:Nat} {u r:Int} {kk:Nat} (x:Gg hq am (am+lq) u r kk) (hm:am=a+ll+1) (h3:0≤r) (hb:b=a+(ll+(lq+1))) (hc:¬ u≤((a:Nat):Int)):Gg (1+max hl hq) a b u r (2+kk):=by
 subst hm;obtain⟨x1,x2,x3,x4,x5⟩:=x;exact⟨by omega,fun w=>by have:=x2 (by omega);omega,fun w=>by omega,fun w w'=>by omega,fun w=>absurd w hc⟩
theorem aaE {hl hq a ll lq b am:Nat} {u r rl:Int} {kk:Nat} (x:Gg hq am (am+lq) u rl kk) (hm:am=a+ll+1) (h3:rl<0) (h0:0≤r) (hb:b=a+(ll+(lq+1))) (hc:¬ u≤((a:Nat):Int)):Gg (1+max hl hq) a b u r (2+kk):=by
 subst hm;obtain⟨x1,x2,x3,x4,x5⟩:=x;have z3:=x3 h3;exact⟨by omega,fun w=>by have:=x2 (by omega);omega,fun w=>by omega,fun w w'=>by omega,fun w=>absurd w hc⟩
theorem Y9 {hl hq a ll lq am:Nat} {u rl rq:Int} {kk OG:Nat} (x:Gg hq am (am+lq) u rq kk) (hm:am=a+ll+1) (y:Gg hl a (a+ll) u rl OG) (h3:rq<0) (h0:((a+(ll+(lq+1)):Nat):Int)≤u->¬ rl<0) (hc:¬ u≤((a:Nat):Int)) :
  Gg (1+max hl hq) a (a+(ll+(lq+1))) u rl (2+kk+OG):=by
 subst hm;obtain⟨x1,x2,x3,x4,x5⟩:=x;obtain⟨y1,y2,y3,y4,y5⟩:=y;have z3:=x3 h3;refine⟨?_,fun w=>?_,fun w=>?_,fun w w'=>absurd w' (h0 w),fun w=>absurd w hc⟩
 ·by_cases w2:((a+ll:Nat):Int)≤u
  ·have:=y2 w2;omega
  ·have:=x5 (by omega);omega
 ·have:=y2 (by omega);have:=x4 (by omega) h3;omega
 ·have:=y3 w
  by_cases w2:((a+ll:Nat):Int)≤u
  ·have:=y4 w2 w;omega
  ·have:=x5 (by omega);omega
include Z
theorem Iv {n:Nat} {may:A->A->Bool} {P:Nat->Bool} {L:List E} {f:Int} (hA:AB O S may P L) (hg:dp L):∀ (t:Tr E) {k:Nat} {m:Po E A} {p s:List E},fY n m->Rp O S m t->p++(t.elems++s)=L->t.h<k ->
  ∃ kk,F' t.h p.length (p.length+t.elems.length) f (first O may k m (nd O S t) ⟨p.length,S p⟩ f).1 kk/\iM [] kk (zn O) m (first O may k m (nd O S t) ⟨p.length,S p⟩ f).2
 |t,0,m,p,s,_,_,_,hk=>by omega
 |.nil,k+1,m,p,s,ho,hr,hL,hk=>by
  rw[first,if_pos (.inl (by rw[rj];rfl))]
  exact⟨0,⟨dh _,fun _=>dh _,fun _=>dh _,fun _ _=>rfl,fun _=>rfl⟩,iM.refl _ _ _ _⟩
 |.node r l x q,k+1,m,p,s,ho,⟨sQ,mU,lZ,mf⟩,hL,hk=>by
  have whole:=(H7 Z (f:=f) hA.toAsks hg (.node r l x q) (k:=k+1) (m:=m) (p:=p) (s:=s) ho ⟨sQ,mU,lZ,mf⟩ hL hk).1;simp only[Tr.h] at hk;have hlen:=Z.len _ hg;have pW:=ry (O:=O) (S:=S) Z.nil (.node r l x q);rw[← Tr.e9] at pW;have kl:lk O m l.root=nd O S l:=lZ.root ho;have kq:lk O m q.root=nd O S q:=mf.root ho;have e1:(nd O S (Tr.node r l x q)).l=l.root:=rfl;have e2:(nd O S (Tr.node r l x q)).r=q.root:=rfl;have e3:(nd O S (Tr.node r l x q)).e=x:=rfl;have e5:¬ (nd O S (Tr.node r l x q)).h=0:=by rw[rj];simp only[Tr.h];omega
  have R6:=congrArg ae hL;rw[Tr.gG] at hL;have Wm:p++(l.elems++(x::q.elems++s))=L:=by simpa using hL
  have PG:(p++l.elems)++x::(q.elems++s)=L:=by simpa using hL
  have JX:(p++l.elems++[x])++(q.elems++s)=L:=by simpa using hL
  have hex:=hA.ex p (Tr.node r l x q).elems s (by rw[Tr.gG];exact hL) (by rw[Tr.gG];simp)
  have FE:(Tr.node r l x q).elems.length=l.elems.length+(q.elems.length+1):=by rw[Tr.gG];simp
  have Vy:l.h<k:=by omega
  have hkq:q.h<k:=by omega
  have hhh:(Tr.node r l x q).h=1+max l.h q.h:=rfl;rw[first,e1,e2,e3,pW] at whole ⊢
  simp only[kl,kY,ir,kq,ry Z.nil,← Tr.e9] at whole ⊢;simp only[bF] at R6;have w1:W ((p.length:Int)+((Tr.node r l x q).elems.length:Int))=(p.length:Int)+(Tr.node r l x q).elems.length:=ua (by omega)
  rw[w1] at whole ⊢
  by_cases c1:(nd O S (Tr.node r l x q)).h=0∨(p.length:Int)+(Tr.node r l x q).elems.length≤f
  ·rw[if_pos c1];exact⟨0,⟨dh _,fun _=>dh _,fun _=>dh _,fun _ _=>rfl,fun _=>rfl⟩,iM.refl _ _ _ _⟩
  ·rw[if_neg c1] at whole ⊢;have hc:¬ ((p.length+(Tr.node r l x q).elems.length:Nat):Int)≤f:=fun h=>c1 (.inr (by omega))
   by_cases c2:(p.length:Int)≥f/\may (S p) (S (Tr.node r l x q).elems)=an
   ·rw[if_pos c2];exact⟨0,⟨dh _,fun _=>dh _,fun _=>dh _,fun _ _=>rfl,fun _=>rfl⟩,iM.refl _ _ _ _⟩
   ·rw[if_neg c2] at whole ⊢;have Q3:f≤p.length->∃ i:Nat,p.length≤i/\i<p.length+(Tr.node r l x q).elems.length/\P i=ao:=fun hf=>by
     cases hm:may (S p) (S (Tr.node r l x q).elems) with
     |false=>exact absurd ⟨hf,hm⟩ c2
     |true=>exact hex hm
    obtain⟨kk,x0,i2⟩:=Iv hA hg l (k:=k) (m:=aE m l.root) (p:=p) (s:=x::q.elems++s) (df.2 ho) (lZ.aE _) Wm Vy;have hu:=(gE (zn O) m l.root).to i2 (S:=[]) (fun s hs=>by simp at hs) (a_ _)
    rw[hhh]
    by_cases c3:(first O may k (aE m l.root) (nd O S l) ⟨p.length,S p⟩ f).1≥0
    ·rw[if_pos c3];exact⟨_,Ze x0 c3 hc,hu⟩
    ·rw[if_neg c3] at whole ⊢;have Ky:dp (p++l.elems):=Z.left _ (x::(q.elems++s)) (by rw[PG];exact hg)
     have Ut:dp ((p++l.elems)++[x]):=Z.left _ (q.elems++s) (by rw[JX];exact hg)
     rw[pA Z Ky,BB Z,pA Z Ut] at whole ⊢
     by_cases c4:((p++l.elems).length:Int)≥f/\may (S (p++l.elems)) (O.sum x)=ao
     ·rw[if_pos c4];exact⟨_,abu x0 (I1.mp c3) (xl _) hc,hu⟩
     ·rw[if_neg c4] at whole ⊢;obtain⟨OG,y0,j2⟩:=Iv hA hg q (k:=k) (m:=aE (first O may k (aE m l.root) (nd O S l) ⟨p.length,S p⟩ f).2 q.root) (p:=p++l.elems++[x]) (s:=s) (df.2 (M1.2 (df.2 ho)))
       ((Rp.frame hu (fun s _ hs=>by cases hs) mf).aE _) JX hkq
      refine⟨_,?_,(hu.to (gE _ _ q.root) (S:=[]) (fun s hs=>by simp at hs) (a_ _)).to j2 (fun s hs=>by simp at hs) (a_ _)⟩
      have AH:(p++l.elems++[x]).length=p.length+l.elems.length+1:=by simp;omega
      rw[FE] at hc ⊢;refine W7 x0 y0 AH (I1.mp c3) (fun hf hr=>?_) hc
      obtain⟨i,g1,g2,g3⟩:=Q3 hf;clear Q3 hex;rcases whole with⟨h1,h2⟩|⟨j,h1,_⟩
      ·rw[h2 i g1 g2 (by omega)] at g3;cases g3
      ·rw[h1] at hr;exact absurd hr (IX.mpr (xl j))
theorem Kh {n:Nat} {may:A->A->Bool} {P:Nat->Bool} {L:List E} {u:Int} (hA:AB O S may P L) (hg:dp L):∀ (t:Tr E) {k:Nat} {m:Po E A} {p s:List E},fY n m->Rp O S m t->p++(t.elems++s)=L->t.h<k ->
  ∃ kk,Gg t.h p.length (p.length+t.elems.length) u (last O may k m (nd O S t) ⟨p.length,S p⟩ u).1 kk/\iM [] kk (zn O) m (last O may k m (nd O S t) ⟨p.length,S p⟩ u).2
 |t,0,m,p,s,_,_,_,hk=>by omega
 |.nil,k+1,m,p,s,ho,hr,hL,hk=>by
  rw[last,if_pos (.inl (by rw[rj];rfl))]
  exact⟨0,⟨dh _,fun _=>dh _,fun _=>dh _,fun _ _=>rfl,fun _=>rfl⟩,iM.refl _ _ _ _⟩
 |.node r l x q,k+1,m,p,s,ho,⟨sQ,mU,lZ,mf⟩,hL,hk=>by
  have whole:=(Lz Z (u:=u) hA.toAsks hg (.node r l x q) (k:=k+1) (m:=m) (p:=p) (s:=s) ho ⟨sQ,mU,lZ,mf⟩ hL hk).1;simp only[Tr.h] at hk;have hlen:=Z.len _ hg;have pW:=ry (O:=O) (S:=S) Z.nil (.node r l x q);rw[← Tr.e9] at pW;have kl:lk O m l.root=nd O S l:=lZ.root ho;have kq:lk O m q.root=nd O S q:=mf.root ho;have e1:(nd O S (Tr.node r l x q)).l=l.root:=rfl;have e2:(nd O S (Tr.node r l x q)).r=q.root:=rfl;have e3:(nd O S (Tr.node r l x q)).e=x:=rfl;have e5:¬ (nd O S (Tr.node r l x q)).h=0:=by rw[rj];simp only[Tr.h];omega
  have R6:=congrArg ae hL;rw[Tr.gG] at hL;have Wm:p++(l.elems++(x::q.elems++s))=L:=by simpa using hL
  have PG:(p++l.elems)++x::(q.elems++s)=L:=by simpa using hL
  have JX:(p++l.elems++[x])++(q.elems++s)=L:=by simpa using hL
  have hex:=hA.ex p (Tr.node r l x q).elems s (by rw[Tr.gG];exact hL) (by rw[Tr.gG];simp)
  have FE:(Tr.node r l x q).elems.length=l.elems.length+(q.elems.length+1):=by rw[Tr.gG];simp
  have Vy:l.h<k:=by omega
  have hkq:q.h<k:=by omega
  have hhh:(Tr.node r l x q).h=1+max l.h q.h:=rfl;rw[last,e1,e2,e3,pW] at whole ⊢;simp only[kl,ml,ir,kq,ry Z.nil,← Tr.e9] at whole ⊢;simp only[bF] at R6;have w1:W ((p.length:Int)+((Tr.node r l x q).elems.length:Int))=(p.length:Int)+(Tr.node r l x q).elems.length:=ua (by omega)
  rw[w1] at whole ⊢
  by_cases c1:(nd O S (Tr.node r l x q)).h=0∨(p.length:Int)≥u
  ·rw[if_pos c1];exact⟨0,⟨dh _,fun _=>dh _,fun _=>dh _,fun _ _=>rfl,fun _=>rfl⟩,iM.refl _ _ _ _⟩
  ·rw[if_neg c1] at whole ⊢;have hc:¬ u≤((p.length:Nat):Int):=fun h=>c1 (.inr h)
   by_cases c2:(p.length:Int)+(Tr.node r l x q).elems.length≤u/\may (S p) (S (Tr.node r l x q).elems)=an
   ·rw[if_pos c2];exact⟨0,⟨dh _,fun _=>dh _,fun _=>dh _,fun _ _=>rfl,fun _=>rfl⟩,iM.refl _ _ _ _⟩
   ·rw[if_neg c2] at whole ⊢;have Q3:((p.length+(Tr.node r l x q).elems.length:Nat):Int)≤u->∃ i:Nat,p.length≤i/\i<p.length+(Tr.node r l x q).elems.length/\P i=ao:=fun hf=>by
     cases hm:may (S p) (S (Tr.node r l x q).elems) with
     |false=>exact absurd ⟨by omega,hm⟩ c2
     |true=>exact hex hm
    have Ky:dp (p++l.elems):=Z.left _ (x::(q.elems++s)) (by rw[PG];exact hg)
    have Ut:dp ((p++l.elems)++[x]):=Z.left _ (q.elems++s) (by rw[JX];exact hg)
    rw[pA Z Ky,BB Z,pA Z Ut] at whole ⊢;obtain⟨kk,x0,i2⟩:=Kh hA hg q (k:=k) (m:=aE (aE m l.root) q.root) (p:=p++l.elems++[x]) (s:=s) (df.2 (df.2 ho)) ((mf.aE _).aE _) JX hkq;have hu:=(tH (O:=O) m l.root q.root).to i2 (S:=[]) (fun s hs=>by simp at hs) (a_ _)
    have AH:(p++l.elems++[x]).length=p.length+l.elems.length+1:=by simp;omega
    rw[hhh]
    by_cases c3:(last O may k (aE (aE m l.root) q.root) (nd O S q) ⟨(p++l.elems++[x]).length,S (p++l.elems++[x])⟩ u).1≥0
    ·rw[if_pos c3];exact⟨_,W_ x0 AH c3 (by rw[FE]) hc,hu⟩
    ·rw[if_neg c3] at whole ⊢
     by_cases c4:((p++l.elems).length:Int)<u/\may (S (p++l.elems)) (O.sum x)=ao
     ·rw[if_pos c4];exact⟨_,aaE x0 AH (I1.mp c3) (xl _) (by rw[FE]) hc,hu⟩
     ·rw[if_neg c4] at whole ⊢;obtain⟨OG,y0,j2⟩:=Kh hA hg l (k:=k) (m:=(last O may k (aE (aE m l.root) q.root) (nd O S q) ⟨(p++l.elems++[x]).length,S (p++l.elems++[x])⟩ u).2) (p:=p) (s:=x::q.elems++s) (Ri.2 (df.2 (df.2 ho)))
       (Rp.frame hu (fun s _ hs=>by cases hs) lZ) Wm Vy
      refine⟨_,?_,hu.to j2 (S:=[]) (fun s hs=>by simp at hs) (a_ _)⟩
      rw[FE] at Q3 whole ⊢;refine Y9 x0 AH y0 (I1.mp c3) (fun hf hr=>?_) hc
      obtain⟨i,g1,g2,g3⟩:=Q3 hf;clear Q3 hex;rcases whole with⟨h1,h2⟩|⟨j,h1,_⟩
      ·rw[h2 i g1 g2 (by omega)] at g3;cases g3
      ·rw[h1] at hr;exact absurd hr (IX.mpr (xl j))
theorem ab2 {n K:Nat} {f:Int} {may:A->A->Bool} {P:Nat->Bool} {m:Po E A} {a b:Tr E} (h:St O S dp n m a b) (hA:AB O S may P a.elems) (hk:a.h<K) :
  mZ (4*a.h+1) m (first O may K (aE m a.root) (lk O m a.root) ⟨0,O.a0⟩ f).2:=by
 have h2:=h.aE a.root;obtain⟨kk,r1,r2⟩:=Iv Z (f:=f) hA h.ga a (k:=K) (p:=[]) (s:=[]) h2.ok h2.ra (by simp) hk
 have e0:(([]:List E).length:Int)=0:=rfl;rw[e0,Z.nil] at r2;rw[h.lk];exact(h.up (r:=a.root) r2).qA.mono (by have:=r1.1;omega)
theorem acZ {n K:Nat} {f:Int} {may:A->A->Bool} {P:Nat->Bool} {m:Po E A} {a b:Tr E} (h:St O S dp n m a b) (hA:AB O S may P a.elems) (hk:a.h<K) :
  mZ (4*a.h+1) m (last O may K (aE m a.root) (lk O m a.root) ⟨0,O.a0⟩ f).2:=by
 have h2:=h.aE a.root;obtain⟨kk,r1,r2⟩:=Kh Z (u:=f) hA h.ga a (k:=K) (p:=[]) (s:=[]) h2.ok h2.ra (by simp) hk
 have e0:(([]:List E).length:Int)=0:=rfl;rw[e0,Z.nil] at r2;rw[h.lk];exact(h.up (r:=a.root) r2).qA.mono (by have:=r1.1;omega)
end
theorem TS.Sa {E A:Type} {k:Kd E A} {may:A->A->Bool} {P:Nat->Bool} {s:TS k} {f:Int} (h:AB k.O k.S may P s.l):mZ (4*nc s.l.length+1) s.m (s.first may f).m:=by
 obtain⟨a,b,h1,h2,h3,h4,h5,h6⟩:=s.ok;have hk:=s.k1;show mZ _ s.m (kJ k.O may KK (aE s.m s.r) (lk k.O s.m s.r) ⟨0,k.O.a0⟩ f).2
 rw[← h4] at h hk;rw[← h4,← h1];have hb:=a.DB h3.ba;rw[← Tr.e9] at hb;exact(ab2 k.Z h3 h (iZ (rZ a) hk)).mono (by omega)
theorem TS.Vg {E A:Type} {k:Kd E A} {may:A->A->Bool} {P:Nat->Bool} {s:TS k} {f:Int} (h:AB k.O k.S may P s.l):mZ (4*nc s.l.length+1) s.m (s.last may f).m:=by
 obtain⟨a,b,h1,h2,h3,h4,h5,h6⟩:=s.ok;have hk:=s.k1;show mZ _ s.m (jZ k.O may KK (aE s.m s.r) (lk k.O s.m s.r) ⟨0,k.O.a0⟩ f).2
 rw[← h4] at h hk;rw[← h4,← h1];have hb:=a.DB h3.ba;rw[← Tr.e9] at hb;exact(acZ k.Z h3 h (iZ (rZ a) hk)).mono (by omega)
end Gv
namespace Br
open Rx Wv
def kH (n:Nat) (p:Int):Nat:=min p.toNat n
theorem VN (n:Nat) (p:Int):kH n p≤n:=Nat.min_le_right _ _
theorem zM {n i:Nat} (h:i≤n):kH n (i:Int)=i:=by unfold kH;omega
def vV (l:List Mk) (base:Int) (i:Nat):Int:=base+z7 (l.map uf) i
theorem D9 (l:List Mk) (base:Int):vV l base 0=base:=by simp[vV,z7]
def nxt (l:List Mk) (base:Int):Nat->Nat->Int
 |_,0=>-1
 |i,j+1=>if vV l base i≤0 then i else nxt l base (i+1) j
def prv (l:List Mk) (base:Int):Nat->Int
 |0=>if vV l base 0≤0 then 0 else -1
 |i+1=>if vV l base (i+1)≤0 then((i+1:Nat):Int) else prv l base i
def OI (l:List Mk) (p base:Int):Int:=nxt l base (kH l.length p) (l.length+1-kH l.length p)
def E5 (l:List Mk) (p base:Int):Int:=prv l base (kH l.length p)
def XF (l:List Mk) (base:Int) (a b:Nat) (r:Int):Prop:=(r = -1/\∀ i,a≤i->i≤b->¬ vV l base i≤0)∨∃ j:Nat,r=j/\a≤j/\j≤b/\vV l base j≤0/\∀ i,a≤i->i<j->¬ vV l base i≤0
def IsP (l:List Mk) (base:Int) (b:Nat) (r:Int):Prop:=(r = -1/\∀ i,i≤b->¬ vV l base i≤0)∨∃ j:Nat,r=j/\j≤b/\vV l base j≤0/\∀ i,j<i->i≤b->¬ vV l base i≤0
theorem OO {l:List Mk} {base:Int} {a b:Nat} {r r':Int} (h:XF l base a b r) (h':XF l base a b r'):r=r':=by
 rcases h with⟨rfl,h⟩|⟨j,rfl,h1,h2,h3,h4⟩<;>rcases h' with⟨rfl,h'⟩|⟨j',rfl,RY,h2',wZ,Ke⟩
 ·rfl
 ·exact absurd wZ (h j' RY h2')
 ·exact absurd h3 (h' j h1 h2)
 ·rcases nR j j' with c|c|c
  ·exact absurd h3 (Ke j h1 c)
  ·rw[c]
  ·exact absurd wZ (h4 j' RY c)
theorem Uv {l:List Mk} {base:Int} {b:Nat} {r r':Int} (h:IsP l base b r) (h':IsP l base b r'):r=r':=by
 rcases h with⟨rfl,h⟩|⟨j,rfl,h1,h3,h4⟩<;>rcases h' with⟨rfl,h'⟩|⟨j',rfl,RY,wZ,Ke⟩
 ·rfl
 ·exact absurd wZ (h j' RY)
 ·exact absurd h3 (h' j h1)
 ·rcases nR j j' with c|c|c
  ·exact absurd wZ (h4 j' c RY)
  ·rw[c]
  ·exact absurd h3 (Ke j c h1)
theorem abx (l:List Mk) (base:Int):∀ (j i:Nat),XF l base i (i+j) (nxt l base i (j+1))
 |0,i=>by
  rw[nxt];split
  ·exact .inr ⟨i,rfl,a_ _,by omega,by assumption,fun k h1 h2=>by omega⟩
  ·refine .inl ⟨rfl,fun k h1 h2=>?_⟩
   obtain rfl:k=i:=by omega
   assumption
 |j+1,i=>by
  rw[nxt];split
  ·exact .inr ⟨i,rfl,a_ _,by omega,by assumption,fun k h1 h2=>by omega⟩
  ·rename_i h0;rcases abx l base j (i+1) with⟨h1,h2⟩|⟨k,h1,h2,h3,h4,h5⟩
   ·refine .inl ⟨h1,fun k g1 g2=>?_⟩
    rcases cr i k with c|c
    ·exact h2 k c (by omega)
    ·obtain rfl:k=i:=by omega
     exact h0
   ·refine .inr ⟨k,h1,by omega,by omega,h4,fun m g1 g2=>?_⟩
    rcases cr i m with c|c
    ·exact h5 m c g2
    ·obtain rfl:m=i:=by omega
     exact h0
theorem aaH (l:List Mk) (base:Int):∀ b,IsP l base b (prv l base b)
 |0=>by
  rw[prv];split
  ·exact .inr ⟨0,rfl,a_ _,by assumption,fun k h1 h2=>by omega⟩
  ·refine .inl ⟨rfl,fun k h1=>?_⟩
   obtain rfl:k=0:=by omega
   assumption
 |b+1=>by
  rw[prv];split
  ·exact .inr ⟨b+1,rfl,a_ _,by assumption,fun k h1 h2=>by omega⟩
  ·rename_i h0;rcases aaH l base b with⟨h1,h2⟩|⟨k,h1,h2,h3,h4⟩
   ·refine .inl ⟨h1,fun k g1=>?_⟩
    rcases cr b k with c|c
    ·obtain rfl:k=b+1:=by omega
     exact h0
    ·exact h2 k c
   ·refine .inr ⟨k,h1,by omega,h3,fun m g1 g2=>?_⟩
    rcases cr b m with c|c
    ·obtain rfl:m=b+1:=by omega
     exact h0
    ·exact h4 m g1 c
theorem aco (l:List Mk) (p base:Int):XF l base (kH l.length p) l.length (OI l p base):=by
 have h:=abx l base (l.length-kH l.length p) (kH l.length p);have hc:=VN l.length p;rw[show kH l.length p+(l.length-kH l.length p)=l.length by omega,show l.length-kH l.length p+1=l.length+1-kH l.length p by omega] at h
 exact h
theorem OJ (l:List Mk) (p base:Int):IsP l base (kH l.length p) (E5 l p base):=aaH _ _ _
def uE (l:List Mk) (p:Int):Option It:=hi (lW an (l.drop (kH l.length p)))
def p6 (l:List Mk) (p:Int):Option It:=lo (lW ao (l.take (kH l.length p)))
theorem acn {x:List Int} {c:Int}:∀ {k:Nat},0<k->(I2 x k≤c↔∃ j,j<k/\z7 x (j+1)≤c)
 |0,h=>by omega
 |1,_=>by
  refine⟨fun h=>⟨0,by omega,h⟩,fun⟨j,h1,h2⟩=>?_⟩
  obtain rfl:j=0:=by omega
  exact h2
 |k+2,_=>by
  have ih:=acn (x:=x) (c:=c) (k:=k+1) (by omega)
  show min (I2 x (k+1)) (z7 x (k+2))≤c↔_
  constructor
  ·intro h
   by_cases c1:I2 x (k+1)≤c
   ·obtain⟨j,h1,h2⟩:=ih.1 c1;exact⟨j,by omega,h2⟩
   ·refine⟨k+1,by omega,?_⟩
    rw[show k+1+1=k+2 from rfl];omega
  ·rintro ⟨j,h1,h2⟩
   by_cases c1:j<k+1
   ·have:=ih.2 ⟨j,c1,h2⟩;omega
   ·obtain rfl:j=k+1:=by omega
    rw[show k+1+1=k+2 from rfl] at h2
    omega
theorem abM {p l q:List Mk} {base:Int} {j:Nat} (h:j≤l.length):vV (p++(l++q)) base (p.length+j)=vV (p++(l++q)) base p.length+z7 (l.map uf) j:=by
 unfold vV;rw[dJ,show p.length=(p.map uf).length by simp,RS,show(p.map uf).length=(p.map uf).length+0 by rfl,RS,dJ,WA (y:=l.map uf) (by simpa using h)]
 simp only[Nat.add_zero];have:z7 (l.map uf++q.map uf) 0=0:=by simp[z7]
 omega
theorem agk {p q:List Mk} {base:Int}:vV (p++q) base p.length=base+(S8 p).w.s:=by
 show base+_=base+z7 (p.map uf) (p.map uf).length
 rw[dJ,WA (by simp),fS]
theorem acW {L:List Mk} {base:Int} {may:Sw->Sw->Bool} (h:∀ p l q,p++(l++q)=L->l≠[]->(may (S8 p) (S8 l)=ao↔base+(S8 p).w.s+(S8 l).w.l≤0)) :
  Gv.AB O8 S8 may (fun i=>decide (vV L base (i+1)≤0)) L:=by
 have key:∀ p l q,p++(l++q)=L->l≠[]->(may (S8 p) (S8 l)=ao↔∃ j,j<l.length/\vV L base (p.length+j+1)≤0):=fun p l q hL hl=>by
  rw[h p l q hL hl];have hp:=agk (p:=p) (q:=l++q) (base:=base);have e:(S8 l).w.l=I2 (l.map uf) l.length:=by show I2 _ (l.map uf).length=_;rw[fS]
  have ajJ:=acn (x:=l.map uf) (c:=-(base+(S8 p).w.s)) (k:=l.length) (Jy.2 hl);rw[← e] at ajJ;have e1:base+(S8 p).w.s+(S8 l).w.l≤0↔(S8 l).w.l ≤ -(base+(S8 p).w.s):=by omega
  rw[e1,ajJ]
  constructor
  ·rintro ⟨j,h1,h2⟩
   refine⟨j,h1,?_⟩;rw[← hL,show p.length+j+1=p.length+(j+1) by omega,abM (by omega),hp]
   omega
  ·rintro ⟨j,h1,h2⟩
   refine⟨j,h1,?_⟩;rw[← hL,show p.length+j+1=p.length+(j+1) by omega,abM (by omega),hp] at h2
   omega
 refine⟨⟨fun p x q hL=>?_,fun p l q hL i h1 h2 h3=>?_⟩,fun p l q hL hl hm=>?_⟩
 ·have k:=key p [x] q (by simpa using hL) (by simp)
  rw[show O8.sum x=S8 [x] from(Wp x).symm,Qk,k,decide_eq_true_eq]
  constructor
  ·intro h;exact⟨0,by simp,h⟩
  ·rintro ⟨j,h1,h2⟩
   obtain rfl:j=0:=by simpa using h1
   exact h2
 ·have hl:l≠[]:=fun h=>by rw[h] at h2;simp at h2;omega
  rw[key p l q hL hl];exact⟨i-p.length,by omega,by rw[show p.length+(i-p.length)+1=i+1 by omega];exact of_decide_eq_true h3⟩
 ·obtain⟨j,h1,h2⟩:=(key p l q hL hl).1 hm;exact⟨p.length+j,by omega,by omega,decide_eq_true h2⟩
theorem Zg {L:List Mk} {base:Int} {a:Nat} {r:Int} (ha:a≤L.length) (h0:a=0->¬ base≤0) (h:Gv.BZ (fun i=>decide (vV L base (i+1)≤0)) 0 L.length ((a:Int)-1) r):XF L base a L.length (if r<0 then -1 else r+1):=by
 rcases h with⟨h1,h2⟩|⟨j,h1,h2,h3,h4,h5,h6⟩
 ·rw[if_pos (by omega)]
  refine .inl ⟨rfl,fun i g1 g2=>?_⟩
  rcases mj i with c|c
  ·rw[c,D9];exact h0 (by omega)
  ·have:=of_decide_eq_false (h2 (i-1) (by omega) (by omega) (by omega))
   rwa [show i-1+1=i by omega] at this
 ·rw[if_neg (by omega)]
  refine .inr ⟨j+1,by omega,by omega,by omega,of_decide_eq_true h5,fun i g1 g2=>?_⟩
  rcases mj i with c|c
  ·rw[c,D9];exact h0 (by omega)
  ·have:=of_decide_eq_false (h6 (i-1) (by omega) (by omega) (by omega))
   rwa [show i-1+1=i by omega] at this
theorem adf {L:List Mk} {base:Int} {b:Nat} {r:Int} (hb:b≤L.length) (h:Gv.EH (fun i=>decide (vV L base (i+1)≤0)) 0 L.length b r):IsP L base b (if r≥0 then r+1 else if base≤0 then 0 else -1):=by
 rcases h with⟨h1,h2⟩|⟨j,h1,h2,h3,h4,h5,h6⟩
 ·rw[if_neg (by omega)]
  have CI:∀ i,0<i->i≤b->¬ vV L base i≤0:=fun i g1 g2=>by
   have:=of_decide_eq_false (h2 (i-1) (by omega) (by omega) (by omega))
   rwa [show i-1+1=i by omega] at this
  by_cases c:base≤0
  ·rw[if_pos c];exact .inr ⟨0,rfl,dh _,by rw[D9];exact c,fun i g1 g2=>CI i g1 g2⟩
  ·rw[if_neg c];refine .inl ⟨rfl,fun i g2=>?_⟩
   rcases mj i with g|g
   ·rw[g,D9];exact c
   ·exact CI i g g2
 ·rw[if_pos (by omega)]
  refine .inr ⟨j+1,by omega,by omega,of_decide_eq_true h5,fun i g1 g2=>?_⟩
  have:=of_decide_eq_false (h6 (i-1) (by omega) (by omega) (by omega))
  rwa [show i-1+1=i by omega] at this
end Br
namespace Pa
open Rx Wv Br
def gO (l:List Op):It->Bool:=fun z=>decide (z∈tk [] l)
def Sx (l:List Op) (o:Op):Mk:=⟨o.t,o.ins,o.it,o.ins&&decide (o.it∈fin [] l),an,iz⟩
def jC (l:List Op):List Mk:=l.map (Sx l)
theorem xp (l:List Op):(jC l).length=l.length:=fS ..
abbrev pS (l:List Op):Int:=(gI [] l:Int)
theorem lT {l:List Op} (h:(gC l).Nodup):Ap [] l:=⟨rI,h,fun x hx=>by cases hx⟩
theorem GY (l:List Op):je (gO l) [] l:=fun z _=>by unfold gO;rw[decide_eq_true_eq]
theorem D3 {l:List Op} {z:It}:z∈gC l↔∃ o,o∈l/\o.ins=ao/\o.it=z:=by
 unfold gC;rw[pb]
 constructor
 ·rintro ⟨o,h1,h2⟩;exact⟨o,(pc.1 h1).1,(pc.1 h1).2,h2⟩
 ·rintro ⟨o,h1,h2,h3⟩;exact⟨o,pc.2 ⟨h1,h2⟩,h3⟩
theorem ab6 {l:List Op} (h:(gC l).Nodup) {o:Op} (ho:o∈l) (hi:o.ins=ao):o.it∈fin [] l↔gO l o.it=an:=by
 rw[qU (lT h)];unfold gO;rw[decide_eq_false_iff_not];exact⟨fun h=>h.2,fun h=>⟨.inr (D3.2 ⟨o,ho,hi,rfl⟩),h⟩⟩
theorem akU {l:List Op} (h:(gC l).Nodup) {o:Op} (ho:o∈l):uf (Sx l o)=wt (gO l) o:=by
 unfold uf wt P5 Sx;rcases iY o with e|e
 ·simp only[e,if_true,jh,true_and,decide_eq_true_eq];have hh:=ab6 h ho e
  by_cases c:o.it∈fin [] l
  ·rw[if_pos c,hh.1 c];rfl
  ·rw[if_neg c];cases k:gO l o.it
   ·exact absurd (hh.2 k) c
   ·rfl
 ·simp only[e,Cd,Bool.false_eq_true,if_false,false_and]
theorem Ys (g:It->Bool):∀ a:List Op,wts g a=(a.map (wt g)).sum
 |[]=>rfl
 |o::a=>by show wt g o+wts g a=_;rw[Ys g a,gw,List.sum_cons]
theorem Oo {l:List Op} (h:(gC l).Nodup) {i:Nat} (hi:i≤l.length):vV (jC l) (pS l) i=(pz (gO l) (fin [] (l.take i)) (l.drop i):Int):=by
 have h1:=afQ (g:=gO l) (a:=l.take i) (b:=l.drop i) (h:=[]) (by rw[cP];exact lT h) (by rw[cP];exact GY l)
 rw[cP] at h1;rw[h1];have h2:pz (gO l) [] l=gI [] l:=by unfold pz;rw[Ql];rfl
 rw[h2];unfold vV z7;have h3:(jC l).map uf=l.map (wt (gO l)):=by
  unfold jC;rw[List.map_map];exact nV fun o ho=>akU h ho
 rw[h3,Ys,nw]
theorem EO:∀ {l:List It} {m:It},hi l=aa m->m∈l
 |a::l,m,h=>by
  have h:up (aa a) (hi l)=aa m:=h;cases e:hi l with
  |none=>rw[e] at h;cases h;exact bL
  |some b =>
   rw[e,PO] at h;cases h;rcases Te a b with c|c
   ·rw[c];exact bL
   ·rw[c];exact eo _ (EO e)
theorem U6 {a b:List It} (h:∀ z,z∈a↔z∈b):hi a=hi b:=by
 cases ea:hi a with
 |none =>
  cases eb:hi b with
  |none=>rfl
  |some m =>
   obtain⟨m',h1,_⟩:=Ik ((h m).2 (EO eb));rw[ea] at h1;cases h1
 |some m =>
  obtain⟨m',h1,h2⟩:=Ik ((h m).1 (EO ea));obtain⟨m2,h3,h4⟩:=Ik ((h m').2 (EO h1));rw[ea] at h3;cases h3;rw[h1];rcases h2 with h2|h2
  ·rw[h2]
  ·rcases h4 with h4|h4
   ·rw[h4]
   ·exact absurd h2 (si h4)
theorem acy:∀ {l:List It},Ord l->lo l=l.head?
 |[],_=>rfl
 |y::l,h=>by
  show dn (aa y) (lo l)=aa y
  rw[acy (ES h)];cases l with
  |nil=>rfl
  |cons w l =>
   show(if ah w y then aa w else aa y)=aa y
   rw[if_neg (si (Cy h bL))]
theorem lo_le:∀ {l:List It} {z:It},z∈l->∃ m,lo l=aa m/\(m=z∨ah m z)
 |l,z,hz=>by
  cases e:lo l with
  |none =>
   have:=(XM l).2 (List.ne_nil_of_mem hz);rw[e] at this;cases this
  |some m =>
   refine⟨m,rfl,?_⟩;have:=abB l m e z hz
   by_cases c:m=z
   ·exact .inl c
   ·rcases Tu c with c|c
    ·exact .inr c
    ·exact absurd c this
theorem G0:∀ {l:List It} {m:It},lo l=aa m->m∈l
 |a::l,m,h=>by
  have h:dn (aa a) (lo l)=aa m:=h;cases e:lo l with
  |none=>rw[e] at h;cases h;exact bL
  |some b =>
   rw[e] at h;have h:(if ah b a then aa b else aa a)=aa m:=h
   split at h
   ·cases h;exact eo _ (G0 e)
   ·cases h;exact bL
theorem ajX {a b:List It} (h:∀ z,z∈a↔z∈b):lo a=lo b:=by
 cases ea:lo a with
 |none =>
  cases eb:lo b with
  |none=>rfl
  |some m =>
   obtain⟨m',h1,_⟩:=lo_le ((h m).2 (G0 eb));rw[ea] at h1;cases h1
 |some m =>
  obtain⟨m',h1,h2⟩:=lo_le ((h m).1 (G0 ea));obtain⟨m2,h3,h4⟩:=lo_le ((h m').2 (G0 h1));rw[ea] at h3;cases h3;rw[h1];rcases h2 with h2|h2
  ·rw[h2]
  ·rcases h4 with h4|h4
   ·rw[h4]
   ·exact absurd h2 (si h4)
theorem tJ {b:Bool} {L:List Mk} {z:It}:z∈lW b L↔∃ m,m∈L/\m.ins=ao/\m.here=b/\m.it=z:=by
 unfold lW;rw[pb]
 constructor
 ·rintro ⟨m,h1,h2⟩
  obtain⟨h1,h3⟩:=pc.1 h1;rw[aM,beq_iff_eq] at h3;exact⟨m,h1,h3.1,h3.2,h2⟩
 ·rintro ⟨m,h1,h2,h3,h4⟩
  exact⟨m,pc.2 ⟨h1,by rw[aM,beq_iff_eq];exact⟨h2,h3⟩⟩,h4⟩
theorem UA {l a:List Op} (h:(gC l).Nodup) (ha:∀ o,o∈a->o∈l) {b:Bool} {z:It}:z∈lW b (a.map (Sx l))↔z∈gC a/\gO l z = !b:=by
 rw[tJ,D3];have key:∀ o,o∈a->o.ins=ao->((Sx l o).here=b↔gO l o.it = !b):=fun o h1 h2=>by
  have h3:=ab6 h (ha o h1) h2;show(o.ins&&decide (o.it∈fin [] l))=b↔_
  rw[h2,jh];cases c:gO l o.it
  ·rw[c] at h3;rw[decide_eq_true (h3.2 rfl)];cases b<;>simp
  ·rw[c] at h3;rw[decide_eq_false (fun m=>by have:=h3.1 m;cases this)]
   cases b<;>simp
 constructor
 ·rintro ⟨m,h1,h2,h3,h4⟩
  obtain⟨o,g1,rfl⟩:=pb.1 h1;have h4:o.it=z:=h4;subst h4;exact⟨⟨o,g1,h2,rfl⟩,(key o g1 h2).1 h3⟩
 ·rintro ⟨⟨o,h1,h2,rfl⟩,h3⟩
  exact⟨Sx l o,pb.2 ⟨o,h1,rfl⟩,h2,(key o h1 h2).2 h3,rfl⟩
theorem Y0 {l a b:List Op} (h:(gC l).Nodup) (e:l=a++b) (hz:pz (gO l) (fin [] a) b=0):∀ z,z∈fin [] a↔z∈gC a/\gO l z=an:=by
 intro z;subst e;have k:=lT h;have h1:=HG hz;have ka:Ap [] a:=⟨rI,by
  have:=h;unfold gC at this ⊢;rw[oJ,dJ] at this;exact(cf.1 this).1,fun x hx=>by cases hx⟩
 constructor
 ·intro m;have h2:=((qU ka z).1 m).1;refine⟨?_,h1.2 z m⟩;rcases h2 with h2|h2
  ·cases h2
  ·exact h2
 ·rintro ⟨m,hg⟩
  refine(qU ka z).2 ⟨.inr m,fun c=>?_⟩
  unfold gO at hg;rw[decide_eq_false_iff_not,vW] at hg;exact hg (List.mem_append_left _ c)
theorem aaB {l a b:List Op} (h:(gC l).Nodup) (e:l=a++b) (hz:pz (gO l) (fin [] a) b=0):∀ z,z∈tk (fin [] a) b↔z∈gC b/\gO l z=ao:=by
 intro z;subst e;have h1:=HG hz;have ab:Ap (fin [] a) b:=El (lT h);have cb:je (gO (a++b)) (fin [] a) b:=GM (lT h) (GY _)
 constructor
 ·intro m;have h2:=qV ab z m;have h3:=(cb z h2).2 m;rcases h2 with h2|h2
  ·rw[h1.2 z h2] at h3;cases h3
  ·exact⟨h2,h3⟩
 ·rintro ⟨m,hg⟩
  exact(cb z (.inr m)).1 hg
theorem afy {l:List Op} (h:(gC l).Nodup) {p:Nat} (hp:p≤l.length) :
  tp (fin [] (l.take p)) (l.drop p)=if E5 (jC l) p (pS l)<0 then aj else aa (hi (lW an ((jC l).drop (E5 (jC l) p (pS l)).toNat))):=by
 have hP:=OJ (jC l) p (pS l);rw[xp,zM hp] at hP;have adw:∀ i,i≤l.length->¬ vV (jC l) (pS l) i≤0->0<pz (gO l) (fin [] (l.take i)) (l.drop i):=fun i hi hn=>by
  rw[Oo h hi] at hn;omega
 have back:∀ j,j≤p->(∀ i,j<i->i≤p->¬ vV (jC l) (pS l) i≤0)->tp (fin [] (l.take j)) (l.drop j)=tp (fin [] (l.take p)) (l.drop p):=fun j hj CI=>by
  have e1:l.drop j=(l.drop j).take (p-j)++l.drop p:=by
   have:=(cP (p-j) (l.drop j)).symm;rw[sc,show j+(p-j)=p by omega] at this
   exact this
  have e2:l.take p=l.take j++(l.drop j).take (p-j):=by
   have:l.take (j+(p-j))=l.take j++(l.drop j).take (p-j):=v_
   rwa [show j+(p-j)=p by omega] at this
  have k:Ap (fin [] (l.take j)) (l.drop j):=El (by rw[cP];exact lT h)
  have c:je (gO l) (fin [] (l.take j)) (l.drop j):=GM (by rw[cP];exact lT h) (by rw[cP];exact GY l)
  have:=Yj (g:=gO l) (m:=(l.drop j).take (p-j)) (b:=l.drop p) (h:=fin [] (l.take j)) (by rw[← e1];exact k) (by rw[← e1];exact c) fun a c' ea kz=>by
   have hla:(a++c').length=p-j:=by rw[← ea,dQ,jr];omega
   rw[bF] at hla;have h0:0<a.length:=Jy.2 kz;have f1:l.take (j+a.length)=l.take j++a:=by
    have:l.take (j+a.length)=l.take j++(l.drop j).take a.length:=v_;rw[this,e1,ea,rG,Gi]
    rfl
   have f2:l.drop (j+a.length)=c'++l.drop p:=by
    rw[← sc,e1,ea,rG,Gj]
    rfl
   have:=adw (j+a.length) (by omega) (CI _ (by omega) (by omega))
   rw[f1,f2,p8] at this;exact this
  rw[← e1] at this;rw[this,e2,p8]
 rcases hP with⟨h1,h2⟩|⟨j,h1,h2,h3,h4⟩
 ·rw[h1,if_pos (by omega),← back 0 (dh _) fun i _ hi=>h2 i hi]
  have h0:=adw 0 (dh _) (h2 0 (dh _));rw[r_,List.drop_zero] at h0 ⊢;have h0:0<pz (gO l) [] l:=h0;unfold pz at h0;rw[Ql] at h0;show tp [] l=aj
  unfold tp;rw[if_neg (by omega)]
 ·rw[h1,if_neg (by omega),← back j h2 h4]
  have hz:pz (gO l) (fin [] (l.take j)) (l.drop j)=0:=by
   rw[Oo h (by omega)] at h3;omega
  have e:l=l.take j++l.drop j:=(cP _ _).symm;unfold tp;rw[if_pos (HG hz).1];have e3:((j:Nat):Int).toNat=j:=Int.toNat_natCast j;rw[e3];have e4:(jC l).drop j=(l.drop j).map (Sx l):=by unfold jC;rw[mJ]
  rw[e4,U6 fun z=>?_]
  rw[aaB h e hz,UA h fun o ho=>vG ho]
  rfl
theorem ae1 {l:List Op} (h:(gC l).Nodup) {p:Nat} (hp:p≤l.length) :
  ∃ b:Nat,OI (jC l) p (pS l)=b/\p≤b/\b≤l.length/\(Jd (gO l) (fin [] (l.take p)) (l.drop p)).head?=lo (lW ao ((jC l).take b)):=by
 have k:Ap (fin [] (l.take p)) (l.drop p):=El (by rw[cP];exact lT h)
 have c:je (gO l) (fin [] (l.take p)) (l.drop p):=GM (by rw[cP];exact lT h) (by rw[cP];exact GY l)
 obtain⟨a,b,e1,e2,e3,e4⟩:=aa9 k c;have Jc:a.length+b.length=l.length-p:=by
  have:=congrArg ae e1;rw[jr,bF] at this;omega
 have f1:l.take (p+a.length)=l.take p++a:=by
  have:l.take (p+a.length)=l.take p++(l.drop p).take a.length:=v_;rw[this,e1,Gi]
  rfl
 have f2:l.drop (p+a.length)=b:=by
  rw[← sc,e1,Gj]
  rfl
 have hz:pz (gO l) (fin [] (l.take (p+a.length))) (l.drop (p+a.length))=0:=by rw[f1,f2,p8];exact e3
 have hN:=aco (jC l) p (pS l);rw[xp,zM hp] at hN;have hI:XF (jC l) (pS l) p l.length ((p+a.length:Nat):Int):=.inr ⟨p+a.length,rfl,by omega,by omega,by rw[Oo h (by omega),hz];exact Int.le_refl _,fun i h1 h2=>by
  rw[Oo h (by omega)]
  have s1:l.drop p=(l.drop p).take (i-p)++l.drop i:=by
   have:=(cP (i-p) (l.drop p)).symm;rw[sc,show p+(i-p)=i by omega] at this
   exact this
  have s2:l.take i=l.take p++(l.drop p).take (i-p):=by
   have:l.take (p+(i-p))=l.take p++(l.drop p).take (i-p):=v_
   rwa [show p+(i-p)=i by omega] at this
  have:=e4 _ _ s1 (by rw[dQ,jr];omega)
  rw[s2,p8];omega⟩
 refine⟨p+a.length,OO hN hI,by omega,by omega,?_⟩
 have e:l=l.take (p+a.length)++l.drop (p+a.length):=(cP _ _).symm;have e5:fin (fin [] (l.take p)) a=fin [] (l.take (p+a.length)):=by rw[f1,p8]
 have o5:Ord (fin [] (l.take (p+a.length))):=(El (a:=l.take (p+a.length)) (b:=l.drop (p+a.length)) (h:=[]) (by rw[cP];exact lT h)).ord
 rw[e2,e5,← acy o5];have e6:(jC l).take (p+a.length)=(l.take (p+a.length)).map (Sx l):=by unfold jC;rw[nw]
 rw[e6];refine ajX fun z=>?_
 rw[Y0 h e hz,UA h fun o ho=>ph ho]
 rfl
def j7 (l:List Op) (p:Nat) (o:Op):List Op:=l.take p++o::l.drop p
def j5 (l:List Op) (p:Nat):List Op:=l.take p++l.drop (p+1)
abbrev og (l:List Op) (k:Nat):Op:=l.getD k ⟨0,an,⟨0,0⟩⟩
theorem zm (a b:List Op):gC (a++b)=gC a++gC b:=by unfold gC;rw[oJ,dJ]
theorem O6 {l:List Op} {k:Nat} (h:k<l.length):l.drop k=og l k::l.drop (k+1):=by
 rw[oV h,og,au,bd h];rfl
theorem parts {l:List Op} {k:Nat} (h:k<l.length):l=l.take k++og l k::l.drop (k+1):=by
 rw[← O6 h,cP]
theorem MN {a b:List Op} (h:(gC (a++b)).Nodup):(gC a).Nodup/\(gC b).Nodup/\∀ z,z∈gC a->z∉gC b:=by
 rw[zm] at h;have:=cf.1 h;exact⟨this.1,this.2.1,fun z hz hb=>this.2.2 z hz z hb rfl⟩
theorem aeJ {l:List Op} {p:Nat} {o:Op} (h:(gC l).Nodup) (ho:o.ins=ao->o.it∉gC l):(gC (j7 l p o)).Nodup:=by
 unfold j7;rw[zm];have e:gC l=gC (l.take p)++gC (l.drop p):=by rw[← zm,cP]
 rw[e] at h ho;rcases iY o with c|c
 ·rw[xM c];have h':=cf.1 h;have ho:=ho c;rw[b7,not_or] at ho;refine cf.2 ⟨h'.1,fH.2 ⟨ho.2,h'.2.1⟩,fun a ha b hb Jc=>?_⟩
  rcases bO.1 hb with m|m
  ·exact ho.1 (by rw[← m,← Jc];exact ha)
  ·exact h'.2.2 a ha b m Jc
 ·rw[qT c];exact h
theorem ak8 {l:List Op} {k:Nat} (h:(gC l).Nodup) (hk:k<l.length):(gC (j5 l k)).Nodup/\∀ z,z∈gC (j5 l k)↔z∈gC l/\¬ ((og l k).ins=ao/\z=(og l k).it):=by
 have e:=congrArg gC (parts hk);rw[zm] at e;unfold j5;rw[zm,e];rw[e] at h;rcases iY (og l k) with c|c
 ·rw[xM c] at h ⊢;have h':=cf.1 h;have h2:=fH.1 h'.2.1;refine⟨cf.2 ⟨h'.1,h2.2,fun a ha b hb=>h'.2.2 a ha b (eo _ hb)⟩,fun z=>?_⟩
  simp only[b7,bO,c,true_and]
  constructor
  ·rintro (m|m)
   ·exact⟨.inl m,fun e=>h'.2.2 z m _ bL e⟩
   ·exact⟨.inr (.inr m),fun e=>h2.1 (e▸m)⟩
  ·rintro ⟨m|m|m,n⟩
   ·exact .inl m
   ·exact absurd m n
   ·exact .inr m
 ·rw[qT c] at h ⊢;refine⟨h,fun z=>?_⟩
  rw[c];simp
theorem Ow (l:List Op) (p:Nat):fin [] l=fin (fin [] (l.take p)) (l.drop p):=by rw[← p8,cP]
theorem TI (l:List Op) (p:Nat):tk [] l=tk [] (l.take p)++tk (fin [] (l.take p)) (l.drop p):=by rw[← vW,cP]
theorem P8 (l:List Op) (p:Nat):gI [] l=gI [] (l.take p)+gI (fin [] (l.take p)) (l.drop p):=by rw[← uz,cP]
theorem Pf {l:List Op} (h:(gC l).Nodup) (p:Nat):Ap (fin [] (l.take p)) (l.drop p):=El (by rw[cP];exact lT h)
theorem abw {l:List Op} (h:(gC l).Nodup) (p:Nat):je (gO l) (fin [] (l.take p)) (l.drop p):=GM (by rw[cP];exact lT h) (by rw[cP];exact GY l)
theorem ag8 {l:List Op} (h:(gC l).Nodup) (p:Nat) {z:It} (hz:z∈fin [] (l.take p)):z∈gC (l.take p):=by
 have h':(gC (l.take p++l.drop p)).Nodup:=by rw[cP];exact h
 have:=((qU (lT (MN h').1) z).1 hz).1;exact this.elim (fun h=>by cases h) id
theorem N4 {l:List Op} (h:(gC l).Nodup) (p:Nat) {z:It} (hz:z∈tk [] (l.take p)):z∉fin [] (l.take p)/\z∉gC (l.drop p):=by
 have h':(gC (l.take p++l.drop p)).Nodup:=by rw[cP];exact h
 have k:=MN h';refine⟨fun c=>((qU (lT k.1) z).1 c).2 hz,fun c=>?_⟩
 exact k.2.2 z ((qV (lT k.1) z hz).elim (fun h=>by cases h) id) c
abbrev qz (l:List Op) (p:Nat):Int:=E5 (jC l) p (pS l)
abbrev Mm (l:List Op) (p:Nat):Int:=OI (jC l) p (pS l)
theorem aaV {l:List Op} {p:Nat} (hp:p≤l.length) (hb:¬ qz l p<0):uE (jC l) (qz l p)=hi (lW an ((jC l).drop (qz l p).toNat)):=by
 unfold uE;have hP:=OJ (jC l) p (pS l);rw[xp,zM hp] at hP;rcases hP with⟨h1,_⟩|⟨j,h1,h2,_⟩
 ·exact absurd (show qz l p<0 by show E5 (jC l) p (pS l)<0;rw[h1];omega) hb
 ·have h1:qz l p=j:=h1;rw[h1,xp,zM (by omega)]
  rfl
theorem ahJ {l:List Op} {p:Nat} {x:It} {t:Int} (h:(gC l).Nodup) (hx:x∉gC l) (hp:p≤l.length) :
  (qz l p<0->fin [] (j7 l p ⟨t,ao,x⟩)=fin [] l/\gI [] l=gI [] (j7 l p ⟨t,ao,x⟩)+1/\∀ w,w∈tk [] (j7 l p ⟨t,ao,x⟩)↔w∈tk [] l∨w=x) /\
  (¬ qz l p<0->∃ z,up (aa x) (uE (jC l) (qz l p))=aa z/\z∉fin [] l/\(z=x∨z∈tk [] l)/\fin [] (j7 l p ⟨t,ao,x⟩)=gZ z (fin [] l)/\gI [] (j7 l p ⟨t,ao,x⟩)=gI [] l/\∀ w,w∈tk [] (j7 l p ⟨t,ao,x⟩)↔(w∈tk [] l∨w=x)/\w≠z):=by
 have k:=Pf h p;have e:gC l=gC (l.take p)++gC (l.drop p):=by rw[← zm,cP]
 have Xx:=hx;rw[e,b7,not_or] at Xx;have hxh:x∉fin [] (l.take p):=fun c=>Xx.1 (ag8 h p c)
 obtain⟨a1,a2,a3,a4⟩:=Ly k hxh Xx.2;have hT:=afy h hp;have ea:sZ x (fin [] (l.take p)) (l.drop p)=upO x (tp (fin [] (l.take p)) (l.drop p)):=Oh;have f1:fin [] (j7 l p ⟨t,ao,x⟩)=fin (gZ x (fin [] (l.take p))) (l.drop p):=by unfold j7;rw[p8,td rfl]
 have f2:gI [] (j7 l p ⟨t,ao,x⟩)=gI [] (l.take p)+gI (gZ x (fin [] (l.take p))) (l.drop p):=by unfold j7;rw[uz,oC rfl]
 have f3:tk [] (j7 l p ⟨t,ao,x⟩)=tk [] (l.take p)++tk (gZ x (fin [] (l.take p))) (l.drop p):=by unfold j7;rw[vW,oD rfl]
 rw[f1,f2,f3,P8 l p,Ow l p,TI l p];have hxt:x∉tk [] (l.take p):=fun c=>by
  have h':(gC (l.take p++l.drop p)).Nodup:=by rw[cP];exact h
  exact Xx.1 ((qV (lT (MN h').1) x c).elim (fun h=>by cases h) id)
 constructor
 ·intro hb;have hb:E5 (jC l) p (pS l)<0:=hb;rw[if_pos hb] at hT;rw[hT] at ea;have ea:sZ x (fin [] (l.take p)) (l.drop p)=aj:=ea;rw[ea] at a1 a2 a3;refine⟨a1,by rw[if_pos rfl] at a2;omega,fun w=>?_⟩
  rw[b7,b7,a3 w]
  constructor
  ·rintro (m|⟨m|m,_⟩)
   ·exact .inl (.inl m)
   ·exact .inl (.inr m)
   ·exact .inr m
  ·rintro ((m|m)|m)
   ·exact .inl m
   ·exact .inr ⟨.inl m,fun c=>by cases c⟩
   ·exact .inr ⟨.inr m,fun c=>by cases c⟩
 ·intro hb;have Yl:=aaV hp hb;have hb:¬ E5 (jC l) p (pS l)<0:=hb;rw[if_neg hb] at hT;rw[hT] at ea;have ea:sZ x (fin [] (l.take p)) (l.drop p)=up (aa x) (uE (jC l) (qz l p)):=by rw[Yl];exact ea
  have hs:=Xt x (uE (jC l) (qz l p));cases hz:up (aa x) (uE (jC l) (qz l p)) with
  |none=>rw[hz] at hs;cases hs
  |some z =>
   rw[ea,hz] at a1 a2 a3 a4;have a4:=a4 z rfl;rw[if_neg (by simp)] at a2
   refine⟨z,rfl,a4.1,?_,a1,by omega,fun w=>?_⟩
   ·rcases a4.2 with c|c
    ·exact .inl c
    ·exact .inr (uQ _ c)
   ·rw[b7,b7,a3 w];have ne:∀ w,(aa z≠aa w)↔w≠z:=fun w=>⟨fun c e=>c (by rw[e]),fun c e=>c (by injection e with e;exact e.symm)⟩
    rw[ne w]
    constructor
    ·rintro (m|⟨m|m,n⟩)
     ·refine⟨.inl (.inl m),fun c=>?_⟩
      subst c;rcases a4.2 with c|c
      ·exact hxt (c▸m)
      ·have t:=N4 h p m;exact(qV k w c).elim t.1 t.2
     ·exact⟨.inl (.inr m),n⟩
     ·exact⟨.inr m,n⟩
    ·rintro ⟨(m|m)|m,n⟩
     ·exact .inl m
     ·exact .inr ⟨.inl m,n⟩
     ·exact .inr ⟨.inr m,n⟩
theorem ajP {l:List Op} {p:Nat} {x:It} {t:Int} (h:(gC l).Nodup) (hp:p≤l.length) :
  (p6 (jC l) (Mm l p)=aj->fin [] (j7 l p ⟨t,an,x⟩)=fin [] l/\gI [] (j7 l p ⟨t,an,x⟩)=gI [] l+1/\∀ w,w∈tk [] (j7 l p ⟨t,an,x⟩)↔w∈tk [] l) /\
  (∀ z,p6 (jC l) (Mm l p)=aa z->z∈fin [] l/\fin [] (j7 l p ⟨t,an,x⟩)=pU z (fin [] l)/\gI [] (j7 l p ⟨t,an,x⟩)=gI [] l/\∀ w,w∈tk [] (j7 l p ⟨t,an,x⟩)↔w∈tk [] l∨w=z):=by
 have k:=Pf h p;have c:=abw h p;obtain⟨b,b1,b2,b3,b4⟩:=ae1 h hp;have hl:p6 (jC l) (Mm l p)=lo (lW ao ((jC l).take b)):=by
  show lo (lW ao ((jC l).take (kH (jC l).length (OI (jC l) p (pS l)))))=_
  rw[b1,xp,zM b3]
 rw[← b4] at hl;rw[hl];have f1:fin [] (j7 l p ⟨t,an,x⟩)=fin (fin [] (l.take p)).tail (l.drop p):=by unfold j7;rw[p8,nB rfl]
 have f2:gI [] (j7 l p ⟨t,an,x⟩)=gI [] (l.take p)+gI (fin [] (l.take p)) (⟨t,an,x⟩::l.drop p):=by unfold j7;rw[uz]
 have f3:tk [] (j7 l p ⟨t,an,x⟩)=tk [] (l.take p)++tk (fin [] (l.take p)) (⟨t,an,x⟩::l.drop p):=by unfold j7;rw[vW]
 rw[f1,f2,f3,P8 l p,Ow l p,TI l p];generalize tk [] (l.take p)=T at *
 generalize gI [] (l.take p)=F at *
 generalize fin [] (l.take p)=H at *
 generalize l.drop p=r at *
 cases H with
 |nil =>
  rw[BM rfl,sD rfl];have hn:(Jd (gO l) [] r).head?=aj:=by
   rcases mj (gI [] r) with q|q
   ·rw[Eu (by unfold pz;rw[q];rfl)];rfl
   ·rw[Ea q];rfl
  rw[hn];exact⟨fun _=>⟨rfl,by omega,fun w=>r9⟩,fun z hz=>by cases hz⟩
 |cons y H =>
  have hb:=ahR k c;rw[← hb];obtain⟨a1,a2,a3,a4⟩:=E4 k (bL (a:=y) (l:=H));rw[MR k.ord] at a1 a2 a3;have hy:y∈tk (y::H) r∨pK y (y::H) r=aa y:=by
   by_cases m:y∈tk (y::H) r
   ·exact .inl m
   ·exact .inr (wQ bL m)
  rw[nh rfl,oj rfl,oN]
  constructor
  ·intro e;rw[e] at a1 a2 a3 hy;rw[if_pos rfl] at a2;refine⟨a1,by omega,fun w=>?_⟩
   rw[b7,b7,bO,a3 w];have hy:y∈tk (y::H) r:=hy.elim id fun c=>by cases c
   constructor
   ·rintro (m|m|⟨_,m|m⟩)
    ·exact .inl m
    ·exact .inr (m▸hy)
    ·exact .inr m
    ·cases m
   ·rintro (m|m)
    ·exact .inl m
    ·by_cases e:w=y
     ·exact .inr (.inl e)
     ·exact .inr (.inr ⟨e,.inl m⟩)
  ·intro z e;rw[e] at a1 a2 a3 hy;rw[if_neg (by simp)] at a2
   refine⟨a4 z e,a1,by omega,fun w=>?_⟩
   rw[b7,b7,bO,a3 w]
   constructor
   ·rintro (m|m|⟨_,m|m⟩)
    ·exact .inl (.inl m)
    ·rcases hy with q|q
     ·exact .inl (.inr (m▸q))
     ·injection q with q;exact .inr (m.trans q.symm)
    ·exact .inl (.inr m)
    ·injection m with m;exact .inr m.symm
   ·rintro ((m|m)|m)
    ·exact .inl m
    ·by_cases e:w=y
     ·exact .inr (.inl e)
     ·exact .inr (.inr ⟨e,.inl m⟩)
    ·by_cases e:w=y
     ·exact .inr (.inl e)
     ·exact .inr (.inr ⟨e,.inr (by rw[m])⟩)
theorem adP {y:It} {h:List It} (a:Ord (y::h)):gZ y h=y::h:=by
 cases h with
 |nil=>rfl
 |cons w h=>rw[gZ,if_pos (Cy a bL)]
theorem agE {l:List Op} {k:Nat} (h:(gC l).Nodup) (hk:k<l.length) (hd:(og l k).ins=an) :
  (qz l k<0->fin [] (j5 l k)=fin [] l/\gI [] l=gI [] (j5 l k)+1/\∀ w,w∈tk [] (j5 l k)↔w∈tk [] l) /\
  (¬ qz l k<0->∃ z,uE (jC l) (qz l k)=aa z/\z∉fin [] l/\z∈tk [] l/\fin [] (j5 l k)=gZ z (fin [] l)/\gI [] (j5 l k)=gI [] l/\∀ w,w∈tk [] (j5 l k)↔w∈tk [] l/\w≠z):=by
 have hp:k≤l.length:=Nat.le_of_lt hk;have a:=Pf h k;have hT:=afy h hp;have Yl:=aaV (l:=l) hp;have hta:=fun z=>N4 (z:=z) h k
 have f1:fin [] (j5 l k)=fin (fin [] (l.take k)) (l.drop (k+1)):=by unfold j5;rw[p8]
 have f2:gI [] (j5 l k)=gI [] (l.take k)+gI (fin [] (l.take k)) (l.drop (k+1)):=by unfold j5;rw[uz]
 have f3:tk [] (j5 l k)=tk [] (l.take k)++tk (fin [] (l.take k)) (l.drop (k+1)):=by unfold j5;rw[vW]
 rw[f1,f2,f3,P8 l k,Ow l k,TI l k];rw[O6 hk] at a hT hta ⊢;generalize tk [] (l.take k)=T at *
 generalize gI [] (l.take k)=F at *
 generalize fin [] (l.take k)=H at *
 generalize l.drop (k+1)=r at *
 generalize og l k=o at *
 cases H with
 |nil =>
  rw[BM hd,sD hd,nB hd,List.tail_nil];have e:tp [] (o::r)=aj:=by unfold tp;rw[sD hd,if_neg (by omega)]
  rw[e] at hT;have hb:qz l k<0:=by
   by_cases c:qz l k<0
   ·exact c
   ·have c':¬ E5 (jC l) k (pS l)<0:=c;rw[if_neg c'] at hT;cases hT
  exact⟨fun _=>⟨rfl,by omega,fun w=>r9⟩,fun n=>absurd hb n⟩
 |cons y H =>
  have a':Ap H r:=by have:=a.del hd;exact this
  have hyH:y∉H:=yg a.ord;have hyr:y∉gC r:=by have:=a.ap y bL;rwa [qT hd] at this
  obtain⟨a1,a2,a3,a4⟩:=Ly a' hyH hyr;have ea:sZ y H r=upO y (tp H r):=Oh;have e:tp (y::H) (o::r)=if gI H r=0 then aa (hi (y::tk H r)) else aj:=by unfold tp;rw[nh hd,oj hd]
  rw[e] at hT;rw[nh hd,oj hd,nB hd,oN];rw[adP a.ord] at a1 a2 a3
  constructor
  ·intro hb;have qh:E5 (jC l) k (pS l)<0:=hb;rw[if_pos qh] at hT;have hf:¬ gI H r=0:=fun c=>by rw[if_pos c] at hT;cases hT
   have ea:sZ y H r=aj:=by rw[ea];unfold tp;rw[if_neg hf];rfl
   rw[ea] at a1 a2 a3;rw[if_pos rfl] at a2;refine⟨a1,by omega,fun w=>?_⟩
   rw[b7,b7,bO,a3 w]
   constructor
   ·rintro (m|⟨m|m,_⟩)
    ·exact .inl m
    ·exact .inr (.inr m)
    ·exact .inr (.inl m)
   ·rintro (m|m|m)
    ·exact .inl m
    ·exact .inr ⟨.inr m,fun c=>by cases c⟩
    ·exact .inr ⟨.inl m,fun c=>by cases c⟩
  ·intro hb;have Yl:=Yl hb;have qh:¬ E5 (jC l) k (pS l)<0:=hb;rw[if_neg qh] at hT;have hf:gI H r=0:=by
    by_cases c:gI H r=0
    ·exact c
    ·rw[if_neg c] at hT;cases hT
   rw[if_pos hf] at hT;have hT:aa (hi (y::tk H r))=aa (hi (lW an ((jC l).drop (qz l k).toNat))):=hT;injection hT with hT
   rw[← hT] at Yl;have ea:sZ y H r=hi (y::tk H r):=by rw[ea];unfold tp;rw[if_pos hf];rfl
   have hs:(hi (y::tk H r)).isSome=ao:=(Yw _).2 (by simp)
   cases hz:hi (y::tk H r) with
   |none=>rw[hz] at hs;cases hs
   |some z =>
    rw[ea,hz] at a1 a2 a3 a4;have a4:=a4 z rfl;rw[if_neg (by simp)] at a2
    have hzm:z∈y::tk H r:=EO hz;refine⟨z,Yl.trans hz,a4.1,uQ _ hzm,a1,by omega,fun w=>?_⟩
    rw[b7,b7,bO,a3 w];have ne:∀ w,(aa z≠aa w)↔w≠z:=fun w=>⟨fun c e=>c (by rw[e]),fun c e=>c (by injection e with e;exact e.symm)⟩
    rw[ne w]
    constructor
    ·rintro (m|⟨m|m,n⟩)
     ·refine⟨.inl m,fun c=>?_⟩
      subst c;have t:=hta w m;rw[qT hd] at t;rcases bO.1 hzm with c|c
      ·exact t.1 (by rw[c];exact bL)
      ·exact(qV a' w c).elim (fun c=>t.1 (eo _ c)) t.2
     ·exact⟨.inr (.inr m),n⟩
     ·exact⟨.inr (.inl m),n⟩
    ·rintro ⟨m|m|m,n⟩
     ·exact .inl m
     ·exact .inr ⟨.inr m,n⟩
     ·exact .inr ⟨.inl m,n⟩
theorem af9 {x:It} {h:List It} (a:Ord h) (hx:x∉h):pU x (gZ x h)=h:=by
 refine ze (zb (pk a hx)) a fun z=>?_
 rw[po,jY]
 constructor
 ·rintro ⟨m|m,n⟩
  ·exact absurd m n
  ·exact m
 ·exact fun m=>⟨.inr m,fun c=>hx (c▸m)⟩
theorem am2 {l:List Op} {k:Nat} (h:(gC l).Nodup) (hk:k<l.length) (kx:(og l k).ins=ao) :
  Ap (fin [] (l.take (k+1))) (l.drop (k+1))/\(og l k).it∈fin [] (l.take (k+1))/\pU (og l k).it (fin [] (l.take (k+1)))=fin [] (l.take k)/\tk [] (l.take (k+1))=tk [] (l.take k)/\gI [] (l.take (k+1))=gI [] (l.take k):=by
 have a:=Pf h k;rw[O6 hk] at a;have e:l.take (k+1)=l.take k++[og l k]:=by rw[List.take_succ_eq_append_getElem hk,og,au,bd hk];rfl
 have e1:fin [] (l.take (k+1))=gZ (og l k).it (fin [] (l.take k)):=by rw[e,p8,td kx];rfl
 have e2:tk [] (l.take (k+1))=tk [] (l.take k):=by rw[e,vW,oD kx,tk,List.append_nil]
 have e3:gI [] (l.take (k+1))=gI [] (l.take k):=by rw[e,uz,oC kx,gI];rfl
 obtain⟨a1,a2,a3⟩:=a.ins kx;refine⟨Pf h (k+1),by rw[e1];exact jY.2 (.inl rfl),by rw[e1];exact af9 a.ord a2,e2,e3⟩
theorem agL {l:List Op} {k:Nat} (h:(gC l).Nodup) (hk:k<l.length) (kx:(og l k).ins=ao) :
  ((og l k).it∈fin [] l->fin [] (j5 l k)=pU (og l k).it (fin [] l)/\gI [] (j5 l k)=gI [] l/\∀ w,w∈tk [] (j5 l k)↔w∈tk [] l) /\
  ((og l k).it∉fin [] l->(og l k).it∈tk [] l/\(p6 (jC l) (Mm l (k+1))=aj->fin [] (j5 l k)=fin [] l/\gI [] (j5 l k)=gI [] l+1/\∀ w,w∈tk [] (j5 l k)↔w∈tk [] l/\w≠(og l k).it) /\
   (∀ z,p6 (jC l) (Mm l (k+1))=aa z->z∈fin [] l/\fin [] (j5 l k)=pU z (fin [] l)/\gI [] (j5 l k)=gI [] l/\∀ w,w∈tk [] (j5 l k)↔(w∈tk [] l∨w=z)/\w≠(og l k).it)):=by
 obtain⟨a,m1,m2,m3,m4⟩:=am2 h hk kx;have c:=abw h (k+1);have hp:k+1≤l.length:=hk;obtain⟨b,b1,b2,b3,b4⟩:=ae1 h hp;have hl:p6 (jC l) (Mm l (k+1))=lo (lW ao ((jC l).take b)):=by
  show lo (lW ao ((jC l).take (kH (jC l).length (OI (jC l) ((k+1:Nat):Int) (pS l)))))=_
  rw[b1,xp,zM b3]
 rw[← b4] at hl;rw[hl];have T3:gO l (og l k).it=decide ((og l k).it∈tk [] l):=rfl;have hx:(og l k).it∈gC l:=by
  have:=congrArg gC (parts hk);rw[zm,xM kx] at this;rw[this];exact uQ _ bL
 have Mp:=qU (lT h) (og l k).it;have hta:=N4 (z:=(og l k).it) h (k+1);have f1:fin [] (j5 l k)=fin (pU (og l k).it (fin [] (l.take (k+1)))) (l.drop (k+1)):=by unfold j5;rw[p8,m2]
 have f2:gI [] (j5 l k)=gI [] (l.take (k+1))+gI (pU (og l k).it (fin [] (l.take (k+1)))) (l.drop (k+1)):=by unfold j5;rw[uz,m2,m4]
 have f3:tk [] (j5 l k)=tk [] (l.take (k+1))++tk (pU (og l k).it (fin [] (l.take (k+1)))) (l.drop (k+1)):=by unfold j5;rw[vW,m2,m3]
 rw[f1,f2,f3];rw[P8 l (k+1),Ow l (k+1),TI l (k+1)] at *
 obtain⟨a1,a2,a3,a4⟩:=E4 a m1;have hbr:=fun hg=>Hj (z:=(og l k).it) a c m1 hg
 generalize tk [] (l.take (k+1))=T at *
 generalize gI [] (l.take (k+1))=F at *
 generalize fin [] (l.take (k+1))=H at *
 generalize l.drop (k+1)=r at *
 generalize(og l k).it=x at *
 have hxT:x∉T:=fun c=>(hta c).1 m1
 constructor
 ·intro j8;have hn:x∉tk H r:=fun c=>(Mp.1 j8).2 (uQ _ c)
  have e:=wQ m1 hn;rw[e] at a1 a2 a3;rw[if_neg (by simp)] at a2
  refine⟨a1,by omega,fun w=>?_⟩
  rw[b7,b7,a3 w]
  constructor
  ·rintro (m|⟨n,m|m⟩)
   ·exact .inl m
   ·exact .inr m
   ·injection m with m;exact absurd m.symm n
  ·rintro (m|m)
   ·exact .inl m
   ·exact .inr ⟨fun c=>hn (c▸m),.inl m⟩
 ·intro CI;have htk:x∈T++tk H r:=by
   by_cases q:x∈T++tk H r
   ·exact q
   ·exact absurd (Mp.2 ⟨.inr hx,q⟩) CI
  have hbr:=hbr (by rw[T3];exact decide_eq_true htk)
  rw[← hbr];refine⟨htk,fun e=>?_,fun z e=>?_⟩
  ·rw[e] at a1 a2 a3;rw[if_pos rfl] at a2;refine⟨a1,by omega,fun w=>?_⟩
   rw[b7,b7,a3 w]
   constructor
   ·rintro (m|⟨n,m|m⟩)
    ·exact⟨.inl m,fun c=>hxT (c▸m)⟩
    ·exact⟨.inr m,n⟩
    ·cases m
   ·rintro ⟨m|m,n⟩
    ·exact .inl m
    ·exact .inr ⟨n,.inl m⟩
  ·rw[e] at a1 a2 a3;rw[if_neg (by simp)] at a2
   refine⟨a4 z e,a1,by omega,fun w=>?_⟩
   rw[b7,b7,a3 w]
   constructor
   ·rintro (m|⟨n,m|m⟩)
    ·exact⟨.inl (.inl m),fun c=>hxT (c▸m)⟩
    ·exact⟨.inl (.inr m),n⟩
    ·injection m with m;exact⟨.inr m.symm,n⟩
   ·rintro ⟨(m|m)|m,n⟩
    ·exact .inl m
    ·exact .inr ⟨n,.inl m⟩
    ·exact .inr ⟨n,.inr (by rw[m])⟩
end Pa
namespace Sh
open Rx Wv
def k9:Gv.Kd Sl Sz:=⟨O9,S9,Lu,(fun l=>inferInstanceAs (Decidable (l.length≤1000))),Zf,(fun x h=>h),dh _,(fun x y h=>by
 unfold Lu at *
 rw[bF] at *
 rw[List.length_tail];omega)⟩
def sl (x:It):Sl:=⟨x,an,0⟩
abbrev mC (l:List It):List Sl:=l.map sl
def Ord (l:List It):Prop:=l.Pairwise ah
theorem Q9 {l:List It}:LA O9 (mC l)↔Ord l:=by
 unfold LA Ord mC;rw[Ds]
 constructor<;>intro h<;>refine h.imp ?_
 ·intro a b h;exact(DR _ _).1 h
 ·intro a b h;exact(DR _ _).2 h
def so (x:It):List It->Nat
 |[]=>0
 |y::l=>if ah y x then so x l+1 else 0
instance (a b:It):Decidable (ah a b):=inferInstanceAs (Decidable (_∨_))
theorem DG (x:It):∀ l:List It,Gv.qW O9 (sl x) (mC l)=so x l
 |[]=>rfl
 |y::l=>by
  by_cases h:ah y x
  ·have h':0<O9.cmp (sl x) (sl y):=(wT _ _).2 h;show Gv.qW O9 (sl x) (sl y::mC l)=_
   rw[Gv.PA h',DG x l,so,if_pos h]
  ·have h':¬ 0<O9.cmp (sl x) (sl y):=fun c=>h ((wT _ _).1 c)
   show Gv.qW O9 (sl x) (sl y::mC l)=_
   rw[Gv.Lk h',so,if_neg h]
theorem U7 (x:It) (l:List It):so x l≤l.length:=by
 rw[← DG];have:=Gv.aiw (O:=O9) (sl x) (mC l);simpa using this
theorem Ip (l:List It) (j:Nat):(mC l).getD j Yn=sl (l.getD j iz):=by
 unfold mC;simp only[au,fh];cases l[j]?<;>rfl
def pR (x:It):List It->Nat
 |[]=>0
 |y::l=>if y=x then 0 else pR x l+1
theorem UQ (x:It):∀ l:List It,pR x l≤l.length
 |[]=>a_ _
 |y::l=>by
  have:=UQ x l;rw[pR];split<;>simp<;>omega
theorem GK {x:It}:∀ {l:List It} {j:Nat},j<pR x l->l.getD j iz≠x
 |[],j,h=>by simp[pR] at h
 |y::l,j,h=>by
  rw[pR] at h;split at h
  ·omega
  ·cases j with
   |zero=>simpa using by assumption
   |succ j=>rw[wx];exact GK (by omega)
theorem w_ {x:It}:∀ {l:List It},pR x l<l.length->l.getD (pR x l) iz=x
 |[],h=>by simp at h
 |y::l,h=>by
  rw[pR] at h ⊢;split at h
  ·rw[if_pos (by assumption)];simpa using by assumption
  ·rw[if_neg (by assumption),wx];exact w_ (by simpa using h)
theorem ajx {x:It} {l:List It} {i:Nat} (h:∀ j,j<i->l.getD j iz≠x) (hi:i<l.length) (hx:l.getD i iz=x):pR x l=i:=by
 rcases nR (pR x l) i with c|c|c
 ·exact absurd (w_ (x:=x) (l:=l) (by omega)) (h _ c)
 ·exact c
 ·exact absurd hx (GK c)
theorem ahZ {x:It} {l:List It} (h:∀ j,j<l.length->l.getD j iz≠x):pR x l=l.length:=by
 have:=UQ x l;rcases cr (pR x l) l.length with c|c
 ·exact absurd (w_ c) (h _ c)
 ·omega
theorem HA (a:It):¬ ah a a:=fun h=>si h h
theorem aa7 (x y:It):O9.cmp (sl x) (sl y)=0↔x=y:=CL x y
theorem Y5 {x:It} {l:List It} (ho:Ord l) (h:pR x l<l.length):so x l=pR x l:=by
 rw[← DG];refine Gv.VK Zf (Q9.2 ho) (by simpa using h) ?_
 have e:(mC l).getD (pR x l) O9.e0=sl x:=by
  show(mC l).getD (pR x l) Yn=sl x
  rw[Ip,w_ h]
 rw[e,aa7]
def nI (x:It) (l:List It):Bool:=decide (pR x l<l.length)
theorem Wb (x:It) {l:List It} (ho:Ord l):(z8 O9 (sl x) (mC l)).isSome=nI x l:=by
 rw[Gv.UR,DG];unfold nI;have e:(mC l).getD (so x l) O9.e0=sl (l.getD (so x l) iz):=Ip l _;rw[e];simp only[aa7,fS]
 by_cases h:pR x l<l.length
 ·have hr:=Y5 ho h;rw[hr,decide_eq_true h,decide_eq_true (w_ h).symm];rfl
 ·rw[decide_eq_false h]
  by_cases h2:so x l<l.length
  ·have:¬ x=l.getD (so x l) iz:=fun c=>h (by
    have:=GK (x:=x) (l:=l) (j:=so x l);rcases cr (so x l) (pR x l) with c2|c2
    ·exact absurd c.symm (this c2)
    ·omega)
   rw[decide_eq_false this,uM]
  ·rw[decide_eq_false h2];rfl
def rN (x:It) (l:List It):List It:=if nI x l=ao then l else l.take (so x l)++x::l.drop (so x l)
def wA (x:It) (l:List It):List It:=if nI x l=ao then l.take (pR x l)++l.drop (pR x l+1) else l
theorem Wo {x:It} {l:List It} (ho:Ord l):q7 O9 (sl x) (mC l)=mC (rN x l):=by
 rw[Gv.Wi,Wb x ho,DG];unfold rN;cases h:nI x l with
 |true =>
  have h':pR x l<l.length:=of_decide_eq_true h;have hr:=Y5 ho h';simp only[if_true];rw[hr];have e:l=l.take (pR x l)++x::l.drop (pR x l+1):=by
   have hx:=w_ h';rw[au,bd h'] at hx
   conv=>lhs;rw[← cP (pR x l) l,oV h']
   rw[show l[pR x l]=x from hx]
  conv=>rhs;rw[e]
  simp[mC,nw,mJ]
 |false=>simp[mC,nw,mJ]
theorem ago {x:It} {l:List It} (ho:Ord l):Cg O9 (sl x) (mC l)=mC (wA x l):=by
 have hh:=Wb x ho;unfold Cg wA;rw[Gv.Pb,Gv.Oz,DG];cases h:nI x l with
 |true =>
  have h':pR x l<l.length:=of_decide_eq_true h;have hr:=Y5 ho h';rw[h] at hh;cases hc:z8 O9 (sl x) (mC l) with
  |none=>rw[hc] at hh;cases hh
  |some y=>simp[mC,HN,hr,nw,mJ]
 |false =>
  rw[h] at hh;cases hc:z8 O9 (sl x) (mC l) with
  |none=>rfl
  |some y=>rw[hc] at hh;cases hh
theorem ahH {x:It} {l:List It} {j:Nat} (h:j<so x l):ah (l.getD j iz) x:=by
 rw[← DG] at h;have:=Gv.VD (O:=O9) h;rw[show(mC l).getD j O9.e0=sl (l.getD j iz) from Ip l j] at this
 exact(wT _ _).1 this
theorem abG {x:It} {l:List It} (ho:Ord l) (hn:nI x l=an) {j:Nat} (h:so x l≤j) (hj:j<l.length):ah x (l.getD j iz):=by
 have h0:¬ ah (l.getD (so x l) iz) x:=fun c=>by
  have:=Gv.Uk (O:=O9) (e:=sl x) (l:=mC l) (by rw[DG];simp;omega)
  rw[DG,show(mC l).getD (so x l) O9.e0=sl (l.getD (so x l) iz) from Ip l _] at this
  exact this ((wT _ _).2 c)
 have kz:∀ k,k<l.length->l.getD k iz≠x:=fun k hk c=>by
  have xW:¬ pR x l<l.length:=of_decide_eq_false hn;exact GK (x:=x) (l:=l) (j:=k) (by have:=UQ x l;omega) c
 have h1:ah x (l.getD (so x l) iz):=by
  rcases Classical.em (ah x (l.getD (so x l) iz)) with c|c
  ·exact c
  ·exact absurd (abk c h0).symm (kz _ (by omega))
 rcases cr (so x l) j with c|c
 ·have g:∀ k (hk:k<l.length),l.getD k iz=l[k]:=fun k hk=>by rw[au,bd hk];rfl
  have:=(DK.1 ho) (so x l) j (by omega) hj c
  rw[g _ hj];rw[g _ (by omega)] at h1
  exact Un h1 this
 ·rwa [show j=so x l by omega]
theorem ach {x:It} {l:List It} (ho:Ord l) (hn:nI x l=an):∀ n,so x l≤n->n≤l.length->tn x l n=so x l
 |0,h,_=>by rw[tn];omega
 |n+1,h,hl=>by
  rw[tn];rcases cr (so x l) (n+1) with c|c
  ·rw[if_pos (abG ho hn (by omega) (by omega))]
   exact ach ho hn n (by omega) (by omega)
  ·rw[if_neg (fun h2=>si h2 (ahH (by omega)))]
   omega
theorem QL {x:It} {l:List It} (ho:Ord l) (hn:nI x l=an):Wv.ins x l=rN x l:=by
 unfold Wv.ins rN;rw[ach ho hn _ (U7 x l) (a_ _),if_neg (by rw[hn];decide)]
theorem agT {l:List It}:Ord l->oB l=l:=NC (P:=fun l=>Ord l->oB l=l) (fun _=>rfl) (fun l x ih h=>by
 have h1:Ord l:=(nD.1 h).1;have h2:∀ y∈l,ah y x:=fun y hy=>(nD.1 h).2.2 y hy x (List.mem_singleton_self x)
 have hn:nI x l=an:=by
  refine decide_eq_false fun c=>?_
  have:=h2 _ (yF (d:=iz) c);rw[w_ c] at this;exact HA _ this
 have hr:so x l=l.length:=by
  rcases cr (so x l) l.length with c|c
  ·exact absurd (abG h1 hn (a_ _) c) (si (h2 _ (yF c)))
  ·have:=U7 x l;omega
 rw[Ej,ih h1,QL h1 hn];unfold rN;rw[if_neg (by rw[hn];decide),hr]
 simp) l
theorem af4 {x:It} {l:List It} (ho:Ord l) (hn:nI x l=an):oB (l++[x])=rN x l:=by
 rw[Ej,agT ho,QL ho hn]
theorem XA {x:It} {l:List It} (ho:Ord l):Ord (rN x l):=by
 rw[← Q9,← Wo ho];exact Gv.Ln Zf (Q9.2 ho)
theorem ac' (x:It) (l:List It):(rN x l).length≤l.length+1:=by
 unfold rN;split
 ·omega
 ·simp;have:=U7 x l;omega
end Sh
namespace Pa
open Rx Wv Br
open Sh (rN wA mC sl nI pR w_ GK)
def u9 (H:List It) (o:Op):Mk:=⟨o.t,o.ins,o.it,o.ins&&decide (o.it∈H),an,iz⟩
def gq (H:List It) (l:List Op):List Mk:=l.map (u9 H)
theorem vl (l:List Op):jC l=gq (fin [] l) l:=rfl
theorem mK (H:List It) (l:List Op):(gq H l).length=l.length:=fS ..
theorem acj {H H':List It} {o:Op} (h:o.ins=ao->(o.it∈H↔o.it∈H')):u9 H o=u9 H' o:=by
 unfold u9;rcases iY o with c|c
 ·rw[decide_eq_decide.2 (h c)]
 ·rw[c];rfl
theorem CK {H H':List It} {l:List Op} (h:∀ z,z∈gC l->(z∈H↔z∈H')):gq H l=gq H' l :=
 nV fun o ho=>acj fun c=>h _ (D3.2 ⟨o,ho,c,rfl⟩)
theorem oy (H:List It) {l:List Op} {k:Nat} (h:k<l.length):(gq H l).getD k mz=u9 H (og l k):=by
 unfold gq og;rw[au,au,fh,bd h];rfl
def Tm (l:List Op):Prop:=l.Pairwise fun a b=>a.t<b.t
theorem VE {H:List It} {l:List Op} (h:Tm l):LA O8 (gq H l):=by
 unfold LA gq;rw[Ds];exact LO (fun c=>(DQ _ _).2 c) h
def lY (t:Int) (l:List Op):Nat:=l.findIdx fun o=>!decide (o.t<t)
theorem OH (t:Int) (l:List Op):lY t l≤l.length:=List.findIdx_le_length
theorem FZ {H:List It} {e:Mk}:∀ l:List Op,Gv.qW O8 e (gq H l)=lY e.t l
 |[]=>rfl
 |o::l=>by
  unfold lY;rw[List.findIdx_cons];show Gv.qW O8 e (u9 H o::gq H l)=_
  by_cases c:o.t<e.t
  ·rw[Gv.PA ((Rj e (u9 H o)).2 c),FZ l,decide_eq_true c];rfl
  ·rw[Gv.Lk fun k=>c ((Rj e (u9 H o)).1 k),decide_eq_false c];rfl
theorem aaq {t:Int} {l:List Op} (h:Tm l) {k:Nat} (hk:k<l.length) (ht:(og l k).t=t):lY t l=k:=by
 have:=Gv.VK (O:=O8) TK (e:=⟨t,an,iz,an,an,iz⟩) (l:=gq [] l) (i:=k) (VE h) (by rw[mK];exact hk) (by
  show O8.cmp _ ((gq [] l).getD k mz)=0
  rw[oy [] hk,Ca];exact ht.symm)
 rwa [FZ] at this
theorem PB {l:List Op} {k:Nat} (h:k<l.length):og l k∈l:=by
 rw[og,au,bd h];exact Fu h
def Er (l:List Op) (t:Int):Prop:=∀ o,o∈l->o.t≠t
theorem K5 (l:List Op) (t:Int):Er l t∨∃ k,k<l.length/\(og l k).t=t:=by
 by_cases h:∃ k,k<l.length/\(og l k).t=t
 ·exact .inr h
 ·refine .inl fun o ho e=>h ?_
  obtain⟨k,hk,rfl⟩:=sM ho;exact⟨k,hk,by rw[og,au,bd hk];exact e⟩
theorem NR {H:List It} {e:Mk} {l:List Op} (h:Er l e.t):(z8 O8 e (gq H l)).isSome=an:=by
 rw[Gv.UR]
 by_cases c:Gv.qW O8 e (gq H l)<(gq H l).length
 ·have c':=c;rw[FZ,mK] at c';have:¬ O8.cmp e ((gq H l).getD (Gv.qW O8 e (gq H l)) O8.e0)=0:=by
   show ¬ O8.cmp e ((gq H l).getD (Gv.qW O8 e (gq H l)) mz)=0
   rw[FZ,oy H c',Ca];exact fun q=>h _ (PB c') q.symm
  rw[decide_eq_false this,uM]
 ·rw[decide_eq_false c,Cd]
theorem Kt {H:List It} {e:Mk} {l:List Op} (h:Tm l) {k:Nat} (hk:k<l.length) (ht:(og l k).t=e.t):(z8 O8 e (gq H l)).isSome=ao/\Gv.qW O8 e (gq H l)=k:=by
 have r:Gv.qW O8 e (gq H l)=k:=by rw[FZ];exact aaq h hk ht
 refine⟨?_,r⟩;rw[Gv.UR,r,mK,decide_eq_true hk,jh,decide_eq_true_eq];show O8.cmp e ((gq H l).getD k mz)=0
 rw[oy H hk,Ca];exact ht.symm
theorem Rg {H:List It} {l:List Op} {o:Op} {m:Mk} (h:Er l o.t) (hm:m=u9 H o):q7 O8 m (gq H l)=gq H (j7 l (lY o.t l) o):=by
 subst hm;rw[Gv.Wi,if_neg (by rw[NR (e:=u9 H o) h];decide),FZ]
 unfold j7 gq;rw[dJ,gw,nw,mJ]
 rfl
theorem agA {H:List It} {l:List Op} {m:Mk} {k:Nat} (h:Tm l) (hk:k<l.length) (ht:(og l k).t=m.t):q7 O8 m (gq H l)=(gq H l).take k++m::(gq H l).drop (k+1):=by
 have q:=Kt (H:=H) h hk ht;rw[Gv.Wi,if_pos q.1,q.2]
theorem aem {H:List It} {l:List Op} {m:Mk} {k:Nat} (h:Tm l) (hk:k<l.length) (ht:(og l k).t=m.t):Cg O8 m (gq H l)=gq H (j5 l k):=by
 have q:=Kt (H:=H) h hk ht;unfold Cg;cases c:z8 O8 m (gq H l) with
 |none=>rw[c] at q;cases q.1
 |some y =>
  simp only;rw[Gv.Pb,Gv.Oz,q.2,HN];unfold j5 gq;rw[dJ,nw,mJ]
theorem apart {l:List Op} {k:Nat} (h:(gC l).Nodup) (hk:k<l.length) (kx:(og l k).ins=ao):(og l k).it∉gC (l.take k)/\(og l k).it∉gC (l.drop (k+1)):=by
 have e:=congrArg gC (parts hk);rw[zm,xM kx] at e;rw[e] at h;have h':=cf.1 h;exact⟨fun m=>h'.2.2 _ m _ bL rfl,(fH.1 h'.2.1).1⟩
theorem flip {H H':List It} {l:List Op} {k:Nat} (h:(gC l).Nodup) (hk:k<l.length) (kx:(og l k).ins=ao) (hH:∀ z,z≠(og l k).it->(z∈H↔z∈H')):(gq H l).take k++u9 H' (og l k)::(gq H l).drop (k+1)=gq H' l:=by
 obtain⟨n1,n2⟩:=apart h hk kx
 conv=>rhs;rw[parts hk]
 unfold gq;rw[dJ,gw,← nw,← mJ];have e1:(l.take k).map (u9 H)=(l.take k).map (u9 H'):=CK fun z hz=>hH z fun c=>n1 (c▸hz)
 have e2:(l.drop (k+1)).map (u9 H)=(l.drop (k+1)).map (u9 H'):=CK fun z hz=>hH z fun c=>n2 (c▸hz)
 rw[e1,e2]
theorem Wg {l:List Op} {i k:Nat} (h:(gC l).Nodup) (hk:k<l.length) (hi:i<l.length) (h1:(og l k).ins=ao) (h2:(og l i).ins=ao) (he:(og l i).it=(og l k).it):i=k:=by
 obtain⟨n1,n2⟩:=apart h hk h1;rcases nR i k with c|c|c
 ·refine absurd (D3.2 ⟨og l i,?_,h2,he⟩) n1;rw[vH];exact⟨i,by rw[dQ];omega,by rw[LP,og,au,bd hi];rfl⟩
 ·exact c
 ·refine absurd (D3.2 ⟨og l i,?_,h2,he⟩) n2;rw[vH];exact⟨i-(k+1),by rw[jr];omega,by rw[LQ,og,au];simp only[show k+1+(i-(k+1))=i by omega];rw[bd hi];rfl⟩
theorem aeQ {l:List Op} {o:Op} (h:Tm l) (hf:Er l o.t):Tm (j7 l (lY o.t l) o):=by
 have:=Gv.Ln (O:=O8) TK (e:=u9 [] o) (VE (H:=[]) h);rw[Rg (H:=[]) hf rfl] at this;unfold LA gq at this;rw[Ds] at this;exact LO (fun c=>(DQ _ _).1 c) this
theorem ale {l:List Op} (h:Tm l) (k:Nat):Tm (j5 l k):=by
 have e:(j5 l k).Sublist l:=by
  have:(l.take k++l.drop (k+1)).Sublist (l.take k++l.drop k):=(acU _).append (List.drop_sublist_drop_left l (Nat.le_succ k))
  rwa [cP] at this
 exact YF e h
theorem uG {x:It} {l:List It}:nI x l=ao↔x∈l:=by
 unfold nI;rw[decide_eq_true_eq]
 constructor
 ·intro c;have:=w_ c;rw[← this,au,bd c];exact Fu c
 ·intro m;obtain⟨k,hk,e⟩:=sM m
  by_cases c:pR x l<l.length
  ·exact c
  ·exact absurd (show l.getD k iz=x by rw[au,bd hk];exact e) (GK (by omega))
theorem XY {x:It} {l:List It} (h:Ord l) (hx:x∉l):rN x l=gZ x l:=by
 refine ze (Sh.XA h) (pk h hx) fun z=>?_
 unfold rN;rw[if_neg fun c=>hx (uG.1 c),jY,b7,bO]
 have:=cP (Sh.so x l) l
 constructor
 ·rintro (m|m|m)
  ·exact .inr (ph m)
  ·exact .inl m
  ·exact .inr (vG m)
 ·rintro (m|m)
  ·exact .inr (.inl m)
  ·rw[← this] at m;rcases b7.1 m with m|m
   ·exact .inl m
   ·exact .inr (.inr m)
theorem adN {x:It} {l:List It} (h:Ord l):wA x l=pU x l:=by
 unfold wA;split
 ·rename_i c;have ch:pR x l<l.length:=of_decide_eq_true c;have e:l=l.take (pR x l)++x::l.drop (pR x l+1):=by
   have hx:=w_ ch;rw[au,bd ch] at hx
   conv=>lhs;rw[← cP (pR x l) l,oV ch]
   rw[show l[pR x l]=x from hx]
  have hn:l.Nodup:=h.imp fun c=>akZ c
  have xW:=hn;rw[e] at xW;have h1:=cf.1 xW;have h2:=fH.1 h1.2.1
  conv=>rhs;rw[e]
  unfold pU;rw[oJ,kg,if_neg (by simp)]
  rw[Bv.2,Bv.2]
  ·intro z hz;have:z≠x:=fun c=>h2.1 (c▸hz)
   simp[this]
  ·intro z hz;have:z≠x:=fun c=>h1.2.2 z hz x bL c
   simp[this]
 ·rename_i c;have hx:x∉l:=fun m=>c (uG.2 m)
  unfold pU;rw[Bv.2];intro z hz;have:z≠x:=fun c=>hx (c▸hz)
  simp[this]
def gn (l:List Op):List It:=oB (tk [] l)
theorem OR:∀ {r:List Op} {h:List It},Ap h r->(tk h r).Nodup
 |[],h,a=>List.nodup_nil
 |o::r,h,a=>by
  rcases iY o with e|e
  ·rw[oD e];exact OR (a.ins e).1
  ·cases h with
   |nil=>rw[BM e];exact OR (a.del e)
   |cons y h =>
    rw[oj e];have a':Ap h r:=a.del e;refine fH.2 ⟨fun m=>?_,OR a'⟩
    rcases qV a' y m with c|c
    ·exact yg a.ord c
    ·have:=a.ap y bL;rw[qT e] at this;exact this c
theorem aa4:∀ l:List It,l.Nodup->Ord (oB l)/\∀ z,z∈oB l↔z∈l :=
 NC (P:=fun l=>l.Nodup->Ord (oB l)/\∀ z,z∈oB l↔z∈l) (fun _=>⟨rI,fun z=>r9⟩) fun l x ih h=>by
  have h':=cf.1 h;obtain⟨i1,i2⟩:=ih h'.1;have hx:x∉oB l:=fun m=>h'.2.2 x ((i2 x).1 m) x bL rfl
  have e:oB (l++[x])=gZ x (oB l):=by
   rw[Ej,Sh.QL i1 (by cases c:nI x (oB l);rfl;exact absurd (uG.1 c) hx),XY i1 hx]
  rw[e];refine⟨pk i1 hx,fun z=>?_⟩
  rw[jY,b7,i2 z];simp only[bO,vE,or_false];exact⟨fun c=>c.symm,fun c=>c.symm⟩
theorem qC {l:List Op} (h:(gC l).Nodup):Ord (gn l):=(aa4 _ (OR (lT h))).1
theorem tz {l:List Op} (h:(gC l).Nodup) {z:It}:z∈gn l↔z∈tk [] l:=(aa4 _ (OR (lT h))).2 z
theorem zI {l:List Op} (h:(gC l).Nodup):Ord (fin [] l):=Yy (lT h)
theorem Ur (l:List Op):(gn l).length=(tk [] l).length:=XT _
end Pa
namespace Gv
section
variable {E A:Type} {O:iO E A} {S:List E->A} {dp:List E->Prop}
theorem Gr {n:Nat}:∀ (t:Tr E) {k:Nat} {m:Po E A},fY n m->Rp O S m t->t.h<k->∃ kk,kk≤2*t.elems.length+1/\iM [] kk (zn O) m (cv O k m t.root).2
 |t,0,m,_,_,hk=>by omega
 |.nil,k+1,m,ho,hr,hk=>by
  have h0:(lk O m (Tr.nil (E:=E)).root).h=0:=by rw[(show Rp O S m .nil from trivial).root ho];rfl
  rw[cv,if_pos h0];exact⟨1,by omega,gE _ _ _⟩
 |.node r l x q,k+1,m,ho,⟨sQ,mU,lZ,mf⟩,hk=>by
  have h0:¬ (lk O m r).h=0:=by rw[mU,rj];simp only[Tr.h];omega
  simp only[Tr.wX];simp only[Tr.h] at hk;rw[cv,if_neg h0,mU,qX];obtain⟨k1,c1,i2⟩:=Gr l (k:=k) (m:=aE m r) (df.2 ho) (lZ.aE _) (by omega)
  have hu:=(gE (zn O) m r).to i2 (S:=[]) (fun s hs=>by simp at hs) (a_ _)
  obtain⟨k2,c2,j2⟩:=Gr q (k:=k) (m:=(cv O k (aE m r) l.root).2) (qJ.2 (df.2 ho)) (Rp.frame hu (fun s _ hs=>by cases hs) mf) (by omega)
  refine⟨_,?_,hu.to j2 (fun s hs=>by simp at hs) (a_ _)⟩
  rw[Tr.gG,bF,List.length_cons];omega
end
namespace TS
variable {E A:Type} {k:Kd E A}
theorem agQ (s:TS k):mZ (2*s.l.length+2) s.m s.all.m:=by
 obtain⟨a,b,h1,h2,h3,h4,h5,h6⟩:=s.ok;obtain⟨kk,c1,c2⟩:=Gr (O:=k.O) (S:=k.S) a (k:=KK) (m:=aE s.m s.r) (df.2 h3.ok) (h3.ra.aE _) (by have:=s.k1;have:=rZ a;rw[h4] at this;omega)
 have:=(gE (zn k.O) s.m s.r).to c2 (S:=[]) (fun s hs=>by simp at hs) (a_ _)
 show mZ _ s.m (cv k.O KK (aE s.m s.r) s.r).2
 have hv:=this.v;rw[h1] at hv;exact hv.mono (by rw[h4] at c1;omega)
theorem aiV (s:TS k) (i:Int):mZ (2*nc s.l.length+1) s.m (s.at_ i).m:=by
 obtain⟨d,m',e1,e2⟩:=s.ok.at_ (K:=KK) (i:=i) s.k1;show mZ _ s.m (qH k.O KK s.m s.r i).2
 rw[e1];exact e2.qA
theorem V1 {N:Type} {k:Nat} {a b:PM N} {v:Int} (h:mZ k a b) (h0:0≤a.cW) (h1:a.cW≤v) (h2:v+k≤4000000000000000000):0≤b.cW/\b.cW≤v+k:=by
 obtain⟨j,hj,e⟩:=h;rcases e with⟨e,rfl⟩|e
 ·rw[e];omega
 ·rw[e,ua (by omega)];omega
theorem qo (s:TS k):nc s.l.length≤29:=by
 have:=ada s.Hk;have e:nc 1000=29:=by decide
 omega
end TS
end Gv
namespace Pa
open Rx Wv Br
theorem T7 {L:List Mk} {may:Sw->Sw->Bool} {g:Mk->Bool} (h0:g mz=an) (hm:∀ a l,may a (S8 l)=ao↔∃ m,m∈l/\g m=ao):Gv.AB O8 S8 may (fun i=>g (L.getD i mz)) L:=by
 have key:∀ p l q a,p++(l++q)=L->(may a (S8 l)=ao↔∃ i,p.length≤i/\i<p.length+l.length/\g (L.getD i mz)=ao):=fun p l q a hL=>by
  rw[hm]
  constructor
  ·rintro ⟨m,h1,h2⟩
   obtain⟨j,hj,rfl⟩:=sM h1;refine⟨p.length+j,by omega,by omega,?_⟩
   rw[← hL,au,dS (by omega),show p.length+j-p.length=j by omega,cZ hj,bd hj]
   exact h2
  ·rintro ⟨i,h1,h2,h3⟩
   have hj:i-p.length<l.length:=by omega
   refine⟨l[i-p.length],Fu hj,?_⟩;rw[← hL,au,dS h1,cZ hj,bd hj] at h3;exact h3
 refine⟨⟨fun p x q hL=>?_,fun p l q hL i h1 h2 h3=>(key p l q _ hL).2 ⟨i,h1,h2,h3⟩⟩,fun p l q hL hl hm=>(key p l q _ hL).1 hm⟩
 have k:=key p [x] q (S8 p) (by simpa using hL)
 rw[show O8.sum x=S8 [x] from(Wp x).symm,Qk,k]
 simp only[List.length_singleton];exact⟨fun h=>⟨p.length,a_ _,by omega,h⟩,fun⟨i,h1,h2,h3⟩=>by rwa [show i=p.length by omega] at h3⟩
def iH (x:Int) (a o:Sw):Bool:=decide (mY (mY (x+a.w.s)+o.w.l)≤0)
def pY (x:It) (a o:Sw):Bool:=o.gf&&decide (kP o.g x≥0)
def p9 (x:It) (a o:Sw):Bool:=o.lf&&decide (kP o.l x≤0)
theorem Lh (a b:It):kP a b≥0↔a=b∨ah b a:=by
 rw[← wT a b,← Sh.CL a b];omega
theorem Lt (a b:It):kP a b≤0↔a=b∨ah a b:=by
 rw[← Sh.DR a b,← Sh.CL a b];omega
abbrev isG (x:It):Mk->Bool:=fun m=>m.ins&&((m.here==an)&&decide (kP m.it x≥0))
abbrev isL (x:It):Mk->Bool:=fun m=>m.ins&&((m.here==ao)&&decide (kP m.it x≤0))
theorem afz (x:It) (L:List Mk):Gv.AB O8 S8 (pY x) (fun i=>isG x (L.getD i mz)) L:=T7 rfl fun a l=>by
 show((hi (lW an l)).isSome&&decide (kP ((hi (lW an l)).getD iz) x≥0))=ao↔_
 rw[aM,decide_eq_true_eq]
 constructor
 ·rintro ⟨h1,h2⟩
  obtain⟨y,hy⟩:=Fv.1 h1;rw[hy,lL] at h2;obtain⟨m,g1,g2,g3,g4⟩:=tJ.1 (EO hy);refine⟨m,g1,?_⟩;show(m.ins&&((m.here==an)&&decide (kP m.it x≥0)))=ao
  rw[g2,g3,g4,decide_eq_true h2];rfl
 ·rintro ⟨m,g1,g2⟩
  simp only[isG,aM,beq_iff_eq,decide_eq_true_eq] at g2;obtain⟨y,hy,h3⟩:=Ik (l:=lW an l) (tJ.2 ⟨m,g1,g2.1,g2.2.1,rfl⟩);refine⟨by rw[hy];rfl,?_⟩
  rw[hy,lL,Lh];have h4:=(Lh _ _).1 g2.2.2;rcases h3 with h3|h3
  ·rw[h3];exact h4
  ·rcases h4 with h4|h4
   ·rw[← h4];exact .inr h3
   ·exact .inr (Of h4 h3)
theorem afR (x:It) (L:List Mk):Gv.AB O8 S8 (p9 x) (fun i=>isL x (L.getD i mz)) L:=T7 rfl fun a l=>by
 show((lo (lW ao l)).isSome&&decide (kP ((lo (lW ao l)).getD iz) x≤0))=ao↔_
 rw[aM,decide_eq_true_eq]
 constructor
 ·rintro ⟨h1,h2⟩
  obtain⟨y,hy⟩:=Fv.1 h1;rw[hy,lL] at h2;obtain⟨m,g1,g2,g3,g4⟩:=tJ.1 (G0 hy);refine⟨m,g1,?_⟩;show(m.ins&&((m.here==ao)&&decide (kP m.it x≤0)))=ao
  rw[g2,g3,g4,decide_eq_true h2];rfl
 ·rintro ⟨m,g1,g2⟩
  simp only[isL,aM,beq_iff_eq,decide_eq_true_eq] at g2;obtain⟨y,hy,h3⟩:=lo_le (l:=lW ao l) (tJ.2 ⟨m,g1,g2.1,g2.2.1,rfl⟩);refine⟨by rw[hy];rfl,?_⟩
  rw[hy,lL,Lt];have h4:=(Lt _ _).1 g2.2.2;rcases h3 with h3|h3
  ·rw[h3];exact h4
  ·rcases h4 with h4|h4
   ·rw[← h4];exact .inr h3
   ·exact .inr (Of h3 h4)
theorem ahl {H:List It} {l:List Op} {f k:Nat} {r:Int} {z:It} (hn:(gC l).Nodup) (hk:k<l.length) (kx:(og l k).ins=ao) (hz:(og l k).it=z) (hH:z∉H) (hf:f≤k)
  (hb:hi (lW an ((gq H l).drop f))=aa z) (hr:Gv.BZ (fun i=>isG z ((gq H l).getD i mz)) 0 (gq H l).length f r):r=k:=by
 have hP:isG z ((gq H l).getD k mz)=ao:=by
  rw[oy H hk];show((og l k).ins&&((((og l k).ins&&decide ((og l k).it∈H))==an)&&decide (kP (og l k).it z≥0)))=ao
  rw[kx,hz,decide_eq_false hH,decide_eq_true ((Lh z z).2 (.inl rfl))];rfl
 have nx:k<(gq H l).length:=by rw[mK];exact hk
 rcases hr with⟨h1,h2⟩|⟨j,h1,h2,h3,h4,h5,h6⟩
 ·have c:=h2 k (dh _) nx (by omega)
  exact absurd (hP.symm.trans c) (by decide)
 ·have hj:j<l.length:=by rw[mK] at h3;exact h3
  have Ms:=h5;simp only[oy H hj] at h5;have h5:((og l j).ins&&((((og l j).ins&&decide ((og l j).it∈H))==an)&&decide (kP (og l j).it z≥0)))=ao:=h5;rw[aM,aM,beq_iff_eq,decide_eq_true_eq] at h5;obtain⟨a1,a2,a3⟩:=h5;have hm:(og l j).it∈lW an ((gq H l).drop f):=by
   refine tJ.2 ⟨(gq H l).getD j mz,?_,by rw[oy H hj];exact a1,by rw[oy H hj];exact a2,by rw[oy H hj];rfl⟩
   rw[vH];refine⟨j-f,by rw[jr];omega,?_⟩
   rw[LQ,au,bd h3];simp only[show f+(j-f)=j by omega,lL]
  obtain⟨y,b1,b2⟩:=Ik hm;rw[hb] at b1;injection b1 with b1
  subst b1;have e:(og l j).it=(og l k).it:=by
   rw[hz];rcases(Lh _ _).1 a3 with c|c
   ·exact c
   ·rcases b2 with d|d
    ·exact d.symm
    ·exact absurd d (si c)
  rw[h1,Wg hn hk hj kx a1 e]
theorem aik {H:List It} {l:List Op} {u k:Nat} {r:Int} {z:It} (hn:(gC l).Nodup) (hk:k<l.length) (kx:(og l k).ins=ao) (hz:(og l k).it=z) (hH:z∈H) (hf:k<u)
  (hb:lo (lW ao ((gq H l).take u))=aa z) (hr:Gv.EH (fun i=>isL z ((gq H l).getD i mz)) 0 (gq H l).length u r):r=k:=by
 have hP:isL z ((gq H l).getD k mz)=ao:=by
  rw[oy H hk];show((og l k).ins&&((((og l k).ins&&decide ((og l k).it∈H))==ao)&&decide (kP (og l k).it z≤0)))=ao
  rw[kx,hz,decide_eq_true hH,decide_eq_true ((Lt z z).2 (.inl rfl))];rfl
 have nx:k<(gq H l).length:=by rw[mK];exact hk
 rcases hr with⟨h1,h2⟩|⟨j,h1,h2,h3,h4,h5,h6⟩
 ·have c:=h2 k (dh _) nx (by omega)
  exact absurd (hP.symm.trans c) (by decide)
 ·have hj:j<l.length:=by rw[mK] at h3;exact h3
  simp only[oy H hj] at h5;have h5:((og l j).ins&&((((og l j).ins&&decide ((og l j).it∈H))==ao)&&decide (kP (og l j).it z≤0)))=ao:=h5;rw[aM,aM,beq_iff_eq,decide_eq_true_eq] at h5;obtain⟨a1,a2,a3⟩:=h5;have hm:(og l j).it∈lW ao ((gq H l).take u):=by
   refine tJ.2 ⟨(gq H l).getD j mz,?_,by rw[oy H hj];exact a1,by rw[oy H hj];exact a2,by rw[oy H hj];rfl⟩
   rw[vH];have hl:j<((gq H l).take u).length:=by rw[dQ];omega
   refine⟨j,hl,?_⟩;rw[LP,au,bd h3]
   rfl
  obtain⟨y,b1,b2⟩:=lo_le hm;rw[hb] at b1;injection b1 with b1
  subst b1;have e:(og l j).it=(og l k).it:=by
   rw[hz];rcases(Lt _ _).1 a3 with c|c
   ·exact c
   ·rcases b2 with d|d
    ·exact d.symm
    ·exact absurd d (si c)
  rw[h1,Wg hn hk hj kx a1 e]
end Pa
namespace G8
open Rx
set_option maxRecDepth 100000
def TWg {R:Type}:eJ R:=[(1000000000,lP)]
theorem aj0 {R:Type} {D:fJ R}:cN D Tryz.prog (TWg:eJ R):=⟨ix,trivial⟩
def Ty {R:Type}:Prim R:=fun args hh=>match args,hh with
 |[.agg ⟨aS⟩,.agg ⟨oS⟩,.pointer (aa ⟨0,0,aj⟩)],[aa (.inl (3,[.int .i64 x]))]=>aa ⟨aS=ko (wi aS)/\oS=ko (wi oS),.bool (Pa.iH x (wi aS) (wi oS)),aj,hh,[],[]⟩
 |_,_=>aj
theorem XJ {R:Type} {D:fJ R}:b9 D Tryz.prog 154 (a9 Ty):=by
 refine fu Tryz.f154 fun args hh x hx=>?_
 unfold Ty at hx;split at hx
 ·rename_i aS oS x;cases hx;refine q4 fun _ hv=>?_
  obtain⟨jT,sh⟩:=hv;generalize wi aS=a at *;subst jT;generalize wi oS=o at *;subst sh
  generalize hG:cj (R:=R) _ _=G;refine cL (T:=TWg) aj0 mixed 200 ?_;refine bK (q:=Vc True/\Vc True/\aX (G (aC (decide (ck ar (ck ar (x+Ti.Td.s (Wv.Sw.w a))+Ti.Td.l (Wv.Sw.w o))≤(0:Int)))) [aa (.inl (3,[.int ar x])),aa (.inl (53,(ko a))),aa (.inl (53,(ko o)))])) ?_ (by kernel_rfl)
  subst hG
  repeat' (first|apply cX|apply Vc.mk|apply fits.mk|intro h|apply aX.mk)
  all_goals (try simp only[sB] at *)
  all_goals first|contradiction|omega|exact jv ‹_›|exact jw ‹_›|exact ju ‹_›|exact⟨rfl,by omega⟩|exact rfl|(simp[*,-au];done)|skip
  exact⟨[0],rfl,rfl,⟨.inl rfl,trivial⟩,rfl,rfl,rfl,rfl⟩
 ·cases hx
def TSc {R:Type}:eJ R:=[(69,bJ zN 2 (a9 Sh.Nz)),(106,bJ zN 2 (a9 Sh.F0))]
theorem aaO {R:Type} {D:fJ R}:cN D Tryz.prog (TSc:eJ R):=⟨aU _ _ Sh.KF,aU _ _ Sh.zR,trivial⟩
def ZI {R:Type}:Prim R:=fun args hh=>match args,hh with
 |[.agg ⟨aS⟩,.agg ⟨oS⟩,.pointer (aa ⟨0,0,aj⟩)],[aa (.inl (75,[.int .i64 k,.int .i64 i,.bool e,.int .i64 tt]))]=>aa ⟨aS=ko (wi aS)/\oS=ko (wi oS),.bool (Pa.pY ⟨k,i⟩ (wi aS) (wi oS)),aj,hh,[],[]⟩
 |_,_=>aj
theorem af1 {R:Type} {D:fJ R}:b9 D Tryz.prog 105 (a9 ZI):=by
 refine fu Tryz.f105 fun args hh x hx=>?_
 unfold ZI at hx;split at hx
 ·rename_i aS oS k i e tt;cases hx;refine q4 fun _ hv=>?_
  obtain⟨jT,sh⟩:=hv;generalize wi aS=a at *;subst jT;generalize wi oS=o at *;subst sh
  generalize hG:cj (R:=R) _ _=G;refine cL (T:=TSc) aaO mixed 200 ?_;refine bK (q:=let Z1:=bm ar;(N' o=ao->Vc (aC (N' o)=aC ao)/\Vc True/\Vc True/\aX (G (aC (decide (gV Sh.O9 (Sh.Sl.mk (Wv.Sw.g o) an (0:Int)) (Sh.Sl.mk (cU k i) e tt)≥(0:Int)))) [aa (.inl (75,[Z1 k,Z1 i,.bool e,Z1 tt])),aa (.inl (53,(ko a))),aa (.inl (53,(ko o)))]))/\(N' o=an->Vc (aC (N' o)=aC an)/\aX (G (aC an) [aa (.inl (75,[Z1 k,Z1 i,.bool e,Z1 tt])),aa (.inl (53,(ko a))),aa (.inl (53,(ko o)))]))) ?_ (by kernel_rfl)
  intro Z1;subst Z1;have done:∀ (x:Bool) (rest:Hp R),x=Pa.pY ⟨k,i⟩ a o->G (.bool x) (aa (.inl (75,[.int .i64 k,.int .i64 i,.bool e,.int .i64 tt]))::rest):=by
   intro x rest h;subst h;subst hG;exact⟨[0],rfl,rfl,⟨.inl rfl,trivial⟩,rfl,rfl,rfl,rfl⟩
  clear hG;exact⟨fun h=>⟨⟨congrArg aC h⟩,⟨trivial⟩,⟨trivial⟩,⟨done _ _ (by unfold Pa.pY;rw[h];rfl)⟩⟩,fun h=>⟨⟨congrArg aC h⟩,⟨done _ _ (by unfold Pa.pY;rw[h];rfl)⟩⟩⟩
 ·cases hx
def YX {R:Type}:Prim R:=fun args hh=>match args,hh with
 |[.agg ⟨aS⟩,.agg ⟨oS⟩,.pointer (aa ⟨0,0,aj⟩)],[aa (.inl (75,[.int .i64 k,.int .i64 i,.bool e,.int .i64 tt]))]=>aa ⟨aS=ko (wi aS)/\oS=ko (wi oS),.bool (Pa.p9 ⟨k,i⟩ (wi aS) (wi oS)),aj,hh,[],[]⟩
 |_,_=>aj
theorem agI {R:Type} {D:fJ R}:b9 D Tryz.prog 110 (a9 YX):=by
 refine fu Tryz.f110 fun args hh x hx=>?_
 unfold YX at hx;split at hx
 ·rename_i aS oS k i e tt;cases hx;refine q4 fun _ hv=>?_
  obtain⟨jT,sh⟩:=hv;generalize wi aS=a at *;subst jT;generalize wi oS=o at *;subst sh
  generalize hG:cj (R:=R) _ _=G;refine cL (T:=TSc) aaO mixed 200 ?_;refine bK (q:=let Z1:=bm ar;(Oa o=ao->Vc (aC (Oa o)=aC ao)/\Vc True/\Vc True/\aX (G (aC (decide (gV Sh.O9 (Sh.Sl.mk (Wv.Sw.l o) an (0:Int)) (Sh.Sl.mk (cU k i) e tt)≤(0:Int)))) [aa (.inl (75,[Z1 k,Z1 i,.bool e,Z1 tt])),aa (.inl (53,(ko a))),aa (.inl (53,(ko o)))]))/\(Oa o=an->Vc (aC (Oa o)=aC an)/\aX (G (aC an) [aa (.inl (75,[Z1 k,Z1 i,.bool e,Z1 tt])),aa (.inl (53,(ko a))),aa (.inl (53,(ko o)))]))) ?_ (by kernel_rfl)
  intro Z1;subst Z1;have done:∀ (x:Bool) (rest:Hp R),x=Pa.p9 ⟨k,i⟩ a o->G (.bool x) (aa (.inl (75,[.int .i64 k,.int .i64 i,.bool e,.int .i64 tt]))::rest):=by
   intro x rest h;subst h;subst hG;exact⟨[0],rfl,rfl,⟨.inl rfl,trivial⟩,rfl,rfl,rfl,rfl⟩
  clear hG;exact⟨fun h=>⟨⟨congrArg aC h⟩,⟨trivial⟩,⟨trivial⟩,⟨done _ _ (by unfold Pa.p9;rw[h];rfl)⟩⟩,fun h=>⟨⟨congrArg aC h⟩,⟨done _ _ (by unfold Pa.p9;rw[h];rfl)⟩⟩⟩
 ·cases hx
set_option maxHeartbeats 16000000
def Hn  (k:Nat):Prim Rs:=fun args hh=>match args,hh with
 |[.pointer (aa ⟨0,0,aj⟩),.agg ⟨xN⟩,.agg ⟨pP⟩,.int .i64 f_,.func (.func 154) ⟨[]⟩ ⟨[.pointer (aa ⟨1,0,aj⟩)]⟩],[aa (.inl (110,[.pointer (aa ⟨2,0,aj⟩),.int .i64 ti,.int .i64 tg])),aa (.inl (3,[.int .i64 xx])),aa (.inr (.inr (.inr (.da m))))]=>aa ⟨xN=bj (fU xN)/\pP=bV (o_ pP)/\(PP m/\gH aw k m (fU xN)),.int .i64 (kJ aw (Pa.iH xx) k m (fU xN) (o_ pP) f_).1,aj,[aa (.inl (110,[.pointer (aa ⟨2,0,aj⟩),.int .i64 ti,.int .i64 tg])),aa (.inl (3,[.int .i64 xx])),aa (.inr (.inr (.inr (.da (kJ aw (Pa.iH xx) k m (fU xN) (o_ pP) f_).2))))],[],[(0,0)]⟩
 |_,_=>aj
def X6 (k:Nat):eJ Rs:=[(1000000000,lP),(154,bJ zN 2 (a9 Ty)),(80,bJ zN 2 (a9 j9)),(98,bJ zN 2 (a9 Ag)),(148,bJ zN 2 (a9 ed)),(142,bJ zN 2 (a9 (Hn k)))]
theorem Sd:∀ k:Nat,b9 D Tryz.prog 142 (a9 (Hn k))
 |0=>by
  refine fu Tryz.f142 fun args hh x hx=>?_
  unfold Hn at hx;split at hx
  ·rename_i xN pP f_ ti tg xx m;cases hx;refine q4 fun _ hv=>?_
   exact kL (ig (ig (ig hv)))
  ·cases hx
 |k+1=>by
  have ih:=Sd k;refine fu Tryz.f142 fun args hh x hx=>?_
  unfold Hn at hx;split at hx
  ·rename_i xN pP f_ ti tg xx m;cases hx;refine q4 fun _ hv=>?_
   obtain⟨jT,sh,hv⟩:=hv;generalize fU xN=xn at *;subst jT;generalize o_ pP=pp at *;subst sh;obtain⟨hp,hd⟩:=hv
   generalize hG:cj (R:=Rs) _ _=G;refine cL (T:=(X6 k)) (show cN D Tryz.prog (X6 k) from⟨ix,aU _ _ XJ,aU _ _ look_ok,aU _ _ yy,aU _ _ uy,aU _ _ ih,trivial⟩) mixed 200 ?_
   refine bK (q:=let Z9:=bm ar;let Z1:=(ck ar (bM pp+bM (bt xn))≤f_);let Z2:=(br aw m (bc xn));let Z3:=(kJ aw (Pa.iH xx) k (aK m (bc xn)) Z2 pp f_);let Z4:=(eD aw pp (bt Z2));let Z5:=(nK aw (bY xn));let Z6:=(br aw (av Z3) (bn xn));let Z7:=(aK (av Z3) (bn xn));let Z8:=(kJ aw (Pa.iH xx) k Z7 Z6 (eD aw Z4 Z5) f_);((cu xn==(0:Int))=an->Vc True/\(decide Z1=ao->aX (G (Z9 (-1:Int)) [dD 2 ti tg,aa (.inl (3,[Z9 xx])),oP m,aa (.inl (136,(bj xn))),aa (.inl (134,(bV pp)))]))/\(decide Z1=an->(decide (bM pp≥f_)=ao->Vc ((ko (bG pp))=ko (bG pp)/\(ko (bG (bt xn)))=ko (bG (bt xn)))/\((!Pa.iH xx (bG pp) (bG (bt xn)))=ao->aX (G (Z9 (-1:Int)) [dD 2 ti tg,aa (.inl (3,[Z9 xx])),oP m,aa (.inl (136,(bj xn))),aa (.inl (134,(bV pp)))]))/\((!Pa.iH xx (bG pp) (bG (bt xn)))=an->Vc (PP m)/\Vc ((bj Z2)=bj Z2/\(bV pp)=bV pp/\PP (aK m (bc xn))/\gH aw k (aK m (bc xn)) Z2)/\(decide (ax Z3≥(0:Int))=ao->aX (G (Z9 (ax Z3)) [dD 2 ti tg,aa (.inl (3,[Z9 xx])),oP (av Z3),aa (.inl (136,(bj xn))),aa (.inl (134,(bV pp))),aa (.inl (136,(bj Z2)))]))/\(decide (ax Z3≥(0:Int))=an->Vc ((bV pp)=bV pp/\(bV (bt Z2))=bV (bt Z2)/\True)/\Vc ((du (bY xn))=du (bY xn)/\True)/\(decide (bM Z4≥f_)=ao->Vc ((ko (bG Z4))=ko (bG Z4)/\(ko (bG Z5))=ko (bG Z5))/\(Pa.iH xx (bG Z4) (bG Z5)=ao->aX (G (Z9 (bM Z4)) [dD 2 ti tg,aa (.inl (3,[Z9 xx])),oP (av Z3),aa (.inl (136,(bj xn))),aa (.inl (134,(bV Z4))),aa (.inl (136,(bj Z2))),aa (.inl (134,(bV Z5)))]))/\(Pa.iH xx (bG Z4) (bG Z5)=an->Vc (PP (av Z3))/\Vc ((bV Z4)=bV Z4/\(bV Z5)=bV Z5/\True)/\Vc ((bj Z6)=bj Z6/\(bV (eD aw Z4 Z5))=bV (eD aw Z4 Z5)/\PP Z7/\gH aw k Z7 Z6)/\aX (G (Z9 (ax Z8)) [dD 2 ti tg,aa (.inl (3,[Z9 xx])),oP (av Z8),aa (.inl (136,(bj xn))),aa (.inl (134,(bV Z4))),aa (.inl (136,(bj Z2))),aa (.inl (134,(bV Z5)))])))/\(decide (bM Z4≥f_)=an->Vc (PP (av Z3))/\Vc ((bV Z4)=bV Z4/\(bV Z5)=bV Z5/\True)/\Vc ((bj Z6)=bj Z6/\(bV (eD aw Z4 Z5))=bV (eD aw Z4 Z5)/\PP Z7/\gH aw k Z7 Z6)/\aX (G (Z9 (ax Z8)) [dD 2 ti tg,aa (.inl (3,[Z9 xx])),oP (av Z8),aa (.inl (136,(bj xn))),aa (.inl (134,(bV Z4))),aa (.inl (136,(bj Z2))),aa (.inl (134,(bV Z5)))])))))/\(decide (bM pp≥f_)=an->Vc (PP m)/\Vc ((bj Z2)=bj Z2/\(bV pp)=bV pp/\PP (aK m (bc xn))/\gH aw k (aK m (bc xn)) Z2)/\(decide (ax Z3≥(0:Int))=ao->aX (G (Z9 (ax Z3)) [dD 2 ti tg,aa (.inl (3,[Z9 xx])),oP (av Z3),aa (.inl (136,(bj xn))),aa (.inl (134,(bV pp))),aa (.inl (136,(bj Z2)))]))/\(decide (ax Z3≥(0:Int))=an->Vc ((bV pp)=bV pp/\(bV (bt Z2))=bV (bt Z2)/\True)/\Vc ((du (bY xn))=du (bY xn)/\True)/\(decide (bM Z4≥f_)=ao->Vc ((ko (bG Z4))=ko (bG Z4)/\(ko (bG Z5))=ko (bG Z5))/\(Pa.iH xx (bG Z4) (bG Z5)=ao->aX (G (Z9 (bM Z4)) [dD 2 ti tg,aa (.inl (3,[Z9 xx])),oP (av Z3),aa (.inl (136,(bj xn))),aa (.inl (134,(bV Z4))),aa (.inl (136,(bj Z2))),aa (.inl (134,(bV Z5)))]))/\(Pa.iH xx (bG Z4) (bG Z5)=an->Vc (PP (av Z3))/\Vc ((bV Z4)=bV Z4/\(bV Z5)=bV Z5/\True)/\Vc ((bj Z6)=bj Z6/\(bV (eD aw Z4 Z5))=bV (eD aw Z4 Z5)/\PP Z7/\gH aw k Z7 Z6)/\aX (G (Z9 (ax Z8)) [dD 2 ti tg,aa (.inl (3,[Z9 xx])),oP (av Z8),aa (.inl (136,(bj xn))),aa (.inl (134,(bV Z4))),aa (.inl (136,(bj Z2))),aa (.inl (134,(bV Z5)))])))/\(decide (bM Z4≥f_)=an->Vc (PP (av Z3))/\Vc ((bV Z4)=bV Z4/\(bV Z5)=bV Z5/\True)/\Vc ((bj Z6)=bj Z6/\(bV (eD aw Z4 Z5))=bV (eD aw Z4 Z5)/\PP Z7/\gH aw k Z7 Z6)/\aX (G (Z9 (ax Z8)) [dD 2 ti tg,aa (.inl (3,[Z9 xx])),oP (av Z8),aa (.inl (136,(bj xn))),aa (.inl (134,(bV Z4))),aa (.inl (136,(bj Z2))),aa (.inl (134,(bV Z5)))]))))))/\((cu xn==(0:Int))=ao->aX (G (Z9 (-1:Int)) [dD 2 ti tg,aa (.inl (3,[Z9 xx])),oP m,aa (.inl (136,(bj xn))),aa (.inl (134,(bV pp)))]))) ?_ (by kernel_rfl)
   intro Z9 Z1 Z2 Z3 Z4 Z5 Z6 Z7 Z8;subst Z8 Z7 Z6 Z5 Z4 Z3 Z2 Z1 Z9;simp only[gH] at hd;have e1:∀ e,(nK aw e).sum=aw.sum e:=fun _=>rfl
   have done:∀ (i:Int) (m':Pl) (rest:Hp Rs),kJ aw (Pa.iH xx) (k+1) m xn pp f_=(i,m')->G (.int .i64 i) ([aa (.inl (110,[.pointer (aa ⟨2,0,aj⟩),.int .i64 ti,.int .i64 tg])),aa (.inl (3,[.int .i64 xx])),aa (.inr (.inr (.inr (.da m'))))]++rest):=by
    intro i m' rest e;subst hG;refine⟨[0,1,2],?_,rfl,⟨.inl rfl,.inl rfl,?_,trivial⟩,rfl,rfl,rfl,rfl⟩
    ·simp only[e];rfl
    ·simp only[e];rfl
   clear hG;rw[kJ] at done
   dsimp only [mY] at done
   simp only[e1]
   repeat' (first|apply cX|apply Vc.mk|apply fits.mk|intro h|apply aX.mk)
   all_goals (try simp only[sB] at *)
   all_goals first|contradiction|omega|exact jv ‹_›|exact jw ‹_›|exact ju ‹_›|exact⟨rfl,by omega⟩|exact rfl|(simp[*,-au];done)|skip
   all_goals first|assumption|(simp only[ja];assumption)|skip
   all_goals first|exact n3 (hd.resolve_left (by omega)).1 (fun s=>by simp only[Gv.ir,lM,mA])|(simp only[lM,mA,Gv.ir];first|exact n3 (hd.resolve_left (by omega)).2 (fun s=>by simp only[Gv.ir,lM,mA])|exact n3 (hd.resolve_left (by omega)).1 (fun s=>by simp only[Gv.ir,lM,mA]))|skip
   all_goals (refine done _ _ _ ?_;repeat' split)
   all_goals first|rfl|(exfalso;omega)|(exfalso;simp_all;done)|(exfalso;simp_all;omega)
  ·cases hx
def Kn  (k:Nat):Prim Rs:=fun args hh=>match args,hh with
 |[.pointer (aa ⟨0,0,aj⟩),.agg ⟨xN⟩,.agg ⟨pP⟩,.int .i64 f_,.func (.func 154) ⟨[]⟩ ⟨[.pointer (aa ⟨1,0,aj⟩)]⟩],[aa (.inl (110,[.pointer (aa ⟨2,0,aj⟩),.int .i64 ti,.int .i64 tg])),aa (.inl (3,[.int .i64 xx])),aa (.inr (.inr (.inr (.da m))))]=>aa ⟨xN=bj (fU xN)/\pP=bV (o_ pP)/\(PP m/\gH aw k m (fU xN)),.int .i64 (jZ aw (Pa.iH xx) k m (fU xN) (o_ pP) f_).1,aj,[aa (.inl (110,[.pointer (aa ⟨2,0,aj⟩),.int .i64 ti,.int .i64 tg])),aa (.inl (3,[.int .i64 xx])),aa (.inr (.inr (.inr (.da (jZ aw (Pa.iH xx) k m (fU xN) (o_ pP) f_).2))))],[],[(0,0)]⟩
 |_,_=>aj
def abm (k:Nat):eJ Rs:=[(1000000000,lP),(154,bJ zN 2 (a9 Ty)),(80,bJ zN 2 (a9 j9)),(98,bJ zN 2 (a9 Ag)),(148,bJ zN 2 (a9 ed)),(143,bJ zN 2 (a9 (Kn k)))]
theorem UF:∀ k:Nat,b9 D Tryz.prog 143 (a9 (Kn k))
 |0=>by
  refine fu Tryz.f143 fun args hh x hx=>?_
  unfold Kn at hx;split at hx
  ·rename_i xN pP f_ ti tg xx m;cases hx;refine q4 fun _ hv=>?_
   exact kL (ig (ig (ig hv)))
  ·cases hx
 |k+1=>by
  have ih:=UF k;refine fu Tryz.f143 fun args hh x hx=>?_
  unfold Kn at hx;split at hx
  ·rename_i xN pP f_ ti tg xx m;cases hx;refine q4 fun _ hv=>?_
   obtain⟨jT,sh,hv⟩:=hv;generalize fU xN=xn at *;subst jT;generalize o_ pP=pp at *;subst sh;obtain⟨hp,hd⟩:=hv
   generalize hG:cj (R:=Rs) _ _=G;refine cL (T:=(abm k)) (show cN D Tryz.prog (abm k) from⟨ix,aU _ _ XJ,aU _ _ look_ok,aU _ _ yy,aU _ _ uy,aU _ _ ih,trivial⟩) mixed 200 ?_
   refine bK (q:=let Z8:=bm ar;let Z1:=(ck ar (bM pp+bM (bt xn))≤f_);let Z2:=(br aw m (bc xn));let Z3:=(eD aw pp (bt Z2));let Z4:=(nK aw (bY xn));let Z5:=(br aw (aK m (bc xn)) (bn xn));let Z6:=(aK (aK m (bc xn)) (bn xn));let Z7:=(jZ aw (Pa.iH xx) k Z6 Z5 (eD aw Z3 Z4) f_);((cu xn==(0:Int))=an->(decide (bM pp≥f_)=ao->aX (G (Z8 (-1:Int)) [dD 2 ti tg,aa (.inl (3,[Z8 xx])),oP m,aa (.inl (136,(bj xn))),aa (.inl (134,(bV pp)))]))/\(decide (bM pp≥f_)=an->Vc True/\(decide Z1=ao->Vc ((ko (bG pp))=ko (bG pp)/\(ko (bG (bt xn)))=ko (bG (bt xn)))/\((!Pa.iH xx (bG pp) (bG (bt xn)))=ao->aX (G (Z8 (-1:Int)) [dD 2 ti tg,aa (.inl (3,[Z8 xx])),oP m,aa (.inl (136,(bj xn))),aa (.inl (134,(bV pp)))]))/\((!Pa.iH xx (bG pp) (bG (bt xn)))=an->Vc (PP m)/\Vc ((bV pp)=bV pp/\(bV (bt Z2))=bV (bt Z2)/\True)/\Vc ((du (bY xn))=du (bY xn)/\True)/\Vc (PP (aK m (bc xn)))/\Vc ((bV Z3)=bV Z3/\(bV Z4)=bV Z4/\True)/\Vc ((bj Z5)=bj Z5/\(bV (eD aw Z3 Z4))=bV (eD aw Z3 Z4)/\PP Z6/\gH aw k Z6 Z5)/\(decide (ax Z7≥(0:Int))=ao->aX (G (Z8 (ax Z7)) [dD 2 ti tg,aa (.inl (3,[Z8 xx])),oP (av Z7),aa (.inl (136,(bj xn))),aa (.inl (134,(bV pp))),aa (.inl (136,(bj Z2))),aa (.inl (134,(bV Z3))),aa (.inl (134,(bV Z4)))]))/\(decide (ax Z7≥(0:Int))=an->(decide (bM Z3<f_)=ao->Vc ((ko (bG Z3))=ko (bG Z3)/\(ko (bG Z4))=ko (bG Z4))/\(Pa.iH xx (bG Z3) (bG Z4)=ao->aX (G (Z8 (bM Z3)) [dD 2 ti tg,aa (.inl (3,[Z8 xx])),oP (av Z7),aa (.inl (136,(bj xn))),aa (.inl (134,(bV pp))),aa (.inl (136,(bj Z2))),aa (.inl (134,(bV Z3))),aa (.inl (134,(bV Z4)))]))/\(Pa.iH xx (bG Z3) (bG Z4)=an->Vc ((bj Z2)=bj Z2/\(bV pp)=bV pp/\PP (av Z7)/\gH aw k (av Z7) Z2)/\aX (G (Z8 (ax (jZ aw (Pa.iH xx) k (av Z7) Z2 pp f_))) [dD 2 ti tg,aa (.inl (3,[Z8 xx])),oP (av (jZ aw (Pa.iH xx) k (av Z7) Z2 pp f_)),aa (.inl (136,(bj xn))),aa (.inl (134,(bV pp))),aa (.inl (136,(bj Z2))),aa (.inl (134,(bV Z3))),aa (.inl (134,(bV Z4)))])))/\(decide (bM Z3<f_)=an->Vc ((bj Z2)=bj Z2/\(bV pp)=bV pp/\PP (av Z7)/\gH aw k (av Z7) Z2)/\aX (G (Z8 (ax (jZ aw (Pa.iH xx) k (av Z7) Z2 pp f_))) [dD 2 ti tg,aa (.inl (3,[Z8 xx])),oP (av (jZ aw (Pa.iH xx) k (av Z7) Z2 pp f_)),aa (.inl (136,(bj xn))),aa (.inl (134,(bV pp))),aa (.inl (136,(bj Z2))),aa (.inl (134,(bV Z3))),aa (.inl (134,(bV Z4)))])))))/\(decide Z1=an->Vc (PP m)/\Vc ((bV pp)=bV pp/\(bV (bt Z2))=bV (bt Z2)/\True)/\Vc ((du (bY xn))=du (bY xn)/\True)/\Vc (PP (aK m (bc xn)))/\Vc ((bV Z3)=bV Z3/\(bV Z4)=bV Z4/\True)/\Vc ((bj Z5)=bj Z5/\(bV (eD aw Z3 Z4))=bV (eD aw Z3 Z4)/\PP Z6/\gH aw k Z6 Z5)/\(decide (ax Z7≥(0:Int))=ao->aX (G (Z8 (ax Z7)) [dD 2 ti tg,aa (.inl (3,[Z8 xx])),oP (av Z7),aa (.inl (136,(bj xn))),aa (.inl (134,(bV pp))),aa (.inl (136,(bj Z2))),aa (.inl (134,(bV Z3))),aa (.inl (134,(bV Z4)))]))/\(decide (ax Z7≥(0:Int))=an->(decide (bM Z3<f_)=ao->Vc ((ko (bG Z3))=ko (bG Z3)/\(ko (bG Z4))=ko (bG Z4))/\(Pa.iH xx (bG Z3) (bG Z4)=ao->aX (G (Z8 (bM Z3)) [dD 2 ti tg,aa (.inl (3,[Z8 xx])),oP (av Z7),aa (.inl (136,(bj xn))),aa (.inl (134,(bV pp))),aa (.inl (136,(bj Z2))),aa (.inl (134,(bV Z3))),aa (.inl (134,(bV Z4)))]))/\(Pa.iH xx (bG Z3) (bG Z4)=an->Vc ((bj Z2)=bj Z2/\(bV pp)=bV pp/\PP (av Z7)/\gH aw k (av Z7) Z2)/\aX (G (Z8 (ax (jZ aw (Pa.iH xx) k (av Z7) Z2 pp f_))) [dD 2 ti tg,aa (.inl (3,[Z8 xx])),oP (av (jZ aw (Pa.iH xx) k (av Z7) Z2 pp f_)),aa (.inl (136,(bj xn))),aa (.inl (134,(bV pp))),aa (.inl (136,(bj Z2))),aa (.inl (134,(bV Z3))),aa (.inl (134,(bV Z4)))])))/\(decide (bM Z3<f_)=an->Vc ((bj Z2)=bj Z2/\(bV pp)=bV pp/\PP (av Z7)/\gH aw k (av Z7) Z2)/\aX (G (Z8 (ax (jZ aw (Pa.iH xx) k (av Z7) Z2 pp f_))) [dD 2 ti tg,aa (.inl (3,[Z8 xx])),oP (av (jZ aw (Pa.iH xx) k (av Z7) Z2 pp f_)),aa (.inl (136,(bj xn))),aa (.inl (134,(bV pp))),aa (.inl (136,(bj Z2))),aa (.inl (134,(bV Z3))),aa (.inl (134,(bV Z4)))]))))))/\((cu xn==(0:Int))=ao->aX (G (Z8 (-1:Int)) [dD 2 ti tg,aa (.inl (3,[Z8 xx])),oP m,aa (.inl (136,(bj xn))),aa (.inl (134,(bV pp)))]))) ?_ (by kernel_rfl)
   intro Z8 Z1 Z2 Z3 Z4 Z5 Z6 Z7;subst Z7 Z6 Z5 Z4 Z3 Z2 Z1 Z8;simp only[gH] at hd;have e1:∀ e,(nK aw e).sum=aw.sum e:=fun _=>rfl
   have done:∀ (i:Int) (m':Pl) (rest:Hp Rs),jZ aw (Pa.iH xx) (k+1) m xn pp f_=(i,m')->G (.int .i64 i) ([aa (.inl (110,[.pointer (aa ⟨2,0,aj⟩),.int .i64 ti,.int .i64 tg])),aa (.inl (3,[.int .i64 xx])),aa (.inr (.inr (.inr (.da m'))))]++rest):=by
    intro i m' rest e;subst hG;refine⟨[0,1,2],?_,rfl,⟨.inl rfl,.inl rfl,?_,trivial⟩,rfl,rfl,rfl,rfl⟩
    ·simp only[e];rfl
    ·simp only[e];rfl
   clear hG;rw[jZ] at done
   dsimp only [mY] at done
   simp only[e1]
   repeat' (first|apply cX|apply Vc.mk|apply fits.mk|intro h|apply aX.mk)
   all_goals (try simp only[sB] at *)
   all_goals first|contradiction|omega|exact jv ‹_›|exact jw ‹_›|exact ju ‹_›|exact⟨rfl,by omega⟩|exact rfl|(simp[*,-au];done)|skip
   all_goals first|assumption|(simp only[ja];assumption)|skip
   all_goals first|exact n3 (hd.resolve_left (by omega)).1 (fun s=>by simp only[Gv.ir,lM,mA])|(simp only[lM,mA,Gv.ir];first|exact n3 (hd.resolve_left (by omega)).2 (fun s=>by simp only[Gv.ir,lM,mA])|exact n3 (hd.resolve_left (by omega)).1 (fun s=>by simp only[Gv.ir,lM,mA]))|skip
   all_goals (refine done _ _ _ ?_;repeat' split)
   all_goals first|rfl|(exfalso;omega)|(exfalso;simp_all;done)|(exfalso;simp_all;omega)
  ·cases hx
def NQ (K:Nat):Prim Rs:=fun args hh=>match args,hh with
 |[.pointer (aa ⟨0,0,aj⟩),.int .i64 f_,.func (.func 154) ⟨[]⟩ ⟨[.pointer (aa ⟨1,0,aj⟩)]⟩],[aa (.inl (110,[.pointer (aa ⟨2,0,aj⟩),.int .i64 ti,.int .i64 tg])),aa (.inl (3,[.int .i64 xx])),aa (.inr (.inr (.inr (.da m))))]=>aa ⟨PP m/\gH aw K (aK m (⟨ti,tg⟩:bk)) (br aw m (⟨ti,tg⟩:bk)),.int .i64 (kJ aw (Pa.iH xx) K (aK m (⟨ti,tg⟩:bk)) (br aw m (⟨ti,tg⟩:bk)) ⟨0,aw.a0⟩ f_).1,aj,[aa (.inl (110,[.pointer (aa ⟨2,0,aj⟩),.int .i64 ti,.int .i64 tg])),aa (.inl (3,[.int .i64 xx])),aa (.inr (.inr (.inr (.da (kJ aw (Pa.iH xx) K (aK m (⟨ti,tg⟩:bk)) (br aw m (⟨ti,tg⟩:bk)) ⟨0,aw.a0⟩ f_).2))))],[],[(0,0)]⟩
 |_,_=>aj
def V8 (K:Nat):eJ Rs:=[(80,bJ zN 2 (a9 j9)),(142,bJ zN 2 (a9 (Hn K)))]
theorem Y4 (K:Nat):b9 D Tryz.prog 108 (a9 (NQ K)):=by
 refine fu Tryz.f108 fun args hh x hx=>?_
 unfold NQ at hx;split at hx
 ·rename_i f_ ti tg xx m;cases hx;refine q4 fun _ hv=>?_
  obtain⟨hp,hd⟩:=hv;generalize hG:cj (R:=Rs) _ _=G;refine cL (T:=(V8 K)) (show cN D Tryz.prog (V8 K) from⟨aU _ _ look_ok,aU _ _ (Sd K),trivial⟩) mixed 200 ?_
  refine bK (q:=let Z1:=(br aw m (aO ti tg));let Z2:=(bV (my 0 (xj (iP 0 0 0) (iP 0 0 0) 0 0 (cU 0 0) an (cU 0 0) an (cU 0 0))));let Z3:=(kJ aw (Pa.iH xx) K (aK m (aO ti tg)) Z1 (my (0:Int) (xj (iP (0:Int) (0:Int) (0:Int)) (iP (0:Int) (0:Int) (0:Int)) (0:Int) (0:Int) (cU (0:Int) (0:Int)) an (cU (0:Int) (0:Int)) an (cU (0:Int) (0:Int)))) f_);Vc (PP m)/\Vc ((bj Z1)=bj Z1/\Z2=Z2/\PP (aK m (aO ti tg))/\gH aw K (aK m (aO ti tg)) Z1)/\aX (G (bm ar (ax Z3)) [dD 2 ti tg,aa (.inl (3,[.int ar xx])),oP (av Z3)])) ?_ (by kernel_rfl)
  intro Z1 Z2 Z3;subst Z3 Z2 Z1;subst hG
  repeat' (first|apply cX|apply Vc.mk|apply fits.mk|intro h|apply aX.mk)
  all_goals (try simp only[sB] at *)
  all_goals first|contradiction|omega|exact jv ‹_›|exact jw ‹_›|exact ju ‹_›|exact⟨rfl,by omega⟩|exact rfl|(simp[*,-au];done)|skip
  all_goals first|assumption|(simp only[ja];assumption)|skip
  exact⟨[0,1,2],rfl,rfl,⟨.inl rfl,.inl rfl,rfl,trivial⟩,rfl,rfl,rfl,rfl⟩
 ·cases hx
def Rh (K:Nat):Prim Rs:=fun args hh=>match args,hh with
 |[.pointer (aa ⟨0,0,aj⟩),.int .i64 f_,.func (.func 154) ⟨[]⟩ ⟨[.pointer (aa ⟨1,0,aj⟩)]⟩],[aa (.inl (110,[.pointer (aa ⟨2,0,aj⟩),.int .i64 ti,.int .i64 tg])),aa (.inl (3,[.int .i64 xx])),aa (.inr (.inr (.inr (.da m))))]=>aa ⟨PP m/\gH aw K (aK m (⟨ti,tg⟩:bk)) (br aw m (⟨ti,tg⟩:bk)),.int .i64 (jZ aw (Pa.iH xx) K (aK m (⟨ti,tg⟩:bk)) (br aw m (⟨ti,tg⟩:bk)) ⟨0,aw.a0⟩ f_).1,aj,[aa (.inl (110,[.pointer (aa ⟨2,0,aj⟩),.int .i64 ti,.int .i64 tg])),aa (.inl (3,[.int .i64 xx])),aa (.inr (.inr (.inr (.da (jZ aw (Pa.iH xx) K (aK m (⟨ti,tg⟩:bk)) (br aw m (⟨ti,tg⟩:bk)) ⟨0,aw.a0⟩ f_).2))))],[],[(0,0)]⟩
 |_,_=>aj
def XX (K:Nat):eJ Rs:=[(80,bJ zN 2 (a9 j9)),(143,bJ zN 2 (a9 (Kn K)))]
theorem abE (K:Nat):b9 D Tryz.prog 111 (a9 (Rh K)):=by
 refine fu Tryz.f111 fun args hh x hx=>?_
 unfold Rh at hx;split at hx
 ·rename_i f_ ti tg xx m;cases hx;refine q4 fun _ hv=>?_
  obtain⟨hp,hd⟩:=hv;generalize hG:cj (R:=Rs) _ _=G;refine cL (T:=(XX K)) (show cN D Tryz.prog (XX K) from⟨aU _ _ look_ok,aU _ _ (UF K),trivial⟩) mixed 200 ?_
  refine bK (q:=let Z1:=(br aw m (aO ti tg));let Z2:=(bV (my 0 (xj (iP 0 0 0) (iP 0 0 0) 0 0 (cU 0 0) an (cU 0 0) an (cU 0 0))));let Z3:=(jZ aw (Pa.iH xx) K (aK m (aO ti tg)) Z1 (my (0:Int) (xj (iP (0:Int) (0:Int) (0:Int)) (iP (0:Int) (0:Int) (0:Int)) (0:Int) (0:Int) (cU (0:Int) (0:Int)) an (cU (0:Int) (0:Int)) an (cU (0:Int) (0:Int)))) f_);Vc (PP m)/\Vc ((bj Z1)=bj Z1/\Z2=Z2/\PP (aK m (aO ti tg))/\gH aw K (aK m (aO ti tg)) Z1)/\aX (G (bm ar (ax Z3)) [dD 2 ti tg,aa (.inl (3,[.int ar xx])),oP (av Z3)])) ?_ (by kernel_rfl)
  intro Z1 Z2 Z3;subst Z3 Z2 Z1;subst hG
  repeat' (first|apply cX|apply Vc.mk|apply fits.mk|intro h|apply aX.mk)
  all_goals (try simp only[sB] at *)
  all_goals first|contradiction|omega|exact jv ‹_›|exact jw ‹_›|exact ju ‹_›|exact⟨rfl,by omega⟩|exact rfl|(simp[*,-au];done)|skip
  all_goals first|assumption|(simp only[ja];assumption)|skip
  exact⟨[0,1,2],rfl,rfl,⟨.inl rfl,.inl rfl,rfl,trivial⟩,rfl,rfl,rfl,rfl⟩
 ·cases hx
def GN  (k:Nat):Prim Rs:=fun args hh=>match args,hh with
 |[.pointer (aa ⟨0,0,aj⟩),.agg ⟨xN⟩,.agg ⟨pP⟩,.int .i64 f_,.func (.func 105) ⟨[]⟩ ⟨[.pointer (aa ⟨1,0,aj⟩)]⟩],[aa (.inl (110,[.pointer (aa ⟨2,0,aj⟩),.int .i64 ti,.int .i64 tg])),aa (.inl (75,[.int .i64 xk,.int .i64 xi,.bool xe,.int .i64 xt])),aa (.inr (.inr (.inr (.da m))))]=>aa ⟨xN=bj (fU xN)/\pP=bV (o_ pP)/\(PP m/\gH aw k m (fU xN)),.int .i64 (kJ aw (Pa.pY ⟨xk,xi⟩) k m (fU xN) (o_ pP) f_).1,aj,[aa (.inl (110,[.pointer (aa ⟨2,0,aj⟩),.int .i64 ti,.int .i64 tg])),aa (.inl (75,[.int .i64 xk,.int .i64 xi,.bool xe,.int .i64 xt])),aa (.inr (.inr (.inr (.da (kJ aw (Pa.pY ⟨xk,xi⟩) k m (fU xN) (o_ pP) f_).2))))],[],[(0,0)]⟩
 |_,_=>aj
def Xq (k:Nat):eJ Rs:=[(1000000000,lP),(105,bJ zN 2 (a9 ZI)),(80,bJ zN 2 (a9 j9)),(98,bJ zN 2 (a9 Ag)),(148,bJ zN 2 (a9 ed)),(142,bJ zN 2 (a9 (GN k)))]
theorem R4:∀ k:Nat,b9 D Tryz.prog 142 (a9 (GN k))
 |0=>by
  refine fu Tryz.f142 fun args hh x hx=>?_
  unfold GN at hx;split at hx
  ·rename_i xN pP f_ ti tg xk xi xe xt m;cases hx;refine q4 fun _ hv=>?_
   exact kL (ig (ig (ig hv)))
  ·cases hx
 |k+1=>by
  have ih:=R4 k;refine fu Tryz.f142 fun args hh x hx=>?_
  unfold GN at hx;split at hx
  ·rename_i xN pP f_ ti tg xk xi xe xt m;cases hx;refine q4 fun _ hv=>?_
   obtain⟨jT,sh,hv⟩:=hv;generalize fU xN=xn at *;subst jT;generalize o_ pP=pp at *;subst sh;obtain⟨hp,hd⟩:=hv
   generalize hG:cj (R:=Rs) _ _=G;refine cL (T:=(Xq k)) (show cN D Tryz.prog (Xq k) from⟨ix,aU _ _ af1,aU _ _ look_ok,aU _ _ yy,aU _ _ uy,aU _ _ ih,trivial⟩) mixed 200 ?_
   refine bK (q:=let Z9:=bm ar;let Z1:=(ck ar (bM pp+bM (bt xn))≤f_);let Z2:=(br aw m (bc xn));let Z3:=(kJ aw (Pa.pY (cU xk xi)) k (aK m (bc xn)) Z2 pp f_);let Z4:=(eD aw pp (bt Z2));let Z5:=(nK aw (bY xn));let Z6:=(br aw (av Z3) (bn xn));let Z7:=(aK (av Z3) (bn xn));let Z8:=(kJ aw (Pa.pY (cU xk xi)) k Z7 Z6 (eD aw Z4 Z5) f_);((cu xn==(0:Int))=an->Vc True/\(decide Z1=ao->aX (G (Z9 (-1:Int)) [dD 2 ti tg,aa (.inl (75,[Z9 xk,Z9 xi,.bool xe,Z9 xt])),oP m,aa (.inl (136,(bj xn))),aa (.inl (134,(bV pp)))]))/\(decide Z1=an->(decide (bM pp≥f_)=ao->Vc ((ko (bG pp))=ko (bG pp)/\(ko (bG (bt xn)))=ko (bG (bt xn)))/\((!Pa.pY (cU xk xi) (bG pp) (bG (bt xn)))=ao->aX (G (Z9 (-1:Int)) [dD 2 ti tg,aa (.inl (75,[Z9 xk,Z9 xi,.bool xe,Z9 xt])),oP m,aa (.inl (136,(bj xn))),aa (.inl (134,(bV pp)))]))/\((!Pa.pY (cU xk xi) (bG pp) (bG (bt xn)))=an->Vc (PP m)/\Vc ((bj Z2)=bj Z2/\(bV pp)=bV pp/\PP (aK m (bc xn))/\gH aw k (aK m (bc xn)) Z2)/\(decide (ax Z3≥(0:Int))=ao->aX (G (Z9 (ax Z3)) [dD 2 ti tg,aa (.inl (75,[Z9 xk,Z9 xi,.bool xe,Z9 xt])),oP (av Z3),aa (.inl (136,(bj xn))),aa (.inl (134,(bV pp))),aa (.inl (136,(bj Z2)))]))/\(decide (ax Z3≥(0:Int))=an->Vc ((bV pp)=bV pp/\(bV (bt Z2))=bV (bt Z2)/\True)/\Vc ((du (bY xn))=du (bY xn)/\True)/\(decide (bM Z4≥f_)=ao->Vc ((ko (bG Z4))=ko (bG Z4)/\(ko (bG Z5))=ko (bG Z5))/\(Pa.pY (cU xk xi) (bG Z4) (bG Z5)=ao->aX (G (Z9 (bM Z4)) [dD 2 ti tg,aa (.inl (75,[Z9 xk,Z9 xi,.bool xe,Z9 xt])),oP (av Z3),aa (.inl (136,(bj xn))),aa (.inl (134,(bV Z4))),aa (.inl (136,(bj Z2))),aa (.inl (134,(bV Z5)))]))/\(Pa.pY (cU xk xi) (bG Z4) (bG Z5)=an->Vc (PP (av Z3))/\Vc ((bV Z4)=bV Z4/\(bV Z5)=bV Z5/\True)/\Vc ((bj Z6)=bj Z6/\(bV (eD aw Z4 Z5))=bV (eD aw Z4 Z5)/\PP Z7/\gH aw k Z7 Z6)/\aX (G (Z9 (ax Z8)) [dD 2 ti tg,aa (.inl (75,[Z9 xk,Z9 xi,.bool xe,Z9 xt])),oP (av Z8),aa (.inl (136,(bj xn))),aa (.inl (134,(bV Z4))),aa (.inl (136,(bj Z2))),aa (.inl (134,(bV Z5)))])))/\(decide (bM Z4≥f_)=an->Vc (PP (av Z3))/\Vc ((bV Z4)=bV Z4/\(bV Z5)=bV Z5/\True)/\Vc ((bj Z6)=bj Z6/\(bV (eD aw Z4 Z5))=bV (eD aw Z4 Z5)/\PP Z7/\gH aw k Z7 Z6)/\aX (G (Z9 (ax Z8)) [dD 2 ti tg,aa (.inl (75,[Z9 xk,Z9 xi,.bool xe,Z9 xt])),oP (av Z8),aa (.inl (136,(bj xn))),aa (.inl (134,(bV Z4))),aa (.inl (136,(bj Z2))),aa (.inl (134,(bV Z5)))])))))/\(decide (bM pp≥f_)=an->Vc (PP m)/\Vc ((bj Z2)=bj Z2/\(bV pp)=bV pp/\PP (aK m (bc xn))/\gH aw k (aK m (bc xn)) Z2)/\(decide (ax Z3≥(0:Int))=ao->aX (G (Z9 (ax Z3)) [dD 2 ti tg,aa (.inl (75,[Z9 xk,Z9 xi,.bool xe,Z9 xt])),oP (av Z3),aa (.inl (136,(bj xn))),aa (.inl (134,(bV pp))),aa (.inl (136,(bj Z2)))]))/\(decide (ax Z3≥(0:Int))=an->Vc ((bV pp)=bV pp/\(bV (bt Z2))=bV (bt Z2)/\True)/\Vc ((du (bY xn))=du (bY xn)/\True)/\(decide (bM Z4≥f_)=ao->Vc ((ko (bG Z4))=ko (bG Z4)/\(ko (bG Z5))=ko (bG Z5))/\(Pa.pY (cU xk xi) (bG Z4) (bG Z5)=ao->aX (G (Z9 (bM Z4)) [dD 2 ti tg,aa (.inl (75,[Z9 xk,Z9 xi,.bool xe,Z9 xt])),oP (av Z3),aa (.inl (136,(bj xn))),aa (.inl (134,(bV Z4))),aa (.inl (136,(bj Z2))),aa (.inl (134,(bV Z5)))]))/\(Pa.pY (cU xk xi) (bG Z4) (bG Z5)=an->Vc (PP (av Z3))/\Vc ((bV Z4)=bV Z4/\(bV Z5)=bV Z5/\True)/\Vc ((bj Z6)=bj Z6/\(bV (eD aw Z4 Z5))=bV (eD aw Z4 Z5)/\PP Z7/\gH aw k Z7 Z6)/\aX (G (Z9 (ax Z8)) [dD 2 ti tg,aa (.inl (75,[Z9 xk,Z9 xi,.bool xe,Z9 xt])),oP (av Z8),aa (.inl (136,(bj xn))),aa (.inl (134,(bV Z4))),aa (.inl (136,(bj Z2))),aa (.inl (134,(bV Z5)))])))/\(decide (bM Z4≥f_)=an->Vc (PP (av Z3))/\Vc ((bV Z4)=bV Z4/\(bV Z5)=bV Z5/\True)/\Vc ((bj Z6)=bj Z6/\(bV (eD aw Z4 Z5))=bV (eD aw Z4 Z5)/\PP Z7/\gH aw k Z7 Z6)/\aX (G (Z9 (ax Z8)) [dD 2 ti tg,aa (.inl (75,[Z9 xk,Z9 xi,.bool xe,Z9 xt])),oP (av Z8),aa (.inl (136,(bj xn))),aa (.inl (134,(bV Z4))),aa (.inl (136,(bj Z2))),aa (.inl (134,(bV Z5)))]))))))/\((cu xn==(0:Int))=ao->aX (G (Z9 (-1:Int)) [dD 2 ti tg,aa (.inl (75,[Z9 xk,Z9 xi,.bool xe,Z9 xt])),oP m,aa (.inl (136,(bj xn))),aa (.inl (134,(bV pp)))]))) ?_ (by kernel_rfl)
   intro Z9 Z1 Z2 Z3 Z4 Z5 Z6 Z7 Z8;subst Z8 Z7 Z6 Z5 Z4 Z3 Z2 Z1 Z9;simp only[gH] at hd;have e1:∀ e,(nK aw e).sum=aw.sum e:=fun _=>rfl
   have done:∀ (i:Int) (m':Pl) (rest:Hp Rs),kJ aw (Pa.pY ⟨xk,xi⟩) (k+1) m xn pp f_=(i,m')->G (.int .i64 i) ([aa (.inl (110,[.pointer (aa ⟨2,0,aj⟩),.int .i64 ti,.int .i64 tg])),aa (.inl (75,[.int .i64 xk,.int .i64 xi,.bool xe,.int .i64 xt])),aa (.inr (.inr (.inr (.da m'))))]++rest):=by
    intro i m' rest e;subst hG;refine⟨[0,1,2],?_,rfl,⟨.inl rfl,.inl rfl,?_,trivial⟩,rfl,rfl,rfl,rfl⟩
    ·simp only[e];rfl
    ·simp only[e];rfl
   clear hG;rw[kJ] at done
   dsimp only [mY] at done
   simp only[e1]
   repeat' (first|apply cX|apply Vc.mk|apply fits.mk|intro h|apply aX.mk)
   all_goals (try simp only[sB] at *)
   all_goals first|contradiction|omega|exact jv ‹_›|exact jw ‹_›|exact ju ‹_›|exact⟨rfl,by omega⟩|exact rfl|(simp[*,-au];done)|skip
   all_goals first|assumption|(simp only[ja];assumption)|skip
   all_goals first|exact n3 (hd.resolve_left (by omega)).1 (fun s=>by simp only[Gv.ir,lM,mA])|(simp only[lM,mA,Gv.ir];first|exact n3 (hd.resolve_left (by omega)).2 (fun s=>by simp only[Gv.ir,lM,mA])|exact n3 (hd.resolve_left (by omega)).1 (fun s=>by simp only[Gv.ir,lM,mA]))|skip
   all_goals (refine done _ _ _ ?_;repeat' split)
   all_goals first|rfl|(exfalso;omega)|(exfalso;simp_all;done)|(exfalso;simp_all;omega)
  ·cases hx
def Nc (K:Nat):Prim Rs:=fun args hh=>match args,hh with
 |[.pointer (aa ⟨0,0,aj⟩),.int .i64 f_,.func (.func 105) ⟨[]⟩ ⟨[.pointer (aa ⟨1,0,aj⟩)]⟩],[aa (.inl (110,[.pointer (aa ⟨2,0,aj⟩),.int .i64 ti,.int .i64 tg])),aa (.inl (75,[.int .i64 xk,.int .i64 xi,.bool xe,.int .i64 xt])),aa (.inr (.inr (.inr (.da m))))]=>aa ⟨PP m/\gH aw K (aK m (⟨ti,tg⟩:bk)) (br aw m (⟨ti,tg⟩:bk)),.int .i64 (kJ aw (Pa.pY ⟨xk,xi⟩) K (aK m (⟨ti,tg⟩:bk)) (br aw m (⟨ti,tg⟩:bk)) ⟨0,aw.a0⟩ f_).1,aj,[aa (.inl (110,[.pointer (aa ⟨2,0,aj⟩),.int .i64 ti,.int .i64 tg])),aa (.inl (75,[.int .i64 xk,.int .i64 xi,.bool xe,.int .i64 xt])),aa (.inr (.inr (.inr (.da (kJ aw (Pa.pY ⟨xk,xi⟩) K (aK m (⟨ti,tg⟩:bk)) (br aw m (⟨ti,tg⟩:bk)) ⟨0,aw.a0⟩ f_).2))))],[],[(0,0)]⟩
 |_,_=>aj
def US (K:Nat):eJ Rs:=[(80,bJ zN 2 (a9 j9)),(142,bJ zN 2 (a9 (GN K)))]
theorem Z' (K:Nat):b9 D Tryz.prog 108 (a9 (Nc K)):=by
 refine fu Tryz.f108 fun args hh x hx=>?_
 unfold Nc at hx;split at hx
 ·rename_i f_ ti tg xk xi xe xt m;cases hx;refine q4 fun _ hv=>?_
  obtain⟨hp,hd⟩:=hv;generalize hG:cj (R:=Rs) _ _=G;refine cL (T:=(US K)) (show cN D Tryz.prog (US K) from⟨aU _ _ look_ok,aU _ _ (R4 K),trivial⟩) mixed 200 ?_
  refine bK (q:=let Z1:=(br aw m (aO ti tg));let Z2:=(bV (my 0 (xj (iP 0 0 0) (iP 0 0 0) 0 0 (cU 0 0) an (cU 0 0) an (cU 0 0))));let Z3:=(kJ aw (Pa.pY (cU xk xi)) K (aK m (aO ti tg)) Z1 (my (0:Int) (xj (iP (0:Int) (0:Int) (0:Int)) (iP (0:Int) (0:Int) (0:Int)) (0:Int) (0:Int) (cU (0:Int) (0:Int)) an (cU (0:Int) (0:Int)) an (cU (0:Int) (0:Int)))) f_);Vc (PP m)/\Vc ((bj Z1)=bj Z1/\Z2=Z2/\PP (aK m (aO ti tg))/\gH aw K (aK m (aO ti tg)) Z1)/\aX (G (bm ar (ax Z3)) [dD 2 ti tg,aa (.inl (75,[.int ar xk,.int ar xi,.bool xe,.int ar xt])),oP (av Z3)])) ?_ (by kernel_rfl)
  intro Z1 Z2 Z3;subst Z3 Z2 Z1;subst hG
  repeat' (first|apply cX|apply Vc.mk|apply fits.mk|intro h|apply aX.mk)
  all_goals (try simp only[sB] at *)
  all_goals first|contradiction|omega|exact jv ‹_›|exact jw ‹_›|exact ju ‹_›|exact⟨rfl,by omega⟩|exact rfl|(simp[*,-au];done)|skip
  all_goals first|assumption|(simp only[ja];assumption)|skip
  exact⟨[0,1,2],rfl,rfl,⟨.inl rfl,.inl rfl,rfl,trivial⟩,rfl,rfl,rfl,rfl⟩
 ·cases hx
end G8
end Go.Proofs.YtjlomlgdgpoepaaGreat
