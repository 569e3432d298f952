import Derived.Test.YtjlomlgdgpoepaaGreatZmc
import Derived.Test.YtjlomlgdgpoepaaGreatZmb
set_option linter.unusedVariables false
set_option linter.unusedSimpArgs false
namespace Go.Proofs.YtjlomlgdgpoepaaGreat
open Gv renaming Aw→C_,BD→B6,BG→Z_,DG→Ba,Deep→jb,Dl→Fm,K0→Z',Ref→bn,W→mW,Yc→KO,aH→aK,cH→b7,dZ→eG,dp→jc,fW→gW,find→iB,first→kD,glue→sg,iH→kc,jK→jO,jj→gK,jw→xR,kU→lH,kV→nF,kv→lK,l_→lg,last→jX,level→gr,lh→th,link→kx,lk→bt,look→jN,m9→B7,mT→ja,me→mu,nO→uP,oV→vt,oW→vu,one→nN,pW→oa,pick→js,qH→lx,qk→sF,replace→nG,re→oQ,sj→xg,sm→qw,sw→DV,tC→vv,tV→vw,tie→sE,tx→vx,uz→Lw,vh→uN
open Gv.Node renaming all→bw,e→b8,h→cw,l→a_,mk→fy,r→bo
open Gv.PM renaming cap→ic,held→fP
open Gv.Part renaming mk→mr,n→bP,sum→bG
open Gv.Ref renaming g→cC,i→cB,mk→aN
open Gv.iL renaming cmp→gZ
open Rx renaming Ends→ct
open Ti renaming FB→Wg,oZ→z9,qm→IU,yj→RE
open Ti.Td renaming mk→iN
open Wv renaming BA→xP,Im→IS,O8→aA
open Wv.It renaming i→m7,k→mZ,mk→cX
open Wv.Mk renaming here→xQ,ins→z8,it→qd,mk→Fo,tf→B5,tk→qe,t→DW
open Wv.Sw renaming gf→N5,lf→N6,mk→xh
open _root_.And renaming intro→cZ,right→ig
open _root_.Array renaming mk→aO,toList→dF
open _root_.Bool renaming and_eq_true→aL,and_false→uM,eq_iff_iff→Qa,false_and→B4,false→ao,true_and→ji,true→aq
open _root_.Eq renaming symm→qV
open _root_.False renaming elim→kG
open _root_.Go.Func renaming ntmps→pc,results→dG
open _root_.Go.IntKind renaming i64→av,wrap→cr
open _root_.Go.Value renaming agg→bE,bool→aD,int→bs,pointer→aE,slice→bK,tuple→cv
open _root_.Iff renaming rfl→r_
open _root_.Int renaming natCast_nonneg→xj,not_le→IT,not_lt→IN
open _root_.List renaming append_assoc→rD,cons_append→mo,countP_cons→vz,countP_eq_zero→Jq,countP_nil→Qb,countP_pos_iff→Jp,drop_drop→se,drop_eq_getElem_cons→oX,drop_left'→Ge,filter_append→oN,filter_cons→kd,filter_eq_self→Bm,getD_cons_succ→wm,getD_eq_getElem?_getD→ax,getElem?_append_left→db,getElem?_append_right→dU,getElem?_eq_getElem→bj,getElem?_map→gh,getElem_drop→LM,getElem_mem→Fp,getElem_of_mem→sK,getElem_take→LL,length_append→bJ,length_drop→jq,length_map→gX,length_pos_iff→Jr,length_take→eu,length→ae,map_append→dT,map_congr_left→nY,map_cons→gC,map_drop→ns,map_take→nr,map→au,mem_append_right→uQ,mem_append→b9,mem_cons_of_mem→eo,mem_cons_self→bO,mem_cons→bR,mem_filter→pa,mem_iff_getElem→vC,mem_map→o_,mem_of_mem_drop→IV,mem_of_mem_tail→Bb,mem_of_mem_take→rO,nil_append→pb,nodup_append→ch,nodup_cons→fI,not_mem_nil→vy,pairwise_append→nE,pairwise_cons→gB,pairwise_iff_getElem→DB,pairwise_map→Dj,singleton_append→HC,tail_cons→oU,tail_drop→HD,take_add→vZ,take_append_drop→cT,take_left'→Gd,take_succ_cons→Jo,take_zero→sc
open _root_.List.Pairwise renaming filter→Z0,imp→LK,nil→rF,sublist→Yr
open _root_.List.Sublist renaming refl→acM
open _root_.Nat renaming eq_zero_or_pos→mc,le_add_left→tG,le_refl→bc,lt_of_le_of_lt→iZ,lt_or_ge→cx,lt_succ_self→fC,lt_trichotomy→nV,zero_add→b5,zero_le→dx
open _root_.Option renaming getD_some→lG,isSome_iff_exists→Fq,none→aj,some→aa
open _root_.Prod renaming ext→kb,fst→aB,snd→aw
open _root_.Sum renaming inl→dh
namespace G8
open Rx
set_option maxRecDepth 100000
def Vg:eK Rs:=[(80,bM zN 2 (a9 j7)),(155,bM zN 2 (a9 Ah))]
theorem Qh:cQ D Tryz.prog Vg:=⟨aX _ _ look_ok,aX _ _ xq,trivial⟩
def If:Prim Rs:=fun args hh=>match args,hh with
 |[.pointer (aa ⟨0,0,aj⟩),.agg ⟨[.int .i64 ri,.int .i64 rg]⟩,.agg ⟨xN⟩],[aa (.inl (110,[.pointer (aa ⟨1,0,aj⟩),.int .i64 ti,.int .i64 tg])),aa (.inr (.inr (.inr (.dd m))))]=>aa ⟨xN=bk (fS xN)/\(PP m),.agg ⟨[.int .i64 ri,.int .i64 rg]⟩,aj,[aa (.inl (110,[.pointer (aa ⟨1,0,aj⟩),.int .i64 ti,.int .i64 tg])),aa (.inr (.inr (.inr (.dd (sE aA m ⟨ri,rg⟩ (fS xN))))))],[],[(0,0)]⟩
 |_,_=>aj
theorem Ai:ck D Tryz.prog 134 (a9 If):=by
 refine fw Tryz.f134 fun args hh x hx=>?_
 unfold If at hx;split at hx
 ·rename_i ri rg xN ti tg m;cases hx;refine q4 fun _ hv=>?_
  obtain⟨jQ,hv⟩:=hv;generalize fS xN=xn at *;subst jQ
  generalize hG:ct (R:=Rs) _ _=G;refine cW (T:=Vg) Qh mixed 200 ?_;refine bN (q:=let Z2:=bs av;let Z1:=(bt aA (aK m (a_ xn)) (bo xn));Vc (PP m)/\Vc (PP (aK m (a_ xn)))/\Vc ((bk xn)=bk xn/\(bk (bt aA m (a_ xn)))=bk (bt aA m (a_ xn))/\(bk Z1)=bk Z1/\PP (aK (aK m (a_ xn)) (bo xn)))/\aY (G (bE (aO [Z2 ri,Z2 rg])) [dC 1 ti tg,oP (DV aA (aK (aK m (a_ xn)) (bo xn)) (aN ri rg) xn (bt aA m (a_ xn)) Z1),aa (.inl (108,[Z2 ri,Z2 rg])),aa (.inl (136,(bk xn))),aa (.inl (108,[Z2 ri,Z2 rg]))])) ?_ (by kernel_rfl)
  intro Z2 Z1;subst Z1 Z2;subst hG
  repeat' (first|apply cZ|apply Vc.mk|apply fits.mk|intro h|apply aY.mk)
  all_goals (try simp only[sB] at *)
  all_goals first|contradiction|omega|exact ju ‹_›|exact jt ‹_›|exact jv ‹_›|exact⟨rfl,by omega⟩|exact rfl|(simp[*,-ax];done)|skip
  all_goals first|assumption|(simp only[ja];assumption)|skip
  exact⟨[0,1],rfl,rfl,⟨.inl rfl,rfl,trivial⟩,rfl,rfl,rfl,rfl⟩
 ·cases hx
def HV:eK Rs:=[(80,bM zN 2 (a9 j7)),(134,bM zN 2 (a9 If))]
theorem EB:cQ D Tryz.prog HV:=⟨aX _ _ look_ok,aX _ _ Ai,trivial⟩
def Ey:Prim Rs:=fun args hh=>match args,hh with
 |[.pointer (aa ⟨0,0,aj⟩),.agg ⟨[.int .i64 ri,.int .i64 rg]⟩,.agg ⟨xN⟩],[aa (.inl (110,[.pointer (aa ⟨1,0,aj⟩),.int .i64 ti,.int .i64 tg])),aa (.inr (.inr (.inr (.dd m))))]=>aa ⟨xN=bk (fS xN)/\(PP m),.agg ⟨[.int .i64 (fS xN).r.i,.int .i64 (fS xN).r.g]⟩,aj,[aa (.inl (110,[.pointer (aa ⟨1,0,aj⟩),.int .i64 ti,.int .i64 tg])),aa (.inr (.inr (.inr (.dd (vt aA m ⟨ri,rg⟩ (fS xN))))))],[],[(0,0)]⟩
 |_,_=>aj
theorem Bx:ck D Tryz.prog 156 (a9 Ey):=by
 refine fw Tryz.f156 fun args hh x hx=>?_
 unfold Ey at hx;split at hx
 ·rename_i ri rg xN ti tg m;cases hx;refine q4 fun _ hv=>?_
  obtain⟨jQ,hv⟩:=hv;generalize fS xN=xn at *;subst jQ
  generalize hG:ct (R:=Rs) _ _=G;refine cW (T:=HV) EB mixed 200 ?_;refine bN (q:=let Z5:=bs av;let Z1:=(bt aA m (bo xn));let Z2:=(fy (b8 xn) (a_ xn) (a_ Z1) (bw xn) (cw xn));let Z3:=(fy (b8 Z1) (aN ri rg) (bo Z1) (bw Z1) (cw Z1));let Z4:=(sE aA (aK m (bo xn)) (aN ri rg) Z2);Vc (PP m)/\Vc ((bk Z2)=bk Z2/\PP (aK m (bo xn)))/\Vc ((bk Z3)=bk Z3/\PP Z4)/\aY (G (bE (aO [Z5 (cB (bo xn)),Z5 (cC (bo xn))])) [dC 1 ti tg,oP (sE aA Z4 (bo xn) Z3),aa (.inl (108,[Z5 ri,Z5 rg])),aa (.inl (136,(bk Z2))),aa (.inl (108,[Z5 (cB (bo xn)),Z5 (cC (bo xn))])),aa (.inl (108,[Z5 (cB (bo xn)),Z5 (cC (bo xn))])),aa (.inl (136,(bk Z3)))])) ?_ (by kernel_rfl)
  intro Z5 Z1 Z2 Z3 Z4;subst Z4 Z3 Z2 Z1 Z5;subst hG
  repeat' (first|apply cZ|apply Vc.mk|apply fits.mk|intro h|apply aY.mk)
  all_goals (try simp only[sB] at *)
  all_goals first|contradiction|omega|exact ju ‹_›|exact jt ‹_›|exact jv ‹_›|exact⟨rfl,by omega⟩|exact rfl|(simp[*,-ax];done)|skip
  all_goals first|assumption|(simp only[ja];assumption)|skip
  exact⟨[0,1],rfl,rfl,⟨.inl rfl,rfl,trivial⟩,rfl,rfl,rfl,rfl⟩
 ·cases hx
def Ef:Prim Rs:=fun args hh=>match args,hh with
 |[.pointer (aa ⟨0,0,aj⟩),.agg ⟨[.int .i64 ri,.int .i64 rg]⟩,.agg ⟨xN⟩],[aa (.inl (110,[.pointer (aa ⟨1,0,aj⟩),.int .i64 ti,.int .i64 tg])),aa (.inr (.inr (.inr (.dd m))))]=>aa ⟨xN=bk (fS xN)/\(PP m),.agg ⟨[.int .i64 (fS xN).l.i,.int .i64 (fS xN).l.g]⟩,aj,[aa (.inl (110,[.pointer (aa ⟨1,0,aj⟩),.int .i64 ti,.int .i64 tg])),aa (.inr (.inr (.inr (.dd (vu aA m ⟨ri,rg⟩ (fS xN))))))],[],[(0,0)]⟩
 |_,_=>aj
theorem Bo:ck D Tryz.prog 157 (a9 Ef):=by
 refine fw Tryz.f157 fun args hh x hx=>?_
 unfold Ef at hx;split at hx
 ·rename_i ri rg xN ti tg m;cases hx;refine q4 fun _ hv=>?_
  obtain⟨jQ,hv⟩:=hv;generalize fS xN=xn at *;subst jQ
  generalize hG:ct (R:=Rs) _ _=G;refine cW (T:=HV) EB mixed 200 ?_;refine bN (q:=let Z5:=bs av;let Z1:=(bt aA m (a_ xn));let Z2:=(fy (b8 xn) (bo Z1) (bo xn) (bw xn) (cw xn));let Z3:=(fy (b8 Z1) (a_ Z1) (aN ri rg) (bw Z1) (cw Z1));let Z4:=(sE aA (aK m (a_ xn)) (aN ri rg) Z2);Vc (PP m)/\Vc ((bk Z2)=bk Z2/\PP (aK m (a_ xn)))/\Vc ((bk Z3)=bk Z3/\PP Z4)/\aY (G (bE (aO [Z5 (cB (a_ xn)),Z5 (cC (a_ xn))])) [dC 1 ti tg,oP (sE aA Z4 (a_ xn) Z3),aa (.inl (108,[Z5 ri,Z5 rg])),aa (.inl (136,(bk Z2))),aa (.inl (108,[Z5 (cB (a_ xn)),Z5 (cC (a_ xn))])),aa (.inl (108,[Z5 (cB (a_ xn)),Z5 (cC (a_ xn))])),aa (.inl (136,(bk Z3)))])) ?_ (by kernel_rfl)
  intro Z5 Z1 Z2 Z3 Z4;subst Z4 Z3 Z2 Z1 Z5;subst hG
  repeat' (first|apply cZ|apply Vc.mk|apply fits.mk|intro h|apply aY.mk)
  all_goals (try simp only[sB] at *)
  all_goals first|contradiction|omega|exact ju ‹_›|exact jt ‹_›|exact jv ‹_›|exact⟨rfl,by omega⟩|exact rfl|(simp[*,-ax];done)|skip
  all_goals first|assumption|(simp only[ja];assumption)|skip
  exact⟨[0,1],rfl,rfl,⟨.inl rfl,rfl,trivial⟩,rfl,rfl,rfl,rfl⟩
 ·cases hx
def TO:eK Rs:=[(1000000000,lJ),(80,bM zN 2 (a9 j7)),(155,bM zN 2 (a9 Ah)),(156,bM zN 2 (a9 Ey)),(157,bM zN 2 (a9 Ef))]
theorem Qv:cQ D Tryz.prog TO:=⟨iu,aX _ _ look_ok,aX _ _ xq,aX _ _ Bx,aX _ _ Bo,trivial⟩
def uq:Prim Rs:=fun args hh=>match args,hh with
 |[.pointer (aa ⟨0,0,aj⟩),.agg ⟨[.int .i64 ri,.int .i64 rg]⟩,.agg ⟨xN⟩],[aa (.inl (110,[.pointer (aa ⟨1,0,aj⟩),.int .i64 ti,.int .i64 tg])),aa (.inr (.inr (.inr (.dd m))))]=>aa ⟨xN=bk (fS xN)/\(PP m),.agg ⟨[.int .i64 (gr aA m ⟨ri,rg⟩ (fS xN)).1.i,.int .i64 (gr aA m ⟨ri,rg⟩ (fS xN)).1.g]⟩,aj,[aa (.inl (110,[.pointer (aa ⟨1,0,aj⟩),.int .i64 ti,.int .i64 tg])),aa (.inr (.inr (.inr (.dd (gr aA m ⟨ri,rg⟩ (fS xN)).2))))],[],[(0,0)]⟩
 |_,_=>aj
theorem sq:ck D Tryz.prog 136 (a9 uq):=by
 refine fw Tryz.f136 fun args hh x hx=>?_
 unfold uq at hx;split at hx
 ·rename_i ri rg xN ti tg m;cases hx;refine q4 fun _ hv=>?_
  obtain⟨jQ,hv⟩:=hv;generalize fS xN=xn at *;subst jQ
  generalize hG:ct (R:=Rs) _ _=G;refine cW (T:=TO) Qv mixed 200 ?_;refine bN (q:=let dR:=bs av;let Z1:=(bt aA m (a_ xn));let Z2:=(bt aA (aK m (a_ xn)) (bo xn));let Z3:=(cw Z1>cr av (cw Z2+(1:Int)));let Z4:=(aK (aK m (a_ xn)) (bo xn));let Z5:=(cw (bt aA Z4 (bo Z1))>cw (bt aA (aK Z4 (bo Z1)) (a_ Z1)));let Z6:=(aK (aK Z4 (bo Z1)) (a_ Z1));let Z7:=(fy (b8 xn) (bo Z1) (bo xn) (bw xn) (cw xn));let Z8:=(cw Z2>cr av (cw Z1+(1:Int)));let Z9:=(cw (bt aA Z4 (a_ Z2))>cw (bt aA (aK Z4 (a_ Z2)) (bo Z2)));let cP:=(aK (aK Z4 (a_ Z2)) (bo Z2));let cz:=(fy (b8 xn) (a_ xn) (a_ Z2) (bw xn) (cw xn));Vc (PP m)/\Vc (PP (aK m (a_ xn)))/\Vc True/\(decide Z3=aq->Vc (PP Z4)/\Vc (PP (aK Z4 (bo Z1)))/\(decide Z5=aq->Vc ((bk Z1)=bk Z1/\PP Z6)/\Vc ((bk Z7)=bk Z7/\PP (vt aA Z6 (a_ xn) Z1))/\aY (G (bE (aO [dR (cB (a_ Z7)),dR (cC (a_ Z7))])) [dC 1 ti tg,oP (vu aA (vt aA Z6 (a_ xn) Z1) (aN ri rg) Z7),aa (.inl (108,[dR ri,dR rg])),aa (.inl (136,(bk Z7))),aa (.inl (108,[dR (cB (a_ Z7)),dR (cC (a_ Z7))])),aa (.inl (136,(bk Z1))),aa (.inl (136,(bk Z2)))]))/\(decide Z5=ao->Vc ((bk xn)=bk xn/\PP Z6)/\aY (G (bE (aO [dR (cB (a_ xn)),dR (cC (a_ xn))])) [dC 1 ti tg,oP (vu aA Z6 (aN ri rg) xn),aa (.inl (108,[dR ri,dR rg])),aa (.inl (136,(bk xn))),aa (.inl (108,[dR (cB (a_ xn)),dR (cC (a_ xn))])),aa (.inl (136,(bk Z1))),aa (.inl (136,(bk Z2)))])))/\(decide Z3=ao->Vc True/\(decide Z8=aq->Vc (PP Z4)/\Vc (PP (aK Z4 (a_ Z2)))/\(decide Z9=aq->Vc ((bk Z2)=bk Z2/\PP cP)/\Vc ((bk cz)=bk cz/\PP (vu aA cP (bo xn) Z2))/\aY (G (bE (aO [dR (cB (bo cz)),dR (cC (bo cz))])) [dC 1 ti tg,oP (vt aA (vu aA cP (bo xn) Z2) (aN ri rg) cz),aa (.inl (108,[dR ri,dR rg])),aa (.inl (136,(bk cz))),aa (.inl (108,[dR (cB (bo cz)),dR (cC (bo cz))])),aa (.inl (136,(bk Z1))),aa (.inl (136,(bk Z2)))]))/\(decide Z9=ao->Vc ((bk xn)=bk xn/\PP cP)/\aY (G (bE (aO [dR (cB (bo xn)),dR (cC (bo xn))])) [dC 1 ti tg,oP (vt aA cP (aN ri rg) xn),aa (.inl (108,[dR ri,dR rg])),aa (.inl (136,(bk xn))),aa (.inl (108,[dR (cB (bo xn)),dR (cC (bo xn))])),aa (.inl (136,(bk Z1))),aa (.inl (136,(bk Z2)))])))/\(decide Z8=ao->Vc ((bk xn)=bk xn/\(bk Z1)=bk Z1/\(bk Z2)=bk Z2/\PP Z4)/\aY (G (bE (aO [dR ri,dR rg])) [dC 1 ti tg,oP (DV aA Z4 (aN ri rg) xn Z1 Z2),aa (.inl (108,[dR ri,dR rg])),aa (.inl (136,(bk xn))),aa (.inl (108,[dR ri,dR rg])),aa (.inl (136,(bk Z1))),aa (.inl (136,(bk Z2)))])))) ?_ (by kernel_rfl)
  intro dR Z1 Z2 Z3 Z4 Z5 Z6 Z7 Z8 Z9 cP cz;subst cz cP Z9 Z8 Z7 Z6 Z5 Z4 Z3 Z2 Z1 dR;have done:∀ (i g:Int) (m':Pl) (rest:Hp Rs),gr aA m ⟨ri,rg⟩ xn=(⟨i,g⟩,m')->G (.agg ⟨[.int .i64 i,.int .i64 g]⟩) ([aa (.inl (110,[.pointer (aa ⟨1,0,aj⟩),.int .i64 ti,.int .i64 tg])),aa (.inr (.inr (.inr (.dd m'))))]++rest):=by
   intro i g m' rest e;subst hG;refine⟨[0,1],?_,rfl,⟨.inl rfl,?_,trivial⟩,rfl,rfl,rfl,rfl⟩
   ·simp only[e];rfl
   ·simp only[e];rfl
  clear hG
  repeat' (first|apply cZ|apply Vc.mk|apply fits.mk|intro h|apply aY.mk)
  all_goals (try simp only[sB] at *)
  all_goals first|contradiction|omega|exact ju ‹_›|exact jt ‹_›|exact jv ‹_›|exact⟨rfl,by omega⟩|exact rfl|(simp[*,-ax];done)|skip
  all_goals first|assumption|(simp only[ja];assumption)|skip
  all_goals (refine done _ _ _ _ ?_;unfold gr;(try dsimp only [mW]);repeat' split)
  all_goals first|rfl|(exfalso;omega)
 ·cases hx
def Az  (k:Nat):Prim Rs:=fun args hh=>match args,hh with
 |[.pointer (aa ⟨0,0,aj⟩),.agg ⟨[.int .i64 ri,.int .i64 rg]⟩,.agg ⟨[.int .i64 fi,.int .i64 fg]⟩,.agg ⟨kE⟩],[aa (.inl (110,[.pointer (aa ⟨1,0,aj⟩),.int .i64 ti,.int .i64 tg])),aa (.inr (.inr (.inr (.dd m))))]=>aa ⟨kE=du (fR kE)/\(PP m/\jb aA k m ⟨ri,rg⟩),.agg ⟨[.int .i64 (nF aA k m ⟨ri,rg⟩ ⟨fi,fg⟩ (fR kE)).1.i,.int .i64 (nF aA k m ⟨ri,rg⟩ ⟨fi,fg⟩ (fR kE)).1.g]⟩,aj,[aa (.inl (110,[.pointer (aa ⟨1,0,aj⟩),.int .i64 ti,.int .i64 tg])),aa (.inr (.inr (.inr (.dd (nF aA k m ⟨ri,rg⟩ ⟨fi,fg⟩ (fR kE)).2))))],[],[(0,0)]⟩
 |_,_=>aj
def PJ (k:Nat):eK Rs:=[(222,bM zN 2 (a9 IS)),(80,bM zN 2 (a9 j7)),(136,bM zN 2 (a9 uq)),(99,bM zN 2 (a9 (Az k)))]
theorem xK:∀ k:Nat,ck D Tryz.prog 99 (a9 (Az k))
 |0=>by
  refine fw Tryz.f99 fun args hh x hx=>?_
  unfold Az at hx;split at hx
  ·rename_i ri rg fi fg kE ti tg m;cases hx;refine q4 fun _ hv=>?_
   exact kG (ig (ig hv))
  ·cases hx
 |k+1=>by
  have ih:=xK k;refine fw Tryz.f99 fun args hh x hx=>?_
  unfold Az at hx;split at hx
  ·rename_i ri rg fi fg kE ti tg m;cases hx;refine q4 fun _ hv=>?_
   obtain⟨jQ,hv⟩:=hv;generalize fR kE=ke at *;subst jQ;obtain⟨hp,hd⟩:=hv
   generalize hG:ct (R:=Rs) _ _=G;refine cW (T:=(PJ k)) (show cQ D Tryz.prog (PJ k) from⟨aX _ _ xP,aX _ _ look_ok,aX _ _ sq,aX _ _ ih,trivial⟩) mixed 200 ?_
   refine bN (q:=let cz:=bs av;let Z1:=(bt aA m (aN ri rg));let Z2:=(aK m (aN ri rg));let Z3:=(fy (b8 Z1) (aB (nF aA k Z2 (a_ Z1) (aN fi fg) ke)) (bo Z1) (bw Z1) (cw Z1));let Z4:=(aw (nF aA k Z2 (a_ Z1) (aN fi fg) ke));let Z5:=(cB (aB (gr aA Z4 (aN ri rg) Z3)));let Z6:=(cC (aB (gr aA Z4 (aN ri rg) Z3)));let Z7:=(fy (b8 Z1) (a_ Z1) (aB (nF aA k Z2 (bo Z1) (aN fi fg) ke)) (bw Z1) (cw Z1));let Z8:=(aw (nF aA k Z2 (bo Z1) (aN fi fg) ke));let Z9:=(cB (aB (gr aA Z8 (aN ri rg) Z7)));let cP:=(cC (aB (gr aA Z8 (aN ri rg) Z7)));Vc (PP m)/\((cw Z1==(0:Int))=aq->aY (G (bE (aO [cz fi,cz fg])) [dC 1 ti tg,oP Z2,aa (.inl (108,[cz ri,cz rg])),aa (.inl (108,[cz fi,cz fg])),aa (.inl (49,(du ke))),aa (.inl (108,[cz fi,cz fg])),aa (.inl (136,(bk Z1)))]))/\((cw Z1==(0:Int))=ao->Vc True/\Vc True/\(decide (gZ aA ke (b8 Z1)<(0:Int))=aq->Vc ((du ke)=du ke/\PP Z2/\jb aA k Z2 (a_ Z1))/\Vc ((bk Z3)=bk Z3/\PP Z4)/\aY (G (bE (aO [cz Z5,cz Z6])) [dC 1 ti tg,oP (aw (gr aA Z4 (aN ri rg) Z3)),aa (.inl (108,[cz ri,cz rg])),aa (.inl (108,[cz fi,cz fg])),aa (.inl (49,(du ke))),aa (.inl (108,[cz Z5,cz Z6])),aa (.inl (136,(bk Z3)))]))/\(decide (gZ aA ke (b8 Z1)<(0:Int))=ao->Vc ((du ke)=du ke/\PP Z2/\jb aA k Z2 (bo Z1))/\Vc ((bk Z7)=bk Z7/\PP Z8)/\aY (G (bE (aO [cz Z9,cz cP])) [dC 1 ti tg,oP (aw (gr aA Z8 (aN ri rg) Z7)),aa (.inl (108,[cz ri,cz rg])),aa (.inl (108,[cz fi,cz fg])),aa (.inl (49,(du ke))),aa (.inl (108,[cz Z9,cz cP])),aa (.inl (136,(bk Z7)))])))) ?_ (by kernel_rfl)
   intro cz Z1 Z2 Z3 Z4 Z5 Z6 Z7 Z8 Z9 cP;subst cP Z9 Z8 Z7 Z6 Z5 Z4 Z3 Z2 Z1 cz;simp only[jb] at hd;have done:∀ (i g:Int) (m':Pl) (rest:Hp Rs),nF aA (k+1) m ⟨ri,rg⟩ ⟨fi,fg⟩ ke=(⟨i,g⟩,m')->G (.agg ⟨[.int .i64 i,.int .i64 g]⟩) ([aa (.inl (110,[.pointer (aa ⟨1,0,aj⟩),.int .i64 ti,.int .i64 tg])),aa (.inr (.inr (.inr (.dd m'))))]++rest):=by
    intro i g m' rest e;subst hG;refine⟨[0,1],?_,rfl,⟨.inl rfl,?_,trivial⟩,rfl,rfl,rfl,rfl⟩
    ·simp only[e];rfl
    ·simp only[e];rfl
   clear hG
   repeat' (first|apply cZ|apply Vc.mk|apply fits.mk|intro h|apply aY.mk)
   all_goals (try simp only[sB] at *)
   all_goals first|contradiction|omega|exact ju ‹_›|exact jt ‹_›|exact jv ‹_›|exact⟨rfl,by omega⟩|exact rfl|(simp[*,-ax];done)|skip
   all_goals first|assumption|(simp only[ja];assumption)|skip
   all_goals first|(rw[qw];rcases hd with hd|hd;exfalso;omega;first|exact hd.1|exact hd.2)|skip
   all_goals (refine done _ _ _ _ ?_;rw[nF];(try dsimp only [mW]);repeat' split)
   all_goals first|rfl|(exfalso;omega)|contradiction|exact kb (qV (by assumption)) rfl|(exfalso;simp_all;done)
  ·cases hx
def sy  (k:Nat):Prim Rs:=fun args hh=>match args,hh with
 |[.pointer (aa ⟨0,0,aj⟩),.agg ⟨[.int .i64 ri,.int .i64 rg]⟩,.agg ⟨kE⟩],[aa (.inl (110,[.pointer (aa ⟨1,0,aj⟩),.int .i64 ti,.int .i64 tg])),aa (.inr (.inr (.inr (.dd m))))]=>aa ⟨kE=du (fR kE)/\(PP m/\jb aA k m ⟨ri,rg⟩),.bool (nG aA k m ⟨ri,rg⟩ (fR kE)).1,aj,[aa (.inl (110,[.pointer (aa ⟨1,0,aj⟩),.int .i64 ti,.int .i64 tg])),aa (.inr (.inr (.inr (.dd (nG aA k m ⟨ri,rg⟩ (fR kE)).2))))],[],[(0,0)]⟩
 |_,_=>aj
def Pb (k:Nat):eK Rs:=[(222,bM zN 2 (a9 IS)),(80,bM zN 2 (a9 j7)),(134,bM zN 2 (a9 If)),(96,bM zN 2 (a9 (sy k)))]
theorem rN:∀ k:Nat,ck D Tryz.prog 96 (a9 (sy k))
 |0=>by
  refine fw Tryz.f96 fun args hh x hx=>?_
  unfold sy at hx;split at hx
  ·rename_i ri rg kE ti tg m;cases hx;refine q4 fun _ hv=>?_
   exact kG (ig (ig hv))
  ·cases hx
 |k+1=>by
  have ih:=rN k;refine fw Tryz.f96 fun args hh x hx=>?_
  unfold sy at hx;split at hx
  ·rename_i ri rg kE ti tg m;cases hx;refine q4 fun _ hv=>?_
   obtain⟨jQ,hv⟩:=hv;generalize fR kE=ke at *;subst jQ;obtain⟨hp,hd⟩:=hv
   generalize hG:ct (R:=Rs) _ _=G;refine cW (T:=(Pb k)) (show cQ D Tryz.prog (Pb k) from⟨aX _ _ xP,aX _ _ look_ok,aX _ _ Ai,aX _ _ ih,trivial⟩) mixed 200 ?_
   refine bN (q:=let Z6:=bs av;let Z1:=(bt aA m (aN ri rg));let Z2:=(aK m (aN ri rg));let Z3:=(nG aA k Z2 (a_ Z1) ke);let Z4:=(nG aA k Z2 (bo Z1) ke);let Z5:=(fy ke (a_ Z1) (bo Z1) (bw Z1) (cw Z1));Vc (PP m)/\((cw Z1==(0:Int))=aq->aY (G (aD ao) [dC 1 ti tg,oP Z2,aa (.inl (108,[Z6 ri,Z6 rg])),aa (.inl (49,(du ke))),aa (.inl (136,(bk Z1)))]))/\((cw Z1==(0:Int))=ao->Vc True/\Vc True/\(decide (gZ aA ke (b8 Z1)<(0:Int))=aq->Vc ((du ke)=du ke/\PP Z2/\jb aA k Z2 (a_ Z1))/\(aB Z3=aq->Vc ((bk Z1)=bk Z1/\PP (aw Z3))/\aY (G (aD (aB Z3)) [dC 1 ti tg,oP (sE aA (aw Z3) (aN ri rg) Z1),aa (.inl (108,[Z6 ri,Z6 rg])),aa (.inl (49,(du ke))),aa (.inl (136,(bk Z1)))]))/\(aB Z3=ao->aY (G (aD (aB Z3)) [dC 1 ti tg,oP (aw Z3),aa (.inl (108,[Z6 ri,Z6 rg])),aa (.inl (49,(du ke))),aa (.inl (136,(bk Z1)))])))/\(decide (gZ aA ke (b8 Z1)<(0:Int))=ao->(decide (gZ aA ke (b8 Z1)>(0:Int))=aq->Vc ((du ke)=du ke/\PP Z2/\jb aA k Z2 (bo Z1))/\(aB Z4=aq->Vc ((bk Z1)=bk Z1/\PP (aw Z4))/\aY (G (aD (aB Z4)) [dC 1 ti tg,oP (sE aA (aw Z4) (aN ri rg) Z1),aa (.inl (108,[Z6 ri,Z6 rg])),aa (.inl (49,(du ke))),aa (.inl (136,(bk Z1)))]))/\(aB Z4=ao->aY (G (aD (aB Z4)) [dC 1 ti tg,oP (aw Z4),aa (.inl (108,[Z6 ri,Z6 rg])),aa (.inl (49,(du ke))),aa (.inl (136,(bk Z1)))])))/\(decide (gZ aA ke (b8 Z1)>(0:Int))=ao->Vc ((bk Z5)=bk Z5/\PP Z2)/\aY (G (aD aq) [dC 1 ti tg,oP (sE aA Z2 (aN ri rg) Z5),aa (.inl (108,[Z6 ri,Z6 rg])),aa (.inl (49,(du ke))),aa (.inl (136,(bk Z5)))]))))) ?_ (by kernel_rfl)
   intro Z6 Z1 Z2 Z3 Z4 Z5;subst Z5 Z4 Z3 Z2 Z1 Z6;simp only[jb] at hd;have done:∀ (b:Bool) (m':Pl) (rest:Hp Rs),nG aA (k+1) m ⟨ri,rg⟩ ke=(b,m')->G (.bool b) ([aa (.inl (110,[.pointer (aa ⟨1,0,aj⟩),.int .i64 ti,.int .i64 tg])),aa (.inr (.inr (.inr (.dd m'))))]++rest):=by
    intro b m' rest e;subst hG;refine⟨[0,1],?_,rfl,⟨.inl rfl,?_,trivial⟩,rfl,rfl,rfl,rfl⟩
    ·simp only[e];rfl
    ·simp only[e];rfl
   clear hG
   repeat' (first|apply cZ|apply Vc.mk|apply fits.mk|intro h|apply aY.mk)
   all_goals (try simp only[sB] at *)
   all_goals first|contradiction|omega|exact ju ‹_›|exact jt ‹_›|exact jv ‹_›|exact⟨rfl,by omega⟩|exact rfl|(simp[*,-ax];done)|skip
   all_goals first|assumption|(simp only[ja];assumption)|skip
   all_goals first|(rw[qw];rcases hd with hd|hd;exfalso;omega;first|exact hd.1|exact hd.2)|skip
   all_goals (refine done _ _ _ ?_;rw[nG];(try dsimp only [mW]);repeat' split)
   all_goals first|rfl|(exfalso;omega)|contradiction|exact kb (qV (by assumption)) rfl|(exfalso;simp_all;done)
  ·cases hx
def wP  (k:Nat):Prim Rs:=fun args hh=>match args,hh with
 |[.pointer (aa ⟨0,0,aj⟩),.agg ⟨[.int .i64 ri,.int .i64 rg]⟩],[aa (.inl (110,[.pointer (aa ⟨1,0,aj⟩),.int .i64 ti,.int .i64 tg])),aa (.inr (.inr (.inr (.dd m))))]=>aa ⟨PP m/\xg aA k m ⟨ri,rg⟩,.tuple #[.agg ⟨[.int .i64 (kc aA k m ⟨ri,rg⟩).1.i,.int .i64 (kc aA k m ⟨ri,rg⟩).1.g]⟩,.agg ⟨[.int .i64 (kc aA k m ⟨ri,rg⟩).2.1.i,.int .i64 (kc aA k m ⟨ri,rg⟩).2.1.g]⟩],aj,[aa (.inl (110,[.pointer (aa ⟨1,0,aj⟩),.int .i64 ti,.int .i64 tg])),aa (.inr (.inr (.inr (.dd (kc aA k m ⟨ri,rg⟩).2.2))))],[],[(0,0)]⟩
 |_,_=>aj
def Kn (k:Nat):eK Rs:=[(80,bM zN 2 (a9 j7)),(136,bM zN 2 (a9 uq)),(163,bM zN 2 (a9 (wP k)))]
theorem vj:∀ k:Nat,ck D Tryz.prog 163 (a9 (wP k))
 |0=>by
  refine fw Tryz.f163 fun args hh x hx=>?_
  unfold wP at hx;split at hx
  ·rename_i ri rg ti tg m;cases hx;refine q4 fun _ hv=>?_
   exact kG (ig hv)
  ·cases hx
 |k+1=>by
  have ih:=vj k;refine fw Tryz.f163 fun args hh x hx=>?_
  unfold wP at hx;split at hx
  ·rename_i ri rg ti tg m;cases hx;refine q4 fun _ hv=>?_
   obtain⟨hp,hd⟩:=hv;generalize hG:ct (R:=Rs) _ _=G;refine cW (T:=(Kn k)) (show cQ D Tryz.prog (Kn k) from⟨aX _ _ look_ok,aX _ _ sq,aX _ _ ih,trivial⟩) mixed 200 ?_
   refine bN (q:=let Z9:=bs av;let Z1:=(bt aA m (aN ri rg));let Z2:=(if ao=aq then !(cB (a_ Z1)==(0:Int)&&(cC (a_ Z1)==(0:Int)&&aq)) else cB (a_ Z1)==(0:Int)&&(cC (a_ Z1)==(0:Int)&&aq));let Z3:=(aK m (aN ri rg));let Z4:=(fy (b8 Z1) (aB (kc aA k Z3 (a_ Z1))) (bo Z1) (bw Z1) (cw Z1));let Z5:=(aw (aw (kc aA k Z3 (a_ Z1))));let Z6:=(cB (aB (gr aA Z5 (aN ri rg) Z4)));let Z7:=(cC (aB (gr aA Z5 (aN ri rg) Z4)));let Z8:=(aB (aw (kc aA k Z3 (a_ Z1))));Vc (PP m)/\(Z2=aq->aY (G (cv (aO [.agg (aO [Z9 (cB (bo Z1)),Z9 (cC (bo Z1))]),bE (aO [Z9 ri,Z9 rg])])) [dC 1 ti tg,oP Z3,aa (.inl (108,[Z9 ri,Z9 rg])),aa (.inl (108,[Z9 (cB (bo Z1)),Z9 (cC (bo Z1))])),aa (.inl (108,[Z9 ri,Z9 rg])),aa (.inl (136,(bk Z1)))]))/\(Z2=ao->Vc (PP Z3/\xg aA k Z3 (a_ Z1))/\Vc ((bk Z4)=bk Z4/\PP Z5)/\aY (G (cv (aO [.agg (aO [Z9 Z6,Z9 Z7]),bE (aO [Z9 (cB Z8),Z9 (cC Z8)])])) [dC 1 ti tg,oP (aw (gr aA Z5 (aN ri rg) Z4)),aa (.inl (108,[Z9 ri,Z9 rg])),aa (.inl (108,[Z9 Z6,Z9 Z7])),aa (.inl (108,[Z9 (cB Z8),Z9 (cC Z8)])),aa (.inl (136,(bk Z4)))]))) ?_ (by kernel_rfl)
   intro Z9 Z1 Z2 Z3 Z4 Z5 Z6 Z7 Z8;subst Z8 Z7 Z6 Z5 Z4 Z3 Z2 Z1 Z9;simp only[xg] at hd;have done:∀ (i g i2 g2:Int) (m':Pl) (rest:Hp Rs),kc aA (k+1) m ⟨ri,rg⟩=(⟨i,g⟩,⟨i2,g2⟩,m')->G (.tuple #[.agg ⟨[.int .i64 i,.int .i64 g]⟩,.agg ⟨[.int .i64 i2,.int .i64 g2]⟩]) ([aa (.inl (110,[.pointer (aa ⟨1,0,aj⟩),.int .i64 ti,.int .i64 tg])),aa (.inr (.inr (.inr (.dd m'))))]++rest):=by
    intro i g i2 g2 m' rest e;subst hG;refine⟨[0,1],?_,rfl,⟨.inl rfl,?_,trivial⟩,rfl,rfl,rfl,rfl⟩
    ·simp only[e];rfl
    ·simp only[e];rfl
   clear hG
   try simp only[KO,Ba]
   repeat' (first|apply cZ|apply Vc.mk|apply fits.mk|intro h|apply aY.mk)
   all_goals (try simp only[sB] at *)
   all_goals first|contradiction|omega|exact ju ‹_›|exact jt ‹_›|exact jv ‹_›|exact⟨rfl,by omega⟩|exact rfl|(simp[*,-ax];done)|skip
   all_goals first|assumption|(simp only[ja];assumption)|skip
   all_goals first|(rw[C_];first|assumption|(rw[if_neg (by assumption),C_] at hd;exact hd))|skip
   all_goals (refine done _ _ _ _ _ _ ?_;rw[kc];(try dsimp only [mW]);repeat' split)
   all_goals first|rfl|(exfalso;omega)|contradiction|exact kb (qV (by assumption)) rfl|(exfalso;simp_all;done)
  ·cases hx
def Ay  (k:Nat):Prim Rs:=fun args hh=>match args,hh with
 |[.pointer (aa ⟨0,0,aj⟩),.agg ⟨[.int .i64 ai,.int .i64 ag]⟩,.agg ⟨[.int .i64 bi,.int .i64 bg]⟩,.agg ⟨[.int .i64 ci,.int .i64 cg]⟩],[aa (.inl (110,[.pointer (aa ⟨1,0,aj⟩),.int .i64 ti,.int .i64 tg])),aa (.inr (.inr (.inr (.dd m))))]=>aa ⟨PP m/\vv aA k m ⟨ai,ag⟩ ⟨bi,bg⟩ ⟨ci,cg⟩,.agg ⟨[.int .i64 (kx aA k m ⟨ai,ag⟩ ⟨bi,bg⟩ ⟨ci,cg⟩).1.i,.int .i64 (kx aA k m ⟨ai,ag⟩ ⟨bi,bg⟩ ⟨ci,cg⟩).1.g]⟩,aj,[aa (.inl (110,[.pointer (aa ⟨1,0,aj⟩),.int .i64 ti,.int .i64 tg])),aa (.inr (.inr (.inr (.dd (kx aA k m ⟨ai,ag⟩ ⟨bi,bg⟩ ⟨ci,cg⟩).2))))],[],[(0,0)]⟩
 |_,_=>aj
def OS (k:Nat):eK Rs:=[(1000000000,lJ),(80,bM zN 2 (a9 j7)),(136,bM zN 2 (a9 uq)),(155,bM zN 2 (a9 Ah)),(164,bM zN 2 (a9 (Ay k)))]
theorem xF:∀ k:Nat,ck D Tryz.prog 164 (a9 (Ay k))
 |0=>by
  refine fw Tryz.f164 fun args hh x hx=>?_
  unfold Ay at hx;split at hx
  ·rename_i ai ag bi bg ci cg ti tg m;cases hx;refine q4 fun _ hv=>?_
   exact kG (ig hv)
  ·cases hx
 |k+1=>by
  have ih:=xF k;refine fw Tryz.f164 fun args hh x hx=>?_
  unfold Ay at hx;split at hx
  ·rename_i ai ag bi bg ci cg ti tg m;cases hx;refine q4 fun _ hv=>?_
   obtain⟨hp,hd⟩:=hv;generalize hG:ct (R:=Rs) _ _=G;refine cW (T:=(OS k)) (show cQ D Tryz.prog (OS k) from⟨iu,aX _ _ look_ok,aX _ _ sq,aX _ _ xq,aX _ _ ih,trivial⟩) mixed 200 ?_
   refine bN (q:=let gP:=bs av;let Z1:=(aN ai ag);let Z2:=(bt aA m Z1);let Z3:=(aN ci cg);let Z4:=(bt aA (aK m Z1) Z3);let Z5:=(cw Z2>cr av (cw Z4+(1:Int)));let Z6:=(aK (aK m Z1) Z3);let Z7:=(aN bi bg);let Z8:=(fy (b8 Z2) (a_ Z2) (aB (kx aA k Z6 (bo Z2) Z7 Z3)) (bw Z2) (cw Z2));let Z9:=(gr aA (aw (kx aA k Z6 (bo Z2) Z7 Z3)) Z1 Z8);let cP:=(cw Z4>cr av (cw Z2+(1:Int)));let cz:=(fy (b8 Z4) (aB (kx aA k Z6 Z1 Z7 (a_ Z4))) (bo Z4) (bw Z4) (cw Z4));let dR:=(gr aA (aw (kx aA k Z6 Z1 Z7 (a_ Z4))) Z3 cz);let fJ:=(fy (b8 (bt aA Z6 Z7)) Z1 Z3 (bw (bt aA Z6 Z7)) (cw (bt aA Z6 Z7)));Vc (PP m)/\Vc (PP (aK m Z1))/\Vc True/\(decide Z5=aq->Vc (PP Z6/\vv aA k Z6 (bo Z2) Z7 Z3)/\Vc ((bk Z8)=bk Z8/\PP (aw (kx aA k Z6 (bo Z2) Z7 Z3)))/\aY (G (bE (aO [gP (cB (aB Z9)),gP (cC (aB Z9))])) [dC 1 ti tg,oP (aw Z9),aa (.inl (108,[gP ai,gP ag])),aa (.inl (108,[gP bi,gP bg])),aa (.inl (108,[gP ci,gP cg])),aa (.inl (108,[gP (cB (aB Z9)),gP (cC (aB Z9))])),aa (.inl (136,(bk Z8))),aa (.inl (136,(bk Z4)))]))/\(decide Z5=ao->Vc True/\(decide cP=aq->Vc (PP Z6/\vv aA k Z6 Z1 Z7 (a_ Z4))/\Vc ((bk cz)=bk cz/\PP (aw (kx aA k Z6 Z1 Z7 (a_ Z4))))/\aY (G (bE (aO [gP (cB (aB dR)),gP (cC (aB dR))])) [dC 1 ti tg,oP (aw dR),aa (.inl (108,[gP ai,gP ag])),aa (.inl (108,[gP bi,gP bg])),aa (.inl (108,[gP ci,gP cg])),aa (.inl (108,[gP (cB (aB dR)),gP (cC (aB dR))])),aa (.inl (136,(bk Z2))),aa (.inl (136,(bk cz)))]))/\(decide cP=ao->Vc (PP Z6)/\Vc ((bk fJ)=bk fJ/\(bk Z2)=bk Z2/\(bk Z4)=bk Z4/\PP (aK Z6 Z7))/\aY (G (bE (aO [gP bi,gP bg])) [dC 1 ti tg,oP (DV aA (aK Z6 Z7) Z7 fJ Z2 Z4),aa (.inl (108,[gP ai,gP ag])),aa (.inl (108,[gP bi,gP bg])),aa (.inl (108,[gP ci,gP cg])),aa (.inl (108,[gP bi,gP bg])),aa (.inl (136,(bk Z2))),aa (.inl (136,(bk Z4))),aa (.inl (136,(bk fJ)))])))) ?_ (by kernel_rfl)
   intro gP Z1 Z2 Z3 Z4 Z5 Z6 Z7 Z8 Z9 cP cz dR fJ;subst fJ dR cz cP Z9 Z8 Z7 Z6 Z5 Z4 Z3 Z2 Z1 gP;rw[vv] at hd
   dsimp only [mW] at hd
   have done:∀ (i g:Int) (m':Pl) (rest:Hp Rs),kx aA (k+1) m ⟨ai,ag⟩ ⟨bi,bg⟩ ⟨ci,cg⟩=(⟨i,g⟩,m')->G (.agg ⟨[.int .i64 i,.int .i64 g]⟩) ([aa (.inl (110,[.pointer (aa ⟨1,0,aj⟩),.int .i64 ti,.int .i64 tg])),aa (.inr (.inr (.inr (.dd m'))))]++rest):=by
    intro i g m' rest e;subst hG;refine⟨[0,1],?_,rfl,⟨.inl rfl,?_,trivial⟩,rfl,rfl,rfl,rfl⟩
    ·simp only[e];rfl
    ·simp only[e];rfl
   clear hG
   repeat' (first|apply cZ|apply Vc.mk|apply fits.mk|intro h|apply aY.mk)
   all_goals (try simp only[sB] at *)
   all_goals first|contradiction|omega|exact ju ‹_›|exact jt ‹_›|exact jv ‹_›|exact⟨rfl,by omega⟩|exact rfl|(simp[*,-ax];done)|skip
   all_goals first|assumption|(simp only[ja];assumption)|skip
   all_goals first|(rw[if_pos (by assumption)] at hd;exact hd)|(rw[if_neg (by omega),if_pos (by assumption)] at hd;exact hd)|skip
   all_goals (refine done _ _ _ _ ?_;rw[kx];(try dsimp only [mW]);repeat' split)
   all_goals first|rfl|(exfalso;omega)|contradiction|exact kb (qV (by assumption)) rfl|(exfalso;simp_all;done)
  ·cases hx
def ID (K:Nat):Prim Rs:=fun args hh=>match args,hh with
 |[.pointer (aa ⟨0,0,aj⟩),.agg ⟨[.int .i64 ai,.int .i64 ag]⟩,.agg ⟨[.int .i64 ci,.int .i64 cg]⟩],[aa (.inl (110,[.pointer (aa ⟨1,0,aj⟩),.int .i64 ti,.int .i64 tg])),aa (.inr (.inr (.inr (.dd m))))]=>aa ⟨PP m/\Fm aA K m ⟨ai,ag⟩ ⟨ci,cg⟩,.agg ⟨[.int .i64 (sg aA K m ⟨ai,ag⟩ ⟨ci,cg⟩).1.i,.int .i64 (sg aA K m ⟨ai,ag⟩ ⟨ci,cg⟩).1.g]⟩,aj,[aa (.inl (110,[.pointer (aa ⟨1,0,aj⟩),.int .i64 ti,.int .i64 tg])),aa (.inr (.inr (.inr (.dd (sg aA K m ⟨ai,ag⟩ ⟨ci,cg⟩).2))))],[],[(0,0)]⟩
 |_,_=>aj
def OO (K:Nat):eK Rs:=[(163,bM zN 2 (a9 (wP K))),(164,bM zN 2 (a9 (Ay K)))]
theorem Hb (K:Nat):ck D Tryz.prog 144 (a9 (ID K)):=by
 refine fw Tryz.f144 fun args hh x hx=>?_
 unfold ID at hx;split at hx
 ·rename_i ai ag ci cg ti tg m;cases hx;refine q4 fun _ hv=>?_
  obtain⟨hp,hd⟩:=hv;generalize hG:ct (R:=Rs) _ _=G;refine cW (T:=(OO K)) (show cQ D Tryz.prog (OO K) from⟨aX _ _ (vj K),aX _ _ (xF K),trivial⟩) mixed 200 ?_
  refine bN (q:=let Z7:=bs av;let Z1:=(if ao=aq then !(ci==(0:Int)&&(cg==(0:Int)&&aq)) else ci==(0:Int)&&(cg==(0:Int)&&aq));let Z2:=(aw (aw (kc aA K m (aN ci cg))));let Z3:=(aB (aw (kc aA K m (aN ci cg))));let Z4:=(aB (kc aA K m (aN ci cg)));let Z5:=(cB (aB (kx aA K Z2 (aN ai ag) Z3 Z4)));let Z6:=(cC (aB (kx aA K Z2 (aN ai ag) Z3 Z4)));(Z1=aq->aY (G (bE (aO [Z7 ai,Z7 ag])) [dC 1 ti tg,oP m,aa (.inl (108,[Z7 ai,Z7 ag])),aa (.inl (108,[Z7 ci,Z7 cg])),aa (.inl (108,[Z7 ai,Z7 ag]))]))/\(Z1=ao->Vc (PP m/\xg aA K m (aN ci cg))/\Vc (PP Z2/\vv aA K Z2 (aN ai ag) Z3 Z4)/\aY (G (bE (aO [Z7 Z5,Z7 Z6])) [dC 1 ti tg,oP (aw (kx aA K Z2 (aN ai ag) Z3 Z4)),aa (.inl (108,[Z7 ai,Z7 ag])),aa (.inl (108,[Z7 ci,Z7 cg])),aa (.inl (108,[Z7 Z5,Z7 Z6])),aa (.inl (108,[Z7 (cB Z4),Z7 (cC Z4)])),aa (.inl (108,[Z7 (cB Z3),Z7 (cC Z3)]))]))) ?_ (by kernel_rfl)
  intro Z7 Z1 Z2 Z3 Z4 Z5 Z6;subst Z6 Z5 Z4 Z3 Z2 Z1 Z7;unfold Fm at hd;have done:∀ (i g:Int) (m':Pl) (rest:Hp Rs),sg aA K m ⟨ai,ag⟩ ⟨ci,cg⟩=(⟨i,g⟩,m')->G (.agg ⟨[.int .i64 i,.int .i64 g]⟩) ([aa (.inl (110,[.pointer (aa ⟨1,0,aj⟩),.int .i64 ti,.int .i64 tg])),aa (.inr (.inr (.inr (.dd m'))))]++rest):=by
   intro i g m' rest e;subst hG;refine⟨[0,1],?_,rfl,⟨.inl rfl,?_,trivial⟩,rfl,rfl,rfl,rfl⟩
   ·simp only[e];rfl
   ·simp only[e];rfl
  clear hG
  try simp only[KO,Ba]
  repeat' (first|apply cZ|apply Vc.mk|apply fits.mk|intro h|apply aY.mk)
  all_goals (try simp only[sB] at *)
  all_goals first|contradiction|omega|exact ju ‹_›|exact jt ‹_›|exact jv ‹_›|exact⟨rfl,by omega⟩|exact rfl|(simp[*,-ax];done)|skip
  all_goals first|assumption|(simp only[ja];assumption)|skip
  all_goals first|(rw[if_neg (by assumption)] at hd;first|exact hd.1|exact hd.2)|skip
  all_goals (refine done _ _ _ _ ?_;unfold sg;(try dsimp only [mW]);repeat' split)
  all_goals first|rfl|(exfalso;omega)|contradiction|exact kb (qV (by assumption)) rfl|(exfalso;simp_all;done)
 ·cases hx
def AD (K:Nat) (k:Nat):Prim Rs:=fun args hh=>match args,hh with
 |[.pointer (aa ⟨0,0,aj⟩),.agg ⟨[.int .i64 ri,.int .i64 rg]⟩,.agg ⟨kE⟩],[aa (.inl (110,[.pointer (aa ⟨1,0,aj⟩),.int .i64 ti,.int .i64 tg])),aa (.inr (.inr (.inr (.dd m))))]=>aa ⟨kE=du (fR kE)/\(PP m/\sF aA K k m ⟨ri,rg⟩ (fR kE)),.tuple #[.agg ⟨[.int .i64 (js aA K k m ⟨ri,rg⟩ (fR kE)).1.i,.int .i64 (js aA K k m ⟨ri,rg⟩ (fR kE)).1.g]⟩,.agg ⟨[.int .i64 (js aA K k m ⟨ri,rg⟩ (fR kE)).2.1.i,.int .i64 (js aA K k m ⟨ri,rg⟩ (fR kE)).2.1.g]⟩],aj,[aa (.inl (110,[.pointer (aa ⟨1,0,aj⟩),.int .i64 ti,.int .i64 tg])),aa (.inr (.inr (.inr (.dd (js aA K k m ⟨ri,rg⟩ (fR kE)).2.2))))],[],[(0,0)]⟩
 |_,_=>aj
def PE (K:Nat) (k:Nat):eK Rs:=[(222,bM zN 2 (a9 IS)),(80,bM zN 2 (a9 j7)),(136,bM zN 2 (a9 uq)),(144,bM zN 2 (a9 (ID K))),(113,bM zN 2 (a9 (AD K k)))]
theorem xv (K:Nat):∀ k:Nat,ck D Tryz.prog 113 (a9 (AD K k))
 |0=>by
  refine fw Tryz.f113 fun args hh x hx=>?_
  unfold AD at hx;split at hx
  ·rename_i ri rg kE ti tg m;cases hx;refine q4 fun _ hv=>?_
   exact kG (ig (ig hv))
  ·cases hx
 |k+1=>by
  have ih:=xv K k;refine fw Tryz.f113 fun args hh x hx=>?_
  unfold AD at hx;split at hx
  ·rename_i ri rg kE ti tg m;cases hx;refine q4 fun _ hv=>?_
   obtain⟨jQ,hv⟩:=hv;generalize fR kE=ke at *;subst jQ;obtain⟨hp,hd⟩:=hv
   generalize hG:ct (R:=Rs) _ _=G;refine cW (T:=(PE K k)) (show cQ D Tryz.prog (PE K k) from⟨aX _ _ xP,aX _ _ look_ok,aX _ _ sq,aX _ _ (Hb K),aX _ _ ih,trivial⟩) mixed 200 ?_
   refine bN (q:=let fx:=bs av;let Z1:=(bt aA m (aN ri rg));let Z2:=(aO [fx ri,fx rg]);let Z3:=(aK m (aN ri rg));let Z4:=(aB (aw (js aA K k Z3 (a_ Z1) ke)));let Z5:=(if ao=aq then !(cB Z4==(0:Int)&&(cC Z4==(0:Int)&&aq)) else cB Z4==(0:Int)&&(cC Z4==(0:Int)&&aq));let Z6:=(aw (aw (js aA K k Z3 (a_ Z1) ke)));let Z7:=(fy (b8 Z1) (aB (js aA K k Z3 (a_ Z1) ke)) (bo Z1) (bw Z1) (cw Z1));let Z8:=(cB (aB (gr aA Z6 (aN ri rg) Z7)));let Z9:=(cC (aB (gr aA Z6 (aN ri rg) Z7)));let cP:=(aB (aw (js aA K k Z3 (bo Z1) ke)));let cz:=(if ao=aq then !(cB cP==(0:Int)&&(cC cP==(0:Int)&&aq)) else cB cP==(0:Int)&&(cC cP==(0:Int)&&aq));let dR:=(aw (aw (js aA K k Z3 (bo Z1) ke)));let fJ:=(fy (b8 Z1) (a_ Z1) (aB (js aA K k Z3 (bo Z1) ke)) (bw Z1) (cw Z1));let gP:=(cB (aB (gr aA dR (aN ri rg) fJ)));let n6:=(cC (aB (gr aA dR (aN ri rg) fJ)));let mY:=(aB (sg aA K Z3 (a_ Z1) (bo Z1)));Vc (PP m)/\((cw Z1==(0:Int))=aq->aY (G (cv (aO [.agg Z2,bE (aO [fx 0,fx 0])])) [dC 1 ti tg,oP Z3,aa (.inl (108,[fx ri,fx rg])),aa (.inl (49,(du ke))),aa (.inl (108,[fx ri,fx rg])),aa (.inl (108,[fx 0,fx 0])),aa (.inl (136,(bk Z1)))]))/\((cw Z1==(0:Int))=ao->Vc True/\Vc True/\(decide (gZ aA ke (b8 Z1)<(0:Int))=aq->Vc ((du ke)=du ke/\PP Z3/\sF aA K k Z3 (a_ Z1) ke)/\(Z5=aq->aY (G (cv (aO [.agg Z2,bE (aO [fx (cB Z4),fx (cC Z4)])])) [dC 1 ti tg,oP Z6,aa (.inl (108,[fx ri,fx rg])),aa (.inl (49,(du ke))),aa (.inl (108,[fx ri,fx rg])),aa (.inl (108,[fx (cB Z4),fx (cC Z4)])),aa (.inl (136,(bk Z7)))]))/\(Z5=ao->Vc ((bk Z7)=bk Z7/\PP Z6)/\aY (G (cv (aO [.agg (aO [fx Z8,fx Z9]),bE (aO [fx (cB Z4),fx (cC Z4)])])) [dC 1 ti tg,oP (aw (gr aA Z6 (aN ri rg) Z7)),aa (.inl (108,[fx ri,fx rg])),aa (.inl (49,(du ke))),aa (.inl (108,[fx Z8,fx Z9])),aa (.inl (108,[fx (cB Z4),fx (cC Z4)])),aa (.inl (136,(bk Z7)))])))/\(decide (gZ aA ke (b8 Z1)<(0:Int))=ao->(decide (gZ aA ke (b8 Z1)>(0:Int))=aq->Vc ((du ke)=du ke/\PP Z3/\sF aA K k Z3 (bo Z1) ke)/\(cz=aq->aY (G (cv (aO [.agg Z2,bE (aO [fx (cB cP),fx (cC cP)])])) [dC 1 ti tg,oP dR,aa (.inl (108,[fx ri,fx rg])),aa (.inl (49,(du ke))),aa (.inl (108,[fx ri,fx rg])),aa (.inl (108,[fx (cB cP),fx (cC cP)])),aa (.inl (136,(bk fJ)))]))/\(cz=ao->Vc ((bk fJ)=bk fJ/\PP dR)/\aY (G (cv (aO [.agg (aO [fx gP,fx n6]),bE (aO [fx (cB cP),fx (cC cP)])])) [dC 1 ti tg,oP (aw (gr aA dR (aN ri rg) fJ)),aa (.inl (108,[fx ri,fx rg])),aa (.inl (49,(du ke))),aa (.inl (108,[fx gP,fx n6])),aa (.inl (108,[fx (cB cP),fx (cC cP)])),aa (.inl (136,(bk fJ)))])))/\(decide (gZ aA ke (b8 Z1)>(0:Int))=ao->Vc (PP Z3/\Fm aA K Z3 (a_ Z1) (bo Z1))/\aY (G (cv (aO [.agg (aO [fx (cB mY),fx (cC mY)]),bE Z2])) [dC 1 ti tg,oP (aw (sg aA K Z3 (a_ Z1) (bo Z1))),aa (.inl (108,[fx ri,fx rg])),aa (.inl (49,(du ke))),aa (.inl (108,[fx (cB mY),fx (cC mY)])),aa (.inl (108,[fx ri,fx rg])),aa (.inl (136,(bk Z1)))]))))) ?_ (by kernel_rfl)
   intro fx Z1 Z2 Z3 Z4 Z5 Z6 Z7 Z8 Z9 cP cz dR fJ gP n6 mY;subst mY n6 gP fJ dR cz cP Z9 Z8 Z7 Z6 Z5 Z4 Z3 Z2 Z1 fx;rw[sF] at hd;have done:∀ (i g i2 g2:Int) (m':Pl) (rest:Hp Rs),js aA K (k+1) m ⟨ri,rg⟩ ke=(⟨i,g⟩,⟨i2,g2⟩,m')->G (.tuple #[.agg ⟨[.int .i64 i,.int .i64 g]⟩,.agg ⟨[.int .i64 i2,.int .i64 g2]⟩]) ([aa (.inl (110,[.pointer (aa ⟨1,0,aj⟩),.int .i64 ti,.int .i64 tg])),aa (.inr (.inr (.inr (.dd m'))))]++rest):=by
    intro i g i2 g2 m' rest e;subst hG;refine⟨[0,1],?_,rfl,⟨.inl rfl,?_,trivial⟩,rfl,rfl,rfl,rfl⟩
    ·simp only[e];rfl
    ·simp only[e];rfl
   clear hG
   try simp only[KO,Ba]
   repeat' (first|apply cZ|apply Vc.mk|apply fits.mk|intro h|apply aY.mk)
   all_goals (try simp only[sB] at *)
   all_goals first|contradiction|omega|exact ju ‹_›|exact jt ‹_›|exact jv ‹_›|exact⟨rfl,by omega⟩|exact rfl|(simp[*,-ax];done)|skip
   all_goals first|assumption|(simp only[ja];assumption)|skip
   all_goals first|(rw[if_neg (by assumption),if_pos (by assumption)] at hd;exact hd)|(rw[if_neg (by assumption),if_neg (by omega),if_pos (by assumption)] at hd;exact hd)|(rw[if_neg (by assumption),if_neg (by omega),if_neg (by omega)] at hd;exact hd)|skip
   all_goals (refine done _ _ _ _ _ _ ?_;rw[js];(try dsimp only [mW]);repeat' split)
   all_goals first|rfl|(exfalso;omega)|contradiction|exact kb (qV (by assumption)) rfl|(exfalso;simp_all;done)
  ·cases hx
def uh  (k:Nat):Prim Rs:=fun args hh=>match args,hh with
 |[.pointer (aa ⟨0,0,aj⟩),.slice (aa ⟨1,0,aa 8000⟩) n cp,.agg ⟨[.int .i64 ri,.int .i64 rg]⟩],[aa (.inl (110,[.pointer (aa ⟨2,0,aj⟩),.int .i64 ti,.int .i64 tg])),aa (.inr (.inl (49,⟨[.int .i64 0,.bool ao,.int .i64 0,.int .i64 0,.bool ao,.bool ao,.int .i64 0,.int .i64 0],n2,[⟨a0,[],[]⟩,⟨[],a1,[]⟩,⟨a2,[],[]⟩,⟨a3,[],[]⟩,⟨[],a4,[]⟩,⟨[],a5,[]⟩,⟨a6,[],[]⟩,⟨a7,[],[]⟩]⟩))),aa (.inr (.inr (.inr (.dd m))))]=>aa ⟨(PP m/\n2=n/\a0.length=n/\a1.length=n/\a2.length=n/\a3.length=n/\a4.length=n/\a5.length=n/\a6.length=n/\a7.length=n/\n+(b7 aA k m ⟨ri,rg⟩).1.length<900000)/\jb aA k m ⟨ri,rg⟩,.slice (aa ⟨3,0,aa 8000⟩) (n+(b7 aA k m ⟨ri,rg⟩).1.length) (if(b7 aA k m ⟨ri,rg⟩).1.length=0 then cp else 0),aj,[aa (.inl (110,[.pointer (aa ⟨2,0,aj⟩),.int .i64 ti,.int .i64 tg])),aj,aa (.inr (.inr (.inr (.dd (b7 aA k m ⟨ri,rg⟩).2)))),aa (.inr (.inl (49,⟨[.int .i64 0,.bool ao,.int .i64 0,.int .i64 0,.bool ao,.bool ao,.int .i64 0,.int .i64 0],(n+(b7 aA k m ⟨ri,rg⟩).1.length),[⟨(a0++(b7 aA k m ⟨ri,rg⟩).1.map fun e=>e.t),[],[]⟩,⟨[],(a1++(b7 aA k m ⟨ri,rg⟩).1.map fun e=>e.ins),[]⟩,⟨(a2++(b7 aA k m ⟨ri,rg⟩).1.map fun e=>e.it.k),[],[]⟩,⟨(a3++(b7 aA k m ⟨ri,rg⟩).1.map fun e=>e.it.i),[],[]⟩,⟨[],(a4++(b7 aA k m ⟨ri,rg⟩).1.map fun e=>e.here),[]⟩,⟨[],(a5++(b7 aA k m ⟨ri,rg⟩).1.map fun e=>e.tf),[]⟩,⟨(a6++(b7 aA k m ⟨ri,rg⟩).1.map fun e=>e.tk.k),[],[]⟩,⟨(a7++(b7 aA k m ⟨ri,rg⟩).1.map fun e=>e.tk.i),[],[]⟩]⟩)))],[],[(0,0)]⟩
 |_,_=>aj
def Hr (k:Nat):eK Rs:=[(80,bM zN 2 (a9 j7)),(60,bM zN 2 (a9 (uh k)))]
theorem rQ:∀ k:Nat,ck D Tryz.prog 60 (a9 (uh k))
 |0=>by
  refine fw Tryz.f60 fun args hh x hx=>?_
  unfold uh at hx;split at hx
  ·rename_i n cp ri rg ti tg n2 a0 a1 a2 a3 a4 a5 a6 a7 m;cases hx;refine q4 fun _ hv=>?_
   exact kG (ig hv)
  ·cases hx
 |k+1=>by
  have ih:=rQ k;refine fw Tryz.f60 fun args hh x hx=>?_
  unfold uh at hx;split at hx
  ·rename_i n cp ri rg ti tg n2 a0 a1 a2 a3 a4 a5 a6 a7 m;cases hx;refine q4 fun _ hv=>?_
   obtain⟨⟨hp,rfl,ha0,ha1,ha2,ha3,ha4,ha5,ha6,ha7,hb⟩,hd⟩:=hv;generalize hG:ct (R:=Rs) _ _=G;refine cW (T:=(Hr k)) (show cQ D Tryz.prog (Hr k) from⟨aX _ _ look_ok,aX _ _ ih,trivial⟩) mixed 200 ?_
   refine bN (q:=let Z1:=(bt aA m (aN ri rg));let Z2:=(du (Fo 0 ao (cX 0 0) ao ao (cX 0 0)));let Z3:=(aK m (aN ri rg));let Z4:=(aB (b7 aA k Z3 (a_ Z1)));let Z5:=(n2+ae Z4);let Z6:=(aw (b7 aA k Z3 (a_ Z1)));let Z7:=(b8 Z1);let Z8:=(aB (b7 aA k Z6 (bo Z1)));Vc (PP m)/\((cw Z1==(0:Int))=aq->aY (G (bK (aa ⟨1,0,aa 8000⟩) n2 cp) [dC 2 ti tg,aa (.inr (.inl (49,Row.mk Z2 n2 [aT.mk a0 [] [],aT.mk [] a1 [],aT.mk a2 [] [],aT.mk a3 [] [],aT.mk [] a4 [],aT.mk [] a5 [],aT.mk a6 [] [],aT.mk a7 [] []]))),oP Z3,aa (.inl (108,[.int av ri,.int av rg])),aa (.inr (.inl (49,Row.mk Z2 0 [aT.mk [] [] [],aT.mk [] [] [],aT.mk [] [] [],aT.mk [] [] [],aT.mk [] [] [],aT.mk [] [] [],aT.mk [] [] [],aT.mk [] [] []]))),aa (.inl (136,(bk Z1)))]))/\((cw Z1==(0:Int))=ao->Vc ((PP Z3/\n2=n2/\ae a0=n2/\ae a1=n2/\ae a2=n2/\ae a3=n2/\ae a4=n2/\ae a5=n2/\ae a6=n2/\ae a7=n2/\n2+ae Z4<900000)/\jb aA k Z3 (a_ Z1))/\Vc (0+Z5≤n2+ae Z4/\1≤1/\(n2+ae Z4+1)*64≤140737488355328/\n2+ae Z4+1≤140737488355328)/\Vc ((PP Z6/\n2+ae Z4+1=n2+ae Z4+1/\ae (cut (a0++au (fun e=>DW e) Z4) 0 Z5++cut [DW Z7] 0 1)=n2+ae Z4+1/\ae (cut (a1++au (fun e=>z8 e) Z4) 0 Z5++cut [z8 Z7] 0 1)=n2+ae Z4+1/\ae (cut (a2++au (fun e=>mZ (qd e)) Z4) 0 Z5++cut [mZ (qd Z7)] 0 1)=n2+ae Z4+1/\ae (cut (a3++au (fun e=>m7 (qd e)) Z4) 0 Z5++cut [m7 (qd Z7)] 0 1)=n2+ae Z4+1/\ae (cut (a4++au (fun e=>xQ e) Z4) 0 Z5++cut [xQ Z7] 0 1)=n2+ae Z4+1/\ae (cut (a5++au (fun e=>B5 e) Z4) 0 Z5++cut [B5 Z7] 0 1)=n2+ae Z4+1/\ae (cut (a6++au (fun e=>mZ (qe e)) Z4) 0 Z5++cut [mZ (qe Z7)] 0 1)=n2+ae Z4+1/\ae (cut (a7++au (fun e=>m7 (qe e)) Z4) 0 Z5++cut [m7 (qe Z7)] 0 1)=n2+ae Z4+1/\n2+ae Z4+1+ae Z8<900000)/\jb aA k Z6 (bo Z1))/\aY (G (bK (aa ⟨9,0,aa 8000⟩) (n2+ae Z4+1+ae Z8) (if ae Z8=0 then 0 else 0)) [dC 2 ti tg,aj,oP (aw (b7 aA k Z6 (bo Z1))),aa (.inl (108,[.int av ri,.int av rg])),aa (.inr (.inl (49,Row.mk Z2 0 [aT.mk [] [] [],aT.mk [] [] [],aT.mk [] [] [],aT.mk [] [] [],aT.mk [] [] [],aT.mk [] [] [],aT.mk [] [] [],aT.mk [] [] []]))),aa (.inl (136,(bk Z1))),aj,aa (.inr (.inl (49,Row.mk Z2 1 [aT.mk [DW Z7] [] [],aT.mk [] [z8 Z7] [],aT.mk [mZ (qd Z7)] [] [],aT.mk [m7 (qd Z7)] [] [],aT.mk [] [xQ Z7] [],aT.mk [] [B5 Z7] [],aT.mk [mZ (qe Z7)] [] [],aT.mk [m7 (qe Z7)] [] []]))),aj,aa (.inr (.inl (49,Row.mk Z2 (n2+ae Z4+1+ae Z8) [aT.mk (cut (a0++au (fun e=>DW e) Z4) 0 Z5++cut [DW Z7] 0 1++au (fun e=>DW e) Z8) [] [],aT.mk [] (cut (a1++au (fun e=>z8 e) Z4) 0 Z5++cut [z8 Z7] 0 1++au (fun e=>z8 e) Z8) [],aT.mk (cut (a2++au (fun e=>mZ (qd e)) Z4) 0 Z5++cut [mZ (qd Z7)] 0 1++au (fun e=>mZ (qd e)) Z8) [] [],aT.mk (cut (a3++au (fun e=>m7 (qd e)) Z4) 0 Z5++cut [m7 (qd Z7)] 0 1++au (fun e=>m7 (qd e)) Z8) [] [],aT.mk [] (cut (a4++au (fun e=>xQ e) Z4) 0 Z5++cut [xQ Z7] 0 1++au (fun e=>xQ e) Z8) [],aT.mk [] (cut (a5++au (fun e=>B5 e) Z4) 0 Z5++cut [B5 Z7] 0 1++au (fun e=>B5 e) Z8) [],aT.mk (cut (a6++au (fun e=>mZ (qe e)) Z4) 0 Z5++cut [mZ (qe Z7)] 0 1++au (fun e=>mZ (qe e)) Z8) [] [],aT.mk (cut (a7++au (fun e=>m7 (qe e)) Z4) 0 Z5++cut [m7 (qe Z7)] 0 1++au (fun e=>m7 (qe e)) Z8) [] []])))]))) ?_ (by kernel_rfl)
   intro Z1 Z2 Z3 Z4 Z5 Z6 Z7 Z8;subst Z8 Z7 Z6 Z5 Z4 Z3 Z2 Z1;simp only[jb] at hd;subst hG;have c1:∀ x:Int,cut [x] 0 1=[x]:=fun x=>rfl
   have c2:∀ x:Bool,cut [x] 0 1=[x]:=fun x=>rfl
   have e0:(bt aA m (⟨ri,rg⟩:bn)).h=0->b7 aA (k+1) m (⟨ri,rg⟩:bn)=([],aK m (⟨ri,rg⟩:bn)):=fun h=>by rw[b7,if_pos h]
   have e1:(bt aA m (⟨ri,rg⟩:bn)).h≠0->b7 aA (k+1) m (⟨ri,rg⟩:bn)=((b7 aA k (aK m (⟨ri,rg⟩:bn)) (bt aA m (⟨ri,rg⟩:bn)).l).1++(bt aA m (⟨ri,rg⟩:bn)).e::(b7 aA k (b7 aA k (aK m (⟨ri,rg⟩:bn)) (bt aA m (⟨ri,rg⟩:bn)).l).2 (bt aA m (⟨ri,rg⟩:bn)).r).1,(b7 aA k (b7 aA k (aK m (⟨ri,rg⟩:bn)) (bt aA m (⟨ri,rg⟩:bn)).l).2 (bt aA m (⟨ri,rg⟩:bn)).r).2):=fun h=>by rw[b7,if_neg h]
   have L6:(bt aA m (⟨ri,rg⟩:bn)).h≠0->n2+((b7 aA k (aK m (⟨ri,rg⟩:bn)) (bt aA m (⟨ri,rg⟩:bn)).l).1.length+((b7 aA k (b7 aA k (aK m (⟨ri,rg⟩:bn)) (bt aA m (⟨ri,rg⟩:bn)).l).2 (bt aA m (⟨ri,rg⟩:bn)).r).1.length+1))<900000:=fun h=>by rw[e1 h] at hb;simpa using hb
   generalize hx:b7 aA k (aK m (⟨ri,rg⟩:bn)) (bt aA m (⟨ri,rg⟩:bn)).l=x at *
   generalize hy:b7 aA k x.2 (bt aA m (⟨ri,rg⟩:bn)).r=y at *
   have hxp:PP x.2:=by rw[← hx];exact Gv.rQ.2 (jc.2 hp)
   have xa:∀ q,jb aA k x.2 q↔jb aA k m q:=fun q=>by rw[← hx,Gv.LX,qw]
   simp only[fD (show(a0++x.1.map fun e=>e.t).length=n2+x.1.length by simp[ha0]),fD (show(a1++x.1.map fun e=>e.ins).length=n2+x.1.length by simp[ha1]),fD (show(a2++x.1.map fun e=>e.it.k).length=n2+x.1.length by simp[ha2]),fD (show(a3++x.1.map fun e=>e.it.i).length=n2+x.1.length by simp[ha3]),fD (show(a4++x.1.map fun e=>e.here).length=n2+x.1.length by simp[ha4]),fD (show(a5++x.1.map fun e=>e.tf).length=n2+x.1.length by simp[ha5]),fD (show(a6++x.1.map fun e=>e.tk.k).length=n2+x.1.length by simp[ha6]),fD (show(a7++x.1.map fun e=>e.tk.i).length=n2+x.1.length by simp[ha7]),c1,c2,qw,xa]
   repeat' (first|apply cZ|apply Vc.mk|apply fits.mk|intro h|apply aY.mk)
   all_goals (try simp only[sB] at *)
   all_goals first|contradiction|omega|exact ju ‹_›|exact jt ‹_›|exact jv ‹_›|exact⟨rfl,by omega⟩|exact rfl|(simp[*,-ax];done)|skip
   all_goals first|omega|assumption|exact jc.2 hp|(rcases hd with hd|hd;exfalso;omega;first|exact hd.1|exact hd.2)|(have:=L6 (by assumption);omega)|(simp;omega)|skip
   ·have h0:(bt aA m (⟨ri,rg⟩:bn)).h=0:=by assumption
    rw[e0 h0];simp only[List.length_nil,if_true];refine⟨[0,1,2,1],?_,rfl,?_,rfl,rfl,rfl,(by kernel_rfl)⟩
    ·rfl
    ·simp[du,tW,AL,nth,fU,w7,pw,lQ,gg,vW,uu,BL,zo,FE,yO,AE]
   ·have h0:(bt aA m (⟨ri,rg⟩:bn)).h≠0:=by assumption
    rw[e1 h0];have e2:n2+(x.1++(bt aA m (⟨ri,rg⟩:bn)).e::y.1).length=n2+x.1.length+1+y.1.length:=by simp;omega
    have e3:(x.1++(bt aA m (⟨ri,rg⟩:bn)).e::y.1).length≠0:=by simp
    simp only[e2,if_neg e3,ite_self];refine⟨[0,1,2,9],?_,rfl,?_,rfl,rfl,rfl,(by kernel_rfl)⟩
    ·rfl
    ·simp[du,tW,AL,nth,fU,w7,pw,lQ,gg,vW,uu,BL,zo,FE,yO,AE]
     all_goals first|rfl|omega|skip
  ·cases hx
set_option maxHeartbeats 16000000
def Uw  (k:Nat):Prim Rs:=fun args hh=>match args,hh with
 |[.pointer (aa ⟨0,0,aj⟩),.agg ⟨xN⟩,.int .i64 x_,.int .i64 y_],[aa (.inl (110,[.pointer (aa ⟨1,0,aj⟩),.int .i64 ti,.int .i64 tg])),aa (.inr (.inr (.inr (.dd m))))]=>aa ⟨xN=bk (fS xN)/\(PP m/\uN aA k m (fS xN) x_ y_),.agg ⟨b6 (gW aA k m (fS xN) x_ y_).1⟩,aj,[aa (.inl (110,[.pointer (aa ⟨1,0,aj⟩),.int .i64 ti,.int .i64 tg])),aa (.inr (.inr (.inr (.dd (gW aA k m (fS xN) x_ y_).2))))],[],[(0,0)]⟩
 |_,_=>aj
def akh (k:Nat):eK Rs:=[(1000000000,lJ),(80,bM zN 2 (a9 j7)),(98,bM zN 2 (a9 Ag)),(148,bM zN 2 (a9 dZ)),(119,bM zN 2 (a9 (Uw k)))]
theorem aaU:∀ k:Nat,ck D Tryz.prog 119 (a9 (Uw k))
 |0=>by
  refine fw Tryz.f119 fun args hh x hx=>?_
  unfold Uw at hx;split at hx
  ·rename_i xN x_ y_ ti tg m;cases hx;refine q4 fun _ hv=>?_
   exact kG (ig (ig hv))
  ·cases hx
 |k+1=>by
  have ih:=aaU k;refine fw Tryz.f119 fun args hh x hx=>?_
  unfold Uw at hx;split at hx
  ·rename_i xN x_ y_ ti tg m;cases hx;refine q4 fun _ hv=>?_
   obtain⟨jQ,hv⟩:=hv;generalize fS xN=xn at *;subst jQ;obtain⟨hp,hd⟩:=hv
   generalize hG:ct (R:=Rs) _ _=G;refine cW (T:=(akh k)) (show cQ D Tryz.prog (akh k) from⟨iu,aX _ _ look_ok,aX _ _ yz,aX _ _ uc,aX _ _ ih,trivial⟩) mixed 200 ?_
   refine bN (q:=let Z1:=(if(0:Int)>x_ then(0:Int) else x_);let Z2:=(bw xn);let Z3:=(b6 (mr 0 (xh (iN 0 0 0) (iN 0 0 0) 0 0 (cX 0 0) ao (cX 0 0) ao (cX 0 0))));let Z4:=(if bP Z2<y_ then bP Z2 else y_);let Z5:=(bt aA m (a_ xn));let Z6:=(bP (bw Z5)<if bP Z2<y_ then bP Z2 else y_);let Z7:=(aB (gW aA k (aK m (a_ xn)) Z5 Z1 Z4));let Z8:=(eG aA Z7 (nN aA (b8 xn)));let Z9:=(aw (gW aA k (aK m (a_ xn)) Z5 Z1 Z4));let cP:=(bt aA Z9 (bo xn));let cz:=(cr av (cr av (Z1-bP (bw Z5))-(1:Int)));let dR:=(cr av (cr av (Z4-bP (bw Z5))-(1:Int)));let fJ:=(gW aA k (aK Z9 (bo xn)) cP cz dR);(decide (Z1≥if bP Z2<y_ then bP Z2 else y_)=aq->aY (G (bE (aO Z3)) [dC 1 ti tg,oP m,aa (.inl (136,(bk xn))),aa (.inl (134,Z3))]))/\(decide (Z1≥if bP Z2<y_ then bP Z2 else y_)=ao->((Z1==(0:Int))=aq->((Z4==bP Z2)=aq->aY (G (bE (aO (b6 Z2))) [dC 1 ti tg,oP m,aa (.inl (136,(bk xn))),aa (.inl (134,(b6 Z2)))]))/\((Z4==bP Z2)=ao->Vc (PP m)/\Vc ((bk Z5)=bk Z5/\PP (aK m (a_ xn))/\uN aA k (aK m (a_ xn)) Z5 Z1 Z4)/\(decide (Z1≤bP (bw Z5))=aq->(decide Z6=aq->Vc ((du (b8 xn))=du (b8 xn)/\True)/\Vc ((b6 Z7)=b6 Z7/\(b6 (nN aA (b8 xn)))=b6 (nN aA (b8 xn))/\True)/\Vc True/\(decide (Z4≤cr av (bP (bw Z5)+(1:Int)))=aq->aY (G (bE (aO (b6 Z8))) [dC 1 ti tg,oP Z9,aa (.inl (136,(bk xn))),aa (.inl (134,(b6 Z8))),aa (.inl (136,(bk Z5))),aa (.inl (134,(b6 Z8)))]))/\(decide (Z4≤cr av (bP (bw Z5)+(1:Int)))=ao->Vc (PP Z9)/\Vc True/\Vc True/\Vc True/\Vc True/\Vc ((bk cP)=bk cP/\PP (aK Z9 (bo xn))/\uN aA k (aK Z9 (bo xn)) cP cz dR)/\Vc ((b6 Z8)=b6 Z8/\(b6 (aB fJ))=b6 (aB fJ)/\True)/\aY (G (bE (aO (b6 (eG aA Z8 (aB fJ))))) [dC 1 ti tg,oP (aw fJ),aa (.inl (136,(bk xn))),aa (.inl (134,(b6 (eG aA Z8 (aB fJ))))),aa (.inl (136,(bk Z5))),aa (.inl (134,(b6 Z8)))])))/\(decide Z6=ao->Vc True/\(decide (Z4≤cr av (bP (bw Z5)+(1:Int)))=aq->aY (G (bE (aO (b6 Z7))) [dC 1 ti tg,oP Z9,aa (.inl (136,(bk xn))),aa (.inl (134,(b6 Z7))),aa (.inl (136,(bk Z5))),aa (.inl (134,(b6 Z7)))]))/\(decide (Z4≤cr av (bP (bw Z5)+(1:Int)))=ao->Vc (PP Z9)/\Vc True/\Vc True/\Vc True/\Vc True/\Vc ((bk cP)=bk cP/\PP (aK Z9 (bo xn))/\uN aA k (aK Z9 (bo xn)) cP cz dR)/\Vc ((b6 Z7)=b6 Z7/\(b6 (aB fJ))=b6 (aB fJ)/\True)/\aY (G (bE (aO (b6 (eG aA Z7 (aB fJ))))) [dC 1 ti tg,oP (aw fJ),aa (.inl (136,(bk xn))),aa (.inl (134,(b6 (eG aA Z7 (aB fJ))))),aa (.inl (136,(bk Z5))),aa (.inl (134,(b6 Z7)))]))))/\(decide (Z1≤bP (bw Z5))=ao->Vc True/\(decide (Z4≤cr av (bP (bw Z5)+(1:Int)))=aq->aY (G (bE (aO (b6 Z7))) [dC 1 ti tg,oP Z9,aa (.inl (136,(bk xn))),aa (.inl (134,(b6 Z7))),aa (.inl (136,(bk Z5))),aa (.inl (134,(b6 Z7)))]))/\(decide (Z4≤cr av (bP (bw Z5)+(1:Int)))=ao->Vc (PP Z9)/\Vc True/\Vc True/\Vc True/\Vc True/\Vc ((bk cP)=bk cP/\PP (aK Z9 (bo xn))/\uN aA k (aK Z9 (bo xn)) cP cz dR)/\Vc ((b6 Z7)=b6 Z7/\(b6 (aB fJ))=b6 (aB fJ)/\True)/\aY (G (bE (aO (b6 (eG aA Z7 (aB fJ))))) [dC 1 ti tg,oP (aw fJ),aa (.inl (136,(bk xn))),aa (.inl (134,(b6 (eG aA Z7 (aB fJ))))),aa (.inl (136,(bk Z5))),aa (.inl (134,(b6 Z7)))])))))/\((Z1==(0:Int))=ao->Vc (PP m)/\Vc ((bk Z5)=bk Z5/\PP (aK m (a_ xn))/\uN aA k (aK m (a_ xn)) Z5 Z1 Z4)/\(decide (Z1≤bP (bw Z5))=aq->(decide Z6=aq->Vc ((du (b8 xn))=du (b8 xn)/\True)/\Vc ((b6 Z7)=b6 Z7/\(b6 (nN aA (b8 xn)))=b6 (nN aA (b8 xn))/\True)/\Vc True/\(decide (Z4≤cr av (bP (bw Z5)+(1:Int)))=aq->aY (G (bE (aO (b6 Z8))) [dC 1 ti tg,oP Z9,aa (.inl (136,(bk xn))),aa (.inl (134,(b6 Z8))),aa (.inl (136,(bk Z5))),aa (.inl (134,(b6 Z8)))]))/\(decide (Z4≤cr av (bP (bw Z5)+(1:Int)))=ao->Vc (PP Z9)/\Vc True/\Vc True/\Vc True/\Vc True/\Vc ((bk cP)=bk cP/\PP (aK Z9 (bo xn))/\uN aA k (aK Z9 (bo xn)) cP cz dR)/\Vc ((b6 Z8)=b6 Z8/\(b6 (aB fJ))=b6 (aB fJ)/\True)/\aY (G (bE (aO (b6 (eG aA Z8 (aB fJ))))) [dC 1 ti tg,oP (aw fJ),aa (.inl (136,(bk xn))),aa (.inl (134,(b6 (eG aA Z8 (aB fJ))))),aa (.inl (136,(bk Z5))),aa (.inl (134,(b6 Z8)))])))/\(decide Z6=ao->Vc True/\(decide (Z4≤cr av (bP (bw Z5)+(1:Int)))=aq->aY (G (bE (aO (b6 Z7))) [dC 1 ti tg,oP Z9,aa (.inl (136,(bk xn))),aa (.inl (134,(b6 Z7))),aa (.inl (136,(bk Z5))),aa (.inl (134,(b6 Z7)))]))/\(decide (Z4≤cr av (bP (bw Z5)+(1:Int)))=ao->Vc (PP Z9)/\Vc True/\Vc True/\Vc True/\Vc True/\Vc ((bk cP)=bk cP/\PP (aK Z9 (bo xn))/\uN aA k (aK Z9 (bo xn)) cP cz dR)/\Vc ((b6 Z7)=b6 Z7/\(b6 (aB fJ))=b6 (aB fJ)/\True)/\aY (G (bE (aO (b6 (eG aA Z7 (aB fJ))))) [dC 1 ti tg,oP (aw fJ),aa (.inl (136,(bk xn))),aa (.inl (134,(b6 (eG aA Z7 (aB fJ))))),aa (.inl (136,(bk Z5))),aa (.inl (134,(b6 Z7)))]))))/\(decide (Z1≤bP (bw Z5))=ao->Vc True/\(decide (Z4≤cr av (bP (bw Z5)+(1:Int)))=aq->aY (G (bE (aO (b6 Z7))) [dC 1 ti tg,oP Z9,aa (.inl (136,(bk xn))),aa (.inl (134,(b6 Z7))),aa (.inl (136,(bk Z5))),aa (.inl (134,(b6 Z7)))]))/\(decide (Z4≤cr av (bP (bw Z5)+(1:Int)))=ao->Vc (PP Z9)/\Vc True/\Vc True/\Vc True/\Vc True/\Vc ((bk cP)=bk cP/\PP (aK Z9 (bo xn))/\uN aA k (aK Z9 (bo xn)) cP cz dR)/\Vc ((b6 Z7)=b6 Z7/\(b6 (aB fJ))=b6 (aB fJ)/\True)/\aY (G (bE (aO (b6 (eG aA Z7 (aB fJ))))) [dC 1 ti tg,oP (aw fJ),aa (.inl (136,(bk xn))),aa (.inl (134,(b6 (eG aA Z7 (aB fJ))))),aa (.inl (136,(bk Z5))),aa (.inl (134,(b6 Z7)))])))))) ?_ (by kernel_rfl)
   intro Z1 Z2 Z3 Z4 Z5 Z6 Z7 Z8 Z9 cP cz dR fJ;subst fJ dR cz cP Z9 Z8 Z7 Z6 Z5 Z4 Z3 Z2 Z1;rw[uN] at hd
   dsimp only [mW,Gv.mx,Gv.mn] at hd
   have done:∀ (o:Gv.Part Wv.Sw) (m':Pl) (rest:Hp Rs),gW aA (k+1) m xn x_ y_=(o,m')->G (.agg ⟨b6 o⟩) ([aa (.inl (110,[.pointer (aa ⟨1,0,aj⟩),.int .i64 ti,.int .i64 tg])),aa (.inr (.inr (.inr (.dd m'))))]++rest):=by
    intro o m' rest e;subst hG;refine⟨[0,1],?_,rfl,⟨.inl rfl,?_,trivial⟩,rfl,rfl,rfl,rfl⟩
    ·simp only[e];rfl
    ·simp only[e];rfl
   clear hG;rw[gW] at done
   dsimp only [mW,Gv.mx,Gv.mn] at done
   repeat' (first|apply cZ|apply Vc.mk|apply fits.mk|intro h|apply aY.mk)
   all_goals (try simp only[sB] at *)
   all_goals first|contradiction|omega|exact ju ‹_›|exact jt ‹_›|exact jv ‹_›|exact⟨rfl,by omega⟩|exact rfl|(simp[*,-ax];done)|skip
   all_goals first|assumption|(simp only[ja];assumption)|skip
   all_goals first|exact(hd (by omega) (by omega)).1|exact(hd (by omega) (by omega)).2 (by omega)|skip
   all_goals (refine done _ _ _ ?_;repeat' split)
   all_goals first|rfl|(exfalso;omega)
  ·cases hx
def Vt:eK Rs:=[(130,bM zN 2 (a9 MP))]
theorem Q0:cQ D Tryz.prog Vt:=⟨aX _ _ U_,trivial⟩
def Ik:Prim Rs:=fun args hh=>match args,hh with
 |[.int .i64 c],[]=>aa ⟨True,.pointer (aa ⟨0,0,aj⟩),aj,[aa (.inl (110,[.pointer (aa ⟨1,0,aj⟩),.int .i64 Gv.r0.i,.int .i64 Gv.r0.g])),aa (.inr (.inr (.inr (.dd ⟨[],[],[],[],0,min (max c 0) 16777216,0⟩))))],[],[(0,0)]⟩
 |_,_=>aj
theorem Qu:ck D Tryz.prog 90 (a9 Ik):=by
 refine fw Tryz.f90 fun args hh x hx=>?_
 unfold Ik at hx;split at hx
 ·rename_i c;cases hx;refine q4 fun _ hv=>?_
  generalize hG:ct (R:=Rs) _ _=G;refine cW (T:=Vt) Q0 mixed 200 ?_;refine bN (q:=Vc True/\aY (G (aE (aa ⟨1,0,aj⟩)) [oP (Gv.PM.mk [] [] [] [] (0:Int) (min (max c (0:Int)) (16777216:Int)) (0:Int)),dC 0 0 0])) ?_ (by kernel_rfl)
  subst hG
  repeat' (first|apply cZ|apply Vc.mk|apply fits.mk|intro h|apply aY.mk)
  all_goals (try simp only[sB] at *)
  all_goals first|contradiction|omega|exact ju ‹_›|exact jt ‹_›|exact jv ‹_›|exact⟨rfl,by omega⟩|exact rfl|(simp[*,-ax];done)|skip
  exact⟨[1,0],rfl,rfl,⟨.inl rfl,rfl,trivial⟩,rfl,rfl,rfl,rfl⟩
 ·cases hx
def KC:eK Rs:=[(80,bM zN 2 (a9 j7))]
theorem Kg:cQ D Tryz.prog KC:=⟨aX _ _ look_ok,trivial⟩
def BQ:Prim Rs:=fun args hh=>match args,hh with
 |[.pointer (aa ⟨0,0,aj⟩)],[aa (.inl (110,[.pointer (aa ⟨1,0,aj⟩),.int .i64 ti,.int .i64 tg])),aa (.inr (.inr (.inr (.dd m))))]=>aa ⟨PP m,.int .i64 (bt aA m (⟨ti,tg⟩:bn)).all.n,aj,[aa (.inl (110,[.pointer (aa ⟨1,0,aj⟩),.int .i64 ti,.int .i64 tg])),aa (.inr (.inr (.inr (.dd (aK m (⟨ti,tg⟩:bn))))))],[],[(0,0)]⟩
 |_,_=>aj
theorem JM:ck D Tryz.prog 40 (a9 BQ):=by
 refine fw Tryz.f40 fun args hh x hx=>?_
 unfold BQ at hx;split at hx
 ·rename_i ti tg m;cases hx;refine q4 fun _ hv=>?_
  generalize hG:ct (R:=Rs) _ _=G;refine cW (T:=KC) Kg mixed 200 ?_;refine bN (q:=Vc (PP m)/\aY (G (bs av (bP (bw (bt aA m (aN ti tg))))) [dC 1 ti tg,oP (aK m (aN ti tg))])) ?_ (by kernel_rfl)
  subst hG
  repeat' (first|apply cZ|apply Vc.mk|apply fits.mk|intro h|apply aY.mk)
  all_goals (try simp only[sB] at *)
  all_goals first|contradiction|omega|exact ju ‹_›|exact jt ‹_›|exact jv ‹_›|exact⟨rfl,by omega⟩|exact rfl|(simp[*,-ax];done)|skip
  all_goals first|assumption|(simp only[ja];assumption)|skip
  exact⟨[0,1],rfl,rfl,⟨.inl rfl,rfl,trivial⟩,rfl,rfl,rfl,rfl⟩
 ·cases hx
def U0:eK Rs:=[(117,bM zN 2 (a9 BY))]
theorem Rz:cQ D Tryz.prog U0:=⟨aX _ _ Kz,trivial⟩
def yP:Prim Rs:=fun args hh=>match args,hh with
 |[.pointer (aa ⟨0,0,aj⟩)],[aa (.inl (110,[.pointer (aa ⟨1,0,aj⟩),.int .i64 ti,.int .i64 tg])),aa (.inr (.inr (.inr (.dd m))))]=>aa ⟨True,.int .i64 m.cY,aj,hh,[],[]⟩
 |_,_=>aj
theorem HK:ck D Tryz.prog 76 (a9 yP):=by
 refine fw Tryz.f76 fun args hh x hx=>?_
 unfold yP at hx;split at hx
 ·rename_i ti tg m;cases hx;refine q4 fun _ hv=>?_
  generalize hG:ct (R:=Rs) _ _=G;refine cW (T:=U0) Rz mixed 200 ?_;refine bN (q:=Vc True/\aY (G (bs av (Gv.PM.cY m)) [dC 1 ti tg,oP m])) ?_ (by kernel_rfl)
  subst hG
  repeat' (first|apply cZ|apply Vc.mk|apply fits.mk|intro h|apply aY.mk)
  all_goals (try simp only[sB] at *)
  all_goals first|contradiction|omega|exact ju ‹_›|exact jt ‹_›|exact jv ‹_›|exact⟨rfl,by omega⟩|exact rfl|(simp[*,-ax];done)|skip
  exact⟨[0,1],rfl,rfl,⟨.inl rfl,rfl,trivial⟩,rfl,rfl,rfl,rfl⟩
 ·cases hx
def Ip (K:Nat):Prim Rs:=fun args hh=>match args,hh with
 |[.pointer (aa ⟨0,0,aj⟩),.agg ⟨kE⟩],[aa (.inl (110,[.pointer (aa ⟨1,0,aj⟩),.int .i64 ti,.int .i64 tg])),aa (.inr (.inr (.inr (.dd m))))]=>aa ⟨kE=du (fR kE)/\(PP m/\Gv.Qi aA K m (⟨ti,tg⟩:bn) (fR kE)),.bool (uP aA K m (⟨ti,tg⟩:bn) (fR kE)).1,aj,[aa (.inl (110,[.pointer (aa ⟨1,0,aj⟩),.int .i64 (uP aA K m (⟨ti,tg⟩:bn) (fR kE)).2.1.i,.int .i64 (uP aA K m (⟨ti,tg⟩:bn) (fR kE)).2.1.g])),aa (.inr (.inr (.inr (.dd (uP aA K m (⟨ti,tg⟩:bn) (fR kE)).2.2))))],[],[(0,0)]⟩
 |_,_=>aj
def Oq (K:Nat):eK Rs:=[(96,bM zN 2 (a9 (sy K))),(98,bM zN 2 (a9 Ag)),(97,bM zN 2 (a9 H4)),(99,bM zN 2 (a9 (Az K)))]
theorem Ro (K:Nat):ck D Tryz.prog 67 (a9 (Ip K)):=by
 refine fw Tryz.f67 fun args hh x hx=>?_
 unfold Ip at hx;split at hx
 ·rename_i kE ti tg m;cases hx;refine q4 fun _ hv=>?_
  obtain⟨jQ,hv⟩:=hv;generalize fR kE=ke at *;subst jQ;obtain⟨hp,hd⟩:=hv
  generalize hG:ct (R:=Rs) _ _=G;refine cW (T:=(Oq K)) (show cQ D Tryz.prog (Oq K) from⟨aX _ _ (rN K),aX _ _ yz,aX _ _ tn,aX _ _ (xK K),trivial⟩) mixed 200 ?_
  refine bN (q:=let Z1:=(nG aA K m (aN ti tg) ke);let Z2:=(fy ke (aN (0:Int) (0:Int)) (aN (0:Int) (0:Int)) (nN aA ke) (1:Int));let Z3:=(Gv.put zd (aw Z1) Z2);let Z4:=(aD !decide (fP (aw Z1)=ic (aw Z1)));let Z5:=(nF aA K Z3 (aN ti tg) (lg zd (aw Z1)) ke);Vc ((du ke)=du ke/\PP m/\jb aA K m (aN ti tg))/\(aB Z1=aq->aY (G (aD aq) [dC 1 ti tg,oP (aw Z1),aa (.inl (49,(du ke)))]))/\(aB Z1=ao->Vc ((du ke)=du ke/\True)/\Vc ((bk (fy ke (aN 0 0) (aN 0 0) (nN aA ke) 1))=bk Z2/\PP (aw Z1))/\((!decide (fP (aw Z1)=ic (aw Z1)))=aq->Vc ((du ke)=du ke/\PP Z3/\jb aA K Z3 (aN ti tg))/\aY (G Z4 [dC 1 (cB (aB Z5)) (cC (aB Z5)),oP (aw Z5),aa (.inl (49,(du ke))),aa (.inl (108,[.int av (cB (lg zd (aw Z1))),.int av (cC (lg zd (aw Z1)))]))]))/\((!decide (fP (aw Z1)=ic (aw Z1)))=ao->aY (G Z4 [dC 1 ti tg,oP Z3,aa (.inl (49,(du ke))),aa (.inl (108,[.int av (cB (lg zd (aw Z1))),.int av (cC (lg zd (aw Z1)))]))])))) ?_ (by kernel_rfl)
  intro Z1 Z2 Z3 Z4 Z5;subst Z5 Z4 Z3 Z2 Z1;obtain⟨T_,xa⟩:=hd;have done:∀ (b:Bool) (i g:Int) (m':Pl) (rest:Hp Rs),uP aA K m (⟨ti,tg⟩:bn) ke=(b,⟨i,g⟩,m')->G (.bool b) ([aa (.inl (110,[.pointer (aa ⟨1,0,aj⟩),.int .i64 (⟨i,g⟩:bn).i,.int .i64 (⟨i,g⟩:bn).g])),aa (.inr (.inr (.inr (.dd m'))))]++rest):=by
   intro b i g m' rest e;subst hG;refine⟨[0,1],?_,rfl,⟨.inl ?_,?_,trivial⟩,rfl,rfl,rfl,rfl⟩
   ·simp only[e];rfl
   ·simp only[e];rfl
   ·simp only[e];rfl
  clear hG
  repeat' (first|apply cZ|apply Vc.mk|apply fits.mk|intro h|apply aY.mk)
  all_goals (try simp only[sB] at *)
  all_goals first|contradiction|omega|exact ju ‹_›|exact jt ‹_›|exact jv ‹_›|exact⟨rfl,by omega⟩|exact rfl|(simp[*,-ax];done)|skip
  all_goals first|assumption|(simp only[ja];assumption)|skip
  all_goals first|exact(xa (by assumption)).1|exact(xa (by assumption)).2|skip
  all_goals (refine done _ _ _ _ _ ?_;unfold uP;repeat' split)
  all_goals first|rfl|(exfalso;simp_all;done)|(refine kb ?_ rfl;simp[*];done)
 ·cases hx
def Ex (K:Nat):Prim Rs:=fun args hh=>match args,hh with
 |[.pointer (aa ⟨0,0,aj⟩),.agg ⟨kE⟩],[aa (.inl (110,[.pointer (aa ⟨1,0,aj⟩),.int .i64 ti,.int .i64 tg])),aa (.inr (.inr (.inr (.dd m))))]=>aa ⟨kE=du (fR kE)/\(PP m/\sF aA K K m (⟨ti,tg⟩:bn) (fR kE)),.tuple #[.agg ⟨du (jO aA K m (⟨ti,tg⟩:bn) (fR kE)).1⟩,.bool (jO aA K m (⟨ti,tg⟩:bn) (fR kE)).2.1],aj,[aa (.inl (110,[.pointer (aa ⟨1,0,aj⟩),.int .i64 (jO aA K m (⟨ti,tg⟩:bn) (fR kE)).2.2.1.i,.int .i64 (jO aA K m (⟨ti,tg⟩:bn) (fR kE)).2.2.1.g])),aa (.inr (.inr (.inr (.dd (jO aA K m (⟨ti,tg⟩:bn) (fR kE)).2.2.2))))],[],[(0,0)]⟩
 |_,_=>aj
def JQ (K:Nat):eK Rs:=[(113,bM zN 2 (a9 (AD K K))),(114,bM zN 2 (a9 Cb))]
theorem M2 (K:Nat):ck D Tryz.prog 74 (a9 (Ex K)):=by
 refine fw Tryz.f74 fun args hh x hx=>?_
 unfold Ex at hx;split at hx
 ·rename_i kE ti tg m;cases hx;refine q4 fun _ hv=>?_
  obtain⟨jQ,hv⟩:=hv;generalize fR kE=ke at *;subst jQ;obtain⟨hp,hd⟩:=hv
  generalize hG:ct (R:=Rs) _ _=G;refine cW (T:=(JQ K)) (show cQ D Tryz.prog (JQ K) from⟨aX _ _ (xv K K),aX _ _ tc,trivial⟩) mixed 200 ?_
  refine bN (q:=let Z1:=(aw (aw (js aA K K m (aN ti tg) ke)));let Z2:=(aB (aw (js aA K K m (aN ti tg) ke)));let Z3:=(cB (aB (js aA K K m (aN ti tg) ke)));let Z4:=(cC (aB (js aA K K m (aN ti tg) ke)));Vc ((du ke)=du ke/\PP m/\sF aA K K m (aN ti tg) ke)/\Vc (PP Z1)/\aY (G (cv (aO [.agg (aO (du (b8 (jN zd Z1 Z2)))),.bool (Gv.has Z1 Z2)])) [dC 1 Z3 Z4,oP (Gv.drop zd Z1 Z2),aa (.inl (49,(du ke))),aa (.inl (49,(du (b8 (jN zd Z1 Z2))))),aa (.inl (108,[.int av Z3,.int av Z4])),aa (.inl (108,[.int av (cB Z2),.int av (cC Z2)])),aa (.inl (136,(bk (jN zd Z1 Z2))))])) ?_ (by kernel_rfl)
  intro Z1 Z2 Z3 Z4;subst Z4 Z3 Z2 Z1;subst hG
  repeat' (first|apply cZ|apply Vc.mk|apply fits.mk|intro h|apply aY.mk)
  all_goals (try simp only[sB] at *)
  all_goals first|contradiction|omega|exact ju ‹_›|exact jt ‹_›|exact jv ‹_›|exact⟨rfl,by omega⟩|exact rfl|(simp[*,-ax];done)|skip
  all_goals first|assumption|(simp only[ja];assumption)|skip
  exact⟨[0,1],rfl,rfl,⟨.inl rfl,rfl,trivial⟩,rfl,rfl,rfl,rfl⟩
 ·cases hx
def YL (K:Nat):Prim Rs:=fun args hh=>match args,hh with
 |[.pointer (aa ⟨0,0,aj⟩),.int .i64 x_,.int .i64 y_],[aa (.inl (110,[.pointer (aa ⟨1,0,aj⟩),.int .i64 ti,.int .i64 tg])),aa (.inr (.inr (.inr (.dd m))))]=>aa ⟨PP m/\uN aA K (aK m (⟨ti,tg⟩:bn)) (bt aA m (⟨ti,tg⟩:bn)) x_ y_,.agg ⟨kj (gW aA K (aK m (⟨ti,tg⟩:bn)) (bt aA m (⟨ti,tg⟩:bn)) x_ y_).1.sum⟩,aj,[aa (.inl (110,[.pointer (aa ⟨1,0,aj⟩),.int .i64 ti,.int .i64 tg])),aa (.inr (.inr (.inr (.dd (gW aA K (aK m (⟨ti,tg⟩:bn)) (bt aA m (⟨ti,tg⟩:bn)) x_ y_).2))))],[],[(0,0)]⟩
 |_,_=>aj
def aeK (K:Nat):eK Rs:=[(80,bM zN 2 (a9 j7)),(119,bM zN 2 (a9 (Uw K)))]
theorem afQ (K:Nat):ck D Tryz.prog 78 (a9 (YL K)):=by
 refine fw Tryz.f78 fun args hh x hx=>?_
 unfold YL at hx;split at hx
 ·rename_i x_ y_ ti tg m;cases hx;refine q4 fun _ hv=>?_
  obtain⟨hp,hd⟩:=hv;generalize hG:ct (R:=Rs) _ _=G;refine cW (T:=(aeK K)) (show cQ D Tryz.prog (aeK K) from⟨aX _ _ look_ok,aX _ _ (aaU K),trivial⟩) mixed 200 ?_
  refine bN (q:=let Z1:=(bt aA m (aN ti tg));let Z2:=(kj (bG (aB (gW aA K (aK m (aN ti tg)) Z1 x_ y_))));Vc (PP m)/\Vc ((bk Z1)=bk Z1/\PP (aK m (aN ti tg))/\uN aA K (aK m (aN ti tg)) Z1 x_ y_)/\aY (G (bE (aO Z2)) [dC 1 ti tg,oP (aw (gW aA K (aK m (aN ti tg)) Z1 x_ y_)),aa (.inl (53,Z2))])) ?_ (by kernel_rfl)
  intro Z1 Z2;subst Z2 Z1;subst hG
  repeat' (first|apply cZ|apply Vc.mk|apply fits.mk|intro h|apply aY.mk)
  all_goals (try simp only[sB] at *)
  all_goals first|contradiction|omega|exact ju ‹_›|exact jt ‹_›|exact jv ‹_›|exact⟨rfl,by omega⟩|exact rfl|(simp[*,-ax];done)|skip
  all_goals first|assumption|(simp only[ja];assumption)|skip
  exact⟨[0,1],rfl,rfl,⟨.inl rfl,rfl,trivial⟩,rfl,rfl,rfl,rfl⟩
 ·cases hx
theorem Nr:K9 [0] (a9 BQ):=by
 intro b args h x hx i hi hl;cases b with
 |false=>cases hx
 |true =>
  simp only[a9,je.go,BQ] at hx;split at hx
  ·injection hx with hx
   subst hx;simp only[List.mem_singleton] at hi;subst hi
   rfl
  ·cases hx
def H_ (K:Nat):Prim Rs:=fun args hh=>match args,hh with
 |[.pointer (aa ⟨0,0,aj⟩)],[aa (.inl (110,[.pointer (aa ⟨1,0,aj⟩),.int .i64 ti,.int .i64 tg])),aa (.inr (.inr (.inr (.dd m))))]=>aa ⟨PP m/\jb aA K m (⟨ti,tg⟩:bn)/\(bt aA m (⟨ti,tg⟩:bn)).all.n=(b7 aA K (aK m (⟨ti,tg⟩:bn)) (⟨ti,tg⟩:bn)).1.length/\(b7 aA K (aK m (⟨ti,tg⟩:bn)) (⟨ti,tg⟩:bn)).1.length<900000,.slice (aa ⟨2,0,aa 8000⟩) (b7 aA K (aK m (⟨ti,tg⟩:bn)) (⟨ti,tg⟩:bn)).1.length 0,aj,[aa (.inl (110,[.pointer (aa ⟨1,0,aj⟩),.int .i64 ti,.int .i64 tg])),aa (.inr (.inr (.inr (.dd (b7 aA K (aK m (⟨ti,tg⟩:bn)) (⟨ti,tg⟩:bn)).2)))),aa (.inr (.inl (49,⟨[.int .i64 0,.bool ao,.int .i64 0,.int .i64 0,.bool ao,.bool ao,.int .i64 0,.int .i64 0],(b7 aA K (aK m (⟨ti,tg⟩:bn)) (⟨ti,tg⟩:bn)).1.length,[⟨((b7 aA K (aK m (⟨ti,tg⟩:bn)) (⟨ti,tg⟩:bn)).1.map fun e=>e.t),[],[]⟩,⟨[],((b7 aA K (aK m (⟨ti,tg⟩:bn)) (⟨ti,tg⟩:bn)).1.map fun e=>e.ins),[]⟩,⟨((b7 aA K (aK m (⟨ti,tg⟩:bn)) (⟨ti,tg⟩:bn)).1.map fun e=>e.it.k),[],[]⟩,⟨((b7 aA K (aK m (⟨ti,tg⟩:bn)) (⟨ti,tg⟩:bn)).1.map fun e=>e.it.i),[],[]⟩,⟨[],((b7 aA K (aK m (⟨ti,tg⟩:bn)) (⟨ti,tg⟩:bn)).1.map fun e=>e.here),[]⟩,⟨[],((b7 aA K (aK m (⟨ti,tg⟩:bn)) (⟨ti,tg⟩:bn)).1.map fun e=>e.tf),[]⟩,⟨((b7 aA K (aK m (⟨ti,tg⟩:bn)) (⟨ti,tg⟩:bn)).1.map fun e=>e.tk.k),[],[]⟩,⟨((b7 aA K (aK m (⟨ti,tg⟩:bn)) (⟨ti,tg⟩:bn)).1.map fun e=>e.tk.i),[],[]⟩]⟩)))],[],[(0,0)]⟩
 |_,_=>aj
def PW (K:Nat):eK Rs:=[(40,Cy [0] 2 (a9 BQ)),(60,bM zN 2 (a9 (uh K)))]
theorem Ql (K:Nat):ck D Tryz.prog 21 (a9 (H_ K)):=by
 refine fw Tryz.f21 fun args hh x hx=>?_
 unfold H_ at hx;split at hx
 ·rename_i ti tg m;cases hx;refine q4 fun _ hv=>?_
  obtain⟨hp,hd⟩:=hv;generalize hG:ct (R:=Rs) _ _=G;refine cW (T:=(PW K)) (show cQ D Tryz.prog (PW K) from⟨Cu _ _ JM Nr,aX _ _ (rQ K),trivial⟩) mixed 200 ?_
  refine bN (q:=let Z1:=(bw (bt aA m (aN ti tg)));let Z2:=(b7 aA K (aK m (aN ti tg)) (aN ti tg));let Z3:=(aB Z2);let Z4:=(du (Fo 0 ao (cX 0 0) ao ao (cX 0 0)));Vc (PP m)/\Vc ((0:Int)≤(0:Int)/\(0:Int)≤bP Z1/\bP Z1*(64:Int)≤(140737488355328:Int)/\bP Z1≤(140737488355328:Int))/\Vc ((PP (aK m (aN ti tg))/\0=0/\0=0/\0=0/\0=0/\0=0/\0=0/\0=0/\0=0/\0=0/\0+ae Z3<900000)/\jb aA K (aK m (aN ti tg)) (aN ti tg))/\aY (G (bK (aa ⟨4,0,aa 8000⟩) (0+ae Z3) (if ae Z3=0 then Int.toNat (bP Z1) else 0)) [dC 1 ti tg,oP (aw Z2),aa (.inr (.inl (49,Row.mk Z4 0 [aT.mk [] [] [],aT.mk [] [] [],aT.mk [] [] [],aT.mk [] [] [],aT.mk [] [] [],aT.mk [] [] [],aT.mk [] [] [],aT.mk [] [] []]))),aj,aa (.inr (.inl (49,Row.mk Z4 (0+ae Z3) [aT.mk ([]++au (fun e=>DW e) Z3) [] [],aT.mk [] ([]++au (fun e=>z8 e) Z3) [],aT.mk ([]++au (fun e=>mZ (qd e)) Z3) [] [],aT.mk ([]++au (fun e=>m7 (qd e)) Z3) [] [],aT.mk [] ([]++au (fun e=>xQ e) Z3) [],aT.mk [] ([]++au (fun e=>B5 e) Z3) [],aT.mk ([]++au (fun e=>mZ (qe e)) Z3) [] [],aT.mk ([]++au (fun e=>m7 (qe e)) Z3) [] []])))])) ?_ (by kernel_rfl)
  intro Z1 Z2 Z3 Z4;subst Z4 Z3 Z2 Z1;subst hG;obtain⟨T_,xa,hd4⟩:=hd;have hd5:=(qw (s:=(⟨ti,tg⟩:bn))).2 T_;have e2:(if(b7 aA K (aK m (⟨ti,tg⟩:bn)) (⟨ti,tg⟩:bn)).1.length=0 then(bt aA m (⟨ti,tg⟩:bn)).all.n.toNat else 0)=0:=by rw[xa];split<;>omega
  simp only[e2,b5,pb]
  repeat' (first|apply cZ|apply Vc.mk|apply fits.mk|intro h|apply aY.mk)
  all_goals (try simp only[sB] at *)
  all_goals first|contradiction|omega|exact ju ‹_›|exact jt ‹_›|exact jv ‹_›|exact⟨rfl,by omega⟩|exact rfl|(simp[*,-ax];done)|skip
  all_goals first|omega|assumption|exact jc.2 hp|(simp;done)|skip
  refine⟨[0,1,4],?_,rfl,?_,rfl,rfl,rfl,rfl⟩
  ·rfl
  ·simp[du,tW,AL,nth,fU,w7,pw,lQ,gg,vW,uu,BL,zo,FE,yO,AE]
   all_goals first|rfl|skip
 ·cases hx
def EU (K:Nat):Prim Rs:=fun args hh=>match args,hh with
 |[.pointer (aa ⟨0,0,aj⟩),.agg ⟨kE⟩],[aa (.inl (110,[.pointer (aa ⟨1,0,aj⟩),.int .i64 ti,.int .i64 tg])),aa (.inr (.inr (.inr (.dd m))))]=>aa ⟨kE=du (fR kE)/\(PP m/\vw aA K (aK m (⟨ti,tg⟩:bn)) (bt aA m (⟨ti,tg⟩:bn)) (fR kE)),.tuple #[.agg ⟨du (iB aA K (aK m (⟨ti,tg⟩:bn)) (bt aA m (⟨ti,tg⟩:bn)) (fR kE)).1.1⟩,.bool (iB aA K (aK m (⟨ti,tg⟩:bn)) (bt aA m (⟨ti,tg⟩:bn)) (fR kE)).1.2],aj,[aa (.inl (110,[.pointer (aa ⟨1,0,aj⟩),.int .i64 ti,.int .i64 tg])),aa (.inr (.inr (.inr (.dd (iB aA K (aK m (⟨ti,tg⟩:bn)) (bt aA m (⟨ti,tg⟩:bn)) (fR kE)).2))))],[],[(0,0)]⟩
 |_,_=>aj
def Al (K:Nat):eK Rs:=[(80,bM zN 2 (a9 j7)),(222,bM zN 2 (a9 IS))]
theorem NG (K:Nat):ck D Tryz.prog 73 (a9 (EU K)):=by
 refine fw Tryz.f73 fun args hh x hx=>?_
 unfold EU at hx;split at hx
 ·rename_i kE ti tg m;cases hx;refine q4 fun _ hv=>?_
  obtain⟨jQ,hv⟩:=hv;generalize fR kE=ke at *;subst jQ;obtain⟨hp,hd⟩:=hv
  generalize hG:ct (R:=Rs) _ _=G;refine cW (T:=(Al K)) (show cQ D Tryz.prog (Al K) from⟨aX _ _ look_ok,aX _ _ xP,trivial⟩) mixed 200 ?_
  refine bN (q:=let Z1:=(aE (aa ⟨0,0,aj⟩));Vc (PP m)/\At D Tryz.prog (dM Tryz.f73) 2 (iD Tryz.prog (dF (dG Tryz.f73)) G) [.inl [1,1,0,0],.inr (.inl 0),.inl [1,1,1]] (SS.mk (aa Z1::aa (bE (aO (du ke)))::aj::aa (aE (aa ⟨2,0,aj⟩))::aa (aE (aa ⟨3,0,aj⟩))::aa (aD ao)::aa (aE (aa ⟨4,0,aj⟩))::aj::aj::aa Z1::aa Z1::aa Z1::aa (aE (aa ⟨0,1,aj⟩))::aa (bE (aO [.int av ti,.int av tg]))::aa (bE (aO (bk (bt aA m (aN ti tg)))))::nH (n4 (aj::aj::aj::[]))) [(5,ao)] [dC 1 ti tg,oP (aK m (aN ti tg)),aa (.inl (49,(du ke))),aa (.inl (49,(du (Fo 0 ao (cX 0 0) ao ao (cX 0 0))))),aa (.inl (136,(bk (bt aA m (aN ti tg)))))])) ?_ (by kernel_rfl)
  intro Z1;subst Z1;refine⟨⟨hp⟩,?_⟩;refine lC (by kernel_rfl) (ι:=Nat×Nd×Pl) (fun s=>PP s.2.2/\vw aA s.1 s.2.2 s.2.1 ke/\iB aA s.1 s.2.2 s.2.1 ke=iB aA K (aK m (⟨ti,tg⟩:bn)) (bt aA m (⟨ti,tg⟩:bn)) ke) [0,3,4,5,6] (fun s=>[.pointer (aa ⟨0,0,aj⟩),.pointer (aa ⟨2,0,aj⟩),.pointer (aa ⟨3,0,aj⟩),.bool ao,.pointer (aa ⟨4,0,aj⟩)]) (fun s=>[aa (.inl (110,[.pointer (aa ⟨1,0,aj⟩),.int .i64 ti,.int .i64 tg])),aa (.inr (.inr (.inr (.dd s.2.2)))),aa (.inl (49,du ke)),aa (.inl (49,[.int .i64 0,.bool ao,.int .i64 0,.int .i64 0,.bool ao,.bool ao,.int .i64 0,.int .i64 0])),aa (.inl (136,bk s.2.1))]) (fun s=>s.1) (Tryz.f73).ntmps (fun s hs=>⟨rfl,rfl,tG _ _⟩) ⟨(K,bt aA m (⟨ti,tg⟩:bn),aK m (⟨ti,tg⟩:bn)),⟨jc.2 hp,hd,rfl⟩,⟨[0,1,2,3,4],rfl,⟨.inl rfl,rfl,.inl rfl,.inl rfl,.inl rfl,trivial⟩,rfl,rfl,rfl,rfl⟩⟩ fun s hs=>?_
  obtain⟨k,n,m2⟩:=s;obtain⟨s1,s2,s3⟩:=hs;simp only at s1 s2 s3;rcases k with _|k
  ·exact s2.elim
  refine cW (T:=Al K) (show cQ D Tryz.prog (Al K) from⟨aX _ _ look_ok,aX _ _ xP,trivial⟩) mixed 200 ?_
  refine bN (q:=let Z5:=aE (aa ⟨2,0,aj⟩);let Z6:=aE (aa ⟨0,0,aj⟩);let Z7:=aE (aa ⟨4,0,aj⟩);let Z8:=aE (aa ⟨3,0,aj⟩);let Z1:=(gZ aA ke (b8 (aB (n,m2)))==(0:Int));let Z2:=(aw (n,m2));let Z3:=(gZ aA ke (b8 (aB (n,m2)))<(0:Int));let Z4:=(du (Fo 0 ao (cX 0 0) ao ao (cX 0 0)));(decide (cw (aB (n,m2))>(0:Int))=aq->Vc True/\Vc True/\(Z1=aq->aY (G (cv (aO [.agg (aO (du (b8 (aB (n,m2))))),.bool aq])) [dC 1 ti tg,oP Z2,aa (.inl (49,(du ke))),aa (.inl (49,(du (b8 (aB (n,m2)))))),aa (.inl (136,(bk (aB (n,m2)))))]))/\(Z1=ao->(decide Z3=aq->Vc (PP Z2)/\aY (∃ j,(PP (aw (aw j))/\vw aA (aB j) (aw (aw j)) (aB (aw j)) ke/\iB aA (aB j) (aw (aw j)) (aB (aw j)) ke=iB aA K (aK m (aN ti tg)) (bt aA m (aN ti tg)) ke)/\aB j<k+1/\j4 Rs 2 (pc Tryz.f73) [0,3,4,5,6] [Z6,Z5,Z8,.bool ao,Z7] [dC 1 ti tg,oP (aw (aw j)),aa (.inl ((49:TypeId),du ke)),aa (.inl ((49:TypeId),Z4)),aa (.inl ((136:TypeId),bk (aB (aw j))))] [aa (Z6),aa (Z5),aa (Z8),aa (aD ao),aa (Z7)] [dC 1 ti tg,oP (aK Z2 (a_ (aB (n,m2)))),aa (.inl (49,(du ke))),aa (.inl (49,Z4)),aa (.inl (136,(bk (bt aA Z2 (a_ (aB (n,m2)))))))] 38))/\(decide Z3=ao->Vc (PP Z2)/\aY (∃ j,(PP (aw (aw j))/\vw aA (aB j) (aw (aw j)) (aB (aw j)) ke/\iB aA (aB j) (aw (aw j)) (aB (aw j)) ke=iB aA K (aK m (aN ti tg)) (bt aA m (aN ti tg)) ke)/\aB j<k+1/\j4 Rs 2 (pc Tryz.f73) [0,3,4,5,6] [Z6,Z5,Z8,.bool ao,Z7] [dC 1 ti tg,oP (aw (aw j)),aa (.inl ((49:TypeId),du ke)),aa (.inl ((49:TypeId),Z4)),aa (.inl ((136:TypeId),bk (aB (aw j))))] [aa (Z6),aa (Z5),aa (Z8),aa (aD ao),aa (Z7)] [dC 1 ti tg,oP (aK Z2 (bo (aB (n,m2)))),aa (.inl (49,(du ke))),aa (.inl (49,Z4)),aa (.inl (136,(bk (bt aA Z2 (bo (aB (n,m2)))))))] 38))))/\(decide (cw (aB (n,m2))>(0:Int))=ao->aY (G (cv (aO [.agg (aO Z4),.bool ao])) [dC 1 ti tg,oP Z2,aa (.inl (49,(du ke))),aa (.inl (49,Z4)),aa (.inl (136,(bk (aB (n,m2))))),aa (.inl (49,Z4))]))) ?_ (by kernel_rfl)
  intro Z5 Z6 Z7 Z8 Z1 Z2 Z3 Z4;subst Z4 Z3 Z2 Z1 Z8 Z7 Z6 Z5;rw[vw] at s2;rw[iB] at s3;subst hG
  repeat' (first|apply cZ|apply Vc.mk|apply fits.mk|intro h|apply aY.mk)
  all_goals (try simp only[sB] at *)
  all_goals first|contradiction|omega|exact ju ‹_›|exact jt ‹_›|exact jv ‹_›|exact⟨rfl,by omega⟩|exact rfl|(simp[*,-ax];done)|skip
  all_goals first|assumption|skip
  ·have h1:n.h>0:=by assumption
   have h2:aA.cmp ke n.e=0:=by assumption
   rw[if_pos h1,if_pos h2] at s3;rw[← s3];exact⟨[0,1],rfl,rfl,⟨.inl rfl,rfl,trivial⟩,rfl,rfl,rfl,rfl⟩
  ·have h1:n.h>0:=by assumption
   have h2:aA.cmp ke n.e≠0:=by assumption
   have h3:aA.cmp ke n.e<0:=by assumption
   rw[if_pos h1,if_neg h2,if_pos h3] at s3;exact⟨(k,bt aA m2 n.l,aK m2 n.l),⟨jc.2 s1,(s2 h1 h2).1 (by omega),s3⟩,fC _,⟨[0,1,2,3,4],rfl,⟨.inl rfl,rfl,.inl rfl,.inl rfl,.inl rfl,trivial⟩,rfl,rfl,rfl,rfl⟩⟩
  ·have h1:n.h>0:=by assumption
   have h2:aA.cmp ke n.e≠0:=by assumption
   have h3:¬ aA.cmp ke n.e<0:=by omega
   rw[if_pos h1,if_neg h2,if_neg h3] at s3;exact⟨(k,bt aA m2 n.r,aK m2 n.r),⟨jc.2 s1,(s2 h1 h2).2 (by omega),s3⟩,fC _,⟨[0,1,2,3,4],rfl,⟨.inl rfl,rfl,.inl rfl,.inl rfl,.inl rfl,trivial⟩,rfl,rfl,rfl,rfl⟩⟩
  ·have h1:¬ n.h>0:=by omega
   rw[if_neg h1] at s3;rw[← s3];exact⟨[0,1],rfl,rfl,⟨.inl rfl,rfl,trivial⟩,rfl,rfl,rfl,rfl⟩
 ·cases hx
def D4 (K:Nat):Prim Rs:=fun args hh=>match args,hh with
 |[.pointer (aa ⟨0,0,aj⟩),.agg ⟨kE⟩],[aa (.inl (110,[.pointer (aa ⟨1,0,aj⟩),.int .i64 ti,.int .i64 tg])),aa (.inr (.inr (.inr (.dd m))))]=>aa ⟨kE=du (fR kE)/\(PP m/\vx aA K (aK m (⟨ti,tg⟩:bn)) (bt aA m (⟨ti,tg⟩:bn)) (fR kE) 0),.int .i64 (lK aA K (aK m (⟨ti,tg⟩:bn)) (bt aA m (⟨ti,tg⟩:bn)) (fR kE) 0).1,aj,[aa (.inl (110,[.pointer (aa ⟨1,0,aj⟩),.int .i64 ti,.int .i64 tg])),aa (.inr (.inr (.inr (.dd (lK aA K (aK m (⟨ti,tg⟩:bn)) (bt aA m (⟨ti,tg⟩:bn)) (fR kE) 0).2))))],[],[(0,0)]⟩
 |_,_=>aj
def Av (K:Nat):eK Rs:=[(1000000000,lJ),(80,bM zN 2 (a9 j7)),(222,bM zN 2 (a9 IS))]
theorem Ni (K:Nat):ck D Tryz.prog 65 (a9 (D4 K)):=by
 refine fw Tryz.f65 fun args hh x hx=>?_
 unfold D4 at hx;split at hx
 ·rename_i kE ti tg m;cases hx;refine q4 fun _ hv=>?_
  obtain⟨jQ,hv⟩:=hv;generalize fR kE=ke at *;subst jQ;obtain⟨hp,hd⟩:=hv
  generalize hG:ct (R:=Rs) _ _=G;refine cW (T:=(Av K)) (show cQ D Tryz.prog (Av K) from⟨iu,aX _ _ look_ok,aX _ _ xP,trivial⟩) mixed 200 ?_
  refine bN (q:=let Z1:=(aE (aa ⟨0,0,aj⟩));Vc (PP m)/\At D Tryz.prog (dM Tryz.f65) 2 (iD Tryz.prog (dF (dG Tryz.f65)) G) [.inl [1,1,1,0,0],.inr (.inl 0),.inl [1,1,1,1]] (SS.mk (aa Z1::aa (bE (aO (du ke)))::aj::aa (aE (aa ⟨2,0,aj⟩))::aa (bs av 0)::aa (bs av 0)::aa (aE (aa ⟨3,0,aj⟩))::aj::aa Z1::aa Z1::aa Z1::aa (aE (aa ⟨0,1,aj⟩))::aa (bE (aO [.int av ti,.int av tg]))::aa (bE (aO (bk (bt aA m (aN ti tg)))))::nH (n4 (n4 (n4 ([]))))) [] [dC 1 ti tg,oP (aK m (aN ti tg)),aa (.inl (49,(du ke))),aa (.inl (136,(bk (bt aA m (aN ti tg)))))])) ?_ (by kernel_rfl)
  intro Z1;subst Z1;refine⟨⟨hp⟩,?_⟩;refine lC (by kernel_rfl) (ι:=Nat×Nd×Pl×Int) (fun s=>PP s.2.2.1/\vx aA s.1 s.2.2.1 s.2.1 ke s.2.2.2/\lK aA s.1 s.2.2.1 s.2.1 ke s.2.2.2=lK aA K (aK m (⟨ti,tg⟩:bn)) (bt aA m (⟨ti,tg⟩:bn)) ke 0) [0,3,5,6] (fun s=>[.pointer (aa ⟨0,0,aj⟩),.pointer (aa ⟨2,0,aj⟩),.int .i64 s.2.2.2,.pointer (aa ⟨3,0,aj⟩)]) (fun s=>[aa (.inl (110,[.pointer (aa ⟨1,0,aj⟩),.int .i64 ti,.int .i64 tg])),aa (.inr (.inr (.inr (.dd s.2.2.1)))),aa (.inl (49,du ke)),aa (.inl (136,bk s.2.1))]) (fun s=>s.1) (Tryz.f65).ntmps (fun s hs=>⟨rfl,rfl,tG _ _⟩) ⟨(K,bt aA m (⟨ti,tg⟩:bn),aK m (⟨ti,tg⟩:bn),0),⟨jc.2 hp,hd,rfl⟩,⟨[0,1,2,3],rfl,⟨.inl rfl,rfl,.inl rfl,.inl rfl,trivial⟩,rfl,rfl,rfl,rfl⟩⟩ fun s hs=>?_
  obtain⟨k,n,m2,c⟩:=s;obtain⟨s1,s2,s3⟩:=hs;simp only at s1 s2 s3;rcases k with _|k
  ·exact s2.elim
  refine cW (T:=Av K) (show cQ D Tryz.prog (Av K) from⟨iu,aX _ _ look_ok,aX _ _ xP,trivial⟩) mixed 200 ?_
  refine bN (q:=let Z3:=aE (aa ⟨2,0,aj⟩);let Z4:=aE (aa ⟨0,0,aj⟩);let Z5:=aE (aa ⟨3,0,aj⟩);let Z6:=bs av;let Z1:=(aB (n,m2,c));let Z2:=(aB (aw (n,m2,c)));(decide (cw Z1>(0:Int))=aq->Vc True/\Vc True/\(decide (gZ aA ke (b8 Z1)≤(0:Int))=aq->Vc (PP Z2)/\aY (∃ j,(PP (aB (aw (aw j)))/\vx aA (aB j) (aB (aw (aw j))) (aB (aw j)) ke (aw (aw (aw j)))/\lK aA (aB j) (aB (aw (aw j))) (aB (aw j)) ke (aw (aw (aw j)))=lK aA K (aK m (aN ti tg)) (bt aA m (aN ti tg)) ke (0:Int))/\aB j<k+1/\j4 Rs 2 (pc Tryz.f65) [0,3,5,6] [Z4,Z3,Z6 (aw (aw (aw j))),Z5] [dC 1 ti tg,oP (aB (aw (aw j))),aa (.inl ((49:TypeId),du ke)),aa (.inl ((136:TypeId),bk (aB (aw j))))] [aa (Z4),aa (Z3),aa (Z6 (aw (aw (n,m2,c)))),aa (Z5)] [dC 1 ti tg,oP (aK Z2 (a_ Z1)),aa (.inl (49,(du ke))),aa (.inl (136,(bk (bt aA Z2 (a_ Z1)))))] 42))/\(decide (gZ aA ke (b8 Z1)≤(0:Int))=ao->Vc (PP Z2)/\Vc True/\Vc True/\aY (∃ j,(PP (aB (aw (aw j)))/\vx aA (aB j) (aB (aw (aw j))) (aB (aw j)) ke (aw (aw (aw j)))/\lK aA (aB j) (aB (aw (aw j))) (aB (aw j)) ke (aw (aw (aw j)))=lK aA K (aK m (aN ti tg)) (bt aA m (aN ti tg)) ke (0:Int))/\aB j<k+1/\j4 Rs 2 (pc Tryz.f65) [0,3,5,6] [Z4,Z3,Z6 (aw (aw (aw j))),Z5] [dC 1 ti tg,oP (aB (aw (aw j))),aa (.inl ((49:TypeId),du ke)),aa (.inl ((136:TypeId),bk (aB (aw j))))] [aa (Z4),aa (Z3),aa (Z6 (cr av (aw (aw (n,m2,c))+cr av (bP (bw Z1)-bP (bw (bt aA Z2 (bo Z1))))))),aa (Z5)] [dC 1 ti tg,oP (aK Z2 (bo Z1)),aa (.inl (49,(du ke))),aa (.inl (136,(bk (bt aA Z2 (bo Z1))))),aa (.inl (136,(bk (bt aA Z2 (bo Z1)))))] 42)))/\(decide (cw Z1>(0:Int))=ao->aY (G (Z6 (aw (aw (n,m2,c)))) [dC 1 ti tg,oP Z2,aa (.inl (49,(du ke))),aa (.inl (136,(bk Z1)))]))) ?_ (by kernel_rfl)
  intro Z3 Z4 Z5 Z6 Z1 Z2;subst Z2 Z1 Z6 Z5 Z4 Z3;rw[vx] at s2;rw[lK] at s3;subst hG
  repeat' (first|apply cZ|apply Vc.mk|apply fits.mk|intro h|apply aY.mk)
  all_goals (try simp only[sB] at *)
  all_goals first|contradiction|omega|exact ju ‹_›|exact jt ‹_›|exact jv ‹_›|exact⟨rfl,by omega⟩|exact rfl|(simp[*,-ax];done)|skip
  all_goals first|assumption|skip
  ·have h1:n.h>0:=by assumption
   have h2:aA.cmp ke n.e≤0:=by assumption
   rw[if_pos h1,if_pos h2] at s3;exact⟨(k,bt aA m2 n.l,aK m2 n.l,c),⟨jc.2 s1,(s2 h1).1 (by omega),s3⟩,fC _,⟨[0,1,2,3],rfl,⟨.inl rfl,rfl,.inl rfl,.inl rfl,trivial⟩,rfl,rfl,rfl,rfl⟩⟩
  ·have h1:n.h>0:=by assumption
   have h2:¬ aA.cmp ke n.e≤0:=by omega
   rw[if_pos h1,if_neg h2] at s3;exact⟨(k,bt aA m2 n.r,aK m2 n.r,mW (c+mW (n.all.n-(bt aA m2 n.r).all.n))),⟨jc.2 s1,(s2 h1).2 (by omega),s3⟩,fC _,⟨[0,1,2,3],rfl,⟨.inl rfl,rfl,.inl rfl,.inl rfl,trivial⟩,rfl,rfl,rfl,rfl⟩⟩
  ·have h1:¬ n.h>0:=by omega
   rw[if_neg h1] at s3;rw[← s3];exact⟨[0,1],rfl,rfl,⟨.inl rfl,rfl,trivial⟩,rfl,rfl,rfl,rfl⟩
 ·cases hx
def NQ (K:Nat):Prim Rs:=fun args hh=>match args,hh with
 |[.pointer (aa ⟨0,0,aj⟩),.int .i64 i_],[aa (.inl (110,[.pointer (aa ⟨1,0,aj⟩),.int .i64 ti,.int .i64 tg])),aa (.inr (.inr (.inr (.dd m))))]=>aa ⟨PP m/\Gv.AtD aA K m (⟨ti,tg⟩:bn) i_,.tuple #[.agg ⟨du (lx aA K m (⟨ti,tg⟩:bn) i_).1.1⟩,.bool (lx aA K m (⟨ti,tg⟩:bn) i_).1.2],aj,[aa (.inl (110,[.pointer (aa ⟨1,0,aj⟩),.int .i64 ti,.int .i64 tg])),aa (.inr (.inr (.inr (.dd (lx aA K m (⟨ti,tg⟩:bn) i_).2))))],[],[(0,0)]⟩
 |_,_=>aj
def HZ (K:Nat):eK Rs:=[(1000000000,lJ),(80,bM zN 2 (a9 j7))]
theorem TP (K:Nat):ck D Tryz.prog 141 (a9 (NQ K)):=by
 refine fw Tryz.f141 fun args hh x hx=>?_
 unfold NQ at hx;split at hx
 ·rename_i i_ ti tg m;cases hx;refine q4 fun _ hv=>?_
  obtain⟨hp,hd⟩:=hv;generalize hG:ct (R:=Rs) _ _=G;refine cW (T:=(HZ K)) (show cQ D Tryz.prog (HZ K) from⟨iu,aX _ _ look_ok,trivial⟩) mixed 200 ?_
  refine bN (q:=let Z4:=bs av;let Z1:=(i_≥bP (bw (bt aA m (aN ti tg))));let Z2:=(du (Fo 0 ao (cX 0 0) ao ao (cX 0 0)));let Z3:=(aE (aa ⟨0,0,aj⟩));Vc (PP m)/\(decide (i_<(0:Int))=ao->(decide Z1=aq->aY (G (cv (aO [.agg (aO Z2),.bool ao])) [dC 1 ti tg,oP (aK m (aN ti tg)),aa (.inl (49,Z2)),aa (.inl (49,Z2)),aa (.inl (136,(bk (bt aA m (aN ti tg)))))]))/\(decide Z1=ao->At D Tryz.prog (dM Tryz.f141) 2 (iD Tryz.prog (dF (dG Tryz.f141)) G) [.inl [1,1,1,1,0],.inr (.inl 0)] (SS.mk (aa Z3::aa (Z4 i_)::aj::aj::aa (aE (aa ⟨2,0,aj⟩))::aa (aD ao)::aa (aE (aa ⟨3,0,aj⟩))::aa (aE (aa ⟨4,0,aj⟩))::aj::aa Z3::aa Z3::aa Z3::aa (aE (aa ⟨0,1,aj⟩))::aa (bE (aO [Z4 ti,Z4 tg]))::aa (bE (aO (bk (bt aA m (aN ti tg)))))::aa (Z4 i_)::aa (aD (decide (i_<(0:Int))))::aa (aD ao)::aa (Z4 i_)::aa (aE (aa ⟨4,12,aj⟩))::aa (aE (aa ⟨4,12,aj⟩))::aa (Z4 (bP (bw (bt aA m (aN ti tg)))))::aa (aD (decide Z1))::aa (aD ao)::nH (n4 (n4 (n4 ([]))))) [(23,ao),(17,ao),(5,ao)] [dC 1 ti tg,oP (aK m (aN ti tg)),aa (.inl (49,Z2)),aa (.inl (49,Z2)),aa (.inl (136,(bk (bt aA m (aN ti tg)))))])))/\(decide (i_<(0:Int))=aq->aY (G (cv (aO [.agg (aO Z2),.bool ao])) [dC 1 ti tg,oP (aK m (aN ti tg)),aa (.inl (49,Z2)),aa (.inl (49,Z2)),aa (.inl (136,(bk (bt aA m (aN ti tg)))))]))) ?_ (by kernel_rfl)
  intro Z4 Z1 Z2 Z3;subst Z3 Z2 Z1 Z4;have n1:i_<0∨i_≥(bt aA m (⟨ti,tg⟩:bn)).all.n->G (.tuple #[.agg ⟨[.int .i64 0,.bool ao,.int .i64 0,.int .i64 0,.bool ao,.bool ao,.int .i64 0,.int .i64 0]⟩,.bool ao])=G (.tuple #[.agg ⟨[.int .i64 0,.bool ao,.int .i64 0,.int .i64 0,.bool ao,.bool ao,.int .i64 0,.int .i64 0]⟩,.bool ao]):=fun _=>rfl
  have en:∀ rest,i_<0∨i_≥(bt aA m (⟨ti,tg⟩:bn)).all.n->G (.tuple #[.agg ⟨[.int .i64 0,.bool ao,.int .i64 0,.int .i64 0,.bool ao,.bool ao,.int .i64 0,.int .i64 0]⟩,.bool ao]) ([aa (.inl (110,[.pointer (aa ⟨1,0,aj⟩),.int .i64 ti,.int .i64 tg])),aa (.inr (.inr (.inr (.dd (aK m (⟨ti,tg⟩:bn))))))]++rest):=by
   intro rest h;have e:lx aA K m (⟨ti,tg⟩:bn) i_=((aA.e0,ao),aK m (⟨ti,tg⟩:bn)):=by rw[lx,if_pos h]
   subst hG;rw[e];exact⟨[0,1],rfl,rfl,⟨.inl rfl,rfl,trivial⟩,rfl,rfl,rfl,rfl⟩
  refine⟨⟨hp⟩,fun h=>⟨fun h2=>⟨en _ (.inr (by simpa using h2))⟩,fun h2=>?_⟩,fun h=>⟨en _ (.inl (by simpa using h))⟩⟩
  have h3:¬ i_<0:=by simpa using h
  have h4:¬ i_≥(bt aA m (⟨ti,tg⟩:bn)).all.n:=by simpa using h2
  have ee:lx aA K m (⟨ti,tg⟩:bn) i_=(((oQ aA K (aK m (⟨ti,tg⟩:bn)) (bt aA m (⟨ti,tg⟩:bn)) i_).1,aq),(oQ aA K (aK m (⟨ti,tg⟩:bn)) (bt aA m (⟨ti,tg⟩:bn)) i_).2):=by rw[lx,if_neg (by omega)]
  have xa:=hd h3 h4;refine lC (by kernel_rfl) (ι:=Nat×Nd×Pl×Int) (fun s=>PP s.2.2.1/\B6 aA s.1 s.2.2.1 s.2.1 s.2.2.2/\oQ aA s.1 s.2.2.1 s.2.1 s.2.2.2=oQ aA K (aK m (⟨ti,tg⟩:bn)) (bt aA m (⟨ti,tg⟩:bn)) i_) [0,1,4,7] (fun s=>[.pointer (aa ⟨0,0,aj⟩),.int .i64 s.2.2.2,.pointer (aa ⟨2,0,aj⟩),.pointer (aa ⟨3,0,aj⟩)]) (fun s=>[aa (.inl (110,[.pointer (aa ⟨1,0,aj⟩),.int .i64 ti,.int .i64 tg])),aa (.inr (.inr (.inr (.dd s.2.2.1)))),aa (.inl (49,[.int .i64 0,.bool ao,.int .i64 0,.int .i64 0,.bool ao,.bool ao,.int .i64 0,.int .i64 0])),aa (.inl (136,bk s.2.1))]) (fun s=>s.1) (Tryz.f141).ntmps (fun s hs=>⟨rfl,rfl,tG _ _⟩) ⟨(K,bt aA m (⟨ti,tg⟩:bn),aK m (⟨ti,tg⟩:bn),i_),⟨jc.2 hp,xa,rfl⟩,⟨[0,1,2,4],rfl,⟨.inl rfl,rfl,.inl rfl,.inl rfl,trivial⟩,rfl,rfl,rfl,rfl⟩⟩ fun s hs=>?_
  obtain⟨k,n,m2,c⟩:=s;obtain⟨s1,s2,s3⟩:=hs;simp only at s1 s2 s3;rcases k with _|k
  ·exact s2.elim
  refine cW (T:=HZ K) (show cQ D Tryz.prog (HZ K) from⟨iu,aX _ _ look_ok,trivial⟩) mixed 200 ?_
  refine bN (q:=let Z5:=aE (aa ⟨2,0,aj⟩);let Z6:=aE (aa ⟨0,0,aj⟩);let Z7:=aE (aa ⟨3,0,aj⟩);let Z1:=(aw (n,m2,c));let Z2:=(bt aA (aB Z1) (a_ (aB (n,m2,c))));let Z3:=(aK (aB Z1) (a_ (aB (n,m2,c))));let Z4:=(du (Fo 0 ao (cX 0 0) ao ao (cX 0 0)));Vc (PP (aB Z1))/\((aw Z1==bP (bw Z2))=aq->aY (G (cv (aO [.agg (aO (du (b8 (aB (n,m2,c))))),.bool aq])) [dC 1 ti tg,oP Z3,aa (.inl (49,(du (b8 (aB (n,m2,c)))))),aa (.inl (136,(bk (aB (n,m2,c))))),aa (.inl (136,(bk Z2)))]))/\((aw Z1==bP (bw Z2))=ao->(decide (aw Z1<bP (bw Z2))=aq->aY (∃ j,(PP (aB (aw (aw j)))/\B6 aA (aB j) (aB (aw (aw j))) (aB (aw j)) (aw (aw (aw j)))/\oQ aA (aB j) (aB (aw (aw j))) (aB (aw j)) (aw (aw (aw j)))=oQ aA K (aK m (aN ti tg)) (bt aA m (aN ti tg)) i_)/\aB j<k+1/\j4 Rs 2 (pc Tryz.f141) [0,1,4,7] [Z6,.int av (aw (aw (aw j))),Z5,Z7] [dC 1 ti tg,oP (aB (aw (aw j))),aa (.inl ((49:TypeId),Z4)),aa (.inl ((136:TypeId),bk (aB (aw j))))] [aa (Z6),aa (bs av (aw Z1)),aa (Z5),aa (Z7)] [dC 1 ti tg,oP Z3,aa (.inl (49,Z4)),aa (.inl (136,(bk Z2))),aa (.inl (136,(bk Z2)))] 52))/\(decide (aw Z1<bP (bw Z2))=ao->Vc True/\Vc True/\Vc (PP Z3)/\aY (∃ j,(PP (aB (aw (aw j)))/\B6 aA (aB j) (aB (aw (aw j))) (aB (aw j)) (aw (aw (aw j)))/\oQ aA (aB j) (aB (aw (aw j))) (aB (aw j)) (aw (aw (aw j)))=oQ aA K (aK m (aN ti tg)) (bt aA m (aN ti tg)) i_)/\aB j<k+1/\j4 Rs 2 (pc Tryz.f141) [0,1,4,7] [Z6,.int av (aw (aw (aw j))),Z5,Z7] [dC 1 ti tg,oP (aB (aw (aw j))),aa (.inl ((49:TypeId),Z4)),aa (.inl ((136:TypeId),bk (aB (aw j))))] [aa (Z6),aa (bs av (cr av (aw Z1-cr av (bP (bw Z2)+(1:Int))))),aa (Z5),aa (Z7)] [dC 1 ti tg,oP (aK Z3 (bo (aB (n,m2,c)))),aa (.inl (49,Z4)),aa (.inl (136,(bk (bt aA Z3 (bo (aB (n,m2,c))))))),aa (.inl (136,(bk Z2)))] 52)))) ?_ (by kernel_rfl)
  intro Z5 Z6 Z7 Z1 Z2 Z3 Z4;subst Z4 Z3 Z2 Z1 Z7 Z6 Z5;rw[B6] at s2;rw[oQ] at s3;subst hG
  repeat' (first|apply cZ|apply Vc.mk|apply fits.mk|intro h|apply aY.mk)
  all_goals (try simp only[sB] at *)
  all_goals first|contradiction|omega|exact ju ‹_›|exact jt ‹_›|exact jv ‹_›|exact⟨rfl,by omega⟩|exact rfl|(simp[*,-ax];done)|skip
  all_goals first|assumption|exact jc.2 s1|skip
  ·have h1:c=(bt aA m2 n.l).all.n:=by assumption
   rw[if_pos h1] at s3;rw[ee,← s3];exact⟨[0,1],rfl,rfl,⟨.inl rfl,rfl,trivial⟩,rfl,rfl,rfl,rfl⟩
  ·have h1:c≠(bt aA m2 n.l).all.n:=by assumption
   have h2:c<(bt aA m2 n.l).all.n:=by assumption
   rw[if_neg h1,if_pos h2] at s3;exact⟨(k,bt aA m2 n.l,aK m2 n.l,c),⟨jc.2 s1,(s2 h1).1 (by omega),s3⟩,fC _,⟨[0,1,2,3],rfl,⟨.inl rfl,rfl,.inl rfl,.inl rfl,trivial⟩,rfl,rfl,rfl,rfl⟩⟩
  ·have h1:c≠(bt aA m2 n.l).all.n:=by assumption
   have h2:¬ c<(bt aA m2 n.l).all.n:=by omega
   rw[if_neg h1,if_neg h2] at s3;exact⟨(k,bt aA (aK m2 n.l) n.r,aK (aK m2 n.l) n.r,mW (c-mW ((bt aA m2 n.l).all.n+1))),⟨jc.2 (jc.2 s1),(s2 h1).2 (by omega),s3⟩,fC _,⟨[0,1,2,3],rfl,⟨.inl rfl,rfl,.inl rfl,.inl rfl,trivial⟩,rfl,rfl,rfl,rfl⟩⟩
 ·cases hx
end G8
namespace Sh
open Rx Wv
structure Sl where
 it:It
 lS:Bool
 time:Int
structure Sz where
 n:Int
def slz:Sl:=⟨⟨0,0⟩,ao,0⟩
def O9:Gv.iL Sl Sz:=⟨slz,⟨0⟩,fun a b=>kK a.it b.it,fun _=>⟨1⟩,fun a b=>⟨mW (a.n+b.n)⟩⟩
def S9 (l:List Sl):Sz:=⟨l.length⟩
def KX (l:List Sl):Prop:=l.length≤1000
theorem Co (a b:It):kK a b=0↔a=b:=by
 constructor
 ·intro h;refine It.Q3 ?_ ?_<;>(unfold kK at h;repeat' split at h)<;>omega
 ·rintro rfl;unfold kK;repeat' split
  all_goals omega
theorem DS (a b:It):kK a b<0↔ah a b:=by unfold kK ah;repeat' split;all_goals omega
theorem Vk {a b c:It} (h:ah a b) (h':ah b c):ah a c:=by unfold ah at *;omega
theorem YD:Gv.yH O9 S9 KX where
 nil:=rfl
 one e:=rfl
 plus x y h _ _:=by
  unfold KX at h;unfold S9;rw[bJ] at *
  show(⟨mW ((x.length:Int)+(y.length:Int))⟩:Sz)=⟨((x.length+y.length:Nat):Int)⟩
  rw[Gv.uv (by omega)];push_cast;rfl
 left x y h:=by unfold KX at *;rw[bJ] at h;omega
 right x y h:=by unfold KX at *;rw[bJ] at h;omega
 len x h:=Nat.le_trans h (by decide)
 swap a b:=by show kK a.it b.it<0↔kK b.it a.it>0;rw[DS,w5]
 trans a b c h h':=by
  have h:kK a.it b.it<0:=h;have h':kK b.it c.it<0:=h';rw[DS] at h h';show kK a.it c.it<0
  rw[DS];exact Vk h h'
 eqv a b c h h':=by
  have h:kK a.it b.it=0:=h;rw[Co] at h;have h':kK b.it c.it<0:=h';show kK a.it c.it<0
  rw[h];exact h'
 ZN a b c h h':=by
  have h:kK a.it b.it=0:=h;rw[Co] at h;have h':kK c.it b.it<0:=h';show kK c.it a.it<0
  rw[h];exact h'
set_option maxRecDepth 100000
def Q6 {R:Type}:Prim R:=fun args hh=>match args,hh with
 |[.agg ⟨[.int .i64 a,.int .i64 b]⟩],[]=>aa ⟨True,.agg ⟨[.int .i64 a,.int .i64 b,.bool ao,.int .i64 0]⟩,aj,hh,[],[]⟩
 |_,_=>aj
theorem PI {R:Type} {D:fK R}:ck D Tryz.prog 69 (a9 Q6):=by
 refine fw Tryz.f69 fun args hh x hx=>?_
 unfold Q6 at hx;split at hx
 ·rename_i a b;cases hx;refine q4 fun _ hv=>?_
  generalize hG:ct (R:=R) _ _=G;refine oy (T:=[]) trivial mixed 200 (q:=let Z1:=bs av;aY (G (bE (aO [Z1 a,Z1 b,.bool ao,Z1 0])) [aa (dh (31,[Z1 a,Z1 b])),aa (dh (75,[Z1 a,Z1 b,.bool ao,Z1 0]))])) ?_ (by kernel_rfl)
  intro Z1;subst Z1;subst hG
  repeat' (first|apply cZ|apply Vc.mk|apply fits.mk|intro h|apply aY.mk)
  all_goals (try simp only[sB] at *)
  all_goals first|contradiction|omega|exact ju ‹_›|exact jt ‹_›|exact jv ‹_›|exact⟨rfl,by omega⟩|exact rfl|(simp[*,-ax];done)|skip
  exact⟨[],rfl,rfl,trivial,rfl,rfl,rfl,rfl⟩
 ·cases hx
def TCi {R:Type}:eK R:=[(140,bM zN 2 (a9 Zv))]
theorem aks {R:Type} {D:fK R}:cQ D Tryz.prog (TCi:eK R):=⟨aX _ _ abn,trivial⟩
def F2 {R:Type}:Prim R:=fun args hh=>match args,hh with
 |[.agg ⟨[.int .i64 a,.int .i64 b,.bool c,.int .i64 d]⟩,.agg ⟨[.int .i64 a',.int .i64 b',.bool c',.int .i64 d']⟩],[]=>aa ⟨True,.int .i64 (O9.cmp ⟨⟨a,b⟩,c,d⟩ ⟨⟨a',b'⟩,c',d'⟩),aj,hh,[],[]⟩
 |_,_=>aj
theorem zI {R:Type} {D:fK R}:ck D Tryz.prog 106 (a9 F2):=by
 refine fw Tryz.f106 fun args hh x hx=>?_
 unfold F2 at hx;split at hx
 ·rename_i a b c d a' b' c' d';cases hx;refine q4 fun _ hv=>?_
  generalize hG:ct (R:=R) _ _=G;refine oy (T:=TCi) aks mixed 200 (q:=let Z1:=bs av;Vc True/\aY (G (Z1 (kK (It.mk a b) (It.mk a' b'))) [aa (dh (75,[Z1 a,Z1 b,.bool c,Z1 d])),aa (dh (75,[Z1 a',Z1 b',.bool c',Z1 d']))])) ?_ (by kernel_rfl)
  intro Z1;subst Z1;subst hG
  repeat' (first|apply cZ|apply Vc.mk|apply fits.mk|intro h|apply aY.mk)
  all_goals (try simp only[sB] at *)
  all_goals first|contradiction|omega|exact ju ‹_›|exact jt ‹_›|exact jv ‹_›|exact⟨rfl,by omega⟩|exact rfl|(simp[*,-ax];done)|skip
  exact⟨[],rfl,rfl,trivial,rfl,rfl,rfl,rfl⟩
 ·cases hx
def Zl {R:Type}:Prim R:=fun args hh=>match args,hh with
 |[.agg ⟨[.int .i64 a,.int .i64 b,.bool c,.int .i64 d]⟩],[]=>aa ⟨True,.int .i64 (O9.sum ⟨⟨a,b⟩,c,d⟩).n,aj,hh,[],[]⟩
 |_,_=>aj
theorem agp {R:Type} {D:fK R}:ck D Tryz.prog 241 (a9 Zl):=by
 refine fw Tryz.f241 fun args hh x hx=>?_
 unfold Zl at hx;split at hx
 ·rename_i a b c d;cases hx;refine q4 fun _ hv=>?_
  generalize hG:ct (R:=R) _ _=G;refine oy (T:=[]) trivial mixed 200 (q:=aY (G (bs av 1) [aa (dh (75,[.int av a,.int av b,.bool c,.int av d]))])) ?_ (by kernel_rfl)
  subst hG
  repeat' (first|apply cZ|apply Vc.mk|apply fits.mk|intro h|apply aY.mk)
  all_goals (try simp only[sB] at *)
  all_goals first|contradiction|omega|exact ju ‹_›|exact jt ‹_›|exact jv ‹_›|exact⟨rfl,by omega⟩|exact rfl|(simp[*,-ax];done)|skip
  exact⟨[],rfl,rfl,trivial,rfl,rfl,rfl,rfl⟩
 ·cases hx
def ai5 {R:Type}:eK R:=[(1000000000,lJ)]
theorem afF {R:Type} {D:fK R}:cQ D Tryz.prog (ai5:eK R):=⟨iu,trivial⟩
def T' {R:Type}:Prim R:=fun args hh=>match args,hh with
 |[.int .i64 a,.int .i64 b],[]=>aa ⟨True,.int .i64 (O9.plus ⟨a⟩ ⟨b⟩).n,aj,hh,[],[]⟩
 |_,_=>aj
theorem adn {R:Type} {D:fK R}:ck D Tryz.prog 242 (a9 T'):=by
 refine fw Tryz.f242 fun args hh x hx=>?_
 unfold T' at hx;split at hx
 ·rename_i a b;cases hx;refine q4 fun _ hv=>?_
  generalize hG:ct (R:=R) _ _=G;refine oy (T:=ai5) afF mixed 200 (q:=Vc True/\aY (G (bs av (cr av (a+b))) [])) ?_ (by kernel_rfl)
  subst hG
  repeat' (first|apply cZ|apply Vc.mk|apply fits.mk|intro h|apply aY.mk)
  all_goals (try simp only[sB] at *)
  all_goals first|contradiction|omega|exact ju ‹_›|exact jt ‹_›|exact jv ‹_›|exact⟨rfl,by omega⟩|exact rfl|(simp[*,-ax];done)|skip
  exact⟨[],rfl,rfl,trivial,rfl,rfl,rfl,rfl⟩
 ·cases hx
end Sh
namespace Pa
open Rx Wv
def Ord (l:List It):Prop:=l.Pairwise ah
theorem Ha (a:It):¬ ah a a:=fun h=>sx h h
theorem O1 {a b c:It} (h:ah a b) (h':ah b c):ah a c:=by unfold ah at *;omega
theorem alf {a b:It} (h:ah a b):a≠b:=fun e=>by subst e;exact Ha _ h
theorem S_ {a b:It} (h:a≠b):ah a b∨ah b a:=by
 by_cases c:ah a b
 ·exact .inl c
 ·by_cases c':ah b a
  ·exact .inr c'
  ·exact absurd (aay c c') h
def hO (x:It):List It->List It
 |[]=>[x]
 |y::l=>if ah x y then x::y::l else y::hO x l
theorem jW {x z:It}:∀ {l:List It},z∈hO x l↔z=x∨z∈l
 |[]=>by simp[hO]
 |y::l=>by
  rw[hO];split
  ·simp
  ·simp only[bR,jW (l:=l)]
   constructor
   ·rintro (h|h|h)
    ·exact .inr (.inl h)
    ·exact .inl h
    ·exact .inr (.inr h)
   ·rintro (h|h|h)
    ·exact .inr (.inl h)
    ·exact .inl h
    ·exact .inr (.inr h)
theorem pf {x:It}:∀ {l:List It},Ord l->x∉l->Ord (hO x l)
 |[],_,_=>List.pairwise_singleton _ _
 |y::l,h,hx=>by
  have h1:=gB.1 h;have kt:x≠y:=fun e=>hx (e▸bO)
  rw[hO];split
  ·rename_i c;exact gB.2 ⟨fun z hz=>by
    rcases bR.1 hz with e|e
    ·rw[e];exact c
    ·exact O1 c (h1.1 z e),h⟩
  ·rename_i c;refine gB.2 ⟨fun z hz=>?_,pf h1.2 (fun e=>hx (eo _ e))⟩
   rcases jW.1 hz with e|e
   ·rw[e];rcases S_ kt with c'|c'
    ·exact absurd c' c
    ·exact c'
   ·exact h1.1 z e
theorem zl:∀ {a b:List It},Ord a->Ord b->(∀ x,x∈a↔x∈b)->a=b
 |[],[],_,_,_=>rfl
 |[],y::b,_,_,h=>by have:=(h y).2 bO;cases this
 |x::a,[],_,_,h=>by have:=(h x).1 bO;cases this
 |x::a,y::b,ha,hb,h=>by
  have OX:=gB.1 ha;have qf:=gB.1 hb;have e:x=y:=by
   rcases bR.1 ((h x).1 bO) with e|e
   ·exact e
   ·rcases bR.1 ((h y).2 bO) with e'|e'
    ·exact e'.symm
    ·exact absurd (OX.1 y e') (sx (qf.1 x e))
  subst e;have:a=b:=zl OX.2 qf.2 fun z=>by
   have hz:=h z;simp only[bR] at hz
   constructor
   ·intro m;rcases hz.1 (.inr m) with e|e
    ·subst e;exact absurd (OX.1 _ m) (Ha _)
    ·exact e
   ·intro m;rcases hz.2 (.inr m) with e|e
    ·subst e;exact absurd (qf.1 _ m) (Ha _)
    ·exact e
  rw[this]
theorem ac6 {x y:It} {l:List It} (h:Ord l) (hx:x∉l) (hy:y∉l) (kt:x≠y):hO x (hO y l)=hO y (hO x l):=by
 refine zl (pf (pf h hy) ?_) (pf (pf h hx) ?_) fun z=>?_
 ·rw[jW];rintro (e|e);exact kt e;exact hx e
 ·rw[jW];rintro (e|e);exact kt e.symm;exact hy e
 ·simp only[jW]
  constructor<;>rintro (e|e|e)
  ·exact .inr (.inl e)
  ·exact .inl e
  ·exact .inr (.inr e)
  ·exact .inr (.inl e)
  ·exact .inl e
  ·exact .inr (.inr e)
def pN (z:It) (l:List It):List It:=l.filter fun y=>!decide (y=z)
theorem ph {x z:It} {l:List It}:x∈pN z l↔x∈l/\x≠z:=by
 unfold pN;rw[pa]
 constructor
 ·rintro ⟨h1,h2⟩;exact⟨h1,fun e=>by rw[decide_eq_true e] at h2;cases h2⟩
 ·rintro ⟨h1,h2⟩;exact⟨h1,by rw[decide_eq_false h2];rfl⟩
theorem zU {z:It} {l:List It} (h:Ord l):Ord (pN z l):=Z0 _ h
theorem D9 {y:It} {l:List It} (h:Ord (y::l)):Ord l:=(gB.1 h).2
theorem Cp {y z:It} {l:List It} (h:Ord (y::l)) (hz:z∈l):ah y z:=(gB.1 h).1 z hz
theorem yu {y:It} {l:List It} (h:Ord (y::l)):y∉l:=fun m=>Ha _ (Cp h m)
def mx (x y:It):It:=if ah x y then y else x
def mn (x y:It):It:=if ah x y then x else y
theorem adb {x y:It} {l:List It} (h:Ord (y::l)) (hx:x∉y::l):hO x (y::l)=mn x y::hO (mx x y) l:=by
 unfold mn mx;rw[hO];split
 ·rename_i c
  congr 1
  cases l with
  |nil=>rfl
  |cons w l=>rw[hO,if_pos (Cp h bO)]
 ·rfl
structure Op where
 t:Int
 ins:Bool
 it:It
def gw (r:List Op):List It:=(r.filter Op.ins).map Op.it
theorem xI {o:Op} {r:List Op} (h:o.ins=aq):gw (o::r)=o.it::gw r:=by unfold gw;rw[kd,if_pos h];rfl
theorem qU {o:Op} {r:List Op} (h:o.ins=ao):gw (o::r)=gw r:=by unfold gw;rw[kd,if_neg (by rw[h];decide)]
def n8 (h:List It) (o:Op):List It:=if o.ins=aq then hO o.it h else h.tail
def fin (h:List It):List Op->List It
 |[]=>h
 |o::r=>fin (n8 h o) r
def tk (h:List It):List Op->List It
 |[]=>[]
 |o::r=>if o.ins=aq then tk (hO o.it h) r else h.take 1++tk h.tail r
def gI (h:List It):List Op->Nat
 |[]=>0
 |o::r=>if o.ins=aq then gI (hO o.it h) r else(if h=[] then 1 else 0)+gI h.tail r
theorem s9 {h:List It} {o:Op} {r:List Op} (e:o.ins=aq):fin h (o::r)=fin (hO o.it h) r:=by rw[fin,n8,if_pos e]
theorem ny {h:List It} {o:Op} {r:List Op} (e:o.ins=ao):fin h (o::r)=fin h.tail r:=by rw[fin,n8,if_neg (by rw[e];decide)]
theorem oE {h:List It} {o:Op} {r:List Op} (e:o.ins=aq):tk h (o::r)=tk (hO o.it h) r:=by rw[tk,if_pos e]
theorem vH {h:List It} {o:Op} {r:List Op} (e:o.ins=ao):tk h (o::r)=h.take 1++tk h.tail r:=by rw[tk,if_neg (by rw[e];decide)]
theorem oB {h:List It} {o:Op} {r:List Op} (e:o.ins=aq):gI h (o::r)=gI (hO o.it h) r:=by rw[gI,if_pos e]
theorem zz {h:List It} {o:Op} {r:List Op} (e:o.ins=ao):gI h (o::r)=(if h=[] then 1 else 0)+gI h.tail r:=by rw[gI,if_neg (by rw[e];decide)]
theorem so {o:Op} {r:List Op} (e:o.ins=ao):gI [] (o::r)=1+gI [] r:=by rw[zz e,if_pos rfl];rfl
theorem ng {y:It} {h:List It} {o:Op} {r:List Op} (e:o.ins=ao):gI (y::h) (o::r)=gI h r:=by rw[zz e,if_neg (by simp),b5];rfl
theorem BV {o:Op} {r:List Op} (e:o.ins=ao):tk [] (o::r)=tk [] r:=by rw[vH e];rfl
theorem oC {y:It} {h:List It} {o:Op} {r:List Op} (e:o.ins=ao):tk (y::h) (o::r)=y::tk h r:=by rw[vH e];rfl
theorem iX (o:Op):o.ins=aq∨o.ins=ao:=by cases o.ins<;>simp
structure Ap (h:List It) (r:List Op):Prop where
 ord:Ord h
 nd:(gw r).Nodup
 ap:∀ x,x∈h->x∉gw r
theorem Ap.ins {h:List It} {o:Op} {r:List Op} (a:Ap h (o::r)) (e:o.ins=aq):Ap (hO o.it h) r/\o.it∉h/\o.it∉gw r:=by
 have h1:=a.nd;have h2:=a.ap;rw[xI e] at h1 h2;have n1:o.it∉h:=fun m=>h2 _ m bO
 have n2:=(fI.1 h1).1;refine⟨⟨pf a.ord n1,(fI.1 h1).2,fun x hx=>?_⟩,n1,n2⟩
 rcases jW.1 hx with e'|e'
 ·rw[e'];exact n2
 ·exact fun m=>h2 x e' (eo _ m)
theorem Ap.del {h:List It} {o:Op} {r:List Op} (a:Ap h (o::r)) (e:o.ins=ao):Ap h.tail r:=by
 have h1:=a.nd;have h2:=a.ap;rw[qU e] at h1 h2;refine⟨?_,h1,fun x hx=>h2 x (Bb hx)⟩
 cases h with
 |nil=>exact a.ord
 |cons y h=>exact D9 a.ord
theorem Ap.n8 {h:List It} {o:Op} {r:List Op} (a:Ap h (o::r)):Ap (n8 h o) r:=by
 unfold Pa.n8;rcases iX o with e|e
 ·rw[if_pos e];exact(a.ins e).1
 ·rw[if_neg (by rw[e];decide)];exact a.del e
theorem qS:∀ {r:List Op} {h:List It},Ap h r->∀ z,z∈tk h r->z∈h∨z∈gw r
 |[],h,a,z,hz=>by cases hz
 |o::r,h,a,z,hz=>by
  rcases iX o with e|e
  ·rw[oE e] at hz;rw[xI e];rcases qS (a.ins e).1 z hz with m|m
   ·rcases jW.1 m with m|m
    ·exact .inr (m▸bO)
    ·exact .inl m
   ·exact .inr (eo _ m)
  ·rw[vH e] at hz;rw[qU e];rcases b9.1 hz with m|m
   ·exact .inl (rO m)
   ·rcases qS (a.del e) z m with m|m
    ·exact .inl (Bb m)
    ·exact .inr m
theorem qT:∀ {r:List Op} {h:List It},Ap h r->∀ z,z∈fin h r↔(z∈h∨z∈gw r)/\z∉tk h r
 |[],h,a,z=>by simp[fin,tk,gw]
 |o::r,h,a,z=>by
  rcases iX o with e|e
  ·rw[s9 e,oE e,xI e,qT (a.ins e).1,jW,bR]
   constructor
   ·rintro ⟨(m|m)|m,n⟩
    ·exact⟨.inr (.inl m),n⟩
    ·exact⟨.inl m,n⟩
    ·exact⟨.inr (.inr m),n⟩
   ·rintro ⟨m|m|m,n⟩
    ·exact⟨.inl (.inr m),n⟩
    ·exact⟨.inl (.inl m),n⟩
    ·exact⟨.inr m,n⟩
  ·rw[ny e,vH e,qU e,qT (a.del e)];cases h with
   |nil=>simp
   |cons y h =>
    have hy:=yu a.ord;have hy2:y∉gw r:=by have:=a.ap y bO;rwa [qU e] at this
    have hy3:y∉tk h r:=fun m=>by
     rcases qS (a.del e) y m with m|m
     ·exact hy m
     ·exact hy2 m
    simp only[oU,bR,Jo,sc,b9,vy,or_false]
    constructor
    ·rintro ⟨m|m,n⟩
     ·exact⟨.inl (.inr m),fun c=>by rcases c with c|c;exact hy (c▸m);exact n c⟩
     ·exact⟨.inr m,fun c=>by rcases c with c|c;exact hy2 (c▸m);exact n c⟩
    ·rintro ⟨(m|m)|m,n⟩
     ·exact absurd (.inl m) n
     ·exact⟨.inl m,fun c=>n (.inr c)⟩
     ·exact⟨.inr m,fun c=>n (.inr c)⟩
theorem XS:∀ {r:List Op} {h:List It},Ap h r->Ord (fin h r)
 |[],h,a=>a.ord
 |o::r,h,a=>by rw[fin];exact XS a.n8
def sW (x:It) (h:List It):List Op->Option It
 |[]=>aa x
 |o::r=>if o.ins=aq then sW x (hO o.it h) r else if h=[] then aj else sW (mx x (h.headD iz)) h.tail r
theorem Yi {x:It} {h:List It} {o:Op} {r:List Op} (e:o.ins=aq):sW x h (o::r)=sW x (hO o.it h) r:=by rw[sW,if_pos e]
theorem TL {x:It} {o:Op} {r:List Op} (e:o.ins=ao):sW x [] (o::r)=aj:=by rw[sW,if_neg (by rw[e];decide),if_pos rfl]
theorem XN {x y:It} {h:List It} {o:Op} {r:List Op} (e:o.ins=ao):sW x (y::h) (o::r)=sW (mx x y) h r:=by rw[sW,if_neg (by rw[e];decide),if_neg (by simp)];rfl
theorem Tw (x y:It):mx x y=x∨mx x y=y:=by unfold mx;split<;>simp
theorem amu (x y z:It):(z=mn x y∨z=mx x y)↔(z=x∨z=y):=by
 unfold mx mn;split
 ·rfl
 ·exact Or.comm
theorem K_:∀ {r:List Op} {h:List It} {x:It},Ap h r->x∉h->x∉gw r ->
  fin (hO x h) r=(match sW x h r with|none=>fin h r|some z=>hO z (fin h r)) /\
  gI h r=gI (hO x h) r+(if sW x h r=aj then 1 else 0) /\
  (∀ w,w∈tk (hO x h) r↔(w∈tk h r∨w=x)/\sW x h r≠aa w)/\(∀ z,sW x h r=aa z->z∉fin h r/\(z=x∨z∈tk h r))
 |[],h,x,a,hx,hi=>by
  refine⟨rfl,rfl,fun w=>?_,fun z hz=>?_⟩
  ·show w∈([]:List It)↔(w∈([]:List It)∨w=x)/\aa x≠aa w
   constructor
   ·intro m;cases m
   ·rintro ⟨m|m,n⟩
    ·exact m
    ·exact absurd (by rw[m]) n
  ·cases hz;exact⟨hx,.inl rfl⟩
 |o::r,h,x,a,hx,hi=>by
  rcases iX o with e|e
  ·obtain⟨a',n1,n2⟩:=a.ins e;rw[xI e] at hi;have kt:x≠o.it:=fun c=>hi (c▸bO)
   have ih:=K_ (r:=r) (h:=hO o.it h) (x:=x) a' (fun m=>by rcases jW.1 m with m|m;exact kt m;exact hx m) (fun m=>hi (eo _ m))
   rw[s9 e,s9 e,oB e,oB e,oE e,oE e,Yi e,ac6 a.ord n1 hx kt.symm];exact ih
  ·rw[qU e] at hi;have a':=a.del e;cases h with
   |nil =>
    rw[TL e,ny e,ny e,zz e,zz e,vH e,vH e];refine⟨rfl,?_,fun w=>?_,fun z hz=>by cases hz⟩
    ·show(if([]:List It)=[] then 1 else 0)+gI [] r=(if[x]=[] then 1 else 0)+gI [] r+1
     rw[if_pos rfl,if_neg (by simp)];omega
    ·show w∈[x]++tk [] r↔(w∈[]++tk [] r∨w=x)/\_
     simp only[pb,HC,bR]
     constructor
     ·rintro (m|m)
      ·exact⟨.inr m,by simp⟩
      ·exact⟨.inl m,by simp⟩
     ·rintro ⟨m|m,_⟩
      ·exact .inr m
      ·exact .inl m
   |cons y h =>
    have kt:x≠y:=fun c=>hx (c▸bO)
    have hxh:x∉h:=fun m=>hx (eo _ m)
    have hyh:=yu a.ord;have hyi:y∉gw r:=by have:=a.ap y bO;rwa [qU e] at this
    have hm1:mx x y∉h:=by rcases Tw x y with c|c<;>rw[c]<;>assumption
    have J8:mx x y∉gw r:=by rcases Tw x y with c|c<;>rw[c]<;>assumption
    obtain⟨i1,i2,i3,i4⟩:=K_ (r:=r) (h:=h) (x:=mx x y) a' hm1 J8;have ytk:y∉tk h r:=fun m=>by
     rcases qS a' y m with m|m
     ·exact hyh m
     ·exact hyi m
    rw[XN e,ny e,ny e,zz e,zz e,vH e,vH e,adb a.ord hx];simp only[oU,Jo,sc,HC];rw[if_neg (by simp),if_neg (by simp),b5,b5]
    refine⟨i1,i2,fun w=>?_,fun z hz=>?_⟩
    ·rw[bR,i3,bR];have k:=amu x y w;have nmn:sW (mx x y) h r≠aa (mn x y):=fun c=>by
      rcases(i4 _ c).2 with c2|c2
      ·unfold mx mn at c2;split at c2
       ·exact kt c2
       ·exact kt c2.symm
      ·have:mn x y=x∨mn x y=y:=by unfold mn;split<;>simp
       rcases this with c3|c3
       ·rw[c3] at c2;rcases qS a' x c2 with m|m
        ·exact hxh m
        ·exact hi m
       ·rw[c3] at c2;exact ytk c2
     constructor
     ·rintro (m|⟨m,n⟩)
      ·have:=k.1 (.inl m);refine⟨?_,m▸nmn⟩;rcases this with c|c
       ·exact .inr c
       ·exact .inl (.inl c)
      ·refine⟨?_,n⟩;rcases m with m|m
       ·exact .inl (.inr m)
       ·rcases k.1 (.inr m) with c|c
        ·exact .inr c
        ·exact .inl (.inl c)
     ·rintro ⟨(m|m)|m,n⟩
      ·rcases k.2 (.inr m) with c|c
       ·exact .inl c
       ·exact .inr ⟨.inr c,n⟩
      ·exact .inr ⟨.inl m,n⟩
      ·rcases k.2 (.inl m) with c|c
       ·exact .inl c
       ·exact .inr ⟨.inr c,n⟩
    ·obtain⟨z1,z2⟩:=i4 z hz;refine⟨z1,?_⟩;rcases z2 with c|c
     ·rcases Tw x y with c2|c2
      ·exact .inl (c.trans c2)
      ·exact .inr (c.trans c2▸bO)
     ·exact .inr (eo _ c)
def tp (h:List It) (r:List Op):Option (Option It):=if gI h r=0 then aa (hi (tk h r)) else aj
def upO (x:It):Option (Option It)->Option It
 |none=>aj
 |some m=>up (aa x) m
theorem Pw (x y:It):up (aa x) (aa y)=aa (mx x y):=by
 show(if ah x y then aa y else aa x)=aa (mx x y)
 unfold mx;split<;>rfl
theorem O3:∀ {r:List Op} {h:List It} {x:It},sW x h r=upO x (tp h r)
 |[],h,x=>rfl
 |o::r,h,x=>by
  rcases iX o with e|e
  ·rw[Yi e,O3];unfold tp;rw[oB e,oE e]
  ·cases h with
   |nil =>
    rw[TL e];unfold tp;rw[so e,if_neg (by omega)]
    rfl
   |cons y h =>
    rw[XN e,O3];unfold tp;rw[ng e,oC e];split
    ·show up (aa (mx x y)) (hi (tk h r))=up (aa x) (up (aa y) (hi (tk h r)))
     rw[← Vs,Pw]
    ·rfl
def pz (g:It->Bool) (h:List It) (r:List Op):Nat:=gI h r+h.countP g
def wt (g:It->Bool) (o:Op):Int:=if o.ins=aq then if g o.it=aq then 1 else 0 else -1
def je (g:It->Bool) (h:List It) (r:List Op):Prop:=∀ z,z∈h∨z∈gw r->(g z=aq↔z∈tk h r)
theorem je.n8 {g:It->Bool} {h:List It} {o:Op} {r:List Op} (c:je g h (o::r)) (a:Ap h (o::r)):je g (n8 h o) r:=by
 intro z hz;unfold Pa.n8 at *
 rcases iX o with e|e
 ·rw[if_pos e] at *
  have := c z (by rw [xI e]; rcases hz with m | m
                  · rcases jW.1 m with m|m
                    · exact .inr (m▸bO)
                    · exact .inl m
                  · exact .inr (eo _ m))
  rw[oE e] at this;exact this
 ·rw[if_neg (by rw[e];decide)] at *
  have := c z (by rw [qU e]; rcases hz with m | m
                  · exact .inl (Bb m)
                  · exact .inr m)
  rw[vH e] at this;rw[this];cases h with
  |nil=>simp
  |cons y h =>
   have kt:z≠y:=by
    rintro rfl
    rcases hz with m|m
    ·exact yu a.ord m
    ·have:=a.ap z bO;rw[qU e] at this;exact this m
   simp[kt]
theorem N' (g:It->Bool) (x:It):∀ l:List It,(hO x l).countP g=l.countP g+if g x=aq then 1 else 0
 |[]=>by simp[hO,vz]
 |y::l=>by
  rw[hO];split
  ·rw[vz]
  ·rw[vz,N' g x l,vz];omega
theorem agJ {g:It->Bool} {h:List It} {o:Op} {r:List Op} (c:je g h (o::r)) (a:Ap h (o::r)):(pz g (n8 h o) r:Int)=pz g h (o::r)+wt g o:=by
 unfold pz wt n8;rcases iX o with e|e
 ·rw[if_pos e,if_pos e,oB e,N'];split<;>omega
 ·rw[if_neg (by rw[e];decide),if_neg (by rw[e];decide)]
  cases h with
  |nil =>
   rw[so e];show((gI [] r+0:Nat):Int)=((1+gI [] r+0:Nat):Int) + -1
   omega
  |cons y h =>
   have hg:g y=aq:=(c y (.inl bO)).2 (by rw[vH e];simp)
   rw[ng e,vz,if_pos hg];show((gI h r+h.countP g:Nat):Int)=_
   omega
theorem Ou {g:It->Bool} {h:List It} {r:List Op} (hp:0<pz g h r):0<gI h r∨∃ z,z∈h/\g z=aq:=by
 unfold pz at hp;rcases mc (gI h r) with e|e
 ·rw[e,b5] at hp;obtain⟨z,h1,h2⟩:=Jp.1 hp;exact .inr ⟨z,h1,h2⟩
 ·exact .inl e
theorem GB {g:It->Bool} {h:List It} {r:List Op} (hp:pz g h r=0):gI h r=0/\∀ z,z∈h->g z=ao:=by
 unfold pz at hp;refine⟨by omega,fun z hz=>?_⟩
 have:=Jq.1 (show h.countP g=0 by omega) z hz
 simpa using this
theorem H3:∀ {l:List It} {z:It},z∈l->∃ m,hi l=aa m/\(m=z∨ah z m)
 |a::l,z,hz=>by
  rcases bR.1 hz with e|e
  ·subst e;show ∃ m,up (aa z) (hi l)=aa m/\_
   cases hi l with
   |none=>exact⟨z,rfl,.inl rfl⟩
   |some b =>
    rw[Pw];refine⟨_,rfl,?_⟩;unfold mx;split
    ·rename_i c;exact .inr c
    ·exact .inl rfl
  ·obtain⟨m,h1,h2⟩:=H3 e;show ∃ m,up (aa a) (hi l)=aa m/\_
   rw[h1,Pw];refine⟨_,rfl,?_⟩;unfold mx;split
   ·exact h2
   ·rename_i c;rcases h2 with h2|h2
    ·subst h2
     by_cases c2:m=a
     ·exact .inl c2.symm
     ·rcases S_ c2 with c3|c3
      ·exact .inr c3
      ·exact absurd c3 c
    ·by_cases c2:m=a
     ·subst c2;exact .inr h2
     ·rcases S_ c2 with c3|c3
      ·exact .inr (O1 h2 c3)
      ·exact absurd c3 c
theorem ahc {g:It->Bool} {h:List It} {o:Op} {r:List Op} (c:je g h (o::r)) (a:Ap h (o::r)) (hp:0<pz g (n8 h o) r):tp h (o::r)=tp (n8 h o) r:=by
 have c':=c.n8 a;have a':=a.n8;unfold tp;rcases iX o with e|e
 ·rw[oB e,oE e];unfold n8;rw[if_pos e]
 ·have es:n8 h o=h.tail:=by unfold n8;rw[if_neg (by rw[e];decide)]
  rw[es] at hp c' a' ⊢;cases h with
  |nil =>
   have:0<gI [] r:=by
    rcases Ou hp with h1|⟨z,h1,_⟩
    ·exact h1
    ·cases h1
   rw[so e,if_neg (by omega)]
   show aj=if gI [] r=0 then _ else aj
   rw[if_neg (by omega)]
  |cons y h =>
   rw[ng e,oC e];show(if gI h r=0 then aa (up (aa y) (hi (tk h r))) else aj)=(if gI h r=0 then aa (hi (tk h r)) else aj)
   split
   ·rename_i h0;rcases Ou hp with h1|⟨z,h1,h2⟩
    ·rw[oU] at h1;omega
    ·have h3:=(c' z (.inl h1)).1 h2;obtain⟨m,m1,m2⟩:=H3 h3;have hyz:ah y z:=Cp a.ord h1;rw[oU] at m1;rw[m1,Pw];unfold mx;rw[if_pos (by rcases m2 with m2|m2;exact m2▸hyz;exact O1 hyz m2)]
   ·rfl
def pI (z:It) (h:List It):List Op->Option It
 |[]=>aa z
 |o::r=>if o.ins=aq then pI z (hO o.it h) r else if h.headD iz=z then(if h.tail=[] then aj else pI (h.tail.headD iz) h.tail r) else pI z h.tail r
theorem Nj {z:It} {h:List It} {o:Op} {r:List Op} (e:o.ins=aq):pI z h (o::r)=pI z (hO o.it h) r:=by rw[pI,if_pos e]
theorem M7 {z y:It} {h:List It} {o:Op} {r:List Op} (e:o.ins=ao) (kt:y≠z):pI z (y::h) (o::r)=pI z h r:=by rw[pI,if_neg (by rw[e];decide),if_neg (show ¬ (y::h).headD iz=z from kt)];rfl
theorem Uq {z:It} {o:Op} {r:List Op} (e:o.ins=ao):pI z [z] (o::r)=aj:=by rw[pI,if_neg (by rw[e];decide),if_pos (show[z].headD iz=z from rfl),if_pos (show[z].tail=[] from rfl)]
theorem UL {z w:It} {h:List It} {o:Op} {r:List Op} (e:o.ins=ao):pI z (z::w::h) (o::r)=pI w (w::h) r:=by rw[pI,if_neg (by rw[e];decide),if_pos (show(z::w::h).headD iz=z from rfl),if_neg (show ¬ (z::w::h).tail=[] by simp)];rfl
theorem wM:∀ {r:List Op} {h:List It} {z:It},z∈h->z∉tk h r->pI z h r=aa z
 |[],h,z,_,_=>rfl
 |o::r,h,z,hz,hn=>by
  rcases iX o with e|e
  ·rw[oE e] at hn;rw[Nj e];exact wM (jW.2 (.inr hz)) hn
  ·cases h with
   |nil=>cases hz
   |cons y h =>
    rw[oC e,bR,not_or] at hn;rw[M7 e (Ne.symm hn.1)];rcases bR.1 hz with m|m
    ·exact absurd m hn.1
    ·exact wM m hn.2
theorem Nx {y:It} {h:List It} (a:Ord (y::h)):pN y (y::h)=h:=by
 refine zl (zU a) (D9 a) fun z=>?_
 rw[ph,bR]
 constructor
 ·rintro ⟨m|m,n⟩
  ·exact absurd m n
  ·exact m
 ·intro m;exact⟨.inr m,fun e=>yu a (e▸m)⟩
theorem aed {y z:It} {h:List It} (kt:y≠z):pN z (y::h)=y::pN z h:=by
 unfold pN;rw[kd,decide_eq_false kt];rfl
theorem agN {y z:It} {h:List It} (a:Ord h) (hy:y∉h) (kt:y≠z):pN z (hO y h)=hO y (pN z h):=by
 refine zl (zU (pf a hy)) (pf (zU a) fun m=>hy (ph.1 m).1) fun w=>?_
 rw[ph,jW,jW,ph]
 constructor
 ·rintro ⟨m|m,n⟩
  ·exact .inl m
  ·exact .inr ⟨m,n⟩
 ·rintro (m|⟨m,n⟩)
  ·exact⟨.inl m,m▸kt⟩
  ·exact⟨.inr m,n⟩
theorem D5:∀ {r:List Op} {h:List It} {z:It},Ap h r->z∈h ->
  fin (pN z h) r=(match pI z h r with|none=>fin h r|some w=>pN w (fin h r)) /\
  gI (pN z h) r=gI h r+(if pI z h r=aj then 1 else 0) /\
  (∀ w,w∈tk (pN z h) r↔w≠z/\(w∈tk h r∨pI z h r=aa w))/\(∀ w,pI z h r=aa w->w∈fin h r)
 |[],h,z,a,hz=>by
  refine⟨rfl,rfl,fun w=>?_,fun w hw=>by cases hw;exact hz⟩
  show w∈([]:List It)↔w≠z/\(w∈([]:List It)∨aa z=aa w)
  constructor
  ·intro m;cases m
  ·rintro ⟨n,m|m⟩
   ·exact m
   ·cases m;exact absurd rfl n
 |o::r,h,z,a,hz=>by
  rcases iX o with e|e
  ·obtain⟨a',n1,n2⟩:=a.ins e;have kt:o.it≠z:=fun c=>n1 (c▸hz)
   have ih:=D5 a' (jW.2 (.inr hz));rw[agN a.ord n1 kt] at ih;rw[s9 e,s9 e,oB e,oB e,oE e,oE e,Nj e];exact ih
  ·have a':=a.del e;cases h with
   |nil=>cases hz
   |cons y h =>
    have hyi:y∉gw r:=by have:=a.ap y bO;rwa [qU e] at this
    have ytk:y∉tk h r:=fun m=>by
     rcases qS a' y m with m|m
     ·exact yu a.ord m
     ·exact hyi m
    have amW:y∉fin h r:=fun m=>by
     rcases((qT a' y).1 m).1 with m|m
     ·exact yu a.ord m
     ·exact hyi m
    by_cases kt:y=z
    ·subst kt;rw[Nx a.ord];cases h with
     |nil =>
      rw[ny e,ny e,so e,ng e,BV e,oC e,Uq e];refine⟨rfl,?_,fun w=>?_,fun w hw=>by cases hw⟩
      ·rw[if_pos rfl];omega
      ·rw[bR]
       constructor
       ·intro m;exact⟨fun c=>ytk (c▸m),.inl (.inr m)⟩
       ·rintro ⟨n,(m|m)|m⟩
        ·exact absurd m n
        ·exact m
        ·cases m
     |cons w h =>
      obtain⟨i1,i2,i3,i4⟩:=D5 a' bO;rw[oU] at i1 i2 i3 i4;rw[Nx (D9 a.ord)] at i1 i2 i3;rw[ny e,ny e,ng e,ng e,oC e,oC e,UL e];refine⟨i1,i2,fun v=>?_,i4⟩
      have wy:w≠y:=fun c=>yu a.ord (c▸bO)
      rw[bR,bR,i3]
      constructor
      ·rintro (m|⟨n,m|m⟩)
       ·subst m;refine⟨wy,?_⟩
        by_cases c:v∈tk (v::h) r
        ·exact .inl (.inr c)
        ·exact .inr (wM bO c)
       ·exact⟨fun c=>ytk (c▸m),.inl (.inr m)⟩
       ·exact⟨fun c=>amW (c▸i4 _ m),.inr m⟩
      ·rintro ⟨n,(m|m)|m⟩
       ·exact absurd m n
       ·by_cases c:v=w
        ·exact .inl c
        ·exact .inr ⟨c,.inl m⟩
       ·by_cases c:v=w
        ·exact .inl c
        ·exact .inr ⟨c,.inr m⟩
    ·have GK:z∈h:=by
      rcases bR.1 hz with m|m
      ·exact absurd m.symm kt
      ·exact m
     obtain⟨i1,i2,i3,i4⟩:=D5 a' GK;rw[oU] at i1 i2 i3 i4;rw[aed kt,ny e,ny e,ng e,ng e,oC e,oC e,M7 e kt];refine⟨i1,i2,fun v=>?_,i4⟩
     rw[bR,bR,i3]
     constructor
     ·rintro (m|⟨n,m|m⟩)
      ·exact⟨m▸kt,.inl (.inl m)⟩
      ·exact⟨n,.inl (.inr m)⟩
      ·exact⟨n,.inr m⟩
     ·rintro ⟨n,(m|m)|m⟩
      ·exact .inl m
      ·exact .inr ⟨n,.inl m⟩
      ·exact .inr ⟨n,.inr m⟩
theorem Pu:∀ {r:List Op} {h:List It},0<gI h r->∀ z,z∈h->z∈tk h r
 |[],h,hp,z,hz=>by simp[gI] at hp
 |o::r,h,hp,z,hz=>by
  rcases iX o with e|e
  ·rw[oB e] at hp;rw[oE e];exact Pu hp z (jW.2 (.inr hz))
  ·cases h with
   |nil=>cases hz
   |cons y h =>
    rw[ng e] at hp;rw[oC e];rcases bR.1 hz with m|m
    ·exact m▸bO
    ·exact eo _ (Pu hp z m)
theorem Tf:∀ {r:List Op} {h:List It},Ap h r->∀ {y z:It},z∈tk h r->y∈h->ah y z->y∈tk h r
 |[],h,a,y,z,hz,hy,c=>by cases hz
 |o::r,h,a,y,z,hz,hy,c=>by
  rcases iX o with e|e
  ·rw[oE e] at *
   exact Tf (a.ins e).1 hz (jW.2 (.inr hy)) c
  ·cases h with
   |nil=>cases hy
   |cons w h =>
    rw[oC e] at *
    rcases bR.1 hy with m|m
    ·exact m▸bO
    ·rcases bR.1 hz with m'|m'
     ·subst m';exact absurd (Cp a.ord m) (sx c)
     ·exact eo _ (Tf (a.del e) m' m c)
def I5 (g:It->Bool) (h:List It):List Op->List It
 |[]=>h
 |o::r=>if pz g h (o::r)=0 then h else I5 g (n8 h o) r
theorem D8 {g:It->Bool} {h:List It} {r:List Op} (hz:pz g h r=0):I5 g h r=h:=by
 cases r with
 |nil=>rfl
 |cons o r=>rw[I5,if_pos hz]
theorem Qm {h:List It} {o:Op} (e:o.ins=aq):n8 h o=hO o.it h:=by unfold n8;rw[if_pos e]
theorem K8 {h:List It} {o:Op} (e:o.ins=ao):n8 h o=h.tail:=by unfold n8;rw[if_neg (by rw[e];decide)]
theorem D6 {g:It->Bool}:∀ {r:List Op} {h:List It},0<gI h r->I5 g h r=[]
 |[],h,hp=>by simp[gI] at hp
 |o::r,h,hp=>by
  rw[I5,if_neg (by unfold pz;omega)]
  rcases iX o with e|e
  ·rw[Qm e];rw[oB e] at hp;exact D6 hp
  ·rw[K8 e];cases h with
   |nil =>
    rcases mc (gI [] r) with c|c
    ·exact D8 (h:=[]) (by unfold pz;rw[c];rfl)
    ·exact D6 (h:=[]) c
   |cons y h =>
    rw[ng e] at hp;exact D6 hp
theorem GD {g:It->Bool}:∀ {r:List Op} {h:List It} {z:It},Ap h r->je g h r->z∈h->g z=aq->pI z h r=(I5 g h r).head?
 |[],h,z,a,c,hz,hg=>by have:=(c z (.inl hz)).1 hg;cases this
 |o::r,h,z,a,c,hz,hg=>by
  have hp:pz g h (o::r)≠0:=by
   have:0<h.countP g:=Jp.2 ⟨z,hz,hg⟩;unfold pz;omega
  have a':=a.n8;have c':=c.n8 a;rw[I5,if_neg hp];rcases iX o with e|e
  ·rw[Qm e] at *
   rw[Nj e];exact GD a' c' (jW.2 (.inr hz)) hg
  ·rw[K8 e] at *
   cases h with
   |nil=>cases hz
   |cons y h =>
    rw[oU] at *
    by_cases kt:y=z
    ·subst kt;cases h with
     |nil =>
      rw[Uq e];rcases mc (gI [] r) with k|k
      ·rw[D8 (by unfold pz;rw[k];rfl)];rfl
      ·rw[D6 k];rfl
     |cons w h =>
      rw[UL e];rcases mc (pz g (w::h) r) with k|k
      ·rw[D8 k];have hw:w∉tk (w::h) r:=fun m=>by
        have:=(c' w (.inl bO)).2 m;rw[(GB k).2 w bO] at this;cases this
       exact wM bO hw
      ·refine GD a' c' bO ?_;refine(c' w (.inl bO)).2 ?_;rcases Ou k with k1|⟨v,k1,k2⟩
       ·exact Pu k1 w bO
       ·have k3:=(c' v (.inl k1)).1 k2;rcases bR.1 k1 with m|m
        ·exact m▸k3
        ·exact Tf a' k3 bO (Cp a'.ord m)
    ·rw[M7 e kt];have GK:z∈h:=by
      rcases bR.1 hz with m|m
      ·exact absurd m.symm kt
      ·exact m
     exact GD a' c' GK hg
theorem ai9 {g:It->Bool} {r:List Op} {y:It} {h:List It} (a:Ap (y::h) r) (c:je g (y::h) r):pI y (y::h) r=(I5 g (y::h) r).head?:=by
 rcases mc (pz g (y::h) r) with k|k
 ·rw[D8 k];refine wM bO fun m=>?_
  have:=(c y (.inl bO)).2 m;rw[(GB k).2 y bO] at this;cases this
 ·refine GD a c bO ?_;refine(c y (.inl bO)).2 ?_;rcases Ou k with k1|⟨v,k1,k2⟩
  ·exact Pu k1 y bO
  ·have k3:=(c v (.inl k1)).1 k2;rcases bR.1 k1 with m|m
   ·exact m▸k3
   ·exact Tf a k3 bO (Cp a.ord m)
theorem qa:∀ (a b:List Op) (h:List It),fin h (a++b)=fin (fin h a) b
 |[],b,h=>rfl
 |o::a,b,h=>by show fin (n8 h o) (a++b)=fin (fin (n8 h o) a) b;exact qa a b _
theorem vM:∀ (a b:List Op) (h:List It),tk h (a++b)=tk h a++tk (fin h a) b
 |[],b,h=>rfl
 |o::a,b,h=>by
  rcases iX o with e|e
  ·rw[mo,oE e,oE e,s9 e];exact vM a b _
  ·rw[mo,vH e,vH e,ny e,vM a b,rD]
theorem ud:∀ (a b:List Op) (h:List It),gI h (a++b)=gI h a+gI (fin h a) b
 |[],b,h=>by show _=0+_;rw[b5];rfl
 |o::a,b,h=>by
  rcases iX o with e|e
  ·rw[mo,oB e,oB e,s9 e];exact ud a b _
  ·rw[mo,zz e,zz e,ny e,ud a b];omega
theorem EI:∀ {a b:List Op} {h:List It},Ap h (a++b)->Ap (fin h a) b
 |[],b,h,k=>k
 |o::a,b,h,k=>EI (a:=a) k.n8
theorem Hg {g:It->Bool}:∀ {a b:List Op} {h:List It},Ap h (a++b)->je g h (a++b)->je g (fin h a) b
 |[],b,h,k,c=>c
 |o::a,b,h,k,c=>Hg (a:=a) k.n8 (c.n8 k)
def wts (g:It->Bool):List Op->Int
 |[]=>0
 |o::r=>wt g o+wts g r
theorem afz {g:It->Bool}:∀ {a b:List Op} {h:List It},Ap h (a++b)->je g h (a++b)->(pz g (fin h a) b:Int)=pz g h (a++b)+wts g a
 |[],b,h,k,c=>by show(pz g h b:Int)=pz g h b+0;omega
 |o::a,b,h,k,c=>by
  have h1:=afz (a:=a) (b:=b) k.n8 (c.n8 k);have h2:=agJ (r:=a++b) c k;show(pz g (fin (n8 h o) a) b:Int)=pz g h (o::(a++b))+(wt g o+wts g a)
  omega
theorem Xk {g:It->Bool}:∀ {m b:List Op} {h:List It},Ap h (m++b)->je g h (m++b)->(∀ a c,m=a++c->a≠[]->0<pz g (fin h a) (c++b))->tp h (m++b)=tp (fin h m) b
 |[],b,h,k,c,hp=>rfl
 |o::m,b,h,k,c,hp=>by
  have h1:tp h (o::(m++b))=tp (n8 h o) (m++b):=ahc c k (hp [o] m rfl (by simp))
  rw[mo,h1];exact Xk (m:=m) k.n8 (c.n8 k) fun a c' e kt=>hp (o::a) c' (by rw[e];rfl) (by simp)
theorem ace {g:It->Bool}:∀ {r:List Op} {h:List It},Ap h r->je g h r->∃ a b,r=a++b/\I5 g h r=fin h a/\pz g (fin h a) b=0/\∀ c d,r=c++d->c.length<a.length->0<pz g (fin h c) d
 |[],h,k,c=>⟨[],[],rfl,rfl,by
   unfold pz;have:h.countP g=0:=Jq.2 fun z hz hg=>by have:=(c z (.inl hz)).1 hg;cases this
   show 0+h.countP g=0
   omega,fun c d e hl=>by simp at hl⟩
 |o::r,h,k,c=>by
  rw[I5];split
  ·rename_i h0;exact⟨[],o::r,rfl,rfl,h0,fun c d e hl=>by simp at hl⟩
  ·rename_i h0;obtain⟨a,b,e1,e2,e3,e4⟩:=ace k.n8 (c.n8 k);refine⟨o::a,b,by rw[e1];rfl,e2,e3,fun c' d e hl=>?_⟩
   cases c' with
   |nil=>rw[pb] at e;subst e;exact Nat.pos_of_ne_zero h0
   |cons o' c' =>
    rw[mo,List.cons.injEq] at e;obtain⟨rfl,e⟩:=e;exact e4 c' d e (by simpa using hl)
end Pa
namespace Gv
open Rx
section
variable {E A:Type} {O:iL E A}
def qR (O:iL E A) (e:E) (l:List E):Nat:=(oD O e l).length
theorem afP (e:E):qR O e []=0:=rfl
theorem PC {e y:E} {l:List E} (h:0<O.cmp e y):qR O e (y::l)=qR O e l+1:=by
 unfold qR;rw[(xB h).1];rfl
theorem Lv {e y:E} {l:List E} (h:¬ 0<O.cmp e y):qR O e (y::l)=0:=by
 unfold qR;rw[(Nq h).1];rfl
theorem aka (e:E) (l:List E):qR O e l≤l.length:=by
 have:=congrArg ae (G4 (O:=O) e l);rw[bJ] at this;unfold qR;omega
theorem V8 {e:E}:∀ {l:List E} {j:Nat},j<qR O e l->0<O.cmp e (l.getD j O.e0)
 |[],j,h=>by rw[afP] at h;omega
 |y::l,j,h=>by
  by_cases c:0<O.cmp e y
  ·rw[PC c] at h;cases j with
   |zero=>simpa using c
   |succ j=>rw[wm];exact V8 (by omega)
  ·rw[Lv c] at h;omega
theorem VJ {e:E}:∀ {l:List E},qR O e l<l.length->¬ 0<O.cmp e (l.getD (qR O e l) O.e0)
 |[],h=>by simp at h
 |y::l,h=>by
  by_cases c:0<O.cmp e y
  ·rw[PC c] at h ⊢;rw[wm];exact VJ (by simpa using h)
  ·rw[Lv c];simpa using c
theorem OR (e:E) (l:List E):oD O e l=l.take (qR O e l):=by
 have h:=Gd (l₁:=oD O e l) (l₂:=rV O e l) rfl;rw[G4] at h;exact h.symm
theorem PT (e:E) (l:List E):rV O e l=l.drop (qR O e l):=by
 have h:=Ge (l₁:=oD O e l) (l₂:=rV O e l) rfl;rw[G4] at h;exact h.symm
theorem VP (e:E) (l:List E):(jw O e l).isSome=(decide (qR O e l<l.length)&&decide (O.cmp e (l.getD (qR O e l) O.e0)=0)):=by
 unfold jw;rw[PT]
 by_cases h:qR O e l<l.length
 ·rw[oX h,ax,bj h,decide_eq_true h];simp only[lG,ji];split
  ·rename_i c;rw[decide_eq_true c];rfl
  ·rename_i c;rw[decide_eq_false c];rfl
 ·rw[List.drop_eq_nil_of_le (by omega),decide_eq_false h];rfl
theorem V1 (e:E) (l:List E):lh O e l=l.take (qR O e l)++e::l.drop (if(jw O e l).isSome then qR O e l+1 else qR O e l):=by
 unfold lh;rw[OR,PT];cases h:jw O e l with
 |none=>rfl
 |some x=>simp[HD]
variable {S:List E->A} {dm:List E->Prop} (Z:yH O S dm)
include Z
theorem Vy {e:E} {l:List E} {i:Nat} (hs:uz O l) (hi:i<l.length) (he:O.cmp e (l.getD i O.e0)=0):qR O e l=i:=by
 have gi:l.getD i O.e0=l[i]:=by rw[ax,bj hi];rfl
 rcases nV (qR O e l) i with h|h|h
 ·have h1:=VJ (O:=O) (e:=e) (l:=l) (by omega)
  have g:l.getD (qR O e l) O.e0=l[qR O e l]'(by omega):=by rw[ax,bj (by omega)];rfl
  rw[gi] at he;have h2:=(DB.1 hs) (qR O e l) i (by omega) hi h
  have h3:=Z.ZN _ _ _ he h2;rw[g] at h1;exact absurd ((Z.swap _ _).1 h3) h1
 ·exact h
 ·have:=V8 (O:=O) (e:=e) (l:=l) h;omega
theorem afJ {e:E} {l:List E} {i:Nat} (hs:uz O l) (hi:i<l.length) (he:O.cmp e (l.getD i O.e0)=0):iv O e l=(l.getD i O.e0,aq):=by
 have hr:=Vy Z hs hi he;have gi:l.getD i O.e0=l[i]:=by rw[ax,bj hi];rfl
 have hh:jw O e l=aa (l.getD i O.e0):=by
  unfold jw;rw[PT,hr,oX hi];simp only;rw[gi] at he ⊢;rw[if_pos he]
 unfold iv;rw[hh];rfl
end
end Gv
namespace Gv
open Rx
set_option linter.unusedSectionVars false
section
variable {E A:Type} {O:iL E A} {S:List E->A} {dm:List E->Prop} (Z:yH O S dm)
structure AW (O:iL E A) (S:List E->A) (may:A->A->Bool) (P:Nat->Bool) (L:List E):Prop extends Asks O S may P L where
 ex:∀ p l q,p++(l++q)=L->l≠[]->may (S p) (S l)=aq->∃ i,p.length≤i/\i<p.length+l.length/\P i=aq
def F' (h a b:Nat) (f r:Int) (kk:Nat):Prop:=kk≤4*h/\(f≤a->kk≤2*h)/\(r<0->kk≤2*h)/\(f≤a->r<0->kk=0)/\((b:Int)≤f->kk=0)
def FI (h a b:Nat) (u r:Int) (kk:Nat):Prop:=kk≤4*h/\((b:Int)≤u->kk≤2*h)/\(r<0->kk≤2*h)/\((b:Int)≤u->r<0->kk=0)/\(u≤a->kk=0)
theorem YW {hl hq a ll b:Nat} {f r:Int} {kk:Nat} (x:F' hl a (a+ll) f r kk) (h3:0≤r) (hc:¬ ((b:Nat):Int)≤f):F' (1+max hl hq) a b f r (1+kk):=by
 obtain⟨x1,x2,x3,x4,x5⟩:=x;exact⟨by omega,fun w=>by have:=x2 w;omega,fun w=>by omega,fun w w'=>by omega,fun w=>absurd w hc⟩
theorem ab1 {hl hq a ll b:Nat} {f r rl:Int} {kk:Nat} (x:F' hl a (a+ll) f rl kk) (h3:rl<0) (h0:0≤r) (hc:¬ ((b:Nat):Int)≤f):F' (1+max hl hq) a b f r (1+kk):=by
 obtain⟨x1,x2,x3,x4,x5⟩:=x;have z3:=x3 h3;exact⟨by omega,fun w=>by have:=x2 w;omega,fun w=>by omega,fun w w'=>by omega,fun w=>absurd w hc⟩
theorem WN {hl hq a ll lq am:Nat} {f rl rq:Int} {kk PQ:Nat} (x:F' hl a (a+ll) f rl kk) (y:F' hq am (am+lq) f rq PQ) (hm:am=a+ll+1) (h3:rl<0) (h0:f≤a->¬ rq<0) (hc:¬ ((a+(ll+(lq+1)):Nat):Int)≤f) :
  F' (1+max hl hq) a (a+(ll+(lq+1))) f rq (1+kk+1+PQ):=by
 subst hm;obtain⟨x1,x2,x3,x4,x5⟩:=x;obtain⟨y1,y2,y3,y4,y5⟩:=y;have z3:=x3 h3;refine⟨?_,fun w=>?_,fun w=>?_,fun w w'=>absurd w' (h0 w),fun w=>absurd w hc⟩
 ·by_cases w2:f≤((a+ll+1:Nat):Int)
  ·have:=y2 w2;omega
  ·have:=x5 (by omega);omega
 ·have:=y2 (by omega);have:=x4 w h3;omega
 ·have:=y3 w
  by_cases w2:f≤((a+ll+1:Nat):Int)
  ·have:=y4 w2 w;omega
  ·have:=x5 (by omega);omega
theorem WD {hl hq a ll lq b am:Nat} {u r:Int} {kk:Nat} (x:FI hq am (am+lq) u r kk) (hm:am=a+ll+1) (h3:0≤r) (hb:b=a+(ll+(lq+1))) (hc:¬ u≤((a:Nat):Int)):FI (1+max hl hq) a b u r (2+kk):=by
 subst hm;obtain⟨x1,x2,x3,x4,x5⟩:=x;exact⟨by omega,fun w=>by have:=x2 (by omega);omega,fun w=>by omega,fun w w'=>by omega,fun w=>absurd w hc⟩
theorem aa6 {hl hq a ll lq b am:Nat} {u r rl:Int} {kk:Nat} (x:FI hq am (am+lq) u rl kk) (hm:am=a+ll+1) (h3:rl<0) (h0:0≤r) (hb:b=a+(ll+(lq+1))) (hc:¬ u≤((a:Nat):Int)):FI (1+max hl hq) a b u r (2+kk):=by
 subst hm;obtain⟨x1,x2,x3,x4,x5⟩:=x;have z3:=x3 h3;exact⟨by omega,fun w=>by have:=x2 (by omega);omega,fun w=>by omega,fun w w'=>by omega,fun w=>absurd w hc⟩
theorem Zq {hl hq a ll lq am:Nat} {u rl rq:Int} {kk PQ:Nat} (x:FI hq am (am+lq) u rq kk) (hm:am=a+ll+1) (y:FI hl a (a+ll) u rl PQ) (h3:rq<0) (h0:((a+(ll+(lq+1)):Nat):Int)≤u->¬ rl<0) (hc:¬ u≤((a:Nat):Int)) :
  FI (1+max hl hq) a (a+(ll+(lq+1))) u rl (2+kk+PQ):=by
 subst hm;obtain⟨x1,x2,x3,x4,x5⟩:=x;obtain⟨y1,y2,y3,y4,y5⟩:=y;have z3:=x3 h3;refine⟨?_,fun w=>?_,fun w=>?_,fun w w'=>absurd w' (h0 w),fun w=>absurd w hc⟩
 ·by_cases w2:((a+ll:Nat):Int)≤u
  ·have:=y2 w2;omega
  ·have:=x5 (by omega);omega
 ·have:=y2 (by omega);have:=x4 (by omega) h3;omega
 ·have:=y3 w
  by_cases w2:((a+ll:Nat):Int)≤u
  ·have:=y4 w2 w;omega
  ·have:=x5 (by omega);omega
include Z
theorem HL {n:Nat} {may:A->A->Bool} {P:Nat->Bool} {L:List E} {f:Int} (hA:AW O S may P L) (hg:dm L):∀ (t:Tr E) {k:Nat} {m:Po E A} {p s:List E},fX n m->Rp O S m t->p++(t.elems++s)=L->t.h<k ->
  ∃ kk,F' t.h p.length (p.length+t.elems.length) f (first O may k m (nd O S t) ⟨p.length,S p⟩ f).1 kk/\iJ [] kk (zn O) m (first O may k m (nd O S t) ⟨p.length,S p⟩ f).2
 |t,0,m,p,s,_,_,_,hk=>by omega
 |.nil,k+1,m,p,s,ho,hr,hL,hk=>by
  rw[first,if_pos (.inl (by rw[rJ];rfl))]
  exact⟨0,⟨dx _,fun _=>dx _,fun _=>dx _,fun _ _=>rfl,fun _=>rfl⟩,iJ.refl _ _ _ _⟩
 |.node r l x q,k+1,m,p,s,ho,⟨tw,nw,mv,mD⟩,hL,hk=>by
  have whole:=(H6 Z (f:=f) hA.toAsks hg (.node r l x q) (k:=k+1) (m:=m) (p:=p) (s:=s) ho ⟨tw,nw,mv,mD⟩ hL hk).1;simp only[Tr.h] at hk;have hlen:=Z.len _ hg;have p_:=rm (O:=O) (S:=S) Z.nil (.node r l x q);rw[← Tr.e8] at p_;have kl:lk O m l.root=nd O S l:=mv.root ho;have kq:lk O m q.root=nd O S q:=mD.root ho;have e1:(nd O S (Tr.node r l x q)).l=l.root:=rfl;have e2:(nd O S (Tr.node r l x q)).r=q.root:=rfl;have e3:(nd O S (Tr.node r l x q)).e=x:=rfl;have e5:¬ (nd O S (Tr.node r l x q)).h=0:=by rw[rJ];simp only[Tr.h];omega
  have Se:=congrArg ae hL;rw[Tr.gJ] at hL;have U5:p++(l.elems++(x::q.elems++s))=L:=by simpa using hL
  have Ox:(p++l.elems)++x::(q.elems++s)=L:=by simpa using hL
  have Jv:(p++l.elems++[x])++(q.elems++s)=L:=by simpa using hL
  have hex:=hA.ex p (Tr.node r l x q).elems s (by rw[Tr.gJ];exact hL) (by rw[Tr.gJ];simp)
  have F0:(Tr.node r l x q).elems.length=l.elems.length+(q.elems.length+1):=by rw[Tr.gJ];simp
  have U':l.h<k:=by omega
  have hkq:q.h<k:=by omega
  have hhh:(Tr.node r l x q).h=1+max l.h q.h:=rfl;rw[first,e1,e2,e3,p_] at whole ⊢
  simp only[kl,kU,ir,kq,rm Z.nil,← Tr.e8] at whole ⊢;simp only[bJ] at Se;have w1:W ((p.length:Int)+((Tr.node r l x q).elems.length:Int))=(p.length:Int)+(Tr.node r l x q).elems.length:=uv (by omega)
  rw[w1] at whole ⊢
  by_cases c1:(nd O S (Tr.node r l x q)).h=0∨(p.length:Int)+(Tr.node r l x q).elems.length≤f
  ·rw[if_pos c1];exact⟨0,⟨dx _,fun _=>dx _,fun _=>dx _,fun _ _=>rfl,fun _=>rfl⟩,iJ.refl _ _ _ _⟩
  ·rw[if_neg c1] at whole ⊢;have hc:¬ ((p.length+(Tr.node r l x q).elems.length:Nat):Int)≤f:=fun h=>c1 (.inr (by omega))
   by_cases c2:(p.length:Int)≥f/\may (S p) (S (Tr.node r l x q).elems)=ao
   ·rw[if_pos c2];exact⟨0,⟨dx _,fun _=>dx _,fun _=>dx _,fun _ _=>rfl,fun _=>rfl⟩,iJ.refl _ _ _ _⟩
   ·rw[if_neg c2] at whole ⊢;have Q8:f≤p.length->∃ i:Nat,p.length≤i/\i<p.length+(Tr.node r l x q).elems.length/\P i=aq:=fun hf=>by
     cases hm:may (S p) (S (Tr.node r l x q).elems) with
     |false=>exact absurd ⟨hf,hm⟩ c2
     |true=>exact hex hm
    obtain⟨kk,x0,i2⟩:=HL hA hg l (k:=k) (m:=aH m l.root) (p:=p) (s:=x::q.elems++s) (dp.2 ho) (mv.aH _) U5 U';have hu:=(gN (zn O) m l.root).to i2 (S:=[]) (fun s hs=>by simp at hs) (bc _)
    rw[hhh]
    by_cases c3:(first O may k (aH m l.root) (nd O S l) ⟨p.length,S p⟩ f).1≥0
    ·rw[if_pos c3];exact⟨_,YW x0 c3 hc,hu⟩
    ·rw[if_neg c3] at whole ⊢;have Kf:dm (p++l.elems):=Z.left _ (x::(q.elems++s)) (by rw[Ox];exact hg)
     have Us:dm ((p++l.elems)++[x]):=Z.left _ (q.elems++s) (by rw[Jv];exact hg)
     rw[pB Z Kf,BO Z,pB Z Us] at whole ⊢
     by_cases c4:((p++l.elems).length:Int)≥f/\may (S (p++l.elems)) (O.sum x)=aq
     ·rw[if_pos c4];exact⟨_,ab1 x0 (IT.mp c3) (xj _) hc,hu⟩
     ·rw[if_neg c4] at whole ⊢;obtain⟨PQ,y0,j2⟩:=HL hA hg q (k:=k) (m:=aH (first O may k (aH m l.root) (nd O S l) ⟨p.length,S p⟩ f).2 q.root) (p:=p++l.elems++[x]) (s:=s) (dp.2 (Nb.2 (dp.2 ho)))
       ((Rp.frame hu (fun s _ hs=>by cases hs) mD).aH _) Jv hkq
      refine⟨_,?_,(hu.to (gN _ _ q.root) (S:=[]) (fun s hs=>by simp at hs) (bc _)).to j2 (fun s hs=>by simp at hs) (bc _)⟩
      have AM:(p++l.elems++[x]).length=p.length+l.elems.length+1:=by simp;omega
      rw[F0] at hc ⊢;refine WN x0 y0 AM (IT.mp c3) (fun hf hr=>?_) hc
      obtain⟨i,g1,g2,g3⟩:=Q8 hf;clear Q8 hex;rcases whole with⟨h1,h2⟩|⟨j,h1,_⟩
      ·rw[h2 i g1 g2 (by omega)] at g3;cases g3
      ·rw[h1] at hr;exact absurd hr (IN.mpr (xj j))
theorem JC {n:Nat} {may:A->A->Bool} {P:Nat->Bool} {L:List E} {u:Int} (hA:AW O S may P L) (hg:dm L):∀ (t:Tr E) {k:Nat} {m:Po E A} {p s:List E},fX n m->Rp O S m t->p++(t.elems++s)=L->t.h<k ->
  ∃ kk,FI t.h p.length (p.length+t.elems.length) u (last O may k m (nd O S t) ⟨p.length,S p⟩ u).1 kk/\iJ [] kk (zn O) m (last O may k m (nd O S t) ⟨p.length,S p⟩ u).2
 |t,0,m,p,s,_,_,_,hk=>by omega
 |.nil,k+1,m,p,s,ho,hr,hL,hk=>by
  rw[last,if_pos (.inl (by rw[rJ];rfl))]
  exact⟨0,⟨dx _,fun _=>dx _,fun _=>dx _,fun _ _=>rfl,fun _=>rfl⟩,iJ.refl _ _ _ _⟩
 |.node r l x q,k+1,m,p,s,ho,⟨tw,nw,mv,mD⟩,hL,hk=>by
  have whole:=(Ln Z (u:=u) hA.toAsks hg (.node r l x q) (k:=k+1) (m:=m) (p:=p) (s:=s) ho ⟨tw,nw,mv,mD⟩ hL hk).1;simp only[Tr.h] at hk;have hlen:=Z.len _ hg;have p_:=rm (O:=O) (S:=S) Z.nil (.node r l x q);rw[← Tr.e8] at p_;have kl:lk O m l.root=nd O S l:=mv.root ho;have kq:lk O m q.root=nd O S q:=mD.root ho;have e1:(nd O S (Tr.node r l x q)).l=l.root:=rfl;have e2:(nd O S (Tr.node r l x q)).r=q.root:=rfl;have e3:(nd O S (Tr.node r l x q)).e=x:=rfl;have e5:¬ (nd O S (Tr.node r l x q)).h=0:=by rw[rJ];simp only[Tr.h];omega
  have Se:=congrArg ae hL;rw[Tr.gJ] at hL;have U5:p++(l.elems++(x::q.elems++s))=L:=by simpa using hL
  have Ox:(p++l.elems)++x::(q.elems++s)=L:=by simpa using hL
  have Jv:(p++l.elems++[x])++(q.elems++s)=L:=by simpa using hL
  have hex:=hA.ex p (Tr.node r l x q).elems s (by rw[Tr.gJ];exact hL) (by rw[Tr.gJ];simp)
  have F0:(Tr.node r l x q).elems.length=l.elems.length+(q.elems.length+1):=by rw[Tr.gJ];simp
  have U':l.h<k:=by omega
  have hkq:q.h<k:=by omega
  have hhh:(Tr.node r l x q).h=1+max l.h q.h:=rfl;rw[last,e1,e2,e3,p_] at whole ⊢;simp only[kl,me,ir,kq,rm Z.nil,← Tr.e8] at whole ⊢;simp only[bJ] at Se;have w1:W ((p.length:Int)+((Tr.node r l x q).elems.length:Int))=(p.length:Int)+(Tr.node r l x q).elems.length:=uv (by omega)
  rw[w1] at whole ⊢
  by_cases c1:(nd O S (Tr.node r l x q)).h=0∨(p.length:Int)≥u
  ·rw[if_pos c1];exact⟨0,⟨dx _,fun _=>dx _,fun _=>dx _,fun _ _=>rfl,fun _=>rfl⟩,iJ.refl _ _ _ _⟩
  ·rw[if_neg c1] at whole ⊢;have hc:¬ u≤((p.length:Nat):Int):=fun h=>c1 (.inr h)
   by_cases c2:(p.length:Int)+(Tr.node r l x q).elems.length≤u/\may (S p) (S (Tr.node r l x q).elems)=ao
   ·rw[if_pos c2];exact⟨0,⟨dx _,fun _=>dx _,fun _=>dx _,fun _ _=>rfl,fun _=>rfl⟩,iJ.refl _ _ _ _⟩
   ·rw[if_neg c2] at whole ⊢;have Q8:((p.length+(Tr.node r l x q).elems.length:Nat):Int)≤u->∃ i:Nat,p.length≤i/\i<p.length+(Tr.node r l x q).elems.length/\P i=aq:=fun hf=>by
     cases hm:may (S p) (S (Tr.node r l x q).elems) with
     |false=>exact absurd ⟨by omega,hm⟩ c2
     |true=>exact hex hm
    have Kf:dm (p++l.elems):=Z.left _ (x::(q.elems++s)) (by rw[Ox];exact hg)
    have Us:dm ((p++l.elems)++[x]):=Z.left _ (q.elems++s) (by rw[Jv];exact hg)
    rw[pB Z Kf,BO Z,pB Z Us] at whole ⊢;obtain⟨kk,x0,i2⟩:=JC hA hg q (k:=k) (m:=aH (aH m l.root) q.root) (p:=p++l.elems++[x]) (s:=s) (dp.2 (dp.2 ho)) ((mD.aH _).aH _) Jv hkq;have hu:=(tK (O:=O) m l.root q.root).to i2 (S:=[]) (fun s hs=>by simp at hs) (bc _)
    have AM:(p++l.elems++[x]).length=p.length+l.elems.length+1:=by simp;omega
    rw[hhh]
    by_cases c3:(last O may k (aH (aH m l.root) q.root) (nd O S q) ⟨(p++l.elems++[x]).length,S (p++l.elems++[x])⟩ u).1≥0
    ·rw[if_pos c3];exact⟨_,WD x0 AM c3 (by rw[F0]) hc,hu⟩
    ·rw[if_neg c3] at whole ⊢
     by_cases c4:((p++l.elems).length:Int)<u/\may (S (p++l.elems)) (O.sum x)=aq
     ·rw[if_pos c4];exact⟨_,aa6 x0 AM (IT.mp c3) (xj _) (by rw[F0]) hc,hu⟩
     ·rw[if_neg c4] at whole ⊢;obtain⟨PQ,y0,j2⟩:=JC hA hg l (k:=k) (m:=(last O may k (aH (aH m l.root) q.root) (nd O S q) ⟨(p++l.elems++[x]).length,S (p++l.elems++[x])⟩ u).2) (p:=p) (s:=x::q.elems++s) (Qz.2 (dp.2 (dp.2 ho)))
       (Rp.frame hu (fun s _ hs=>by cases hs) mv) U5 U'
      refine⟨_,?_,hu.to j2 (S:=[]) (fun s hs=>by simp at hs) (bc _)⟩
      rw[F0] at Q8 whole ⊢;refine Zq x0 AM y0 (IT.mp c3) (fun hf hr=>?_) hc
      obtain⟨i,g1,g2,g3⟩:=Q8 hf;clear Q8 hex;rcases whole with⟨h1,h2⟩|⟨j,h1,_⟩
      ·rw[h2 i g1 g2 (by omega)] at g3;cases g3
      ·rw[h1] at hr;exact absurd hr (IN.mpr (xj j))
theorem ab4 {n K:Nat} {f:Int} {may:A->A->Bool} {P:Nat->Bool} {m:Po E A} {a b:Tr E} (h:St O S dm n m a b) (hA:AW O S may P a.elems) (hk:a.h<K) :
  nv (4*a.h+1) m (first O may K (aH m a.root) (lk O m a.root) ⟨0,O.a0⟩ f).2:=by
 have h2:=h.aH a.root;obtain⟨kk,r1,r2⟩:=HL Z (f:=f) hA h.ga a (k:=K) (p:=[]) (s:=[]) h2.ok h2.ra (by simp) hk
 have e0:(([]:List E).length:Int)=0:=rfl;rw[e0,Z.nil] at r2;rw[h.lk];exact(h.up (r:=a.root) r2).qA.mono (by have:=r1.1;omega)
theorem ado {n K:Nat} {f:Int} {may:A->A->Bool} {P:Nat->Bool} {m:Po E A} {a b:Tr E} (h:St O S dm n m a b) (hA:AW O S may P a.elems) (hk:a.h<K) :
  nv (4*a.h+1) m (last O may K (aH m a.root) (lk O m a.root) ⟨0,O.a0⟩ f).2:=by
 have h2:=h.aH a.root;obtain⟨kk,r1,r2⟩:=JC Z (u:=f) hA h.ga a (k:=K) (p:=[]) (s:=[]) h2.ok h2.ra (by simp) hk
 have e0:(([]:List E).length:Int)=0:=rfl;rw[e0,Z.nil] at r2;rw[h.lk];exact(h.up (r:=a.root) r2).qA.mono (by have:=r1.1;omega)
end
theorem TS.RM {E A:Type} {k:Kd E A} {may:A->A->Bool} {P:Nat->Bool} {s:TS k} {f:Int} (h:AW k.O k.S may P s.l):nv (4*nk s.l.length+1) s.m (s.first may f).m:=by
 obtain⟨a,b,h1,h2,h3,h4,h5,h6⟩:=s.ok;have hk:=s.k1;show nv _ s.m (kD k.O may KK (aH s.m s.r) (lk k.O s.m s.r) ⟨0,k.O.a0⟩ f).2
 rw[← h4] at h hk;rw[← h4,← h1];have hb:=a.Dp h3.ba;rw[← Tr.e8] at hb;exact(ab4 k.Z h3 h (iZ (s_ a) hk)).mono (by omega)
theorem TS.UR {E A:Type} {k:Kd E A} {may:A->A->Bool} {P:Nat->Bool} {s:TS k} {f:Int} (h:AW k.O k.S may P s.l):nv (4*nk s.l.length+1) s.m (s.last may f).m:=by
 obtain⟨a,b,h1,h2,h3,h4,h5,h6⟩:=s.ok;have hk:=s.k1;show nv _ s.m (jX k.O may KK (aH s.m s.r) (lk k.O s.m s.r) ⟨0,k.O.a0⟩ f).2
 rw[← h4] at h hk;rw[← h4,← h1];have hb:=a.Dp h3.ba;rw[← Tr.e8] at hb;exact(ado k.Z h3 h (iZ (s_ a) hk)).mono (by omega)
end Gv
namespace Br
open Rx Wv
def kA (n:Nat) (p:Int):Nat:=min p.toNat n
theorem TT (n:Nat) (p:Int):kA n p≤n:=Nat.min_le_right _ _
theorem zP {n i:Nat} (h:i≤n):kA n (i:Int)=i:=by unfold kA;omega
def vP (l:List Mk) (base:Int) (i:Nat):Int:=base+z9 (l.map ue) i
theorem ES (l:List Mk) (base:Int):vP l base 0=base:=by simp[vP,z9]
def nxt (l:List Mk) (base:Int):Nat->Nat->Int
 |_,0=>-1
 |i,j+1=>if vP l base i≤0 then i else nxt l base (i+1) j
def prv (l:List Mk) (base:Int):Nat->Int
 |0=>if vP l base 0≤0 then 0 else -1
 |i+1=>if vP l base (i+1)≤0 then((i+1:Nat):Int) else prv l base i
def OP (l:List Mk) (p base:Int):Int:=nxt l base (kA l.length p) (l.length+1-kA l.length p)
def D_ (l:List Mk) (p base:Int):Int:=prv l base (kA l.length p)
def XB (l:List Mk) (base:Int) (a b:Nat) (r:Int):Prop:=(r = -1/\∀ i,a≤i->i≤b->¬ vP l base i≤0)∨∃ j:Nat,r=j/\a≤j/\j≤b/\vP l base j≤0/\∀ i,a≤i->i<j->¬ vP l base i≤0
def IsP (l:List Mk) (base:Int) (b:Nat) (r:Int):Prop:=(r = -1/\∀ i,i≤b->¬ vP l base i≤0)∨∃ j:Nat,r=j/\j≤b/\vP l base j≤0/\∀ i,j<i->i≤b->¬ vP l base i≤0
theorem Pf {l:List Mk} {base:Int} {a b:Nat} {r r':Int} (h:XB l base a b r) (h':XB l base a b r'):r=r':=by
 rcases h with⟨rfl,h⟩|⟨j,rfl,h1,h2,h3,h4⟩<;>rcases h' with⟨rfl,h'⟩|⟨j',rfl,Si,h2',xb,Kp⟩
 ·rfl
 ·exact absurd xb (h j' Si h2')
 ·exact absurd h3 (h' j h1 h2)
 ·rcases nV j j' with c|c|c
  ·exact absurd h3 (Kp j h1 c)
  ·rw[c]
  ·exact absurd xb (h4 j' Si c)
theorem Un {l:List Mk} {base:Int} {b:Nat} {r r':Int} (h:IsP l base b r) (h':IsP l base b r'):r=r':=by
 rcases h with⟨rfl,h⟩|⟨j,rfl,h1,h3,h4⟩<;>rcases h' with⟨rfl,h'⟩|⟨j',rfl,Si,xb,Kp⟩
 ·rfl
 ·exact absurd xb (h j' Si)
 ·exact absurd h3 (h' j h1)
 ·rcases nV j j' with c|c|c
  ·exact absurd xb (h4 j' c Si)
  ·rw[c]
  ·exact absurd h3 (Kp j c h1)
theorem aaK (l:List Mk) (base:Int):∀ (j i:Nat),XB l base i (i+j) (nxt l base i (j+1))
 |0,i=>by
  rw[nxt];split
  ·exact .inr ⟨i,rfl,bc _,by omega,by assumption,fun k h1 h2=>by omega⟩
  ·refine .inl ⟨rfl,fun k h1 h2=>?_⟩
   obtain rfl:k=i:=by omega
   assumption
 |j+1,i=>by
  rw[nxt];split
  ·exact .inr ⟨i,rfl,bc _,by omega,by assumption,fun k h1 h2=>by omega⟩
  ·rename_i h0;rcases aaK l base j (i+1) with⟨h1,h2⟩|⟨k,h1,h2,h3,h4,h5⟩
   ·refine .inl ⟨h1,fun k g1 g2=>?_⟩
    rcases cx i k with c|c
    ·exact h2 k c (by omega)
    ·obtain rfl:k=i:=by omega
     exact h0
   ·refine .inr ⟨k,h1,by omega,by omega,h4,fun m g1 g2=>?_⟩
    rcases cx i m with c|c
    ·exact h5 m c g2
    ·obtain rfl:m=i:=by omega
     exact h0
theorem aas (l:List Mk) (base:Int):∀ b,IsP l base b (prv l base b)
 |0=>by
  rw[prv];split
  ·exact .inr ⟨0,rfl,bc _,by assumption,fun k h1 h2=>by omega⟩
  ·refine .inl ⟨rfl,fun k h1=>?_⟩
   obtain rfl:k=0:=by omega
   assumption
 |b+1=>by
  rw[prv];split
  ·exact .inr ⟨b+1,rfl,bc _,by assumption,fun k h1 h2=>by omega⟩
  ·rename_i h0;rcases aas l base b with⟨h1,h2⟩|⟨k,h1,h2,h3,h4⟩
   ·refine .inl ⟨h1,fun k g1=>?_⟩
    rcases cx b k with c|c
    ·obtain rfl:k=b+1:=by omega
     exact h0
    ·exact h2 k c
   ·refine .inr ⟨k,h1,by omega,h3,fun m g1 g2=>?_⟩
    rcases cx b m with c|c
    ·obtain rfl:m=b+1:=by omega
     exact h0
    ·exact h4 m g1 c
theorem aaw (l:List Mk) (p base:Int):XB l base (kA l.length p) l.length (OP l p base):=by
 have h:=aaK l base (l.length-kA l.length p) (kA l.length p);have hc:=TT l.length p;rw[show kA l.length p+(l.length-kA l.length p)=l.length by omega,show l.length-kA l.length p+1=l.length+1-kA l.length p by omega] at h
 exact h
theorem OE (l:List Mk) (p base:Int):IsP l base (kA l.length p) (D_ l p base):=aas _ _ _
def uy (l:List Mk) (p:Int):Option It:=hi (lX ao (l.drop (kA l.length p)))
def pU (l:List Mk) (p:Int):Option It:=lo (lX aq (l.take (kA l.length p)))
theorem aaO {x:List Int} {c:Int}:∀ {k:Nat},0<k->(IU x k≤c↔∃ j,j<k/\z9 x (j+1)≤c)
 |0,h=>by omega
 |1,_=>by
  refine⟨fun h=>⟨0,by omega,h⟩,fun⟨j,h1,h2⟩=>?_⟩
  obtain rfl:j=0:=by omega
  exact h2
 |k+2,_=>by
  have ih:=aaO (x:=x) (c:=c) (k:=k+1) (by omega)
  show min (IU x (k+1)) (z9 x (k+2))≤c↔_
  constructor
  ·intro h
   by_cases c1:IU x (k+1)≤c
   ·obtain⟨j,h1,h2⟩:=ih.1 c1;exact⟨j,by omega,h2⟩
   ·refine⟨k+1,by omega,?_⟩
    rw[show k+1+1=k+2 from rfl];omega
  ·rintro ⟨j,h1,h2⟩
   by_cases c1:j<k+1
   ·have:=ih.2 ⟨j,c1,h2⟩;omega
   ·obtain rfl:j=k+1:=by omega
    rw[show k+1+1=k+2 from rfl] at h2
    omega
theorem ab6 {p l q:List Mk} {base:Int} {j:Nat} (h:j≤l.length):vP (p++(l++q)) base (p.length+j)=vP (p++(l++q)) base p.length+z9 (l.map ue) j:=by
 unfold vP;rw[dT,show p.length=(p.map ue).length by simp,RE,show(p.map ue).length=(p.map ue).length+0 by rfl,RE,dT,Wg (y:=l.map ue) (by simpa using h)]
 simp only[Nat.add_zero];have:z9 (l.map ue++q.map ue) 0=0:=by simp[z9]
 omega
theorem af8 {p q:List Mk} {base:Int}:vP (p++q) base p.length=base+(S8 p).w.s:=by
 show base+_=base+z9 (p.map ue) (p.map ue).length
 rw[dT,Wg (by simp),gX]
theorem adt {L:List Mk} {base:Int} {may:Sw->Sw->Bool} (h:∀ p l q,p++(l++q)=L->l≠[]->(may (S8 p) (S8 l)=aq↔base+(S8 p).w.s+(S8 l).w.l≤0)) :
  Gv.AW O8 S8 may (fun i=>decide (vP L base (i+1)≤0)) L:=by
 have key:∀ p l q,p++(l++q)=L->l≠[]->(may (S8 p) (S8 l)=aq↔∃ j,j<l.length/\vP L base (p.length+j+1)≤0):=fun p l q hL hl=>by
  rw[h p l q hL hl];have hp:=af8 (p:=p) (q:=l++q) (base:=base);have e:(S8 l).w.l=IU (l.map ue) l.length:=by show IU _ (l.map ue).length=_;rw[gX]
  have aky:=aaO (x:=l.map ue) (c:=-(base+(S8 p).w.s)) (k:=l.length) (Jr.2 hl);rw[← e] at aky;have e1:base+(S8 p).w.s+(S8 l).w.l≤0↔(S8 l).w.l ≤ -(base+(S8 p).w.s):=by omega
  rw[e1,aky]
  constructor
  ·rintro ⟨j,h1,h2⟩
   refine⟨j,h1,?_⟩;rw[← hL,show p.length+j+1=p.length+(j+1) by omega,ab6 (by omega),hp]
   omega
  ·rintro ⟨j,h1,h2⟩
   refine⟨j,h1,?_⟩;rw[← hL,show p.length+j+1=p.length+(j+1) by omega,ab6 (by omega),hp] at h2
   omega
 refine⟨⟨fun p x q hL=>?_,fun p l q hL i h1 h2 h3=>?_⟩,fun p l q hL hl hm=>?_⟩
 ·have k:=key p [x] q (by simpa using hL) (by simp)
  rw[show O8.sum x=S8 [x] from(U9 x).symm,Qa,k,decide_eq_true_eq]
  constructor
  ·intro h;exact⟨0,by simp,h⟩
  ·rintro ⟨j,h1,h2⟩
   obtain rfl:j=0:=by simpa using h1
   exact h2
 ·have hl:l≠[]:=fun h=>by rw[h] at h2;simp at h2;omega
  rw[key p l q hL hl];exact⟨i-p.length,by omega,by rw[show p.length+(i-p.length)+1=i+1 by omega];exact of_decide_eq_true h3⟩
 ·obtain⟨j,h1,h2⟩:=(key p l q hL hl).1 hm;exact⟨p.length+j,by omega,by omega,decide_eq_true h2⟩
theorem YI {L:List Mk} {base:Int} {a:Nat} {r:Int} (ha:a≤L.length) (h0:a=0->¬ base≤0) (h:Z_ (fun i=>decide (vP L base (i+1)≤0)) 0 L.length ((a:Int)-1) r):XB L base a L.length (if r<0 then -1 else r+1):=by
 rcases h with⟨h1,h2⟩|⟨j,h1,h2,h3,h4,h5,h6⟩
 ·rw[if_pos (by omega)]
  refine .inl ⟨rfl,fun i g1 g2=>?_⟩
  rcases mc i with c|c
  ·rw[c,ES];exact h0 (by omega)
  ·have:=of_decide_eq_false (h2 (i-1) (by omega) (by omega) (by omega))
   rwa [show i-1+1=i by omega] at this
 ·rw[if_neg (by omega)]
  refine .inr ⟨j+1,by omega,by omega,by omega,of_decide_eq_true h5,fun i g1 g2=>?_⟩
  rcases mc i with c|c
  ·rw[c,ES];exact h0 (by omega)
  ·have:=of_decide_eq_false (h6 (i-1) (by omega) (by omega) (by omega))
   rwa [show i-1+1=i by omega] at this
theorem ad7 {L:List Mk} {base:Int} {b:Nat} {r:Int} (hb:b≤L.length) (h:Gv.EK (fun i=>decide (vP L base (i+1)≤0)) 0 L.length b r):IsP L base b (if r≥0 then r+1 else if base≤0 then 0 else -1):=by
 rcases h with⟨h1,h2⟩|⟨j,h1,h2,h3,h4,h5,h6⟩
 ·rw[if_neg (by omega)]
  have CC:∀ i,0<i->i≤b->¬ vP L base i≤0:=fun i g1 g2=>by
   have:=of_decide_eq_false (h2 (i-1) (by omega) (by omega) (by omega))
   rwa [show i-1+1=i by omega] at this
  by_cases c:base≤0
  ·rw[if_pos c];exact .inr ⟨0,rfl,dx _,by rw[ES];exact c,fun i g1 g2=>CC i g1 g2⟩
  ·rw[if_neg c];refine .inl ⟨rfl,fun i g2=>?_⟩
   rcases mc i with g|g
   ·rw[g,ES];exact c
   ·exact CC i g g2
 ·rw[if_pos (by omega)]
  refine .inr ⟨j+1,by omega,by omega,of_decide_eq_true h5,fun i g1 g2=>?_⟩
  have:=of_decide_eq_false (h6 (i-1) (by omega) (by omega) (by omega))
  rwa [show i-1+1=i by omega] at this
end Br
namespace Pa
open Rx Wv Br
def gO (l:List Op):It->Bool:=fun z=>decide (z∈tk [] l)
def R_ (l:List Op) (o:Op):Mk:=⟨o.t,o.ins,o.it,o.ins&&decide (o.it∈fin [] l),ao,iz⟩
def bY (l:List Op):List Mk:=l.map (R_ l)
theorem ua (l:List Op):(bY l).length=l.length:=gX ..
abbrev pR (l:List Op):Int:=(gI [] l:Int)
theorem lP {l:List Op} (h:(gw l).Nodup):Ap [] l:=⟨rF,h,fun x hx=>by cases hx⟩
theorem GF (l:List Op):je (gO l) [] l:=fun z _=>by unfold gO;rw[decide_eq_true_eq]
theorem DO {l:List Op} {z:It}:z∈gw l↔∃ o,o∈l/\o.ins=aq/\o.it=z:=by
 unfold gw;rw[o_]
 constructor
 ·rintro ⟨o,h1,h2⟩;exact⟨o,(pa.1 h1).1,(pa.1 h1).2,h2⟩
 ·rintro ⟨o,h1,h2,h3⟩;exact⟨o,pa.2 ⟨h1,h2⟩,h3⟩
theorem abq {l:List Op} (h:(gw l).Nodup) {o:Op} (ho:o∈l) (hi:o.ins=aq):o.it∈fin [] l↔gO l o.it=ao:=by
 rw[qT (lP h)];unfold gO;rw[decide_eq_false_iff_not];exact⟨fun h=>h.2,fun h=>⟨.inr (DO.2 ⟨o,ho,hi,rfl⟩),h⟩⟩
theorem ai6 {l:List Op} (h:(gw l).Nodup) {o:Op} (ho:o∈l):ue (R_ l o)=wt (gO l) o:=by
 unfold ue wt OD R_;rcases iX o with e|e
 ·simp only[e,if_true,ji,true_and,decide_eq_true_eq];have hh:=abq h ho e
  by_cases c:o.it∈fin [] l
  ·rw[if_pos c,hh.1 c];rfl
  ·rw[if_neg c];cases k:gO l o.it
   ·exact absurd (hh.2 k) c
   ·rfl
 ·simp only[e,B4,Bool.false_eq_true,if_false,false_and]
theorem Yp (g:It->Bool):∀ a:List Op,wts g a=(a.map (wt g)).sum
 |[]=>rfl
 |o::a=>by show wt g o+wts g a=_;rw[Yp g a,gC,List.sum_cons]
theorem PB {l:List Op} (h:(gw l).Nodup) {i:Nat} (hi:i≤l.length):vP (bY l) (pR l) i=(pz (gO l) (fin [] (l.take i)) (l.drop i):Int):=by
 have h1:=afz (g:=gO l) (a:=l.take i) (b:=l.drop i) (h:=[]) (by rw[cT];exact lP h) (by rw[cT];exact GF l)
 rw[cT] at h1;rw[h1];have h2:pz (gO l) [] l=gI [] l:=by unfold pz;rw[Qb];rfl
 rw[h2];unfold vP z9;have h3:(bY l).map ue=l.map (wt (gO l)):=by
  unfold bY;rw[List.map_map];exact nY fun o ho=>ai6 h ho
 rw[h3,Yp,nr]
theorem EH:∀ {l:List It} {m:It},hi l=aa m->m∈l
 |a::l,m,h=>by
  have h:up (aa a) (hi l)=aa m:=h;cases e:hi l with
  |none=>rw[e] at h;cases h;exact bO
  |some b =>
   rw[e,Pw] at h;cases h;rcases Tw a b with c|c
   ·rw[c];exact bO
   ·rw[c];exact eo _ (EH e)
theorem Ve {a b:List It} (h:∀ z,z∈a↔z∈b):hi a=hi b:=by
 cases ea:hi a with
 |none =>
  cases eb:hi b with
  |none=>rfl
  |some m =>
   obtain⟨m',h1,_⟩:=H3 ((h m).2 (EH eb));rw[ea] at h1;cases h1
 |some m =>
  obtain⟨m',h1,h2⟩:=H3 ((h m).1 (EH ea));obtain⟨m2,h3,h4⟩:=H3 ((h m').2 (EH h1));rw[ea] at h3;cases h3;rw[h1];rcases h2 with h2|h2
  ·rw[h2]
  ·rcases h4 with h4|h4
   ·rw[h4]
   ·exact absurd h2 (sx h4)
theorem aaZ:∀ {l:List It},Ord l->lo l=l.head?
 |[],_=>rfl
 |y::l,h=>by
  show dn (aa y) (lo l)=aa y
  rw[aaZ (D9 h)];cases l with
  |nil=>rfl
  |cons w l =>
   show(if ah w y then aa w else aa y)=aa y
   rw[if_neg (sx (Cp h bO))]
theorem lo_le:∀ {l:List It} {z:It},z∈l->∃ m,lo l=aa m/\(m=z∨ah m z)
 |l,z,hz=>by
  cases e:lo l with
  |none =>
   have:=(Yg l).2 (List.ne_nil_of_mem hz);rw[e] at this;cases this
  |some m =>
   refine⟨m,rfl,?_⟩;have:=abH l m e z hz
   by_cases c:m=z
   ·exact .inl c
   ·rcases S_ c with c|c
    ·exact .inr c
    ·exact absurd c this
theorem GI:∀ {l:List It} {m:It},lo l=aa m->m∈l
 |a::l,m,h=>by
  have h:dn (aa a) (lo l)=aa m:=h;cases e:lo l with
  |none=>rw[e] at h;cases h;exact bO
  |some b =>
   rw[e] at h;have h:(if ah b a then aa b else aa a)=aa m:=h
   split at h
   ·cases h;exact eo _ (GI e)
   ·cases h;exact bO
theorem ajz {a b:List It} (h:∀ z,z∈a↔z∈b):lo a=lo b:=by
 cases ea:lo a with
 |none =>
  cases eb:lo b with
  |none=>rfl
  |some m =>
   obtain⟨m',h1,_⟩:=lo_le ((h m).2 (GI eb));rw[ea] at h1;cases h1
 |some m =>
  obtain⟨m',h1,h2⟩:=lo_le ((h m).1 (GI ea));obtain⟨m2,h3,h4⟩:=lo_le ((h m').2 (GI h1));rw[ea] at h3;cases h3;rw[h1];rcases h2 with h2|h2
  ·rw[h2]
  ·rcases h4 with h4|h4
   ·rw[h4]
   ·exact absurd h2 (sx h4)
theorem tI {b:Bool} {L:List Mk} {z:It}:z∈lX b L↔∃ m,m∈L/\m.ins=aq/\m.here=b/\m.it=z:=by
 unfold lX;rw[o_]
 constructor
 ·rintro ⟨m,h1,h2⟩
  obtain⟨h1,h3⟩:=pa.1 h1;rw[aL,beq_iff_eq] at h3;exact⟨m,h1,h3.1,h3.2,h2⟩
 ·rintro ⟨m,h1,h2,h3,h4⟩
  exact⟨m,pa.2 ⟨h1,by rw[aL,beq_iff_eq];exact⟨h2,h3⟩⟩,h4⟩
theorem UW {l a:List Op} (h:(gw l).Nodup) (ha:∀ o,o∈a->o∈l) {b:Bool} {z:It}:z∈lX b (a.map (R_ l))↔z∈gw a/\gO l z = !b:=by
 rw[tI,DO];have key:∀ o,o∈a->o.ins=aq->((R_ l o).here=b↔gO l o.it = !b):=fun o h1 h2=>by
  have h3:=abq h (ha o h1) h2;show(o.ins&&decide (o.it∈fin [] l))=b↔_
  rw[h2,ji];cases c:gO l o.it
  ·rw[c] at h3;rw[decide_eq_true (h3.2 rfl)];cases b<;>simp
  ·rw[c] at h3;rw[decide_eq_false (fun m=>by have:=h3.1 m;cases this)]
   cases b<;>simp
 constructor
 ·rintro ⟨m,h1,h2,h3,h4⟩
  obtain⟨o,g1,rfl⟩:=o_.1 h1;have h4:o.it=z:=h4;subst h4;exact⟨⟨o,g1,h2,rfl⟩,(key o g1 h2).1 h3⟩
 ·rintro ⟨⟨o,h1,h2,rfl⟩,h3⟩
  exact⟨R_ l o,o_.2 ⟨o,h1,rfl⟩,h2,(key o h1 h2).2 h3,rfl⟩
theorem Y9 {l a b:List Op} (h:(gw l).Nodup) (e:l=a++b) (hz:pz (gO l) (fin [] a) b=0):∀ z,z∈fin [] a↔z∈gw a/\gO l z=ao:=by
 intro z;subst e;have k:=lP h;have h1:=GB hz;have ka:Ap [] a:=⟨rF,by
  have:=h;unfold gw at this ⊢;rw[oN,dT] at this;exact(ch.1 this).1,fun x hx=>by cases hx⟩
 constructor
 ·intro m;have h2:=((qT ka z).1 m).1;refine⟨?_,h1.2 z m⟩;rcases h2 with h2|h2
  ·cases h2
  ·exact h2
 ·rintro ⟨m,hg⟩
  refine(qT ka z).2 ⟨.inr m,fun c=>?_⟩
  unfold gO at hg;rw[decide_eq_false_iff_not,vM] at hg;exact hg (List.mem_append_left _ c)
theorem acn {l a b:List Op} (h:(gw l).Nodup) (e:l=a++b) (hz:pz (gO l) (fin [] a) b=0):∀ z,z∈tk (fin [] a) b↔z∈gw b/\gO l z=aq:=by
 intro z;subst e;have h1:=GB hz;have ab:Ap (fin [] a) b:=EI (lP h);have cb:je (gO (a++b)) (fin [] a) b:=Hg (lP h) (GF _)
 constructor
 ·intro m;have h2:=qS ab z m;have h3:=(cb z h2).2 m;rcases h2 with h2|h2
  ·rw[h1.2 z h2] at h3;cases h3
  ·exact⟨h2,h3⟩
 ·rintro ⟨m,hg⟩
  exact(cb z (.inr m)).1 hg
theorem ae8 {l:List Op} (h:(gw l).Nodup) {p:Nat} (hp:p≤l.length) :
  tp (fin [] (l.take p)) (l.drop p)=if D_ (bY l) p (pR l)<0 then aj else aa (hi (lX ao ((bY l).drop (D_ (bY l) p (pR l)).toNat))):=by
 have hP:=OE (bY l) p (pR l);rw[ua,zP hp] at hP;have ac_:∀ i,i≤l.length->¬ vP (bY l) (pR l) i≤0->0<pz (gO l) (fin [] (l.take i)) (l.drop i):=fun i hi hn=>by
  rw[PB h hi] at hn;omega
 have back:∀ j,j≤p->(∀ i,j<i->i≤p->¬ vP (bY l) (pR l) i≤0)->tp (fin [] (l.take j)) (l.drop j)=tp (fin [] (l.take p)) (l.drop p):=fun j hj CC=>by
  have e1:l.drop j=(l.drop j).take (p-j)++l.drop p:=by
   have:=(cT (p-j) (l.drop j)).symm;rw[se,show j+(p-j)=p by omega] at this
   exact this
  have e2:l.take p=l.take j++(l.drop j).take (p-j):=by
   have:l.take (j+(p-j))=l.take j++(l.drop j).take (p-j):=vZ
   rwa [show j+(p-j)=p by omega] at this
  have k:Ap (fin [] (l.take j)) (l.drop j):=EI (by rw[cT];exact lP h)
  have c:je (gO l) (fin [] (l.take j)) (l.drop j):=Hg (by rw[cT];exact lP h) (by rw[cT];exact GF l)
  have:=Xk (g:=gO l) (m:=(l.drop j).take (p-j)) (b:=l.drop p) (h:=fin [] (l.take j)) (by rw[← e1];exact k) (by rw[← e1];exact c) fun a c' ea kt=>by
   have hla:(a++c').length=p-j:=by rw[← ea,eu,jq];omega
   rw[bJ] at hla;have h0:0<a.length:=Jr.2 kt;have f1:l.take (j+a.length)=l.take j++a:=by
    have:l.take (j+a.length)=l.take j++(l.drop j).take a.length:=vZ;rw[this,e1,ea,rD,Gd]
    rfl
   have f2:l.drop (j+a.length)=c'++l.drop p:=by
    rw[← se,e1,ea,rD,Ge]
    rfl
   have:=ac_ (j+a.length) (by omega) (CC _ (by omega) (by omega))
   rw[f1,f2,qa] at this;exact this
  rw[← e1] at this;rw[this,e2,qa]
 rcases hP with⟨h1,h2⟩|⟨j,h1,h2,h3,h4⟩
 ·rw[h1,if_pos (by omega),← back 0 (dx _) fun i _ hi=>h2 i hi]
  have h0:=ac_ 0 (dx _) (h2 0 (dx _));rw[sc,List.drop_zero] at h0 ⊢;have h0:0<pz (gO l) [] l:=h0;unfold pz at h0;rw[Qb] at h0;show tp [] l=aj
  unfold tp;rw[if_neg (by omega)]
 ·rw[h1,if_neg (by omega),← back j h2 h4]
  have hz:pz (gO l) (fin [] (l.take j)) (l.drop j)=0:=by
   rw[PB h (by omega)] at h3;omega
  have e:l=l.take j++l.drop j:=(cT _ _).symm;unfold tp;rw[if_pos (GB hz).1];have e3:((j:Nat):Int).toNat=j:=Int.toNat_natCast j;rw[e3];have e4:(bY l).drop j=(l.drop j).map (R_ l):=by unfold bY;rw[ns]
  rw[e4,Ve fun z=>?_]
  rw[acn h e hz,UW h fun o ho=>IV ho]
  rfl
theorem ae6 {l:List Op} (h:(gw l).Nodup) {p:Nat} (hp:p≤l.length) :
  ∃ b:Nat,OP (bY l) p (pR l)=b/\p≤b/\b≤l.length/\(I5 (gO l) (fin [] (l.take p)) (l.drop p)).head?=lo (lX aq ((bY l).take b)):=by
 have k:Ap (fin [] (l.take p)) (l.drop p):=EI (by rw[cT];exact lP h)
 have c:je (gO l) (fin [] (l.take p)) (l.drop p):=Hg (by rw[cT];exact lP h) (by rw[cT];exact GF l)
 obtain⟨a,b,e1,e2,e3,e4⟩:=ace k c;have Jd:a.length+b.length=l.length-p:=by
  have:=congrArg ae e1;rw[jq,bJ] at this;omega
 have f1:l.take (p+a.length)=l.take p++a:=by
  have:l.take (p+a.length)=l.take p++(l.drop p).take a.length:=vZ;rw[this,e1,Gd]
  rfl
 have f2:l.drop (p+a.length)=b:=by
  rw[← se,e1,Ge]
  rfl
 have hz:pz (gO l) (fin [] (l.take (p+a.length))) (l.drop (p+a.length))=0:=by rw[f1,f2,qa];exact e3
 have hN:=aaw (bY l) p (pR l);rw[ua,zP hp] at hN;have hI:XB (bY l) (pR l) p l.length ((p+a.length:Nat):Int):=.inr ⟨p+a.length,rfl,by omega,by omega,by rw[PB h (by omega),hz];exact Int.le_refl _,fun i h1 h2=>by
  rw[PB h (by omega)]
  have s1:l.drop p=(l.drop p).take (i-p)++l.drop i:=by
   have:=(cT (i-p) (l.drop p)).symm;rw[se,show p+(i-p)=i by omega] at this
   exact this
  have s2:l.take i=l.take p++(l.drop p).take (i-p):=by
   have:l.take (p+(i-p))=l.take p++(l.drop p).take (i-p):=vZ
   rwa [show p+(i-p)=i by omega] at this
  have:=e4 _ _ s1 (by rw[eu,jq];omega)
  rw[s2,qa];omega⟩
 refine⟨p+a.length,Pf hN hI,by omega,by omega,?_⟩
 have e:l=l.take (p+a.length)++l.drop (p+a.length):=(cT _ _).symm;have e5:fin (fin [] (l.take p)) a=fin [] (l.take (p+a.length)):=by rw[f1,qa]
 have o5:Ord (fin [] (l.take (p+a.length))):=(EI (a:=l.take (p+a.length)) (b:=l.drop (p+a.length)) (h:=[]) (by rw[cT];exact lP h)).ord
 rw[e2,e5,← aaZ o5];have e6:(bY l).take (p+a.length)=(l.take (p+a.length)).map (R_ l):=by unfold bY;rw[nr]
 rw[e6];refine ajz fun z=>?_
 rw[Y9 h e hz,UW h fun o ho=>rO ho]
 rfl
def kZ (l:List Op) (p:Nat) (o:Op):List Op:=l.take p++o::l.drop p
def j9 (l:List Op) (p:Nat):List Op:=l.take p++l.drop (p+1)
abbrev og (l:List Op) (k:Nat):Op:=l.getD k ⟨0,ao,⟨0,0⟩⟩
theorem zi (a b:List Op):gw (a++b)=gw a++gw b:=by unfold gw;rw[oN,dT]
theorem OW {l:List Op} {k:Nat} (h:k<l.length):l.drop k=og l k::l.drop (k+1):=by
 rw[oX h,og,ax,bj h];rfl
theorem parts {l:List Op} {k:Nat} (h:k<l.length):l=l.take k++og l k::l.drop (k+1):=by
 rw[← OW h,cT]
theorem NS {a b:List Op} (h:(gw (a++b)).Nodup):(gw a).Nodup/\(gw b).Nodup/\∀ z,z∈gw a->z∉gw b:=by
 rw[zi] at h;have:=ch.1 h;exact⟨this.1,this.2.1,fun z hz hb=>this.2.2 z hz z hb rfl⟩
theorem aex {l:List Op} {p:Nat} {o:Op} (h:(gw l).Nodup) (ho:o.ins=aq->o.it∉gw l):(gw (kZ l p o)).Nodup:=by
 unfold kZ;rw[zi];have e:gw l=gw (l.take p)++gw (l.drop p):=by rw[← zi,cT]
 rw[e] at h ho;rcases iX o with c|c
 ·rw[xI c];have h':=ch.1 h;have ho:=ho c;rw[b9,not_or] at ho;refine ch.2 ⟨h'.1,fI.2 ⟨ho.2,h'.2.1⟩,fun a ha b hb Jd=>?_⟩
  rcases bR.1 hb with m|m
  ·exact ho.1 (by rw[← m,← Jd];exact ha)
  ·exact h'.2.2 a ha b m Jd
 ·rw[qU c];exact h
theorem ak8 {l:List Op} {k:Nat} (h:(gw l).Nodup) (hk:k<l.length):(gw (j9 l k)).Nodup/\∀ z,z∈gw (j9 l k)↔z∈gw l/\¬ ((og l k).ins=aq/\z=(og l k).it):=by
 have e:=congrArg gw (parts hk);rw[zi] at e;unfold j9;rw[zi,e];rw[e] at h;rcases iX (og l k) with c|c
 ·rw[xI c] at h ⊢;have h':=ch.1 h;have h2:=fI.1 h'.2.1;refine⟨ch.2 ⟨h'.1,h2.2,fun a ha b hb=>h'.2.2 a ha b (eo _ hb)⟩,fun z=>?_⟩
  simp only[b9,bR,c,true_and]
  constructor
  ·rintro (m|m)
   ·exact⟨.inl m,fun e=>h'.2.2 z m _ bO e⟩
   ·exact⟨.inr (.inr m),fun e=>h2.1 (e▸m)⟩
  ·rintro ⟨m|m|m,n⟩
   ·exact .inl m
   ·exact absurd m n
   ·exact .inr m
 ·rw[qU c] at h ⊢;refine⟨h,fun z=>?_⟩
  rw[c];simp
theorem Oo (l:List Op) (p:Nat):fin [] l=fin (fin [] (l.take p)) (l.drop p):=by rw[← qa,cT]
theorem Th (l:List Op) (p:Nat):tk [] l=tk [] (l.take p)++tk (fin [] (l.take p)) (l.drop p):=by rw[← vM,cT]
theorem O4 (l:List Op) (p:Nat):gI [] l=gI [] (l.take p)+gI (fin [] (l.take p)) (l.drop p):=by rw[← ud,cT]
theorem Oe {l:List Op} (h:(gw l).Nodup) (p:Nat):Ap (fin [] (l.take p)) (l.drop p):=EI (by rw[cT];exact lP h)
theorem acz {l:List Op} (h:(gw l).Nodup) (p:Nat):je (gO l) (fin [] (l.take p)) (l.drop p):=Hg (by rw[cT];exact lP h) (by rw[cT];exact GF l)
theorem agK {l:List Op} (h:(gw l).Nodup) (p:Nat) {z:It} (hz:z∈fin [] (l.take p)):z∈gw (l.take p):=by
 have h':(gw (l.take p++l.drop p)).Nodup:=by rw[cT];exact h
 have:=((qT (lP (NS h').1) z).1 hz).1;exact this.elim (fun h=>by cases h) id
theorem NV {l:List Op} (h:(gw l).Nodup) (p:Nat) {z:It} (hz:z∈tk [] (l.take p)):z∉fin [] (l.take p)/\z∉gw (l.drop p):=by
 have h':(gw (l.take p++l.drop p)).Nodup:=by rw[cT];exact h
 have k:=NS h';refine⟨fun c=>((qT (lP k.1) z).1 c).2 hz,fun c=>?_⟩
 exact k.2.2 z ((qS (lP k.1) z hz).elim (fun h=>by cases h) id) c
abbrev qy (l:List Op) (p:Nat):Int:=D_ (bY l) p (pR l)
abbrev Mj (l:List Op) (p:Nat):Int:=OP (bY l) p (pR l)
theorem aaR {l:List Op} {p:Nat} (hp:p≤l.length) (hb:¬ qy l p<0):uy (bY l) (qy l p)=hi (lX ao ((bY l).drop (qy l p).toNat)):=by
 unfold uy;have hP:=OE (bY l) p (pR l);rw[ua,zP hp] at hP;rcases hP with⟨h1,_⟩|⟨j,h1,h2,_⟩
 ·exact absurd (show qy l p<0 by show D_ (bY l) p (pR l)<0;rw[h1];omega) hb
 ·have h1:qy l p=j:=h1;rw[h1,ua,zP (by omega)]
  rfl
theorem aiM {l:List Op} {p:Nat} {x:It} {t:Int} (h:(gw l).Nodup) (hx:x∉gw l) (hp:p≤l.length) :
  (qy l p<0->fin [] (kZ l p ⟨t,aq,x⟩)=fin [] l/\gI [] l=gI [] (kZ l p ⟨t,aq,x⟩)+1/\∀ w,w∈tk [] (kZ l p ⟨t,aq,x⟩)↔w∈tk [] l∨w=x) /\
  (¬ qy l p<0->∃ z,up (aa x) (uy (bY l) (qy l p))=aa z/\z∉fin [] l/\(z=x∨z∈tk [] l)/\fin [] (kZ l p ⟨t,aq,x⟩)=hO z (fin [] l)/\gI [] (kZ l p ⟨t,aq,x⟩)=gI [] l/\∀ w,w∈tk [] (kZ l p ⟨t,aq,x⟩)↔(w∈tk [] l∨w=x)/\w≠z):=by
 have k:=Oe h p;have e:gw l=gw (l.take p)++gw (l.drop p):=by rw[← zi,cT]
 have Ym:=hx;rw[e,b9,not_or] at Ym;have hxh:x∉fin [] (l.take p):=fun c=>Ym.1 (agK h p c)
 obtain⟨a1,a2,a3,a4⟩:=K_ k hxh Ym.2;have hT:=ae8 h hp;have ea:sW x (fin [] (l.take p)) (l.drop p)=upO x (tp (fin [] (l.take p)) (l.drop p)):=O3;have f1:fin [] (kZ l p ⟨t,aq,x⟩)=fin (hO x (fin [] (l.take p))) (l.drop p):=by unfold kZ;rw[qa,s9 rfl]
 have f2:gI [] (kZ l p ⟨t,aq,x⟩)=gI [] (l.take p)+gI (hO x (fin [] (l.take p))) (l.drop p):=by unfold kZ;rw[ud,oB rfl]
 have f3:tk [] (kZ l p ⟨t,aq,x⟩)=tk [] (l.take p)++tk (hO x (fin [] (l.take p))) (l.drop p):=by unfold kZ;rw[vM,oE rfl]
 rw[f1,f2,f3,O4 l p,Oo l p,Th l p];have hxt:x∉tk [] (l.take p):=fun c=>by
  have h':(gw (l.take p++l.drop p)).Nodup:=by rw[cT];exact h
  exact Ym.1 ((qS (lP (NS h').1) x c).elim (fun h=>by cases h) id)
 constructor
 ·intro hb;have hb:D_ (bY l) p (pR l)<0:=hb;rw[if_pos hb] at hT;rw[hT] at ea;have ea:sW x (fin [] (l.take p)) (l.drop p)=aj:=ea;rw[ea] at a1 a2 a3;refine⟨a1,by rw[if_pos rfl] at a2;omega,fun w=>?_⟩
  rw[b9,b9,a3 w]
  constructor
  ·rintro (m|⟨m|m,_⟩)
   ·exact .inl (.inl m)
   ·exact .inl (.inr m)
   ·exact .inr m
  ·rintro ((m|m)|m)
   ·exact .inl m
   ·exact .inr ⟨.inl m,fun c=>by cases c⟩
   ·exact .inr ⟨.inr m,fun c=>by cases c⟩
 ·intro hb;have Yb:=aaR hp hb;have hb:¬ D_ (bY l) p (pR l)<0:=hb;rw[if_neg hb] at hT;rw[hT] at ea;have ea:sW x (fin [] (l.take p)) (l.drop p)=up (aa x) (uy (bY l) (qy l p)):=by rw[Yb];exact ea
  have hs:=XG x (uy (bY l) (qy l p));cases hz:up (aa x) (uy (bY l) (qy l p)) with
  |none=>rw[hz] at hs;cases hs
  |some z =>
   rw[ea,hz] at a1 a2 a3 a4;have a4:=a4 z rfl;rw[if_neg (by simp)] at a2
   refine⟨z,rfl,a4.1,?_,a1,by omega,fun w=>?_⟩
   ·rcases a4.2 with c|c
    ·exact .inl c
    ·exact .inr (uQ _ c)
   ·rw[b9,b9,a3 w];have ne:∀ w,(aa z≠aa w)↔w≠z:=fun w=>⟨fun c e=>c (by rw[e]),fun c e=>c (by injection e with e;exact e.symm)⟩
    rw[ne w]
    constructor
    ·rintro (m|⟨m|m,n⟩)
     ·refine⟨.inl (.inl m),fun c=>?_⟩
      subst c;rcases a4.2 with c|c
      ·exact hxt (c▸m)
      ·have t:=NV h p m;exact(qS k w c).elim t.1 t.2
     ·exact⟨.inl (.inr m),n⟩
     ·exact⟨.inr m,n⟩
    ·rintro ⟨(m|m)|m,n⟩
     ·exact .inl m
     ·exact .inr ⟨.inl m,n⟩
     ·exact .inr ⟨.inr m,n⟩
theorem aiw {l:List Op} {p:Nat} {x:It} {t:Int} (h:(gw l).Nodup) (hp:p≤l.length) :
  (pU (bY l) (Mj l p)=aj->fin [] (kZ l p ⟨t,ao,x⟩)=fin [] l/\gI [] (kZ l p ⟨t,ao,x⟩)=gI [] l+1/\∀ w,w∈tk [] (kZ l p ⟨t,ao,x⟩)↔w∈tk [] l) /\
  (∀ z,pU (bY l) (Mj l p)=aa z->z∈fin [] l/\fin [] (kZ l p ⟨t,ao,x⟩)=pN z (fin [] l)/\gI [] (kZ l p ⟨t,ao,x⟩)=gI [] l/\∀ w,w∈tk [] (kZ l p ⟨t,ao,x⟩)↔w∈tk [] l∨w=z):=by
 have k:=Oe h p;have c:=acz h p;obtain⟨b,b1,b2,b3,b4⟩:=ae6 h hp;have hl:pU (bY l) (Mj l p)=lo (lX aq ((bY l).take b)):=by
  show lo (lX aq ((bY l).take (kA (bY l).length (OP (bY l) p (pR l)))))=_
  rw[b1,ua,zP b3]
 rw[← b4] at hl;rw[hl];have f1:fin [] (kZ l p ⟨t,ao,x⟩)=fin (fin [] (l.take p)).tail (l.drop p):=by unfold kZ;rw[qa,ny rfl]
 have f2:gI [] (kZ l p ⟨t,ao,x⟩)=gI [] (l.take p)+gI (fin [] (l.take p)) (⟨t,ao,x⟩::l.drop p):=by unfold kZ;rw[ud]
 have f3:tk [] (kZ l p ⟨t,ao,x⟩)=tk [] (l.take p)++tk (fin [] (l.take p)) (⟨t,ao,x⟩::l.drop p):=by unfold kZ;rw[vM]
 rw[f1,f2,f3,O4 l p,Oo l p,Th l p];generalize tk [] (l.take p)=T at *
 generalize gI [] (l.take p)=F at *
 generalize fin [] (l.take p)=H at *
 generalize l.drop p=r at *
 cases H with
 |nil =>
  rw[BV rfl,so rfl];have hn:(I5 (gO l) [] r).head?=aj:=by
   rcases mc (gI [] r) with q|q
   ·rw[D8 (by unfold pz;rw[q];rfl)];rfl
   ·rw[D6 q];rfl
  rw[hn];exact⟨fun _=>⟨rfl,by omega,fun w=>r_⟩,fun z hz=>by cases hz⟩
 |cons y H =>
  have hb:=ai9 k c;rw[← hb];obtain⟨a1,a2,a3,a4⟩:=D5 k (bO (a:=y) (l:=H));rw[Nx k.ord] at a1 a2 a3;have hy:y∈tk (y::H) r∨pI y (y::H) r=aa y:=by
   by_cases m:y∈tk (y::H) r
   ·exact .inl m
   ·exact .inr (wM bO m)
  rw[ng rfl,oC rfl,oU]
  constructor
  ·intro e;rw[e] at a1 a2 a3 hy;rw[if_pos rfl] at a2;refine⟨a1,by omega,fun w=>?_⟩
   rw[b9,b9,bR,a3 w];have hy:y∈tk (y::H) r:=hy.elim id fun c=>by cases c
   constructor
   ·rintro (m|m|⟨_,m|m⟩)
    ·exact .inl m
    ·exact .inr (m▸hy)
    ·exact .inr m
    ·cases m
   ·rintro (m|m)
    ·exact .inl m
    ·by_cases e:w=y
     ·exact .inr (.inl e)
     ·exact .inr (.inr ⟨e,.inl m⟩)
  ·intro z e;rw[e] at a1 a2 a3 hy;rw[if_neg (by simp)] at a2
   refine⟨a4 z e,a1,by omega,fun w=>?_⟩
   rw[b9,b9,bR,a3 w]
   constructor
   ·rintro (m|m|⟨_,m|m⟩)
    ·exact .inl (.inl m)
    ·rcases hy with q|q
     ·exact .inl (.inr (m▸q))
     ·injection q with q;exact .inr (m.trans q.symm)
    ·exact .inl (.inr m)
    ·injection m with m;exact .inr m.symm
   ·rintro ((m|m)|m)
    ·exact .inl m
    ·by_cases e:w=y
     ·exact .inr (.inl e)
     ·exact .inr (.inr ⟨e,.inl m⟩)
    ·by_cases e:w=y
     ·exact .inr (.inl e)
     ·exact .inr (.inr ⟨e,.inr (by rw[m])⟩)
theorem adl {y:It} {h:List It} (a:Ord (y::h)):hO y h=y::h:=by
 cases h with
 |nil=>rfl
 |cons w h=>rw[hO,if_pos (Cp a bO)]
theorem af3 {l:List Op} {k:Nat} (h:(gw l).Nodup) (hk:k<l.length) (hd:(og l k).ins=ao) :
  (qy l k<0->fin [] (j9 l k)=fin [] l/\gI [] l=gI [] (j9 l k)+1/\∀ w,w∈tk [] (j9 l k)↔w∈tk [] l) /\
  (¬ qy l k<0->∃ z,uy (bY l) (qy l k)=aa z/\z∉fin [] l/\z∈tk [] l/\fin [] (j9 l k)=hO z (fin [] l)/\gI [] (j9 l k)=gI [] l/\∀ w,w∈tk [] (j9 l k)↔w∈tk [] l/\w≠z):=by
 have hp:k≤l.length:=Nat.le_of_lt hk;have a:=Oe h k;have hT:=ae8 h hp;have Yb:=aaR (l:=l) hp;have hta:=fun z=>NV (z:=z) h k
 have f1:fin [] (j9 l k)=fin (fin [] (l.take k)) (l.drop (k+1)):=by unfold j9;rw[qa]
 have f2:gI [] (j9 l k)=gI [] (l.take k)+gI (fin [] (l.take k)) (l.drop (k+1)):=by unfold j9;rw[ud]
 have f3:tk [] (j9 l k)=tk [] (l.take k)++tk (fin [] (l.take k)) (l.drop (k+1)):=by unfold j9;rw[vM]
 rw[f1,f2,f3,O4 l k,Oo l k,Th l k];rw[OW hk] at a hT hta ⊢;generalize tk [] (l.take k)=T at *
 generalize gI [] (l.take k)=F at *
 generalize fin [] (l.take k)=H at *
 generalize l.drop (k+1)=r at *
 generalize og l k=o at *
 cases H with
 |nil =>
  rw[BV hd,so hd,ny hd,List.tail_nil];have e:tp [] (o::r)=aj:=by unfold tp;rw[so hd,if_neg (by omega)]
  rw[e] at hT;have hb:qy l k<0:=by
   by_cases c:qy l k<0
   ·exact c
   ·have c':¬ D_ (bY l) k (pR l)<0:=c;rw[if_neg c'] at hT;cases hT
  exact⟨fun _=>⟨rfl,by omega,fun w=>r_⟩,fun n=>absurd hb n⟩
 |cons y H =>
  have a':Ap H r:=by have:=a.del hd;exact this
  have hyH:y∉H:=yu a.ord;have hyr:y∉gw r:=by have:=a.ap y bO;rwa [qU hd] at this
  obtain⟨a1,a2,a3,a4⟩:=K_ a' hyH hyr;have ea:sW y H r=upO y (tp H r):=O3;have e:tp (y::H) (o::r)=if gI H r=0 then aa (hi (y::tk H r)) else aj:=by unfold tp;rw[ng hd,oC hd]
  rw[e] at hT;rw[ng hd,oC hd,ny hd,oU];rw[adl a.ord] at a1 a2 a3
  constructor
  ·intro hb;have qf:D_ (bY l) k (pR l)<0:=hb;rw[if_pos qf] at hT;have hf:¬ gI H r=0:=fun c=>by rw[if_pos c] at hT;cases hT
   have ea:sW y H r=aj:=by rw[ea];unfold tp;rw[if_neg hf];rfl
   rw[ea] at a1 a2 a3;rw[if_pos rfl] at a2;refine⟨a1,by omega,fun w=>?_⟩
   rw[b9,b9,bR,a3 w]
   constructor
   ·rintro (m|⟨m|m,_⟩)
    ·exact .inl m
    ·exact .inr (.inr m)
    ·exact .inr (.inl m)
   ·rintro (m|m|m)
    ·exact .inl m
    ·exact .inr ⟨.inr m,fun c=>by cases c⟩
    ·exact .inr ⟨.inl m,fun c=>by cases c⟩
  ·intro hb;have Yb:=Yb hb;have qf:¬ D_ (bY l) k (pR l)<0:=hb;rw[if_neg qf] at hT;have hf:gI H r=0:=by
    by_cases c:gI H r=0
    ·exact c
    ·rw[if_neg c] at hT;cases hT
   rw[if_pos hf] at hT;have hT:aa (hi (y::tk H r))=aa (hi (lX ao ((bY l).drop (qy l k).toNat))):=hT;injection hT with hT
   rw[← hT] at Yb;have ea:sW y H r=hi (y::tk H r):=by rw[ea];unfold tp;rw[if_pos hf];rfl
   have hs:(hi (y::tk H r)).isSome=aq:=(Ye _).2 (by simp)
   cases hz:hi (y::tk H r) with
   |none=>rw[hz] at hs;cases hs
   |some z =>
    rw[ea,hz] at a1 a2 a3 a4;have a4:=a4 z rfl;rw[if_neg (by simp)] at a2
    have hzm:z∈y::tk H r:=EH hz;refine⟨z,Yb.trans hz,a4.1,uQ _ hzm,a1,by omega,fun w=>?_⟩
    rw[b9,b9,bR,a3 w];have ne:∀ w,(aa z≠aa w)↔w≠z:=fun w=>⟨fun c e=>c (by rw[e]),fun c e=>c (by injection e with e;exact e.symm)⟩
    rw[ne w]
    constructor
    ·rintro (m|⟨m|m,n⟩)
     ·refine⟨.inl m,fun c=>?_⟩
      subst c;have t:=hta w m;rw[qU hd] at t;rcases bR.1 hzm with c|c
      ·exact t.1 (by rw[c];exact bO)
      ·exact(qS a' w c).elim (fun c=>t.1 (eo _ c)) t.2
     ·exact⟨.inr (.inr m),n⟩
     ·exact⟨.inr (.inl m),n⟩
    ·rintro ⟨m|m|m,n⟩
     ·exact .inl m
     ·exact .inr ⟨.inr m,n⟩
     ·exact .inr ⟨.inl m,n⟩
theorem ag_ {x:It} {h:List It} (a:Ord h) (hx:x∉h):pN x (hO x h)=h:=by
 refine zl (zU (pf a hx)) a fun z=>?_
 rw[ph,jW]
 constructor
 ·rintro ⟨m|m,n⟩
  ·exact absurd m n
  ·exact m
 ·exact fun m=>⟨.inr m,fun c=>hx (c▸m)⟩
theorem am7 {l:List Op} {k:Nat} (h:(gw l).Nodup) (hk:k<l.length) (lR:(og l k).ins=aq) :
  Ap (fin [] (l.take (k+1))) (l.drop (k+1))/\(og l k).it∈fin [] (l.take (k+1))/\pN (og l k).it (fin [] (l.take (k+1)))=fin [] (l.take k)/\tk [] (l.take (k+1))=tk [] (l.take k)/\gI [] (l.take (k+1))=gI [] (l.take k):=by
 have a:=Oe h k;rw[OW hk] at a;have e:l.take (k+1)=l.take k++[og l k]:=by rw[List.take_succ_eq_append_getElem hk,og,ax,bj hk];rfl
 have e1:fin [] (l.take (k+1))=hO (og l k).it (fin [] (l.take k)):=by rw[e,qa,s9 lR];rfl
 have e2:tk [] (l.take (k+1))=tk [] (l.take k):=by rw[e,vM,oE lR,tk,List.append_nil]
 have e3:gI [] (l.take (k+1))=gI [] (l.take k):=by rw[e,ud,oB lR,gI];rfl
 obtain⟨a1,a2,a3⟩:=a.ins lR;refine⟨Oe h (k+1),by rw[e1];exact jW.2 (.inl rfl),by rw[e1];exact ag_ a.ord a2,e2,e3⟩
theorem ahh {l:List Op} {k:Nat} (h:(gw l).Nodup) (hk:k<l.length) (lR:(og l k).ins=aq) :
  ((og l k).it∈fin [] l->fin [] (j9 l k)=pN (og l k).it (fin [] l)/\gI [] (j9 l k)=gI [] l/\∀ w,w∈tk [] (j9 l k)↔w∈tk [] l) /\
  ((og l k).it∉fin [] l->(og l k).it∈tk [] l/\(pU (bY l) (Mj l (k+1))=aj->fin [] (j9 l k)=fin [] l/\gI [] (j9 l k)=gI [] l+1/\∀ w,w∈tk [] (j9 l k)↔w∈tk [] l/\w≠(og l k).it) /\
   (∀ z,pU (bY l) (Mj l (k+1))=aa z->z∈fin [] l/\fin [] (j9 l k)=pN z (fin [] l)/\gI [] (j9 l k)=gI [] l/\∀ w,w∈tk [] (j9 l k)↔(w∈tk [] l∨w=z)/\w≠(og l k).it)):=by
 obtain⟨a,m1,m2,m3,m4⟩:=am7 h hk lR;have c:=acz h (k+1);have hp:k+1≤l.length:=hk;obtain⟨b,b1,b2,b3,b4⟩:=ae6 h hp;have hl:pU (bY l) (Mj l (k+1))=lo (lX aq ((bY l).take b)):=by
  show lo (lX aq ((bY l).take (kA (bY l).length (OP (bY l) ((k+1:Nat):Int) (pR l)))))=_
  rw[b1,ua,zP b3]
 rw[← b4] at hl;rw[hl];have Ut:gO l (og l k).it=decide ((og l k).it∈tk [] l):=rfl;have hx:(og l k).it∈gw l:=by
  have:=congrArg gw (parts hk);rw[zi,xI lR] at this;rw[this];exact uQ _ bO
 have LY:=qT (lP h) (og l k).it;have hta:=NV (z:=(og l k).it) h (k+1);have f1:fin [] (j9 l k)=fin (pN (og l k).it (fin [] (l.take (k+1)))) (l.drop (k+1)):=by unfold j9;rw[qa,m2]
 have f2:gI [] (j9 l k)=gI [] (l.take (k+1))+gI (pN (og l k).it (fin [] (l.take (k+1)))) (l.drop (k+1)):=by unfold j9;rw[ud,m2,m4]
 have f3:tk [] (j9 l k)=tk [] (l.take (k+1))++tk (pN (og l k).it (fin [] (l.take (k+1)))) (l.drop (k+1)):=by unfold j9;rw[vM,m2,m3]
 rw[f1,f2,f3];rw[O4 l (k+1),Oo l (k+1),Th l (k+1)] at *
 obtain⟨a1,a2,a3,a4⟩:=D5 a m1;have hbr:=fun hg=>GD (z:=(og l k).it) a c m1 hg
 generalize tk [] (l.take (k+1))=T at *
 generalize gI [] (l.take (k+1))=F at *
 generalize fin [] (l.take (k+1))=H at *
 generalize l.drop (k+1)=r at *
 generalize(og l k).it=x at *
 have hxT:x∉T:=fun c=>(hta c).1 m1
 constructor
 ·intro j5;have hn:x∉tk H r:=fun c=>(LY.1 j5).2 (uQ _ c)
  have e:=wM m1 hn;rw[e] at a1 a2 a3;rw[if_neg (by simp)] at a2
  refine⟨a1,by omega,fun w=>?_⟩
  rw[b9,b9,a3 w]
  constructor
  ·rintro (m|⟨n,m|m⟩)
   ·exact .inl m
   ·exact .inr m
   ·injection m with m;exact absurd m.symm n
  ·rintro (m|m)
   ·exact .inl m
   ·exact .inr ⟨fun c=>hn (c▸m),.inl m⟩
 ·intro CC;have htk:x∈T++tk H r:=by
   by_cases q:x∈T++tk H r
   ·exact q
   ·exact absurd (LY.2 ⟨.inr hx,q⟩) CC
  have hbr:=hbr (by rw[Ut];exact decide_eq_true htk)
  rw[← hbr];refine⟨htk,fun e=>?_,fun z e=>?_⟩
  ·rw[e] at a1 a2 a3;rw[if_pos rfl] at a2;refine⟨a1,by omega,fun w=>?_⟩
   rw[b9,b9,a3 w]
   constructor
   ·rintro (m|⟨n,m|m⟩)
    ·exact⟨.inl m,fun c=>hxT (c▸m)⟩
    ·exact⟨.inr m,n⟩
    ·cases m
   ·rintro ⟨m|m,n⟩
    ·exact .inl m
    ·exact .inr ⟨n,.inl m⟩
  ·rw[e] at a1 a2 a3;rw[if_neg (by simp)] at a2
   refine⟨a4 z e,a1,by omega,fun w=>?_⟩
   rw[b9,b9,a3 w]
   constructor
   ·rintro (m|⟨n,m|m⟩)
    ·exact⟨.inl (.inl m),fun c=>hxT (c▸m)⟩
    ·exact⟨.inl (.inr m),n⟩
    ·injection m with m;exact⟨.inr m.symm,n⟩
   ·rintro ⟨(m|m)|m,n⟩
    ·exact .inl m
    ·exact .inr ⟨n,.inl m⟩
    ·exact .inr ⟨n,.inr (by rw[m])⟩
end Pa
namespace Sh
open Rx Wv
def k9:Gv.Kd Sl Sz:=⟨O9,S9,KX,(fun l=>inferInstanceAs (Decidable (l.length≤1000))),YD,(fun x h=>h),dx _,(fun x y h=>by
 unfold KX at *
 rw[bJ] at *
 rw[List.length_tail];omega)⟩
def sl (x:It):Sl:=⟨x,ao,0⟩
abbrev mJ (l:List It):List Sl:=l.map sl
def Ord (l:List It):Prop:=l.Pairwise ah
theorem Qj {l:List It}:Lw O9 (mJ l)↔Ord l:=by
 unfold Lw Ord mJ;rw[Dj]
 constructor<;>intro h<;>refine h.imp ?_
 ·intro a b h;exact(DS _ _).1 h
 ·intro a b h;exact(DS _ _).2 h
def sk (x:It):List It->Nat
 |[]=>0
 |y::l=>if ah y x then sk x l+1 else 0
instance (a b:It):Decidable (ah a b):=inferInstanceAs (Decidable (_∨_))
theorem Ds (x:It):∀ l:List It,Gv.qR O9 (sl x) (mJ l)=sk x l
 |[]=>rfl
 |y::l=>by
  by_cases h:ah y x
  ·have h':0<O9.cmp (sl x) (sl y):=(w5 _ _).2 h;show Gv.qR O9 (sl x) (sl y::mJ l)=_
   rw[Gv.PC h',Ds x l,sk,if_pos h]
  ·have h':¬ 0<O9.cmp (sl x) (sl y):=fun c=>h ((w5 _ _).1 c)
   show Gv.qR O9 (sl x) (sl y::mJ l)=_
   rw[Gv.Lv h',sk,if_neg h]
theorem Vi (x:It) (l:List It):sk x l≤l.length:=by
 rw[← Ds];have:=Gv.aka (O:=O9) (sl x) (mJ l);simpa using this
theorem Ih (l:List It) (j:Nat):(mJ l).getD j slz=sl (l.getD j iz):=by
 unfold mJ;simp only[ax,gh];cases l[j]?<;>rfl
def pM (x:It):List It->Nat
 |[]=>0
 |y::l=>if y=x then 0 else pM x l+1
theorem TU (x:It):∀ l:List It,pM x l≤l.length
 |[]=>bc _
 |y::l=>by
  have:=TU x l;rw[pM];split<;>simp<;>omega
theorem Ho {x:It}:∀ {l:List It} {j:Nat},j<pM x l->l.getD j iz≠x
 |[],j,h=>by simp[pM] at h
 |y::l,j,h=>by
  rw[pM] at h;split at h
  ·omega
  ·cases j with
   |zero=>simpa using by assumption
   |succ j=>rw[wm];exact Ho (by omega)
theorem w6 {x:It}:∀ {l:List It},pM x l<l.length->l.getD (pM x l) iz=x
 |[],h=>by simp at h
 |y::l,h=>by
  rw[pM] at h ⊢;split at h
  ·rw[if_pos (by assumption)];simpa using by assumption
  ·rw[if_neg (by assumption),wm];exact w6 (by simpa using h)
theorem ajr {x:It} {l:List It} {i:Nat} (h:∀ j,j<i->l.getD j iz≠x) (hi:i<l.length) (hx:l.getD i iz=x):pM x l=i:=by
 rcases nV (pM x l) i with c|c|c
 ·exact absurd (w6 (x:=x) (l:=l) (by omega)) (h _ c)
 ·exact c
 ·exact absurd hx (Ho c)
theorem ajI {x:It} {l:List It} (h:∀ j,j<l.length->l.getD j iz≠x):pM x l=l.length:=by
 have:=TU x l;rcases cx (pM x l) l.length with c|c
 ·exact absurd (w6 c) (h _ c)
 ·omega
theorem Ha (a:It):¬ ah a a:=fun h=>sx h h
theorem abz (x y:It):O9.cmp (sl x) (sl y)=0↔x=y:=Co x y
theorem YF {x:It} {l:List It} (ho:Ord l) (h:pM x l<l.length):sk x l=pM x l:=by
 rw[← Ds];refine Gv.Vy YD (Qj.2 ho) (by simpa using h) ?_
 have e:(mJ l).getD (pM x l) O9.e0=sl x:=by
  show(mJ l).getD (pM x l) slz=sl x
  rw[Ih,w6 h]
 rw[e,abz]
def nL (x:It) (l:List It):Bool:=decide (pM x l<l.length)
theorem VM (x:It) {l:List It} (ho:Ord l):(xR O9 (sl x) (mJ l)).isSome=nL x l:=by
 rw[Gv.VP,Ds];unfold nL;have e:(mJ l).getD (sk x l) O9.e0=sl (l.getD (sk x l) iz):=Ih l _;rw[e];simp only[abz,gX]
 by_cases h:pM x l<l.length
 ·have hr:=YF ho h;rw[hr,decide_eq_true h,decide_eq_true (w6 h).symm];rfl
 ·rw[decide_eq_false h]
  by_cases h2:sk x l<l.length
  ·have:¬ x=l.getD (sk x l) iz:=fun c=>h (by
    have:=Ho (x:=x) (l:=l) (j:=sk x l);rcases cx (sk x l) (pM x l) with c2|c2
    ·exact absurd c.symm (this c2)
    ·omega)
   rw[decide_eq_false this,uM]
  ·rw[decide_eq_false h2];rfl
def rG (x:It) (l:List It):List It:=if nL x l=aq then l else l.take (sk x l)++x::l.drop (sk x l)
def wz (x:It) (l:List It):List It:=if nL x l=aq then l.take (pM x l)++l.drop (pM x l+1) else l
theorem VE {x:It} {l:List It} (ho:Ord l):th O9 (sl x) (mJ l)=mJ (rG x l):=by
 rw[Gv.V1,VM x ho,Ds];unfold rG;cases h:nL x l with
 |true =>
  have h':pM x l<l.length:=of_decide_eq_true h;have hr:=YF ho h';simp only[if_true];rw[hr];have e:l=l.take (pM x l)++x::l.drop (pM x l+1):=by
   have hx:=w6 h';rw[ax,bj h'] at hx
   conv=>lhs;rw[← cT (pM x l) l,oX h']
   rw[show l[pM x l]=x from hx]
  conv=>rhs;rw[e]
  simp[mJ,nr,ns]
 |false=>simp[mJ,nr,ns]
theorem ag5 {x:It} {l:List It} (ho:Ord l):B7 O9 (sl x) (mJ l)=mJ (wz x l):=by
 have hh:=VM x ho;unfold B7 wz;rw[Gv.OR,Gv.PT,Ds];cases h:nL x l with
 |true =>
  have h':pM x l<l.length:=of_decide_eq_true h;have hr:=YF ho h';rw[h] at hh;cases hc:xR O9 (sl x) (mJ l) with
  |none=>rw[hc] at hh;cases hh
  |some y=>simp[mJ,HD,hr,nr,ns]
 |false =>
  rw[h] at hh;cases hc:xR O9 (sl x) (mJ l) with
  |none=>rfl
  |some y=>rw[hc] at hh;cases hh
theorem ajb {x:It} {l:List It} {j:Nat} (h:j<sk x l):ah (l.getD j iz) x:=by
 rw[← Ds] at h;have:=Gv.V8 (O:=O9) h;rw[show(mJ l).getD j O9.e0=sl (l.getD j iz) from Ih l j] at this
 exact(w5 _ _).1 this
theorem aaA {x:It} {l:List It} (ho:Ord l) (hn:nL x l=ao) {j:Nat} (h:sk x l≤j) (hj:j<l.length):ah x (l.getD j iz):=by
 have h0:¬ ah (l.getD (sk x l) iz) x:=fun c=>by
  have:=Gv.VJ (O:=O9) (e:=sl x) (l:=mJ l) (by rw[Ds];simp;omega)
  rw[Ds,show(mJ l).getD (sk x l) O9.e0=sl (l.getD (sk x l) iz) from Ih l _] at this
  exact this ((w5 _ _).2 c)
 have kt:∀ k,k<l.length->l.getD k iz≠x:=fun k hk c=>by
  have xU:¬ pM x l<l.length:=of_decide_eq_false hn;exact Ho (x:=x) (l:=l) (j:=k) (by have:=TU x l;omega) c
 have h1:ah x (l.getD (sk x l) iz):=by
  rcases Classical.em (ah x (l.getD (sk x l) iz)) with c|c
  ·exact c
  ·exact absurd (aay c h0).symm (kt _ (by omega))
 rcases cx (sk x l) j with c|c
 ·have g:∀ k (hk:k<l.length),l.getD k iz=l[k]:=fun k hk=>by rw[ax,bj hk];rfl
  have:=(DB.1 ho) (sk x l) j (by omega) hj c
  rw[g _ hj];rw[g _ (by omega)] at h1
  exact Vk h1 this
 ·rwa [show j=sk x l by omega]
theorem aan {x:It} {l:List It} (ho:Ord l) (hn:nL x l=ao):∀ n,sk x l≤n->n≤l.length->tu x l n=sk x l
 |0,h,_=>by rw[tu];omega
 |n+1,h,hl=>by
  rw[tu];rcases cx (sk x l) (n+1) with c|c
  ·rw[if_pos (aaA ho hn (by omega) (by omega))]
   exact aan ho hn n (by omega) (by omega)
  ·rw[if_neg (fun h2=>sx h2 (ajb (by omega)))]
   omega
theorem Rj {x:It} {l:List It} (ho:Ord l) (hn:nL x l=ao):Wv.ins x l=rG x l:=by
 unfold Wv.ins rG;rw[aan ho hn _ (Vi x l) (bc _),if_neg (by rw[hn];decide)]
theorem af7 {l:List It}:Ord l->nK l=l:=MF (P:=fun l=>Ord l->nK l=l) (fun _=>rfl) (fun l x ih h=>by
 have h1:Ord l:=(nE.1 h).1;have h2:∀ y∈l,ah y x:=fun y hy=>(nE.1 h).2.2 y hy x (List.mem_singleton_self x)
 have hn:nL x l=ao:=by
  refine decide_eq_false fun c=>?_
  have:=h2 _ (yK (d:=iz) c);rw[w6 c] at this;exact Ha _ this
 have hr:sk x l=l.length:=by
  rcases cx (sk x l) l.length with c|c
  ·exact absurd (aaA h1 hn (bc _) c) (sx (h2 _ (yK c)))
  ·have:=Vi x l;omega
 rw[Eu,ih h1,Rj h1 hn];unfold rG;rw[if_neg (by rw[hn];decide),hr]
 simp) l
theorem agl {x:It} {l:List It} (ho:Ord l) (hn:nL x l=ao):nK (l++[x])=rG x l:=by
 rw[Eu,af7 ho,Rj ho hn]
theorem Xf {x:It} {l:List It} (ho:Ord l):Ord (rG x l):=by
 rw[← Qj,← VE ho];exact Z' YD (Qj.2 ho)
theorem adz (x:It) (l:List It):(rG x l).length≤l.length+1:=by
 unfold rG;split
 ·omega
 ·simp;have:=Vi x l;omega
end Sh
namespace Pa
open Rx Wv Br
open Sh (rG wz mJ sl nL pM w6 Ho)
def tQ (H:List It) (o:Op):Mk:=⟨o.t,o.ins,o.it,o.ins&&decide (o.it∈H),ao,iz⟩
def gm (H:List It) (l:List Op):List Mk:=l.map (tQ H)
theorem tX (l:List Op):bY l=gm (fin [] l) l:=rfl
theorem mG (H:List It) (l:List Op):(gm H l).length=l.length:=gX ..
theorem abi {H H':List It} {o:Op} (h:o.ins=aq->(o.it∈H↔o.it∈H')):tQ H o=tQ H' o:=by
 unfold tQ;rcases iX o with c|c
 ·rw[decide_eq_decide.2 (h c)]
 ·rw[c];rfl
theorem CP {H H':List It} {l:List Op} (h:∀ z,z∈gw l->(z∈H↔z∈H')):gm H l=gm H' l :=
 nY fun o ho=>abi fun c=>h _ (DO.2 ⟨o,ho,c,rfl⟩)
theorem nX (H:List It) {l:List Op} {k:Nat} (h:k<l.length):(gm H l).getD k mz=tQ H (og l k):=by
 unfold gm og;rw[ax,ax,gh,bj h];rfl
def Tm (l:List Op):Prop:=l.Pairwise fun a b=>a.t<b.t
theorem TV {H:List It} {l:List Op} (h:Tm l):Lw O8 (gm H l):=by
 unfold Lw gm;rw[Dj];exact LK (fun c=>(DK _ _).2 c) h
def ni (t:Int) (l:List Op):Nat:=l.findIdx fun o=>!decide (o.t<t)
theorem UI (t:Int) (l:List Op):ni t l≤l.length:=List.findIdx_le_length
theorem FD {H:List It} {e:Mk}:∀ l:List Op,Gv.qR O8 e (gm H l)=ni e.t l
 |[]=>rfl
 |o::l=>by
  unfold ni;rw[List.findIdx_cons];show Gv.qR O8 e (tQ H o::gm H l)=_
  by_cases c:o.t<e.t
  ·rw[Gv.PC ((QY e (tQ H o)).2 c),FD l,decide_eq_true c];rfl
  ·rw[Gv.Lv fun k=>c ((QY e (tQ H o)).1 k),decide_eq_false c];rfl
theorem acw {t:Int} {l:List Op} (h:Tm l) {k:Nat} (hk:k<l.length) (ht:(og l k).t=t):ni t l=k:=by
 have:=Gv.Vy (O:=O8) SY (e:=⟨t,ao,iz,ao,ao,iz⟩) (l:=gm [] l) (i:=k) (TV h) (by rw[mG];exact hk) (by
  show O8.cmp _ ((gm [] l).getD k mz)=0
  rw[nX [] hk,BP];exact ht.symm)
 rwa [FD] at this
theorem OI {l:List Op} {k:Nat} (h:k<l.length):og l k∈l:=by
 rw[og,ax,bj h];exact Fp h
def Ej (l:List Op) (t:Int):Prop:=∀ o,o∈l->o.t≠t
theorem KS (l:List Op) (t:Int):Ej l t∨∃ k,k<l.length/\(og l k).t=t:=by
 by_cases h:∃ k,k<l.length/\(og l k).t=t
 ·exact .inr h
 ·refine .inl fun o ho e=>h ?_
  obtain⟨k,hk,rfl⟩:=sK ho;exact⟨k,hk,by rw[og,ax,bj hk];exact e⟩
theorem MI {H:List It} {e:Mk} {l:List Op} (h:Ej l e.t):(xR O8 e (gm H l)).isSome=ao:=by
 rw[Gv.VP]
 by_cases c:Gv.qR O8 e (gm H l)<(gm H l).length
 ·have c':=c;rw[FD,mG] at c';have:¬ O8.cmp e ((gm H l).getD (Gv.qR O8 e (gm H l)) O8.e0)=0:=by
   show ¬ O8.cmp e ((gm H l).getD (Gv.qR O8 e (gm H l)) mz)=0
   rw[FD,nX H c',BP];exact fun q=>h _ (OI c') q.symm
  rw[decide_eq_false this,uM]
 ·rw[decide_eq_false c,B4]
theorem J_ {H:List It} {e:Mk} {l:List Op} (h:Tm l) {k:Nat} (hk:k<l.length) (ht:(og l k).t=e.t):(xR O8 e (gm H l)).isSome=aq/\Gv.qR O8 e (gm H l)=k:=by
 have r:Gv.qR O8 e (gm H l)=k:=by rw[FD];exact acw h hk ht
 refine⟨?_,r⟩;rw[Gv.VP,r,mG,decide_eq_true hk,ji,decide_eq_true_eq];show O8.cmp e ((gm H l).getD k mz)=0
 rw[nX H hk,BP];exact ht.symm
theorem Rd {H:List It} {l:List Op} {o:Op} {m:Mk} (h:Ej l o.t) (hm:m=tQ H o):th O8 m (gm H l)=gm H (kZ l (ni o.t l) o):=by
 subst hm;rw[Gv.V1,if_neg (by rw[MI (e:=tQ H o) h];decide),FD]
 unfold kZ gm;rw[dT,gC,nr,ns]
 rfl
theorem agB {H:List It} {l:List Op} {m:Mk} {k:Nat} (h:Tm l) (hk:k<l.length) (ht:(og l k).t=m.t):th O8 m (gm H l)=(gm H l).take k++m::(gm H l).drop (k+1):=by
 have q:=J_ (H:=H) h hk ht;rw[Gv.V1,if_pos q.1,q.2]
theorem aeg {H:List It} {l:List Op} {m:Mk} {k:Nat} (h:Tm l) (hk:k<l.length) (ht:(og l k).t=m.t):B7 O8 m (gm H l)=gm H (j9 l k):=by
 have q:=J_ (H:=H) h hk ht;unfold B7;cases c:xR O8 m (gm H l) with
 |none=>rw[c] at q;cases q.1
 |some y =>
  simp only;rw[Gv.OR,Gv.PT,q.2,HD];unfold j9 gm;rw[dT,nr,ns]
theorem apart {l:List Op} {k:Nat} (h:(gw l).Nodup) (hk:k<l.length) (lR:(og l k).ins=aq):(og l k).it∉gw (l.take k)/\(og l k).it∉gw (l.drop (k+1)):=by
 have e:=congrArg gw (parts hk);rw[zi,xI lR] at e;rw[e] at h;have h':=ch.1 h;exact⟨fun m=>h'.2.2 _ m _ bO rfl,(fI.1 h'.2.1).1⟩
theorem flip {H H':List It} {l:List Op} {k:Nat} (h:(gw l).Nodup) (hk:k<l.length) (lR:(og l k).ins=aq) (hH:∀ z,z≠(og l k).it->(z∈H↔z∈H')):(gm H l).take k++tQ H' (og l k)::(gm H l).drop (k+1)=gm H' l:=by
 obtain⟨n1,n2⟩:=apart h hk lR
 conv=>rhs;rw[parts hk]
 unfold gm;rw[dT,gC,← nr,← ns];have e1:(l.take k).map (tQ H)=(l.take k).map (tQ H'):=CP fun z hz=>hH z fun c=>n1 (c▸hz)
 have e2:(l.drop (k+1)).map (tQ H)=(l.drop (k+1)).map (tQ H'):=CP fun z hz=>hH z fun c=>n2 (c▸hz)
 rw[e1,e2]
theorem U1 {l:List Op} {i k:Nat} (h:(gw l).Nodup) (hk:k<l.length) (hi:i<l.length) (h1:(og l k).ins=aq) (h2:(og l i).ins=aq) (he:(og l i).it=(og l k).it):i=k:=by
 obtain⟨n1,n2⟩:=apart h hk h1;rcases nV i k with c|c|c
 ·refine absurd (DO.2 ⟨og l i,?_,h2,he⟩) n1;rw[vC];exact⟨i,by rw[eu];omega,by rw[LL,og,ax,bj hi];rfl⟩
 ·exact c
 ·refine absurd (DO.2 ⟨og l i,?_,h2,he⟩) n2;rw[vC];exact⟨i-(k+1),by rw[jq];omega,by rw[LM,og,ax];simp only[show k+1+(i-(k+1))=i by omega];rw[bj hi];rfl⟩
theorem afi {l:List Op} {o:Op} (h:Tm l) (hf:Ej l o.t):Tm (kZ l (ni o.t l) o):=by
 have:=Z' (O:=O8) SY (e:=tQ [] o) (TV (H:=[]) h);rw[Rd (H:=[]) hf rfl] at this;unfold Lw gm at this;rw[Dj] at this;exact LK (fun c=>(DK _ _).1 c) this
theorem akD {l:List Op} (h:Tm l) (k:Nat):Tm (j9 l k):=by
 have e:(j9 l k).Sublist l:=by
  have:(l.take k++l.drop (k+1)).Sublist (l.take k++l.drop k):=(acM _).append (List.drop_sublist_drop_left l (Nat.le_succ k))
  rwa [cT] at this
 exact Yr e h
theorem uw {x:It} {l:List It}:nL x l=aq↔x∈l:=by
 unfold nL;rw[decide_eq_true_eq]
 constructor
 ·intro c;have:=w6 c;rw[← this,ax,bj c];exact Fp c
 ·intro m;obtain⟨k,hk,e⟩:=sK m
  by_cases c:pM x l<l.length
  ·exact c
  ·exact absurd (show l.getD k iz=x by rw[ax,bj hk];exact e) (Ho (by omega))
theorem Yj {x:It} {l:List It} (h:Ord l) (hx:x∉l):rG x l=hO x l:=by
 refine zl (Sh.Xf h) (pf h hx) fun z=>?_
 unfold rG;rw[if_neg fun c=>hx (uw.1 c),jW,b9,bR]
 have:=cT (Sh.sk x l) l
 constructor
 ·rintro (m|m|m)
  ·exact .inr (rO m)
  ·exact .inl m
  ·exact .inr (IV m)
 ·rintro (m|m)
  ·exact .inr (.inl m)
  ·rw[← this] at m;rcases b9.1 m with m|m
   ·exact .inl m
   ·exact .inr (.inr m)
theorem adf {x:It} {l:List It} (h:Ord l):wz x l=pN x l:=by
 unfold wz;split
 ·rename_i c;have cl:pM x l<l.length:=of_decide_eq_true c;have e:l=l.take (pM x l)++x::l.drop (pM x l+1):=by
   have hx:=w6 cl;rw[ax,bj cl] at hx
   conv=>lhs;rw[← cT (pM x l) l,oX cl]
   rw[show l[pM x l]=x from hx]
  have hn:l.Nodup:=h.imp fun c=>alf c
  have xU:=hn;rw[e] at xU;have h1:=ch.1 xU;have h2:=fI.1 h1.2.1
  conv=>rhs;rw[e]
  unfold pN;rw[oN,kd,if_neg (by simp)]
  rw[Bm.2,Bm.2]
  ·intro z hz;have:z≠x:=fun c=>h2.1 (c▸hz)
   simp[this]
  ·intro z hz;have:z≠x:=fun c=>h1.2.2 z hz x bO c
   simp[this]
 ·rename_i c;have hx:x∉l:=fun m=>c (uw.2 m)
  unfold pN;rw[Bm.2];intro z hz;have:z≠x:=fun c=>hx (c▸hz)
  simp[this]
def gn (l:List Op):List It:=nK (tk [] l)
theorem Pj:∀ {r:List Op} {h:List It},Ap h r->(tk h r).Nodup
 |[],h,a=>List.nodup_nil
 |o::r,h,a=>by
  rcases iX o with e|e
  ·rw[oE e];exact Pj (a.ins e).1
  ·cases h with
   |nil=>rw[BV e];exact Pj (a.del e)
   |cons y h =>
    rw[oC e];have a':Ap h r:=a.del e;refine fI.2 ⟨fun m=>?_,Pj a'⟩
    rcases qS a' y m with c|c
    ·exact yu a.ord c
    ·have:=a.ap y bO;rw[qU e] at this;exact this c
theorem aae:∀ l:List It,l.Nodup->Ord (nK l)/\∀ z,z∈nK l↔z∈l :=
 MF (P:=fun l=>l.Nodup->Ord (nK l)/\∀ z,z∈nK l↔z∈l) (fun _=>⟨rF,fun z=>r_⟩) fun l x ih h=>by
  have h':=ch.1 h;obtain⟨i1,i2⟩:=ih h'.1;have hx:x∉nK l:=fun m=>h'.2.2 x ((i2 x).1 m) x bO rfl
  have e:nK (l++[x])=hO x (nK l):=by
   rw[Eu,Sh.Rj i1 (by cases c:nL x (nK l);rfl;exact absurd (uw.1 c) hx),Yj i1 hx]
  rw[e];refine⟨pf i1 hx,fun z=>?_⟩
  rw[jW,b9,i2 z];simp only[bR,vy,or_false];exact⟨fun c=>c.symm,fun c=>c.symm⟩
theorem qG {l:List Op} (h:(gw l).Nodup):Ord (gn l):=(aae _ (Pj (lP h))).1
theorem tq {l:List Op} (h:(gw l).Nodup) {z:It}:z∈gn l↔z∈tk [] l:=(aae _ (Pj (lP h))).2 z
theorem zR {l:List Op} (h:(gw l).Nodup):Ord (fin [] l):=XS (lP h)
theorem Uk (l:List Op):(gn l).length=(tk [] l).length:=W8 _
end Pa
namespace Gv
section
variable {E A:Type} {O:iL E A} {S:List E->A} {dm:List E->Prop}
end
namespace TS
variable {E A:Type} {k:Kd E A}
theorem akj (s:TS k) (i:Int):nv (2*nk s.l.length+1) s.m (s.at_ i).m:=by
 obtain⟨d,m',e1,e2⟩:=s.ok.at_ (K:=KK) (i:=i) s.k1;show nv _ s.m (qH k.O KK s.m s.r i).2
 rw[e1];exact e2.qA
theorem V0 {N:Type} {k:Nat} {a b:PM N} {v:Int} (h:nv k a b) (h0:0≤a.cY) (h1:a.cY≤v) (h2:v+k≤4000000000000000000):0≤b.cY/\b.cY≤v+k:=by
 obtain⟨j,hj,e⟩:=h;rcases e with⟨e,rfl⟩|e
 ·rw[e];omega
 ·rw[e,uv (by omega)];omega
theorem qo (s:TS k):nk s.l.length≤29:=by
 have:=aei s.V7;have e:nk 1000=29:=by decide
 omega
end TS
end Gv
namespace Pa
open Rx Wv Br
theorem VF {L:List Mk} {may:Sw->Sw->Bool} {g:Mk->Bool} (h0:g mz=ao) (hm:∀ a l,may a (S8 l)=aq↔∃ m,m∈l/\g m=aq):Gv.AW O8 S8 may (fun i=>g (L.getD i mz)) L:=by
 have key:∀ p l q a,p++(l++q)=L->(may a (S8 l)=aq↔∃ i,p.length≤i/\i<p.length+l.length/\g (L.getD i mz)=aq):=fun p l q a hL=>by
  rw[hm]
  constructor
  ·rintro ⟨m,h1,h2⟩
   obtain⟨j,hj,rfl⟩:=sK h1;refine⟨p.length+j,by omega,by omega,?_⟩
   rw[← hL,ax,dU (by omega),show p.length+j-p.length=j by omega,db hj,bj hj]
   exact h2
  ·rintro ⟨i,h1,h2,h3⟩
   have hj:i-p.length<l.length:=by omega
   refine⟨l[i-p.length],Fp hj,?_⟩;rw[← hL,ax,dU h1,db hj,bj hj] at h3;exact h3
 refine⟨⟨fun p x q hL=>?_,fun p l q hL i h1 h2 h3=>(key p l q _ hL).2 ⟨i,h1,h2,h3⟩⟩,fun p l q hL hl hm=>(key p l q _ hL).1 hm⟩
 have k:=key p [x] q (S8 p) (by simpa using hL)
 rw[show O8.sum x=S8 [x] from(U9 x).symm,Qa,k]
 simp only[List.length_singleton];exact⟨fun h=>⟨p.length,bc _,by omega,h⟩,fun⟨i,h1,h2,h3⟩=>by rwa [show i=p.length by omega] at h3⟩
def iC (x:Int) (a o:Sw):Bool:=decide (mW (mW (x+a.w.s)+o.w.l)≤0)
def pZ (x:It) (a o:Sw):Bool:=o.gf&&decide (kK o.g x≥0)
def p9 (x:It) (a o:Sw):Bool:=o.lf&&decide (kK o.l x≤0)
theorem K' (a b:It):kK a b≥0↔a=b∨ah b a:=by
 rw[← w5 a b,← Sh.Co a b];omega
theorem K5 (a b:It):kK a b≤0↔a=b∨ah a b:=by
 rw[← Sh.DS a b,← Sh.Co a b];omega
abbrev isG (x:It):Mk->Bool:=fun m=>m.ins&&((m.here==ao)&&decide (kK m.it x≥0))
abbrev isL (x:It):Mk->Bool:=fun m=>m.ins&&((m.here==aq)&&decide (kK m.it x≤0))
theorem ae3 (x:It) (L:List Mk):Gv.AW O8 S8 (pZ x) (fun i=>isG x (L.getD i mz)) L:=VF rfl fun a l=>by
 show((hi (lX ao l)).isSome&&decide (kK ((hi (lX ao l)).getD iz) x≥0))=aq↔_
 rw[aL,decide_eq_true_eq]
 constructor
 ·rintro ⟨h1,h2⟩
  obtain⟨y,hy⟩:=Fq.1 h1;rw[hy,lG] at h2;obtain⟨m,g1,g2,g3,g4⟩:=tI.1 (EH hy);refine⟨m,g1,?_⟩;show(m.ins&&((m.here==ao)&&decide (kK m.it x≥0)))=aq
  rw[g2,g3,g4,decide_eq_true h2];rfl
 ·rintro ⟨m,g1,g2⟩
  simp only[isG,aL,beq_iff_eq,decide_eq_true_eq] at g2;obtain⟨y,hy,h3⟩:=H3 (l:=lX ao l) (tI.2 ⟨m,g1,g2.1,g2.2.1,rfl⟩);refine⟨by rw[hy];rfl,?_⟩
  rw[hy,lG,K'];have h4:=(K' _ _).1 g2.2.2;rcases h3 with h3|h3
  ·rw[h3];exact h4
  ·rcases h4 with h4|h4
   ·rw[← h4];exact .inr h3
   ·exact .inr (O1 h4 h3)
theorem afr (x:It) (L:List Mk):Gv.AW O8 S8 (p9 x) (fun i=>isL x (L.getD i mz)) L:=VF rfl fun a l=>by
 show((lo (lX aq l)).isSome&&decide (kK ((lo (lX aq l)).getD iz) x≤0))=aq↔_
 rw[aL,decide_eq_true_eq]
 constructor
 ·rintro ⟨h1,h2⟩
  obtain⟨y,hy⟩:=Fq.1 h1;rw[hy,lG] at h2;obtain⟨m,g1,g2,g3,g4⟩:=tI.1 (GI hy);refine⟨m,g1,?_⟩;show(m.ins&&((m.here==aq)&&decide (kK m.it x≤0)))=aq
  rw[g2,g3,g4,decide_eq_true h2];rfl
 ·rintro ⟨m,g1,g2⟩
  simp only[isL,aL,beq_iff_eq,decide_eq_true_eq] at g2;obtain⟨y,hy,h3⟩:=lo_le (l:=lX aq l) (tI.2 ⟨m,g1,g2.1,g2.2.1,rfl⟩);refine⟨by rw[hy];rfl,?_⟩
  rw[hy,lG,K5];have h4:=(K5 _ _).1 g2.2.2;rcases h3 with h3|h3
  ·rw[h3];exact h4
  ·rcases h4 with h4|h4
   ·rw[← h4];exact .inr h3
   ·exact .inr (O1 h3 h4)
theorem agF {H:List It} {l:List Op} {f k:Nat} {r:Int} {z:It} (hn:(gw l).Nodup) (hk:k<l.length) (lR:(og l k).ins=aq) (hz:(og l k).it=z) (hH:z∉H) (hf:f≤k)
  (hb:hi (lX ao ((gm H l).drop f))=aa z) (hr:Z_ (fun i=>isG z ((gm H l).getD i mz)) 0 (gm H l).length f r):r=k:=by
 have hP:isG z ((gm H l).getD k mz)=aq:=by
  rw[nX H hk];show((og l k).ins&&((((og l k).ins&&decide ((og l k).it∈H))==ao)&&decide (kK (og l k).it z≥0)))=aq
  rw[lR,hz,decide_eq_false hH,decide_eq_true ((K' z z).2 (.inl rfl))];rfl
 have nx:k<(gm H l).length:=by rw[mG];exact hk
 rcases hr with⟨h1,h2⟩|⟨j,h1,h2,h3,h4,h5,h6⟩
 ·have c:=h2 k (dx _) nx (by omega)
  exact absurd (hP.symm.trans c) (by decide)
 ·have hj:j<l.length:=by rw[mG] at h3;exact h3
  have LR:=h5;simp only[nX H hj] at h5;have h5:((og l j).ins&&((((og l j).ins&&decide ((og l j).it∈H))==ao)&&decide (kK (og l j).it z≥0)))=aq:=h5;rw[aL,aL,beq_iff_eq,decide_eq_true_eq] at h5;obtain⟨a1,a2,a3⟩:=h5;have hm:(og l j).it∈lX ao ((gm H l).drop f):=by
   refine tI.2 ⟨(gm H l).getD j mz,?_,by rw[nX H hj];exact a1,by rw[nX H hj];exact a2,by rw[nX H hj];rfl⟩
   rw[vC];refine⟨j-f,by rw[jq];omega,?_⟩
   rw[LM,ax,bj h3];simp only[show f+(j-f)=j by omega,lG]
  obtain⟨y,b1,b2⟩:=H3 hm;rw[hb] at b1;injection b1 with b1
  subst b1;have e:(og l j).it=(og l k).it:=by
   rw[hz];rcases(K' _ _).1 a3 with c|c
   ·exact c
   ·rcases b2 with d|d
    ·exact d.symm
    ·exact absurd d (sx c)
  rw[h1,U1 hn hk hj lR a1 e]
theorem ahu {H:List It} {l:List Op} {u k:Nat} {r:Int} {z:It} (hn:(gw l).Nodup) (hk:k<l.length) (lR:(og l k).ins=aq) (hz:(og l k).it=z) (hH:z∈H) (hf:k<u)
  (hb:lo (lX aq ((gm H l).take u))=aa z) (hr:Gv.EK (fun i=>isL z ((gm H l).getD i mz)) 0 (gm H l).length u r):r=k:=by
 have hP:isL z ((gm H l).getD k mz)=aq:=by
  rw[nX H hk];show((og l k).ins&&((((og l k).ins&&decide ((og l k).it∈H))==aq)&&decide (kK (og l k).it z≤0)))=aq
  rw[lR,hz,decide_eq_true hH,decide_eq_true ((K5 z z).2 (.inl rfl))];rfl
 have nx:k<(gm H l).length:=by rw[mG];exact hk
 rcases hr with⟨h1,h2⟩|⟨j,h1,h2,h3,h4,h5,h6⟩
 ·have c:=h2 k (dx _) nx (by omega)
  exact absurd (hP.symm.trans c) (by decide)
 ·have hj:j<l.length:=by rw[mG] at h3;exact h3
  simp only[nX H hj] at h5;have h5:((og l j).ins&&((((og l j).ins&&decide ((og l j).it∈H))==aq)&&decide (kK (og l j).it z≤0)))=aq:=h5;rw[aL,aL,beq_iff_eq,decide_eq_true_eq] at h5;obtain⟨a1,a2,a3⟩:=h5;have hm:(og l j).it∈lX aq ((gm H l).take u):=by
   refine tI.2 ⟨(gm H l).getD j mz,?_,by rw[nX H hj];exact a1,by rw[nX H hj];exact a2,by rw[nX H hj];rfl⟩
   rw[vC];have hl:j<((gm H l).take u).length:=by rw[eu];omega
   refine⟨j,hl,?_⟩;rw[LL,ax,bj h3]
   rfl
  obtain⟨y,b1,b2⟩:=lo_le hm;rw[hb] at b1;injection b1 with b1
  subst b1;have e:(og l j).it=(og l k).it:=by
   rw[hz];rcases(K5 _ _).1 a3 with c|c
   ·exact c
   ·rcases b2 with d|d
    ·exact d.symm
    ·exact absurd d (sx c)
  rw[h1,U1 hn hk hj lR a1 e]
end Pa
namespace G8
open Rx
set_option maxRecDepth 100000
def TWg {R:Type}:eK R:=[(1000000000,lJ)]
theorem ai8 {R:Type} {D:fK R}:cQ D Tryz.prog (TWg:eK R):=⟨iu,trivial⟩
def Tq {R:Type}:Prim R:=fun args hh=>match args,hh with
 |[.agg ⟨aS⟩,.agg ⟨oS⟩,.pointer (aa ⟨0,0,aj⟩)],[aa (.inl (3,[.int .i64 x]))]=>aa ⟨aS=kj (wa aS)/\oS=kj (wa oS),.bool (Pa.iC x (wa aS) (wa oS)),aj,hh,[],[]⟩
 |_,_=>aj
theorem XJ {R:Type} {D:fK R}:ck D Tryz.prog 154 (a9 Tq):=by
 refine fw Tryz.f154 fun args hh x hx=>?_
 unfold Tq at hx;split at hx
 ·rename_i aS oS x;cases hx;refine q4 fun _ hv=>?_
  obtain⟨jQ,sr⟩:=hv;generalize wa aS=a at *;subst jQ;generalize wa oS=o at *;subst sr
  generalize hG:ct (R:=R) _ _=G;refine cW (T:=TWg) ai8 mixed 200 ?_;refine bN (q:=Vc True/\Vc True/\aY (G (aD (decide (cr av (cr av (x+Ti.Td.s (Wv.Sw.w a))+Ti.Td.l (Wv.Sw.w o))≤(0:Int)))) [aa (.inl (3,[.int av x])),aa (.inl (53,(kj a))),aa (.inl (53,(kj o)))])) ?_ (by kernel_rfl)
  subst hG
  repeat' (first|apply cZ|apply Vc.mk|apply fits.mk|intro h|apply aY.mk)
  all_goals (try simp only[sB] at *)
  all_goals first|contradiction|omega|exact ju ‹_›|exact jt ‹_›|exact jv ‹_›|exact⟨rfl,by omega⟩|exact rfl|(simp[*,-ax];done)|skip
  exact⟨[0],rfl,rfl,⟨.inl rfl,trivial⟩,rfl,rfl,rfl,rfl⟩
 ·cases hx
def TSc {R:Type}:eK R:=[(69,bM zN 2 (a9 Sh.Q6)),(106,bM zN 2 (a9 Sh.F2))]
theorem aaF {R:Type} {D:fK R}:cQ D Tryz.prog (TSc:eK R):=⟨aX _ _ Sh.PI,aX _ _ Sh.zI,trivial⟩
def Y_ {R:Type}:Prim R:=fun args hh=>match args,hh with
 |[.agg ⟨aS⟩,.agg ⟨oS⟩,.pointer (aa ⟨0,0,aj⟩)],[aa (.inl (75,[.int .i64 k,.int .i64 i,.bool e,.int .i64 tt]))]=>aa ⟨aS=kj (wa aS)/\oS=kj (wa oS),.bool (Pa.pZ ⟨k,i⟩ (wa aS) (wa oS)),aj,hh,[],[]⟩
 |_,_=>aj
theorem af9 {R:Type} {D:fK R}:ck D Tryz.prog 105 (a9 Y_):=by
 refine fw Tryz.f105 fun args hh x hx=>?_
 unfold Y_ at hx;split at hx
 ·rename_i aS oS k i e tt;cases hx;refine q4 fun _ hv=>?_
  obtain⟨jQ,sr⟩:=hv;generalize wa aS=a at *;subst jQ;generalize wa oS=o at *;subst sr
  generalize hG:ct (R:=R) _ _=G;refine cW (T:=TSc) aaF mixed 200 ?_;refine bN (q:=let Z1:=bs av;(N5 o=aq->Vc (aD (N5 o)=aD aq)/\Vc True/\Vc True/\aY (G (aD (decide (gZ Sh.O9 (Sh.Sl.mk (Wv.Sw.g o) ao (0:Int)) (Sh.Sl.mk (cX k i) e tt)≥(0:Int)))) [aa (.inl (75,[Z1 k,Z1 i,.bool e,Z1 tt])),aa (.inl (53,(kj a))),aa (.inl (53,(kj o)))]))/\(N5 o=ao->Vc (aD (N5 o)=aD ao)/\aY (G (aD ao) [aa (.inl (75,[Z1 k,Z1 i,.bool e,Z1 tt])),aa (.inl (53,(kj a))),aa (.inl (53,(kj o)))]))) ?_ (by kernel_rfl)
  intro Z1;subst Z1;have done:∀ (x:Bool) (rest:Hp R),x=Pa.pZ ⟨k,i⟩ a o->G (.bool x) (aa (.inl (75,[.int .i64 k,.int .i64 i,.bool e,.int .i64 tt]))::rest):=by
   intro x rest h;subst h;subst hG;exact⟨[0],rfl,rfl,⟨.inl rfl,trivial⟩,rfl,rfl,rfl,rfl⟩
  clear hG;exact⟨fun h=>⟨⟨congrArg aD h⟩,⟨trivial⟩,⟨trivial⟩,⟨done _ _ (by unfold Pa.pZ;rw[h];rfl)⟩⟩,fun h=>⟨⟨congrArg aD h⟩,⟨done _ _ (by unfold Pa.pZ;rw[h];rfl)⟩⟩⟩
 ·cases hx
def Y0 {R:Type}:Prim R:=fun args hh=>match args,hh with
 |[.agg ⟨aS⟩,.agg ⟨oS⟩,.pointer (aa ⟨0,0,aj⟩)],[aa (.inl (75,[.int .i64 k,.int .i64 i,.bool e,.int .i64 tt]))]=>aa ⟨aS=kj (wa aS)/\oS=kj (wa oS),.bool (Pa.p9 ⟨k,i⟩ (wa aS) (wa oS)),aj,hh,[],[]⟩
 |_,_=>aj
theorem agT {R:Type} {D:fK R}:ck D Tryz.prog 110 (a9 Y0):=by
 refine fw Tryz.f110 fun args hh x hx=>?_
 unfold Y0 at hx;split at hx
 ·rename_i aS oS k i e tt;cases hx;refine q4 fun _ hv=>?_
  obtain⟨jQ,sr⟩:=hv;generalize wa aS=a at *;subst jQ;generalize wa oS=o at *;subst sr
  generalize hG:ct (R:=R) _ _=G;refine cW (T:=TSc) aaF mixed 200 ?_;refine bN (q:=let Z1:=bs av;(N6 o=aq->Vc (aD (N6 o)=aD aq)/\Vc True/\Vc True/\aY (G (aD (decide (gZ Sh.O9 (Sh.Sl.mk (Wv.Sw.l o) ao (0:Int)) (Sh.Sl.mk (cX k i) e tt)≤(0:Int)))) [aa (.inl (75,[Z1 k,Z1 i,.bool e,Z1 tt])),aa (.inl (53,(kj a))),aa (.inl (53,(kj o)))]))/\(N6 o=ao->Vc (aD (N6 o)=aD ao)/\aY (G (aD ao) [aa (.inl (75,[Z1 k,Z1 i,.bool e,Z1 tt])),aa (.inl (53,(kj a))),aa (.inl (53,(kj o)))]))) ?_ (by kernel_rfl)
  intro Z1;subst Z1;have done:∀ (x:Bool) (rest:Hp R),x=Pa.p9 ⟨k,i⟩ a o->G (.bool x) (aa (.inl (75,[.int .i64 k,.int .i64 i,.bool e,.int .i64 tt]))::rest):=by
   intro x rest h;subst h;subst hG;exact⟨[0],rfl,rfl,⟨.inl rfl,trivial⟩,rfl,rfl,rfl,rfl⟩
  clear hG;exact⟨fun h=>⟨⟨congrArg aD h⟩,⟨trivial⟩,⟨trivial⟩,⟨done _ _ (by unfold Pa.p9;rw[h];rfl)⟩⟩,fun h=>⟨⟨congrArg aD h⟩,⟨done _ _ (by unfold Pa.p9;rw[h];rfl)⟩⟩⟩
 ·cases hx
set_option maxHeartbeats 16000000
def Hx  (k:Nat):Prim Rs:=fun args hh=>match args,hh with
 |[.pointer (aa ⟨0,0,aj⟩),.agg ⟨xN⟩,.agg ⟨pP⟩,.int .i64 f_,.func (.func 154) ⟨[]⟩ ⟨[.pointer (aa ⟨1,0,aj⟩)]⟩],[aa (.inl (110,[.pointer (aa ⟨2,0,aj⟩),.int .i64 ti,.int .i64 tg])),aa (.inl (3,[.int .i64 xx])),aa (.inr (.inr (.inr (.dd m))))]=>aa ⟨xN=bk (fS xN)/\pP=b6 (o6 pP)/\(PP m/\gK aA k m (fS xN)),.int .i64 (kD aA (Pa.iC xx) k m (fS xN) (o6 pP) f_).1,aj,[aa (.inl (110,[.pointer (aa ⟨2,0,aj⟩),.int .i64 ti,.int .i64 tg])),aa (.inl (3,[.int .i64 xx])),aa (.inr (.inr (.inr (.dd (kD aA (Pa.iC xx) k m (fS xN) (o6 pP) f_).2))))],[],[(0,0)]⟩
 |_,_=>aj
def XZ (k:Nat):eK Rs:=[(1000000000,lJ),(154,bM zN 2 (a9 Tq)),(80,bM zN 2 (a9 j7)),(98,bM zN 2 (a9 Ag)),(148,bM zN 2 (a9 dZ)),(142,bM zN 2 (a9 (Hx k)))]
theorem Sa:∀ k:Nat,ck D Tryz.prog 142 (a9 (Hx k))
 |0=>by
  refine fw Tryz.f142 fun args hh x hx=>?_
  unfold Hx at hx;split at hx
  ·rename_i xN pP f_ ti tg xx m;cases hx;refine q4 fun _ hv=>?_
   exact kG (ig (ig (ig hv)))
  ·cases hx
 |k+1=>by
  have ih:=Sa k;refine fw Tryz.f142 fun args hh x hx=>?_
  unfold Hx at hx;split at hx
  ·rename_i xN pP f_ ti tg xx m;cases hx;refine q4 fun _ hv=>?_
   obtain⟨jQ,sr,hv⟩:=hv;generalize fS xN=xn at *;subst jQ;generalize o6 pP=pp at *;subst sr;obtain⟨hp,hd⟩:=hv
   generalize hG:ct (R:=Rs) _ _=G;refine cW (T:=(XZ k)) (show cQ D Tryz.prog (XZ k) from⟨iu,aX _ _ XJ,aX _ _ look_ok,aX _ _ yz,aX _ _ uc,aX _ _ ih,trivial⟩) mixed 200 ?_
   refine bN (q:=let Z9:=bs av;let Z1:=(cr av (bP pp+bP (bw xn))≤f_);let Z2:=(bt aA m (a_ xn));let Z3:=(kD aA (Pa.iC xx) k (aK m (a_ xn)) Z2 pp f_);let Z4:=(eG aA pp (bw Z2));let Z5:=(nN aA (b8 xn));let Z6:=(bt aA (aw Z3) (bo xn));let Z7:=(aK (aw Z3) (bo xn));let Z8:=(kD aA (Pa.iC xx) k Z7 Z6 (eG aA Z4 Z5) f_);((cw xn==(0:Int))=ao->Vc True/\(decide Z1=aq->aY (G (Z9 (-1:Int)) [dC 2 ti tg,aa (.inl (3,[Z9 xx])),oP m,aa (.inl (136,(bk xn))),aa (.inl (134,(b6 pp)))]))/\(decide Z1=ao->(decide (bP pp≥f_)=aq->Vc ((kj (bG pp))=kj (bG pp)/\(kj (bG (bw xn)))=kj (bG (bw xn)))/\((!Pa.iC xx (bG pp) (bG (bw xn)))=aq->aY (G (Z9 (-1:Int)) [dC 2 ti tg,aa (.inl (3,[Z9 xx])),oP m,aa (.inl (136,(bk xn))),aa (.inl (134,(b6 pp)))]))/\((!Pa.iC xx (bG pp) (bG (bw xn)))=ao->Vc (PP m)/\Vc ((bk Z2)=bk Z2/\(b6 pp)=b6 pp/\PP (aK m (a_ xn))/\gK aA k (aK m (a_ xn)) Z2)/\(decide (aB Z3≥(0:Int))=aq->aY (G (Z9 (aB Z3)) [dC 2 ti tg,aa (.inl (3,[Z9 xx])),oP (aw Z3),aa (.inl (136,(bk xn))),aa (.inl (134,(b6 pp))),aa (.inl (136,(bk Z2)))]))/\(decide (aB Z3≥(0:Int))=ao->Vc ((b6 pp)=b6 pp/\(b6 (bw Z2))=b6 (bw Z2)/\True)/\Vc ((du (b8 xn))=du (b8 xn)/\True)/\(decide (bP Z4≥f_)=aq->Vc ((kj (bG Z4))=kj (bG Z4)/\(kj (bG Z5))=kj (bG Z5))/\(Pa.iC xx (bG Z4) (bG Z5)=aq->aY (G (Z9 (bP Z4)) [dC 2 ti tg,aa (.inl (3,[Z9 xx])),oP (aw Z3),aa (.inl (136,(bk xn))),aa (.inl (134,(b6 Z4))),aa (.inl (136,(bk Z2))),aa (.inl (134,(b6 Z5)))]))/\(Pa.iC xx (bG Z4) (bG Z5)=ao->Vc (PP (aw Z3))/\Vc ((b6 Z4)=b6 Z4/\(b6 Z5)=b6 Z5/\True)/\Vc ((bk Z6)=bk Z6/\(b6 (eG aA Z4 Z5))=b6 (eG aA Z4 Z5)/\PP Z7/\gK aA k Z7 Z6)/\aY (G (Z9 (aB Z8)) [dC 2 ti tg,aa (.inl (3,[Z9 xx])),oP (aw Z8),aa (.inl (136,(bk xn))),aa (.inl (134,(b6 Z4))),aa (.inl (136,(bk Z2))),aa (.inl (134,(b6 Z5)))])))/\(decide (bP Z4≥f_)=ao->Vc (PP (aw Z3))/\Vc ((b6 Z4)=b6 Z4/\(b6 Z5)=b6 Z5/\True)/\Vc ((bk Z6)=bk Z6/\(b6 (eG aA Z4 Z5))=b6 (eG aA Z4 Z5)/\PP Z7/\gK aA k Z7 Z6)/\aY (G (Z9 (aB Z8)) [dC 2 ti tg,aa (.inl (3,[Z9 xx])),oP (aw Z8),aa (.inl (136,(bk xn))),aa (.inl (134,(b6 Z4))),aa (.inl (136,(bk Z2))),aa (.inl (134,(b6 Z5)))])))))/\(decide (bP pp≥f_)=ao->Vc (PP m)/\Vc ((bk Z2)=bk Z2/\(b6 pp)=b6 pp/\PP (aK m (a_ xn))/\gK aA k (aK m (a_ xn)) Z2)/\(decide (aB Z3≥(0:Int))=aq->aY (G (Z9 (aB Z3)) [dC 2 ti tg,aa (.inl (3,[Z9 xx])),oP (aw Z3),aa (.inl (136,(bk xn))),aa (.inl (134,(b6 pp))),aa (.inl (136,(bk Z2)))]))/\(decide (aB Z3≥(0:Int))=ao->Vc ((b6 pp)=b6 pp/\(b6 (bw Z2))=b6 (bw Z2)/\True)/\Vc ((du (b8 xn))=du (b8 xn)/\True)/\(decide (bP Z4≥f_)=aq->Vc ((kj (bG Z4))=kj (bG Z4)/\(kj (bG Z5))=kj (bG Z5))/\(Pa.iC xx (bG Z4) (bG Z5)=aq->aY (G (Z9 (bP Z4)) [dC 2 ti tg,aa (.inl (3,[Z9 xx])),oP (aw Z3),aa (.inl (136,(bk xn))),aa (.inl (134,(b6 Z4))),aa (.inl (136,(bk Z2))),aa (.inl (134,(b6 Z5)))]))/\(Pa.iC xx (bG Z4) (bG Z5)=ao->Vc (PP (aw Z3))/\Vc ((b6 Z4)=b6 Z4/\(b6 Z5)=b6 Z5/\True)/\Vc ((bk Z6)=bk Z6/\(b6 (eG aA Z4 Z5))=b6 (eG aA Z4 Z5)/\PP Z7/\gK aA k Z7 Z6)/\aY (G (Z9 (aB Z8)) [dC 2 ti tg,aa (.inl (3,[Z9 xx])),oP (aw Z8),aa (.inl (136,(bk xn))),aa (.inl (134,(b6 Z4))),aa (.inl (136,(bk Z2))),aa (.inl (134,(b6 Z5)))])))/\(decide (bP Z4≥f_)=ao->Vc (PP (aw Z3))/\Vc ((b6 Z4)=b6 Z4/\(b6 Z5)=b6 Z5/\True)/\Vc ((bk Z6)=bk Z6/\(b6 (eG aA Z4 Z5))=b6 (eG aA Z4 Z5)/\PP Z7/\gK aA k Z7 Z6)/\aY (G (Z9 (aB Z8)) [dC 2 ti tg,aa (.inl (3,[Z9 xx])),oP (aw Z8),aa (.inl (136,(bk xn))),aa (.inl (134,(b6 Z4))),aa (.inl (136,(bk Z2))),aa (.inl (134,(b6 Z5)))]))))))/\((cw xn==(0:Int))=aq->aY (G (Z9 (-1:Int)) [dC 2 ti tg,aa (.inl (3,[Z9 xx])),oP m,aa (.inl (136,(bk xn))),aa (.inl (134,(b6 pp)))]))) ?_ (by kernel_rfl)
   intro Z9 Z1 Z2 Z3 Z4 Z5 Z6 Z7 Z8;subst Z8 Z7 Z6 Z5 Z4 Z3 Z2 Z1 Z9;simp only[gK] at hd;have e1:∀ e,(nN aA e).sum=aA.sum e:=fun _=>rfl
   have done:∀ (i:Int) (m':Pl) (rest:Hp Rs),kD aA (Pa.iC xx) (k+1) m xn pp f_=(i,m')->G (.int .i64 i) ([aa (.inl (110,[.pointer (aa ⟨2,0,aj⟩),.int .i64 ti,.int .i64 tg])),aa (.inl (3,[.int .i64 xx])),aa (.inr (.inr (.inr (.dd m'))))]++rest):=by
    intro i m' rest e;subst hG;refine⟨[0,1,2],?_,rfl,⟨.inl rfl,.inl rfl,?_,trivial⟩,rfl,rfl,rfl,rfl⟩
    ·simp only[e];rfl
    ·simp only[e];rfl
   clear hG;rw[kD] at done
   dsimp only [mW] at done
   simp only[e1]
   repeat' (first|apply cZ|apply Vc.mk|apply fits.mk|intro h|apply aY.mk)
   all_goals (try simp only[sB] at *)
   all_goals first|contradiction|omega|exact ju ‹_›|exact jt ‹_›|exact jv ‹_›|exact⟨rfl,by omega⟩|exact rfl|(simp[*,-ax];done)|skip
   all_goals first|assumption|(simp only[ja];assumption)|skip
   all_goals first|exact oa (hd.resolve_left (by omega)).1 (fun s=>by simp only[Gv.ir,lH,mu])|(simp only[lH,mu,Gv.ir];first|exact oa (hd.resolve_left (by omega)).2 (fun s=>by simp only[Gv.ir,lH,mu])|exact oa (hd.resolve_left (by omega)).1 (fun s=>by simp only[Gv.ir,lH,mu]))|skip
   all_goals (refine done _ _ _ ?_;repeat' split)
   all_goals first|rfl|(exfalso;omega)|(exfalso;simp_all;done)|(exfalso;simp_all;omega)
  ·cases hx
def J1  (k:Nat):Prim Rs:=fun args hh=>match args,hh with
 |[.pointer (aa ⟨0,0,aj⟩),.agg ⟨xN⟩,.agg ⟨pP⟩,.int .i64 f_,.func (.func 154) ⟨[]⟩ ⟨[.pointer (aa ⟨1,0,aj⟩)]⟩],[aa (.inl (110,[.pointer (aa ⟨2,0,aj⟩),.int .i64 ti,.int .i64 tg])),aa (.inl (3,[.int .i64 xx])),aa (.inr (.inr (.inr (.dd m))))]=>aa ⟨xN=bk (fS xN)/\pP=b6 (o6 pP)/\(PP m/\gK aA k m (fS xN)),.int .i64 (jX aA (Pa.iC xx) k m (fS xN) (o6 pP) f_).1,aj,[aa (.inl (110,[.pointer (aa ⟨2,0,aj⟩),.int .i64 ti,.int .i64 tg])),aa (.inl (3,[.int .i64 xx])),aa (.inr (.inr (.inr (.dd (jX aA (Pa.iC xx) k m (fS xN) (o6 pP) f_).2))))],[],[(0,0)]⟩
 |_,_=>aj
def aa1 (k:Nat):eK Rs:=[(1000000000,lJ),(154,bM zN 2 (a9 Tq)),(80,bM zN 2 (a9 j7)),(98,bM zN 2 (a9 Ag)),(148,bM zN 2 (a9 dZ)),(143,bM zN 2 (a9 (J1 k)))]
theorem TF:∀ k:Nat,ck D Tryz.prog 143 (a9 (J1 k))
 |0=>by
  refine fw Tryz.f143 fun args hh x hx=>?_
  unfold J1 at hx;split at hx
  ·rename_i xN pP f_ ti tg xx m;cases hx;refine q4 fun _ hv=>?_
   exact kG (ig (ig (ig hv)))
  ·cases hx
 |k+1=>by
  have ih:=TF k;refine fw Tryz.f143 fun args hh x hx=>?_
  unfold J1 at hx;split at hx
  ·rename_i xN pP f_ ti tg xx m;cases hx;refine q4 fun _ hv=>?_
   obtain⟨jQ,sr,hv⟩:=hv;generalize fS xN=xn at *;subst jQ;generalize o6 pP=pp at *;subst sr;obtain⟨hp,hd⟩:=hv
   generalize hG:ct (R:=Rs) _ _=G;refine cW (T:=(aa1 k)) (show cQ D Tryz.prog (aa1 k) from⟨iu,aX _ _ XJ,aX _ _ look_ok,aX _ _ yz,aX _ _ uc,aX _ _ ih,trivial⟩) mixed 200 ?_
   refine bN (q:=let Z8:=bs av;let Z1:=(cr av (bP pp+bP (bw xn))≤f_);let Z2:=(bt aA m (a_ xn));let Z3:=(eG aA pp (bw Z2));let Z4:=(nN aA (b8 xn));let Z5:=(bt aA (aK m (a_ xn)) (bo xn));let Z6:=(aK (aK m (a_ xn)) (bo xn));let Z7:=(jX aA (Pa.iC xx) k Z6 Z5 (eG aA Z3 Z4) f_);((cw xn==(0:Int))=ao->(decide (bP pp≥f_)=aq->aY (G (Z8 (-1:Int)) [dC 2 ti tg,aa (.inl (3,[Z8 xx])),oP m,aa (.inl (136,(bk xn))),aa (.inl (134,(b6 pp)))]))/\(decide (bP pp≥f_)=ao->Vc True/\(decide Z1=aq->Vc ((kj (bG pp))=kj (bG pp)/\(kj (bG (bw xn)))=kj (bG (bw xn)))/\((!Pa.iC xx (bG pp) (bG (bw xn)))=aq->aY (G (Z8 (-1:Int)) [dC 2 ti tg,aa (.inl (3,[Z8 xx])),oP m,aa (.inl (136,(bk xn))),aa (.inl (134,(b6 pp)))]))/\((!Pa.iC xx (bG pp) (bG (bw xn)))=ao->Vc (PP m)/\Vc ((b6 pp)=b6 pp/\(b6 (bw Z2))=b6 (bw Z2)/\True)/\Vc ((du (b8 xn))=du (b8 xn)/\True)/\Vc (PP (aK m (a_ xn)))/\Vc ((b6 Z3)=b6 Z3/\(b6 Z4)=b6 Z4/\True)/\Vc ((bk Z5)=bk Z5/\(b6 (eG aA Z3 Z4))=b6 (eG aA Z3 Z4)/\PP Z6/\gK aA k Z6 Z5)/\(decide (aB Z7≥(0:Int))=aq->aY (G (Z8 (aB Z7)) [dC 2 ti tg,aa (.inl (3,[Z8 xx])),oP (aw Z7),aa (.inl (136,(bk xn))),aa (.inl (134,(b6 pp))),aa (.inl (136,(bk Z2))),aa (.inl (134,(b6 Z3))),aa (.inl (134,(b6 Z4)))]))/\(decide (aB Z7≥(0:Int))=ao->(decide (bP Z3<f_)=aq->Vc ((kj (bG Z3))=kj (bG Z3)/\(kj (bG Z4))=kj (bG Z4))/\(Pa.iC xx (bG Z3) (bG Z4)=aq->aY (G (Z8 (bP Z3)) [dC 2 ti tg,aa (.inl (3,[Z8 xx])),oP (aw Z7),aa (.inl (136,(bk xn))),aa (.inl (134,(b6 pp))),aa (.inl (136,(bk Z2))),aa (.inl (134,(b6 Z3))),aa (.inl (134,(b6 Z4)))]))/\(Pa.iC xx (bG Z3) (bG Z4)=ao->Vc ((bk Z2)=bk Z2/\(b6 pp)=b6 pp/\PP (aw Z7)/\gK aA k (aw Z7) Z2)/\aY (G (Z8 (aB (jX aA (Pa.iC xx) k (aw Z7) Z2 pp f_))) [dC 2 ti tg,aa (.inl (3,[Z8 xx])),oP (aw (jX aA (Pa.iC xx) k (aw Z7) Z2 pp f_)),aa (.inl (136,(bk xn))),aa (.inl (134,(b6 pp))),aa (.inl (136,(bk Z2))),aa (.inl (134,(b6 Z3))),aa (.inl (134,(b6 Z4)))])))/\(decide (bP Z3<f_)=ao->Vc ((bk Z2)=bk Z2/\(b6 pp)=b6 pp/\PP (aw Z7)/\gK aA k (aw Z7) Z2)/\aY (G (Z8 (aB (jX aA (Pa.iC xx) k (aw Z7) Z2 pp f_))) [dC 2 ti tg,aa (.inl (3,[Z8 xx])),oP (aw (jX aA (Pa.iC xx) k (aw Z7) Z2 pp f_)),aa (.inl (136,(bk xn))),aa (.inl (134,(b6 pp))),aa (.inl (136,(bk Z2))),aa (.inl (134,(b6 Z3))),aa (.inl (134,(b6 Z4)))])))))/\(decide Z1=ao->Vc (PP m)/\Vc ((b6 pp)=b6 pp/\(b6 (bw Z2))=b6 (bw Z2)/\True)/\Vc ((du (b8 xn))=du (b8 xn)/\True)/\Vc (PP (aK m (a_ xn)))/\Vc ((b6 Z3)=b6 Z3/\(b6 Z4)=b6 Z4/\True)/\Vc ((bk Z5)=bk Z5/\(b6 (eG aA Z3 Z4))=b6 (eG aA Z3 Z4)/\PP Z6/\gK aA k Z6 Z5)/\(decide (aB Z7≥(0:Int))=aq->aY (G (Z8 (aB Z7)) [dC 2 ti tg,aa (.inl (3,[Z8 xx])),oP (aw Z7),aa (.inl (136,(bk xn))),aa (.inl (134,(b6 pp))),aa (.inl (136,(bk Z2))),aa (.inl (134,(b6 Z3))),aa (.inl (134,(b6 Z4)))]))/\(decide (aB Z7≥(0:Int))=ao->(decide (bP Z3<f_)=aq->Vc ((kj (bG Z3))=kj (bG Z3)/\(kj (bG Z4))=kj (bG Z4))/\(Pa.iC xx (bG Z3) (bG Z4)=aq->aY (G (Z8 (bP Z3)) [dC 2 ti tg,aa (.inl (3,[Z8 xx])),oP (aw Z7),aa (.inl (136,(bk xn))),aa (.inl (134,(b6 pp))),aa (.inl (136,(bk Z2))),aa (.inl (134,(b6 Z3))),aa (.inl (134,(b6 Z4)))]))/\(Pa.iC xx (bG Z3) (bG Z4)=ao->Vc ((bk Z2)=bk Z2/\(b6 pp)=b6 pp/\PP (aw Z7)/\gK aA k (aw Z7) Z2)/\aY (G (Z8 (aB (jX aA (Pa.iC xx) k (aw Z7) Z2 pp f_))) [dC 2 ti tg,aa (.inl (3,[Z8 xx])),oP (aw (jX aA (Pa.iC xx) k (aw Z7) Z2 pp f_)),aa (.inl (136,(bk xn))),aa (.inl (134,(b6 pp))),aa (.inl (136,(bk Z2))),aa (.inl (134,(b6 Z3))),aa (.inl (134,(b6 Z4)))])))/\(decide (bP Z3<f_)=ao->Vc ((bk Z2)=bk Z2/\(b6 pp)=b6 pp/\PP (aw Z7)/\gK aA k (aw Z7) Z2)/\aY (G (Z8 (aB (jX aA (Pa.iC xx) k (aw Z7) Z2 pp f_))) [dC 2 ti tg,aa (.inl (3,[Z8 xx])),oP (aw (jX aA (Pa.iC xx) k (aw Z7) Z2 pp f_)),aa (.inl (136,(bk xn))),aa (.inl (134,(b6 pp))),aa (.inl (136,(bk Z2))),aa (.inl (134,(b6 Z3))),aa (.inl (134,(b6 Z4)))]))))))/\((cw xn==(0:Int))=aq->aY (G (Z8 (-1:Int)) [dC 2 ti tg,aa (.inl (3,[Z8 xx])),oP m,aa (.inl (136,(bk xn))),aa (.inl (134,(b6 pp)))]))) ?_ (by kernel_rfl)
   intro Z8 Z1 Z2 Z3 Z4 Z5 Z6 Z7;subst Z7 Z6 Z5 Z4 Z3 Z2 Z1 Z8;simp only[gK] at hd;have e1:∀ e,(nN aA e).sum=aA.sum e:=fun _=>rfl
   have done:∀ (i:Int) (m':Pl) (rest:Hp Rs),jX aA (Pa.iC xx) (k+1) m xn pp f_=(i,m')->G (.int .i64 i) ([aa (.inl (110,[.pointer (aa ⟨2,0,aj⟩),.int .i64 ti,.int .i64 tg])),aa (.inl (3,[.int .i64 xx])),aa (.inr (.inr (.inr (.dd m'))))]++rest):=by
    intro i m' rest e;subst hG;refine⟨[0,1,2],?_,rfl,⟨.inl rfl,.inl rfl,?_,trivial⟩,rfl,rfl,rfl,rfl⟩
    ·simp only[e];rfl
    ·simp only[e];rfl
   clear hG;rw[jX] at done
   dsimp only [mW] at done
   simp only[e1]
   repeat' (first|apply cZ|apply Vc.mk|apply fits.mk|intro h|apply aY.mk)
   all_goals (try simp only[sB] at *)
   all_goals first|contradiction|omega|exact ju ‹_›|exact jt ‹_›|exact jv ‹_›|exact⟨rfl,by omega⟩|exact rfl|(simp[*,-ax];done)|skip
   all_goals first|assumption|(simp only[ja];assumption)|skip
   all_goals first|exact oa (hd.resolve_left (by omega)).1 (fun s=>by simp only[Gv.ir,lH,mu])|(simp only[lH,mu,Gv.ir];first|exact oa (hd.resolve_left (by omega)).2 (fun s=>by simp only[Gv.ir,lH,mu])|exact oa (hd.resolve_left (by omega)).1 (fun s=>by simp only[Gv.ir,lH,mu]))|skip
   all_goals (refine done _ _ _ ?_;repeat' split)
   all_goals first|rfl|(exfalso;omega)|(exfalso;simp_all;done)|(exfalso;simp_all;omega)
  ·cases hx
def MJ (K:Nat):Prim Rs:=fun args hh=>match args,hh with
 |[.pointer (aa ⟨0,0,aj⟩),.int .i64 f_,.func (.func 154) ⟨[]⟩ ⟨[.pointer (aa ⟨1,0,aj⟩)]⟩],[aa (.inl (110,[.pointer (aa ⟨2,0,aj⟩),.int .i64 ti,.int .i64 tg])),aa (.inl (3,[.int .i64 xx])),aa (.inr (.inr (.inr (.dd m))))]=>aa ⟨PP m/\gK aA K (aK m (⟨ti,tg⟩:bn)) (bt aA m (⟨ti,tg⟩:bn)),.int .i64 (kD aA (Pa.iC xx) K (aK m (⟨ti,tg⟩:bn)) (bt aA m (⟨ti,tg⟩:bn)) ⟨0,aA.a0⟩ f_).1,aj,[aa (.inl (110,[.pointer (aa ⟨2,0,aj⟩),.int .i64 ti,.int .i64 tg])),aa (.inl (3,[.int .i64 xx])),aa (.inr (.inr (.inr (.dd (kD aA (Pa.iC xx) K (aK m (⟨ti,tg⟩:bn)) (bt aA m (⟨ti,tg⟩:bn)) ⟨0,aA.a0⟩ f_).2))))],[],[(0,0)]⟩
 |_,_=>aj
def V3 (K:Nat):eK Rs:=[(80,bM zN 2 (a9 j7)),(142,bM zN 2 (a9 (Hx K)))]
theorem ZA (K:Nat):ck D Tryz.prog 108 (a9 (MJ K)):=by
 refine fw Tryz.f108 fun args hh x hx=>?_
 unfold MJ at hx;split at hx
 ·rename_i f_ ti tg xx m;cases hx;refine q4 fun _ hv=>?_
  obtain⟨hp,hd⟩:=hv;generalize hG:ct (R:=Rs) _ _=G;refine cW (T:=(V3 K)) (show cQ D Tryz.prog (V3 K) from⟨aX _ _ look_ok,aX _ _ (Sa K),trivial⟩) mixed 200 ?_
  refine bN (q:=let Z1:=(bt aA m (aN ti tg));let Z2:=(b6 (mr 0 (xh (iN 0 0 0) (iN 0 0 0) 0 0 (cX 0 0) ao (cX 0 0) ao (cX 0 0))));let Z3:=(kD aA (Pa.iC xx) K (aK m (aN ti tg)) Z1 (mr (0:Int) (xh (iN (0:Int) (0:Int) (0:Int)) (iN (0:Int) (0:Int) (0:Int)) (0:Int) (0:Int) (cX (0:Int) (0:Int)) ao (cX (0:Int) (0:Int)) ao (cX (0:Int) (0:Int)))) f_);Vc (PP m)/\Vc ((bk Z1)=bk Z1/\Z2=Z2/\PP (aK m (aN ti tg))/\gK aA K (aK m (aN ti tg)) Z1)/\aY (G (bs av (aB Z3)) [dC 2 ti tg,aa (.inl (3,[.int av xx])),oP (aw Z3)])) ?_ (by kernel_rfl)
  intro Z1 Z2 Z3;subst Z3 Z2 Z1;subst hG
  repeat' (first|apply cZ|apply Vc.mk|apply fits.mk|intro h|apply aY.mk)
  all_goals (try simp only[sB] at *)
  all_goals first|contradiction|omega|exact ju ‹_›|exact jt ‹_›|exact jv ‹_›|exact⟨rfl,by omega⟩|exact rfl|(simp[*,-ax];done)|skip
  all_goals first|assumption|(simp only[ja];assumption)|skip
  exact⟨[0,1,2],rfl,rfl,⟨.inl rfl,.inl rfl,rfl,trivial⟩,rfl,rfl,rfl,rfl⟩
 ·cases hx
def Re (K:Nat):Prim Rs:=fun args hh=>match args,hh with
 |[.pointer (aa ⟨0,0,aj⟩),.int .i64 f_,.func (.func 154) ⟨[]⟩ ⟨[.pointer (aa ⟨1,0,aj⟩)]⟩],[aa (.inl (110,[.pointer (aa ⟨2,0,aj⟩),.int .i64 ti,.int .i64 tg])),aa (.inl (3,[.int .i64 xx])),aa (.inr (.inr (.inr (.dd m))))]=>aa ⟨PP m/\gK aA K (aK m (⟨ti,tg⟩:bn)) (bt aA m (⟨ti,tg⟩:bn)),.int .i64 (jX aA (Pa.iC xx) K (aK m (⟨ti,tg⟩:bn)) (bt aA m (⟨ti,tg⟩:bn)) ⟨0,aA.a0⟩ f_).1,aj,[aa (.inl (110,[.pointer (aa ⟨2,0,aj⟩),.int .i64 ti,.int .i64 tg])),aa (.inl (3,[.int .i64 xx])),aa (.inr (.inr (.inr (.dd (jX aA (Pa.iC xx) K (aK m (⟨ti,tg⟩:bn)) (bt aA m (⟨ti,tg⟩:bn)) ⟨0,aA.a0⟩ f_).2))))],[],[(0,0)]⟩
 |_,_=>aj
def Xp (K:Nat):eK Rs:=[(80,bM zN 2 (a9 j7)),(143,bM zN 2 (a9 (J1 K)))]
theorem aaT (K:Nat):ck D Tryz.prog 111 (a9 (Re K)):=by
 refine fw Tryz.f111 fun args hh x hx=>?_
 unfold Re at hx;split at hx
 ·rename_i f_ ti tg xx m;cases hx;refine q4 fun _ hv=>?_
  obtain⟨hp,hd⟩:=hv;generalize hG:ct (R:=Rs) _ _=G;refine cW (T:=(Xp K)) (show cQ D Tryz.prog (Xp K) from⟨aX _ _ look_ok,aX _ _ (TF K),trivial⟩) mixed 200 ?_
  refine bN (q:=let Z1:=(bt aA m (aN ti tg));let Z2:=(b6 (mr 0 (xh (iN 0 0 0) (iN 0 0 0) 0 0 (cX 0 0) ao (cX 0 0) ao (cX 0 0))));let Z3:=(jX aA (Pa.iC xx) K (aK m (aN ti tg)) Z1 (mr (0:Int) (xh (iN (0:Int) (0:Int) (0:Int)) (iN (0:Int) (0:Int) (0:Int)) (0:Int) (0:Int) (cX (0:Int) (0:Int)) ao (cX (0:Int) (0:Int)) ao (cX (0:Int) (0:Int)))) f_);Vc (PP m)/\Vc ((bk Z1)=bk Z1/\Z2=Z2/\PP (aK m (aN ti tg))/\gK aA K (aK m (aN ti tg)) Z1)/\aY (G (bs av (aB Z3)) [dC 2 ti tg,aa (.inl (3,[.int av xx])),oP (aw Z3)])) ?_ (by kernel_rfl)
  intro Z1 Z2 Z3;subst Z3 Z2 Z1;subst hG
  repeat' (first|apply cZ|apply Vc.mk|apply fits.mk|intro h|apply aY.mk)
  all_goals (try simp only[sB] at *)
  all_goals first|contradiction|omega|exact ju ‹_›|exact jt ‹_›|exact jv ‹_›|exact⟨rfl,by omega⟩|exact rfl|(simp[*,-ax];done)|skip
  all_goals first|assumption|(simp only[ja];assumption)|skip
  exact⟨[0,1,2],rfl,rfl,⟨.inl rfl,.inl rfl,rfl,trivial⟩,rfl,rfl,rfl,rfl⟩
 ·cases hx
def G5  (k:Nat):Prim Rs:=fun args hh=>match args,hh with
 |[.pointer (aa ⟨0,0,aj⟩),.agg ⟨xN⟩,.agg ⟨pP⟩,.int .i64 f_,.func (.func 105) ⟨[]⟩ ⟨[.pointer (aa ⟨1,0,aj⟩)]⟩],[aa (.inl (110,[.pointer (aa ⟨2,0,aj⟩),.int .i64 ti,.int .i64 tg])),aa (.inl (75,[.int .i64 xk,.int .i64 xi,.bool xe,.int .i64 xt])),aa (.inr (.inr (.inr (.dd m))))]=>aa ⟨xN=bk (fS xN)/\pP=b6 (o6 pP)/\(PP m/\gK aA k m (fS xN)),.int .i64 (kD aA (Pa.pZ ⟨xk,xi⟩) k m (fS xN) (o6 pP) f_).1,aj,[aa (.inl (110,[.pointer (aa ⟨2,0,aj⟩),.int .i64 ti,.int .i64 tg])),aa (.inl (75,[.int .i64 xk,.int .i64 xi,.bool xe,.int .i64 xt])),aa (.inr (.inr (.inr (.dd (kD aA (Pa.pZ ⟨xk,xi⟩) k m (fS xN) (o6 pP) f_).2))))],[],[(0,0)]⟩
 |_,_=>aj
def XH (k:Nat):eK Rs:=[(1000000000,lJ),(105,bM zN 2 (a9 Y_)),(80,bM zN 2 (a9 j7)),(98,bM zN 2 (a9 Ag)),(148,bM zN 2 (a9 dZ)),(142,bM zN 2 (a9 (G5 k)))]
theorem RP:∀ k:Nat,ck D Tryz.prog 142 (a9 (G5 k))
 |0=>by
  refine fw Tryz.f142 fun args hh x hx=>?_
  unfold G5 at hx;split at hx
  ·rename_i xN pP f_ ti tg xk xi xe xt m;cases hx;refine q4 fun _ hv=>?_
   exact kG (ig (ig (ig hv)))
  ·cases hx
 |k+1=>by
  have ih:=RP k;refine fw Tryz.f142 fun args hh x hx=>?_
  unfold G5 at hx;split at hx
  ·rename_i xN pP f_ ti tg xk xi xe xt m;cases hx;refine q4 fun _ hv=>?_
   obtain⟨jQ,sr,hv⟩:=hv;generalize fS xN=xn at *;subst jQ;generalize o6 pP=pp at *;subst sr;obtain⟨hp,hd⟩:=hv
   generalize hG:ct (R:=Rs) _ _=G;refine cW (T:=(XH k)) (show cQ D Tryz.prog (XH k) from⟨iu,aX _ _ af9,aX _ _ look_ok,aX _ _ yz,aX _ _ uc,aX _ _ ih,trivial⟩) mixed 200 ?_
   refine bN (q:=let Z9:=bs av;let Z1:=(cr av (bP pp+bP (bw xn))≤f_);let Z2:=(bt aA m (a_ xn));let Z3:=(kD aA (Pa.pZ (cX xk xi)) k (aK m (a_ xn)) Z2 pp f_);let Z4:=(eG aA pp (bw Z2));let Z5:=(nN aA (b8 xn));let Z6:=(bt aA (aw Z3) (bo xn));let Z7:=(aK (aw Z3) (bo xn));let Z8:=(kD aA (Pa.pZ (cX xk xi)) k Z7 Z6 (eG aA Z4 Z5) f_);((cw xn==(0:Int))=ao->Vc True/\(decide Z1=aq->aY (G (Z9 (-1:Int)) [dC 2 ti tg,aa (.inl (75,[Z9 xk,Z9 xi,.bool xe,Z9 xt])),oP m,aa (.inl (136,(bk xn))),aa (.inl (134,(b6 pp)))]))/\(decide Z1=ao->(decide (bP pp≥f_)=aq->Vc ((kj (bG pp))=kj (bG pp)/\(kj (bG (bw xn)))=kj (bG (bw xn)))/\((!Pa.pZ (cX xk xi) (bG pp) (bG (bw xn)))=aq->aY (G (Z9 (-1:Int)) [dC 2 ti tg,aa (.inl (75,[Z9 xk,Z9 xi,.bool xe,Z9 xt])),oP m,aa (.inl (136,(bk xn))),aa (.inl (134,(b6 pp)))]))/\((!Pa.pZ (cX xk xi) (bG pp) (bG (bw xn)))=ao->Vc (PP m)/\Vc ((bk Z2)=bk Z2/\(b6 pp)=b6 pp/\PP (aK m (a_ xn))/\gK aA k (aK m (a_ xn)) Z2)/\(decide (aB Z3≥(0:Int))=aq->aY (G (Z9 (aB Z3)) [dC 2 ti tg,aa (.inl (75,[Z9 xk,Z9 xi,.bool xe,Z9 xt])),oP (aw Z3),aa (.inl (136,(bk xn))),aa (.inl (134,(b6 pp))),aa (.inl (136,(bk Z2)))]))/\(decide (aB Z3≥(0:Int))=ao->Vc ((b6 pp)=b6 pp/\(b6 (bw Z2))=b6 (bw Z2)/\True)/\Vc ((du (b8 xn))=du (b8 xn)/\True)/\(decide (bP Z4≥f_)=aq->Vc ((kj (bG Z4))=kj (bG Z4)/\(kj (bG Z5))=kj (bG Z5))/\(Pa.pZ (cX xk xi) (bG Z4) (bG Z5)=aq->aY (G (Z9 (bP Z4)) [dC 2 ti tg,aa (.inl (75,[Z9 xk,Z9 xi,.bool xe,Z9 xt])),oP (aw Z3),aa (.inl (136,(bk xn))),aa (.inl (134,(b6 Z4))),aa (.inl (136,(bk Z2))),aa (.inl (134,(b6 Z5)))]))/\(Pa.pZ (cX xk xi) (bG Z4) (bG Z5)=ao->Vc (PP (aw Z3))/\Vc ((b6 Z4)=b6 Z4/\(b6 Z5)=b6 Z5/\True)/\Vc ((bk Z6)=bk Z6/\(b6 (eG aA Z4 Z5))=b6 (eG aA Z4 Z5)/\PP Z7/\gK aA k Z7 Z6)/\aY (G (Z9 (aB Z8)) [dC 2 ti tg,aa (.inl (75,[Z9 xk,Z9 xi,.bool xe,Z9 xt])),oP (aw Z8),aa (.inl (136,(bk xn))),aa (.inl (134,(b6 Z4))),aa (.inl (136,(bk Z2))),aa (.inl (134,(b6 Z5)))])))/\(decide (bP Z4≥f_)=ao->Vc (PP (aw Z3))/\Vc ((b6 Z4)=b6 Z4/\(b6 Z5)=b6 Z5/\True)/\Vc ((bk Z6)=bk Z6/\(b6 (eG aA Z4 Z5))=b6 (eG aA Z4 Z5)/\PP Z7/\gK aA k Z7 Z6)/\aY (G (Z9 (aB Z8)) [dC 2 ti tg,aa (.inl (75,[Z9 xk,Z9 xi,.bool xe,Z9 xt])),oP (aw Z8),aa (.inl (136,(bk xn))),aa (.inl (134,(b6 Z4))),aa (.inl (136,(bk Z2))),aa (.inl (134,(b6 Z5)))])))))/\(decide (bP pp≥f_)=ao->Vc (PP m)/\Vc ((bk Z2)=bk Z2/\(b6 pp)=b6 pp/\PP (aK m (a_ xn))/\gK aA k (aK m (a_ xn)) Z2)/\(decide (aB Z3≥(0:Int))=aq->aY (G (Z9 (aB Z3)) [dC 2 ti tg,aa (.inl (75,[Z9 xk,Z9 xi,.bool xe,Z9 xt])),oP (aw Z3),aa (.inl (136,(bk xn))),aa (.inl (134,(b6 pp))),aa (.inl (136,(bk Z2)))]))/\(decide (aB Z3≥(0:Int))=ao->Vc ((b6 pp)=b6 pp/\(b6 (bw Z2))=b6 (bw Z2)/\True)/\Vc ((du (b8 xn))=du (b8 xn)/\True)/\(decide (bP Z4≥f_)=aq->Vc ((kj (bG Z4))=kj (bG Z4)/\(kj (bG Z5))=kj (bG Z5))/\(Pa.pZ (cX xk xi) (bG Z4) (bG Z5)=aq->aY (G (Z9 (bP Z4)) [dC 2 ti tg,aa (.inl (75,[Z9 xk,Z9 xi,.bool xe,Z9 xt])),oP (aw Z3),aa (.inl (136,(bk xn))),aa (.inl (134,(b6 Z4))),aa (.inl (136,(bk Z2))),aa (.inl (134,(b6 Z5)))]))/\(Pa.pZ (cX xk xi) (bG Z4) (bG Z5)=ao->Vc (PP (aw Z3))/\Vc ((b6 Z4)=b6 Z4/\(b6 Z5)=b6 Z5/\True)/\Vc ((bk Z6)=bk Z6/\(b6 (eG aA Z4 Z5))=b6 (eG aA Z4 Z5)/\PP Z7/\gK aA k Z7 Z6)/\aY (G (Z9 (aB Z8)) [dC 2 ti tg,aa (.inl (75,[Z9 xk,Z9 xi,.bool xe,Z9 xt])),oP (aw Z8),aa (.inl (136,(bk xn))),aa (.inl (134,(b6 Z4))),aa (.inl (136,(bk Z2))),aa (.inl (134,(b6 Z5)))])))/\(decide (bP Z4≥f_)=ao->Vc (PP (aw Z3))/\Vc ((b6 Z4)=b6 Z4/\(b6 Z5)=b6 Z5/\True)/\Vc ((bk Z6)=bk Z6/\(b6 (eG aA Z4 Z5))=b6 (eG aA Z4 Z5)/\PP Z7/\gK aA k Z7 Z6)/\aY (G (Z9 (aB Z8)) [dC 2 ti tg,aa (.inl (75,[Z9 xk,Z9 xi,.bool xe,Z9 xt])),oP (aw Z8),aa (.inl (136,(bk xn))),aa (.inl (134,(b6 Z4))),aa (.inl (136,(bk Z2))),aa (.inl (134,(b6 Z5)))]))))))/\((cw xn==(0:Int))=aq->aY (G (Z9 (-1:Int)) [dC 2 ti tg,aa (.inl (75,[Z9 xk,Z9 xi,.bool xe,Z9 xt])),oP m,aa (.inl (136,(bk xn))),aa (.inl (134,(b6 pp)))]))) ?_ (by kernel_rfl)
   intro Z9 Z1 Z2 Z3 Z4 Z5 Z6 Z7 Z8;subst Z8 Z7 Z6 Z5 Z4 Z3 Z2 Z1 Z9;simp only[gK] at hd;have e1:∀ e,(nN aA e).sum=aA.sum e:=fun _=>rfl
   have done:∀ (i:Int) (m':Pl) (rest:Hp Rs),kD aA (Pa.pZ ⟨xk,xi⟩) (k+1) m xn pp f_=(i,m')->G (.int .i64 i) ([aa (.inl (110,[.pointer (aa ⟨2,0,aj⟩),.int .i64 ti,.int .i64 tg])),aa (.inl (75,[.int .i64 xk,.int .i64 xi,.bool xe,.int .i64 xt])),aa (.inr (.inr (.inr (.dd m'))))]++rest):=by
    intro i m' rest e;subst hG;refine⟨[0,1,2],?_,rfl,⟨.inl rfl,.inl rfl,?_,trivial⟩,rfl,rfl,rfl,rfl⟩
    ·simp only[e];rfl
    ·simp only[e];rfl
   clear hG;rw[kD] at done
   dsimp only [mW] at done
   simp only[e1]
   repeat' (first|apply cZ|apply Vc.mk|apply fits.mk|intro h|apply aY.mk)
   all_goals (try simp only[sB] at *)
   all_goals first|contradiction|omega|exact ju ‹_›|exact jt ‹_›|exact jv ‹_›|exact⟨rfl,by omega⟩|exact rfl|(simp[*,-ax];done)|skip
   all_goals first|assumption|(simp only[ja];assumption)|skip
   all_goals first|exact oa (hd.resolve_left (by omega)).1 (fun s=>by simp only[Gv.ir,lH,mu])|(simp only[lH,mu,Gv.ir];first|exact oa (hd.resolve_left (by omega)).2 (fun s=>by simp only[Gv.ir,lH,mu])|exact oa (hd.resolve_left (by omega)).1 (fun s=>by simp only[Gv.ir,lH,mu]))|skip
   all_goals (refine done _ _ _ ?_;repeat' split)
   all_goals first|rfl|(exfalso;omega)|(exfalso;simp_all;done)|(exfalso;simp_all;omega)
  ·cases hx
def NL (K:Nat):Prim Rs:=fun args hh=>match args,hh with
 |[.pointer (aa ⟨0,0,aj⟩),.int .i64 f_,.func (.func 105) ⟨[]⟩ ⟨[.pointer (aa ⟨1,0,aj⟩)]⟩],[aa (.inl (110,[.pointer (aa ⟨2,0,aj⟩),.int .i64 ti,.int .i64 tg])),aa (.inl (75,[.int .i64 xk,.int .i64 xi,.bool xe,.int .i64 xt])),aa (.inr (.inr (.inr (.dd m))))]=>aa ⟨PP m/\gK aA K (aK m (⟨ti,tg⟩:bn)) (bt aA m (⟨ti,tg⟩:bn)),.int .i64 (kD aA (Pa.pZ ⟨xk,xi⟩) K (aK m (⟨ti,tg⟩:bn)) (bt aA m (⟨ti,tg⟩:bn)) ⟨0,aA.a0⟩ f_).1,aj,[aa (.inl (110,[.pointer (aa ⟨2,0,aj⟩),.int .i64 ti,.int .i64 tg])),aa (.inl (75,[.int .i64 xk,.int .i64 xi,.bool xe,.int .i64 xt])),aa (.inr (.inr (.inr (.dd (kD aA (Pa.pZ ⟨xk,xi⟩) K (aK m (⟨ti,tg⟩:bn)) (bt aA m (⟨ti,tg⟩:bn)) ⟨0,aA.a0⟩ f_).2))))],[],[(0,0)]⟩
 |_,_=>aj
def V4 (K:Nat):eK Rs:=[(80,bM zN 2 (a9 j7)),(142,bM zN 2 (a9 (G5 K)))]
theorem Y7 (K:Nat):ck D Tryz.prog 108 (a9 (NL K)):=by
 refine fw Tryz.f108 fun args hh x hx=>?_
 unfold NL at hx;split at hx
 ·rename_i f_ ti tg xk xi xe xt m;cases hx;refine q4 fun _ hv=>?_
  obtain⟨hp,hd⟩:=hv;generalize hG:ct (R:=Rs) _ _=G;refine cW (T:=(V4 K)) (show cQ D Tryz.prog (V4 K) from⟨aX _ _ look_ok,aX _ _ (RP K),trivial⟩) mixed 200 ?_
  refine bN (q:=let Z1:=(bt aA m (aN ti tg));let Z2:=(b6 (mr 0 (xh (iN 0 0 0) (iN 0 0 0) 0 0 (cX 0 0) ao (cX 0 0) ao (cX 0 0))));let Z3:=(kD aA (Pa.pZ (cX xk xi)) K (aK m (aN ti tg)) Z1 (mr (0:Int) (xh (iN (0:Int) (0:Int) (0:Int)) (iN (0:Int) (0:Int) (0:Int)) (0:Int) (0:Int) (cX (0:Int) (0:Int)) ao (cX (0:Int) (0:Int)) ao (cX (0:Int) (0:Int)))) f_);Vc (PP m)/\Vc ((bk Z1)=bk Z1/\Z2=Z2/\PP (aK m (aN ti tg))/\gK aA K (aK m (aN ti tg)) Z1)/\aY (G (bs av (aB Z3)) [dC 2 ti tg,aa (.inl (75,[.int av xk,.int av xi,.bool xe,.int av xt])),oP (aw Z3)])) ?_ (by kernel_rfl)
  intro Z1 Z2 Z3;subst Z3 Z2 Z1;subst hG
  repeat' (first|apply cZ|apply Vc.mk|apply fits.mk|intro h|apply aY.mk)
  all_goals (try simp only[sB] at *)
  all_goals first|contradiction|omega|exact ju ‹_›|exact jt ‹_›|exact jv ‹_›|exact⟨rfl,by omega⟩|exact rfl|(simp[*,-ax];done)|skip
  all_goals first|assumption|(simp only[ja];assumption)|skip
  exact⟨[0,1,2],rfl,rfl,⟨.inl rfl,.inl rfl,rfl,trivial⟩,rfl,rfl,rfl,rfl⟩
 ·cases hx
def Jt  (k:Nat):Prim Rs:=fun args hh=>match args,hh with
 |[.pointer (aa ⟨0,0,aj⟩),.agg ⟨xN⟩,.agg ⟨pP⟩,.int .i64 f_,.func (.func 110) ⟨[]⟩ ⟨[.pointer (aa ⟨1,0,aj⟩)]⟩],[aa (.inl (110,[.pointer (aa ⟨2,0,aj⟩),.int .i64 ti,.int .i64 tg])),aa (.inl (75,[.int .i64 xk,.int .i64 xi,.bool xe,.int .i64 xt])),aa (.inr (.inr (.inr (.dd m))))]=>aa ⟨xN=bk (fS xN)/\pP=b6 (o6 pP)/\(PP m/\gK aA k m (fS xN)),.int .i64 (jX aA (Pa.p9 ⟨xk,xi⟩) k m (fS xN) (o6 pP) f_).1,aj,[aa (.inl (110,[.pointer (aa ⟨2,0,aj⟩),.int .i64 ti,.int .i64 tg])),aa (.inl (75,[.int .i64 xk,.int .i64 xi,.bool xe,.int .i64 xt])),aa (.inr (.inr (.inr (.dd (jX aA (Pa.p9 ⟨xk,xi⟩) k m (fS xN) (o6 pP) f_).2))))],[],[(0,0)]⟩
 |_,_=>aj
def acb (k:Nat):eK Rs:=[(1000000000,lJ),(110,bM zN 2 (a9 Y0)),(80,bM zN 2 (a9 j7)),(98,bM zN 2 (a9 Ag)),(148,bM zN 2 (a9 dZ)),(143,bM zN 2 (a9 (Jt k)))]
theorem VQ:∀ k:Nat,ck D Tryz.prog 143 (a9 (Jt k))
 |0=>by
  refine fw Tryz.f143 fun args hh x hx=>?_
  unfold Jt at hx;split at hx
  ·rename_i xN pP f_ ti tg xk xi xe xt m;cases hx;refine q4 fun _ hv=>?_
   exact kG (ig (ig (ig hv)))
  ·cases hx
 |k+1=>by
  have ih:=VQ k;refine fw Tryz.f143 fun args hh x hx=>?_
  unfold Jt at hx;split at hx
  ·rename_i xN pP f_ ti tg xk xi xe xt m;cases hx;refine q4 fun _ hv=>?_
   obtain⟨jQ,sr,hv⟩:=hv;generalize fS xN=xn at *;subst jQ;generalize o6 pP=pp at *;subst sr;obtain⟨hp,hd⟩:=hv
   generalize hG:ct (R:=Rs) _ _=G;refine cW (T:=(acb k)) (show cQ D Tryz.prog (acb k) from⟨iu,aX _ _ agT,aX _ _ look_ok,aX _ _ yz,aX _ _ uc,aX _ _ ih,trivial⟩) mixed 200 ?_
   refine bN (q:=let Z9:=bs av;let Z1:=(cr av (bP pp+bP (bw xn))≤f_);let Z2:=(bt aA m (a_ xn));let Z3:=(eG aA pp (bw Z2));let Z4:=(nN aA (b8 xn));let Z5:=(bt aA (aK m (a_ xn)) (bo xn));let Z6:=(aK (aK m (a_ xn)) (bo xn));let Z7:=(jX aA (Pa.p9 (cX xk xi)) k Z6 Z5 (eG aA Z3 Z4) f_);let Z8:=(jX aA (Pa.p9 (cX xk xi)) k (aw Z7) Z2 pp f_);((cw xn==(0:Int))=ao->(decide (bP pp≥f_)=aq->aY (G (Z9 (-1:Int)) [dC 2 ti tg,aa (.inl (75,[Z9 xk,Z9 xi,.bool xe,Z9 xt])),oP m,aa (.inl (136,(bk xn))),aa (.inl (134,(b6 pp)))]))/\(decide (bP pp≥f_)=ao->Vc True/\(decide Z1=aq->Vc ((kj (bG pp))=kj (bG pp)/\(kj (bG (bw xn)))=kj (bG (bw xn)))/\((!Pa.p9 (cX xk xi) (bG pp) (bG (bw xn)))=aq->aY (G (Z9 (-1:Int)) [dC 2 ti tg,aa (.inl (75,[Z9 xk,Z9 xi,.bool xe,Z9 xt])),oP m,aa (.inl (136,(bk xn))),aa (.inl (134,(b6 pp)))]))/\((!Pa.p9 (cX xk xi) (bG pp) (bG (bw xn)))=ao->Vc (PP m)/\Vc ((b6 pp)=b6 pp/\(b6 (bw Z2))=b6 (bw Z2)/\True)/\Vc ((du (b8 xn))=du (b8 xn)/\True)/\Vc (PP (aK m (a_ xn)))/\Vc ((b6 Z3)=b6 Z3/\(b6 Z4)=b6 Z4/\True)/\Vc ((bk Z5)=bk Z5/\(b6 (eG aA Z3 Z4))=b6 (eG aA Z3 Z4)/\PP Z6/\gK aA k Z6 Z5)/\(decide (aB Z7≥(0:Int))=aq->aY (G (Z9 (aB Z7)) [dC 2 ti tg,aa (.inl (75,[Z9 xk,Z9 xi,.bool xe,Z9 xt])),oP (aw Z7),aa (.inl (136,(bk xn))),aa (.inl (134,(b6 pp))),aa (.inl (136,(bk Z2))),aa (.inl (134,(b6 Z3))),aa (.inl (134,(b6 Z4)))]))/\(decide (aB Z7≥(0:Int))=ao->(decide (bP Z3<f_)=aq->Vc ((kj (bG Z3))=kj (bG Z3)/\(kj (bG Z4))=kj (bG Z4))/\(Pa.p9 (cX xk xi) (bG Z3) (bG Z4)=aq->aY (G (Z9 (bP Z3)) [dC 2 ti tg,aa (.inl (75,[Z9 xk,Z9 xi,.bool xe,Z9 xt])),oP (aw Z7),aa (.inl (136,(bk xn))),aa (.inl (134,(b6 pp))),aa (.inl (136,(bk Z2))),aa (.inl (134,(b6 Z3))),aa (.inl (134,(b6 Z4)))]))/\(Pa.p9 (cX xk xi) (bG Z3) (bG Z4)=ao->Vc ((bk Z2)=bk Z2/\(b6 pp)=b6 pp/\PP (aw Z7)/\gK aA k (aw Z7) Z2)/\aY (G (Z9 (aB Z8)) [dC 2 ti tg,aa (.inl (75,[Z9 xk,Z9 xi,.bool xe,Z9 xt])),oP (aw Z8),aa (.inl (136,(bk xn))),aa (.inl (134,(b6 pp))),aa (.inl (136,(bk Z2))),aa (.inl (134,(b6 Z3))),aa (.inl (134,(b6 Z4)))])))/\(decide (bP Z3<f_)=ao->Vc ((bk Z2)=bk Z2/\(b6 pp)=b6 pp/\PP (aw Z7)/\gK aA k (aw Z7) Z2)/\aY (G (Z9 (aB Z8)) [dC 2 ti tg,aa (.inl (75,[Z9 xk,Z9 xi,.bool xe,Z9 xt])),oP (aw Z8),aa (.inl (136,(bk xn))),aa (.inl (134,(b6 pp))),aa (.inl (136,(bk Z2))),aa (.inl (134,(b6 Z3))),aa (.inl (134,(b6 Z4)))])))))/\(decide Z1=ao->Vc (PP m)/\Vc ((b6 pp)=b6 pp/\(b6 (bw Z2))=b6 (bw Z2)/\True)/\Vc ((du (b8 xn))=du (b8 xn)/\True)/\Vc (PP (aK m (a_ xn)))/\Vc ((b6 Z3)=b6 Z3/\(b6 Z4)=b6 Z4/\True)/\Vc ((bk Z5)=bk Z5/\(b6 (eG aA Z3 Z4))=b6 (eG aA Z3 Z4)/\PP Z6/\gK aA k Z6 Z5)/\(decide (aB Z7≥(0:Int))=aq->aY (G (Z9 (aB Z7)) [dC 2 ti tg,aa (.inl (75,[Z9 xk,Z9 xi,.bool xe,Z9 xt])),oP (aw Z7),aa (.inl (136,(bk xn))),aa (.inl (134,(b6 pp))),aa (.inl (136,(bk Z2))),aa (.inl (134,(b6 Z3))),aa (.inl (134,(b6 Z4)))]))/\(decide (aB Z7≥(0:Int))=ao->(decide (bP Z3<f_)=aq->Vc ((kj (bG Z3))=kj (bG Z3)/\(kj (bG Z4))=kj (bG Z4))/\(Pa.p9 (cX xk xi) (bG Z3) (bG Z4)=aq->aY (G (Z9 (bP Z3)) [dC 2 ti tg,aa (.inl (75,[Z9 xk,Z9 xi,.bool xe,Z9 xt])),oP (aw Z7),aa (.inl (136,(bk xn))),aa (.inl (134,(b6 pp))),aa (.inl (136,(bk Z2))),aa (.inl (134,(b6 Z3))),aa (.inl (134,(b6 Z4)))]))/\(Pa.p9 (cX xk xi) (bG Z3) (bG Z4)=ao->Vc ((bk Z2)=bk Z2/\(b6 pp)=b6 pp/\PP (aw Z7)/\gK aA k (aw Z7) Z2)/\aY (G (Z9 (aB Z8)) [dC 2 ti tg,aa (.inl (75,[Z9 xk,Z9 xi,.bool xe,Z9 xt])),oP (aw Z8),aa (.inl (136,(bk xn))),aa (.inl (134,(b6 pp))),aa (.inl (136,(bk Z2))),aa (.inl (134,(b6 Z3))),aa (.inl (134,(b6 Z4)))])))/\(decide (bP Z3<f_)=ao->Vc ((bk Z2)=bk Z2/\(b6 pp)=b6 pp/\PP (aw Z7)/\gK aA k (aw Z7) Z2)/\aY (G (Z9 (aB Z8)) [dC 2 ti tg,aa (.inl (75,[Z9 xk,Z9 xi,.bool xe,Z9 xt])),oP (aw Z8),aa (.inl (136,(bk xn))),aa (.inl (134,(b6 pp))),aa (.inl (136,(bk Z2))),aa (.inl (134,(b6 Z3))),aa (.inl (134,(b6 Z4)))]))))))/\((cw xn==(0:Int))=aq->aY (G (Z9 (-1:Int)) [dC 2 ti tg,aa (.inl (75,[Z9 xk,Z9 xi,.bool xe,Z9 xt])),oP m,aa (.inl (136,(bk xn))),aa (.inl (134,(b6 pp)))]))) ?_ (by kernel_rfl)
   intro Z9 Z1 Z2 Z3 Z4 Z5 Z6 Z7 Z8;subst Z8 Z7 Z6 Z5 Z4 Z3 Z2 Z1 Z9;simp only[gK] at hd;have e1:∀ e,(nN aA e).sum=aA.sum e:=fun _=>rfl
   have done:∀ (i:Int) (m':Pl) (rest:Hp Rs),jX aA (Pa.p9 ⟨xk,xi⟩) (k+1) m xn pp f_=(i,m')->G (.int .i64 i) ([aa (.inl (110,[.pointer (aa ⟨2,0,aj⟩),.int .i64 ti,.int .i64 tg])),aa (.inl (75,[.int .i64 xk,.int .i64 xi,.bool xe,.int .i64 xt])),aa (.inr (.inr (.inr (.dd m'))))]++rest):=by
    intro i m' rest e;subst hG;refine⟨[0,1,2],?_,rfl,⟨.inl rfl,.inl rfl,?_,trivial⟩,rfl,rfl,rfl,rfl⟩
    ·simp only[e];rfl
    ·simp only[e];rfl
   clear hG;rw[jX] at done
   dsimp only [mW] at done
   simp only[e1]
   repeat' (first|apply cZ|apply Vc.mk|apply fits.mk|intro h|apply aY.mk)
   all_goals (try simp only[sB] at *)
   all_goals first|contradiction|omega|exact ju ‹_›|exact jt ‹_›|exact jv ‹_›|exact⟨rfl,by omega⟩|exact rfl|(simp[*,-ax];done)|skip
   all_goals first|assumption|(simp only[ja];assumption)|skip
   all_goals first|exact oa (hd.resolve_left (by omega)).1 (fun s=>by simp only[Gv.ir,lH,mu])|(simp only[lH,mu,Gv.ir];first|exact oa (hd.resolve_left (by omega)).2 (fun s=>by simp only[Gv.ir,lH,mu])|exact oa (hd.resolve_left (by omega)).1 (fun s=>by simp only[Gv.ir,lH,mu]))|skip
   all_goals (refine done _ _ _ ?_;repeat' split)
   all_goals first|rfl|(exfalso;omega)|(exfalso;simp_all;done)|(exfalso;simp_all;omega)
  ·cases hx
end G8
end Go.Proofs.YtjlomlgdgpoepaaGreat
