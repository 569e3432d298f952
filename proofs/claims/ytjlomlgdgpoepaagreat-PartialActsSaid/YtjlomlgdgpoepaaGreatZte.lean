import Derived.Test.YtjlomlgdgpoepaaGreatZtd
import Derived.Test.YtjlomlgdgpoepaaGreatZtc
import Derived.Test.YtjlomlgdgpoepaaGreatZtb
set_option linter.unusedVariables false
set_option linter.unusedSimpArgs false
namespace Go.Proofs.YtjlomlgdgpoepaaGreat
open Gv renaming A5→Dg,A6→Df,BW→B_,DV→Bd,Deep→iY,Dv→Fs,Part→HI,Ref→bm,W→m7,Yc→KU,aF→aJ,cw→bY,dY→ew,dg→iZ,drop→wh,fW→gU,find→iB,glue→sq,has→yE,iH→kg,ir→fv,jI→KT,jM→jR,jh→gH,jw→z_,kW→nI,kZ→lJ,ky→lO,last→j3,level→gq,link→kz,lk→br,look→jQ,lu→rk,m9→Fx,mY→iX,ma→lp,mj→mA,nS→uS,nextIdx→vz,ng→Ca,ns→uU,oW→vD,oX→vC,one→nN,ox→yF,p7→oa,pJ→tx,pZ→ml,pick→jv,put→tK,qF→lA,qv→sN,replace→nJ,rm→oU,sC→xj,sI→D3,seen→HJ,sub→mX,su→qB,tD→vE,tE→vG,tie→sM,uc→vF
open Gv.Node renaming all→bt,e→bZ,h→cu,l→bc,mk→fy,r→bn
open Gv.PM renaming cX→gV,cap→ib,dE→dM,free→dR,held→fM,live→eM,vs→cH
open Gv.Part renaming mk→my,n→bM,sum→bG
open Gv.Ref renaming g→cB,i→cA,mk→aN
open Gv.TS renaming AE→tT,F5→acW,KB→I1,Lw→Dh,Nk→Qj,RI→Qi,TH→GG,Tj→GF,U1→RG,U2→RH,VL→KV,X2→SX,YI→MA,all→sg,first→yG,gk→eW,last→DK,l→eK,new→qU,put_eq→Wr,seen→dz,tA→Fw,uI→pj
open Gv.iL renaming cmp→gW,sum→IW
open Pa renaming iC→j4,p8→qi
open Rx renaming Ends→ch
open Sh renaming FN→I0,O9→aM,Sl→jG,Sz→Qh,zZ→xW
open Sh.Sl renaming it→lK,kA→o8,mk→ju,time→qC
open Sh.Sz renaming mk→aeJ,n→px
open Ti.Td renaming mk→iM
open Wv renaming Mk→h_,O8→ay,S8→ue
open Wv.It renaming i→na,k→m_,mk→cW
open Wv.Sw renaming mk→xl
open _root_.And renaming intro→cY,right→ic
open _root_.Array renaming mk→aO,toList→dA
open _root_.Bool renaming and_false→uQ,and_true→SW,false_eq_true→fO,false→an,or_true→Ws,true_and→je,true→ao
open _root_.Eq renaming symm→re
open _root_.False renaming elim→kK
open _root_.Go.Addr renaming mk→RE
open _root_.Go.Func renaming ntmps→pf,results→dC
open _root_.Go.IntKind renaming i64→ar,wrap→ck
open _root_.Go.Value renaming agg→bE,bool→aD,int→bk,pointer→aC,slice→bx,tuple→cq
open _root_.Iff renaming rfl→sk
open _root_.Int renaming toNat_natCast→iF,toNat→aH
open _root_.List renaming ext_getElem→Oc,getD_eq_getElem?_getD→av,getD→ax,getElem?_cons_succ→bH,getElem?_cons_zero→cd,getElem?_eq_getElem→bd,getElem?_map→fh,getElem_of_mem→sS,length_append→bA,length_cons→cy,length_drop→jt,length_map→fR,length_nil→jN,length_set→fa,length_take→dZ,length→ae,map_append→dG,map_cons→gr,map_drop→mH,map_nil→uP,map_set→Fq,map_take→nz,map→au,range→oi,set→qf,take_length→js,take_of_length_le→jj,take→gY
open _root_.Nat renaming le_add_left→tM,le_of_eq→xo,le_refl→a_,le_succ→kO,le_total→Wt,le_trans→jq,lt_of_le_of_lt→iW,lt_or_ge→cr,lt_succ_self→fC,min_eq_left→tL,min_eq_right→Od,sub_le→Bc,succ_pos→sL,zero_add→bV,zero_le→du
open _root_.Option renaming none→aj,some_ne_none→wu,some→aa
open _root_.Option.some renaming injEq→ct,inj→pa
open _root_.Prod renaming ext→kf,fst→aA,snd→aw
namespace G8
open Rx
set_option maxRecDepth 100000
set_option maxHeartbeats 16000000
def JC  (k:Nat):Prim Rs:=fun args hh=>match args,hh with
 |[.pointer (aa ⟨0,0,aj⟩),.agg ⟨xN⟩,.agg ⟨pP⟩,.int .i64 f_,.func (.func 110) ⟨[]⟩ ⟨[.pointer (aa ⟨1,0,aj⟩)]⟩],[aa (.inl (110,[.pointer (aa ⟨2,0,aj⟩),.int .i64 ti,.int .i64 tg])),aa (.inl (75,[.int .i64 xk,.int .i64 xi,.bool xe,.int .i64 xt])),aa (.inr (.inr (.inr (.da m))))]=>aa ⟨xN=bj (fU xN)/\pP=bW (o_ pP)/\(PP m/\gH ay k m (fU xN)),.int .i64 (j3 ay (qi ⟨xk,xi⟩) k m (fU xN) (o_ pP) f_).1,aj,[aa (.inl (110,[.pointer (aa ⟨2,0,aj⟩),.int .i64 ti,.int .i64 tg])),aa (.inl (75,[.int .i64 xk,.int .i64 xi,.bool xe,.int .i64 xt])),aa (.inr (.inr (.inr (.da (j3 ay (qi ⟨xk,xi⟩) k m (fU xN) (o_ pP) f_).2))))],[],[(0,0)]⟩
 |_,_=>aj
def abo (k:Nat):ez Rs:=[(1000000000,lL),(110,bJ zN 2 (a9 YP)),(80,bJ zN 2 (a9 j9)),(98,bJ zN 2 (a9 AB)),(148,bJ zN 2 (a9 dY)),(143,bJ zN 2 (a9 (JC k)))]
theorem U3:∀ k:Nat,b6 D Tryz.prog 143 (a9 (JC k))
 |0=>by
  refine fj Tryz.f143 fun args hh x hx=>?_
  unfold JC at hx;split at hx
  ·rename_i xN pP f_ ti tg xk xi xe xt m;cases hx;refine q4 fun _ hv=>?_
   exact kK (ic (ic (ic hv)))
  ·cases hx
 |k+1=>by
  have ih:=U3 k;refine fj Tryz.f143 fun args hh x hx=>?_
  unfold JC at hx;split at hx
  ·rename_i xN pP f_ ti tg xk xi xe xt m;cases hx;refine q4 fun _ hv=>?_
   obtain⟨jU,ss,hv⟩:=hv;generalize fU xN=xn at *;subst jU;generalize o_ pP=pp at *;subst ss;obtain⟨hp,hd⟩:=hv
   generalize hG:ch (R:=Rs) _ _=G;refine cJ (T:=(abo k)) (show cL D Tryz.prog (abo k) from⟨iu,aT _ _ ag8,aT _ _ look_ok,aT _ _ yw,aT _ _ uz,aT _ _ ih,trivial⟩) mixed 200 ?_
   refine bK (q:=let Z9:=bk ar;let Z1:=(ck ar (bM pp+bM (bt xn))≤f_);let Z2:=(br ay m (bc xn));let Z3:=(ew ay pp (bt Z2));let Z4:=(nN ay (bZ xn));let Z5:=(br ay (aJ m (bc xn)) (bn xn));let Z6:=(aJ (aJ m (bc xn)) (bn xn));let Z7:=(j3 ay (qi (cW xk xi)) k Z6 Z5 (ew ay Z3 Z4) f_);let Z8:=(j3 ay (qi (cW xk xi)) k (aw Z7) Z2 pp f_);((cu xn==(0:Int))=an->(decide (bM pp≥f_)=ao->aW (G (Z9 (-1:Int)) [dD 2 ti tg,aa (.inl (75,[Z9 xk,Z9 xi,.bool xe,Z9 xt])),oP m,aa (.inl (136,(bj xn))),aa (.inl (134,(bW pp)))]))/\(decide (bM pp≥f_)=an->Vc True/\(decide Z1=ao->Vc ((km (bG pp))=km (bG pp)/\(km (bG (bt xn)))=km (bG (bt xn)))/\((!qi (cW xk xi) (bG pp) (bG (bt xn)))=ao->aW (G (Z9 (-1:Int)) [dD 2 ti tg,aa (.inl (75,[Z9 xk,Z9 xi,.bool xe,Z9 xt])),oP m,aa (.inl (136,(bj xn))),aa (.inl (134,(bW pp)))]))/\((!qi (cW xk xi) (bG pp) (bG (bt xn)))=an->Vc (PP m)/\Vc ((bW pp)=bW pp/\(bW (bt Z2))=bW (bt Z2)/\True)/\Vc ((dr (bZ xn))=dr (bZ xn)/\True)/\Vc (PP (aJ m (bc xn)))/\Vc ((bW Z3)=bW Z3/\(bW Z4)=bW Z4/\True)/\Vc ((bj Z5)=bj Z5/\(bW (ew ay Z3 Z4))=bW (ew ay Z3 Z4)/\PP Z6/\gH ay k Z6 Z5)/\(decide (aA Z7≥(0:Int))=ao->aW (G (Z9 (aA Z7)) [dD 2 ti tg,aa (.inl (75,[Z9 xk,Z9 xi,.bool xe,Z9 xt])),oP (aw Z7),aa (.inl (136,(bj xn))),aa (.inl (134,(bW pp))),aa (.inl (136,(bj Z2))),aa (.inl (134,(bW Z3))),aa (.inl (134,(bW Z4)))]))/\(decide (aA Z7≥(0:Int))=an->(decide (bM Z3<f_)=ao->Vc ((km (bG Z3))=km (bG Z3)/\(km (bG Z4))=km (bG Z4))/\(qi (cW xk xi) (bG Z3) (bG Z4)=ao->aW (G (Z9 (bM Z3)) [dD 2 ti tg,aa (.inl (75,[Z9 xk,Z9 xi,.bool xe,Z9 xt])),oP (aw Z7),aa (.inl (136,(bj xn))),aa (.inl (134,(bW pp))),aa (.inl (136,(bj Z2))),aa (.inl (134,(bW Z3))),aa (.inl (134,(bW Z4)))]))/\(qi (cW xk xi) (bG Z3) (bG Z4)=an->Vc ((bj Z2)=bj Z2/\(bW pp)=bW pp/\PP (aw Z7)/\gH ay k (aw Z7) Z2)/\aW (G (Z9 (aA Z8)) [dD 2 ti tg,aa (.inl (75,[Z9 xk,Z9 xi,.bool xe,Z9 xt])),oP (aw Z8),aa (.inl (136,(bj xn))),aa (.inl (134,(bW pp))),aa (.inl (136,(bj Z2))),aa (.inl (134,(bW Z3))),aa (.inl (134,(bW Z4)))])))/\(decide (bM Z3<f_)=an->Vc ((bj Z2)=bj Z2/\(bW pp)=bW pp/\PP (aw Z7)/\gH ay k (aw Z7) Z2)/\aW (G (Z9 (aA Z8)) [dD 2 ti tg,aa (.inl (75,[Z9 xk,Z9 xi,.bool xe,Z9 xt])),oP (aw Z8),aa (.inl (136,(bj xn))),aa (.inl (134,(bW pp))),aa (.inl (136,(bj Z2))),aa (.inl (134,(bW Z3))),aa (.inl (134,(bW Z4)))])))))/\(decide Z1=an->Vc (PP m)/\Vc ((bW pp)=bW pp/\(bW (bt Z2))=bW (bt Z2)/\True)/\Vc ((dr (bZ xn))=dr (bZ xn)/\True)/\Vc (PP (aJ m (bc xn)))/\Vc ((bW Z3)=bW Z3/\(bW Z4)=bW Z4/\True)/\Vc ((bj Z5)=bj Z5/\(bW (ew ay Z3 Z4))=bW (ew ay Z3 Z4)/\PP Z6/\gH ay k Z6 Z5)/\(decide (aA Z7≥(0:Int))=ao->aW (G (Z9 (aA Z7)) [dD 2 ti tg,aa (.inl (75,[Z9 xk,Z9 xi,.bool xe,Z9 xt])),oP (aw Z7),aa (.inl (136,(bj xn))),aa (.inl (134,(bW pp))),aa (.inl (136,(bj Z2))),aa (.inl (134,(bW Z3))),aa (.inl (134,(bW Z4)))]))/\(decide (aA Z7≥(0:Int))=an->(decide (bM Z3<f_)=ao->Vc ((km (bG Z3))=km (bG Z3)/\(km (bG Z4))=km (bG Z4))/\(qi (cW xk xi) (bG Z3) (bG Z4)=ao->aW (G (Z9 (bM Z3)) [dD 2 ti tg,aa (.inl (75,[Z9 xk,Z9 xi,.bool xe,Z9 xt])),oP (aw Z7),aa (.inl (136,(bj xn))),aa (.inl (134,(bW pp))),aa (.inl (136,(bj Z2))),aa (.inl (134,(bW Z3))),aa (.inl (134,(bW Z4)))]))/\(qi (cW xk xi) (bG Z3) (bG Z4)=an->Vc ((bj Z2)=bj Z2/\(bW pp)=bW pp/\PP (aw Z7)/\gH ay k (aw Z7) Z2)/\aW (G (Z9 (aA Z8)) [dD 2 ti tg,aa (.inl (75,[Z9 xk,Z9 xi,.bool xe,Z9 xt])),oP (aw Z8),aa (.inl (136,(bj xn))),aa (.inl (134,(bW pp))),aa (.inl (136,(bj Z2))),aa (.inl (134,(bW Z3))),aa (.inl (134,(bW Z4)))])))/\(decide (bM Z3<f_)=an->Vc ((bj Z2)=bj Z2/\(bW pp)=bW pp/\PP (aw Z7)/\gH ay k (aw Z7) Z2)/\aW (G (Z9 (aA Z8)) [dD 2 ti tg,aa (.inl (75,[Z9 xk,Z9 xi,.bool xe,Z9 xt])),oP (aw Z8),aa (.inl (136,(bj xn))),aa (.inl (134,(bW pp))),aa (.inl (136,(bj Z2))),aa (.inl (134,(bW Z3))),aa (.inl (134,(bW Z4)))]))))))/\((cu xn==(0:Int))=ao->aW (G (Z9 (-1:Int)) [dD 2 ti tg,aa (.inl (75,[Z9 xk,Z9 xi,.bool xe,Z9 xt])),oP m,aa (.inl (136,(bj xn))),aa (.inl (134,(bW pp)))]))) ?_ (by kernel_rfl)
   intro Z9 Z1 Z2 Z3 Z4 Z5 Z6 Z7 Z8;subst Z8 Z7 Z6 Z5 Z4 Z3 Z2 Z1 Z9;simp only[gH] at hd;have e1:∀ e,(nN ay e).sum=ay.sum e:=fun _=>rfl
   have done:∀ (i:Int) (m':Pl) (rest:Hp Rs),j3 ay (qi ⟨xk,xi⟩) (k+1) m xn pp f_=(i,m')->G (.int .i64 i) ([aa (.inl (110,[.pointer (aa ⟨2,0,aj⟩),.int .i64 ti,.int .i64 tg])),aa (.inl (75,[.int .i64 xk,.int .i64 xi,.bool xe,.int .i64 xt])),aa (.inr (.inr (.inr (.da m'))))]++rest):=by
    intro i m' rest e;subst hG;refine⟨[0,1,2],?_,rfl,⟨.inl rfl,.inl rfl,?_,trivial⟩,rfl,rfl,rfl,rfl⟩
    ·simp only[e];rfl
    ·simp only[e];rfl
   clear hG;rw[j3] at done
   dsimp only [m7] at done
   simp only[e1]
   repeat' (first|apply cY|apply Vc.mk|apply fits.mk|intro h|apply aW.mk)
   all_goals (try simp only[sB] at *)
   all_goals first|contradiction|omega|exact jm ‹_›|exact jo ‹_›|exact jk ‹_›|exact⟨rfl,by omega⟩|exact rfl|(simp[*,-av];done)|skip
   all_goals first|assumption|(simp only[iX];assumption)|skip
   all_goals first|exact oa (hd.resolve_left (by omega)).1 (fun s=>by simp only[Gv.ik,lJ,mA])|(simp only[lJ,mA,Gv.ik];first|exact oa (hd.resolve_left (by omega)).2 (fun s=>by simp only[Gv.ik,lJ,mA])|exact oa (hd.resolve_left (by omega)).1 (fun s=>by simp only[Gv.ik,lJ,mA]))|skip
   all_goals (refine done _ _ _ ?_;repeat' split)
   all_goals first|rfl|(exfalso;omega)|(exfalso;simp_all;done)|(exfalso;simp_all;omega)
  ·cases hx
def Q3 (K:Nat):Prim Rs:=fun args hh=>match args,hh with
 |[.pointer (aa ⟨0,0,aj⟩),.int .i64 f_,.func (.func 110) ⟨[]⟩ ⟨[.pointer (aa ⟨1,0,aj⟩)]⟩],[aa (.inl (110,[.pointer (aa ⟨2,0,aj⟩),.int .i64 ti,.int .i64 tg])),aa (.inl (75,[.int .i64 xk,.int .i64 xi,.bool xe,.int .i64 xt])),aa (.inr (.inr (.inr (.da m))))]=>aa ⟨PP m/\gH ay K (aJ m (⟨ti,tg⟩:bm)) (br ay m (⟨ti,tg⟩:bm)),.int .i64 (j3 ay (qi ⟨xk,xi⟩) K (aJ m (⟨ti,tg⟩:bm)) (br ay m (⟨ti,tg⟩:bm)) ⟨0,ay.a0⟩ f_).1,aj,[aa (.inl (110,[.pointer (aa ⟨2,0,aj⟩),.int .i64 ti,.int .i64 tg])),aa (.inl (75,[.int .i64 xk,.int .i64 xi,.bool xe,.int .i64 xt])),aa (.inr (.inr (.inr (.da (j3 ay (qi ⟨xk,xi⟩) K (aJ m (⟨ti,tg⟩:bm)) (br ay m (⟨ti,tg⟩:bm)) ⟨0,ay.a0⟩ f_).2))))],[],[(0,0)]⟩
 |_,_=>aj
def XT (K:Nat):ez Rs:=[(80,bJ zN 2 (a9 j9)),(143,bJ zN 2 (a9 (JC K)))]
theorem acb (K:Nat):b6 D Tryz.prog 111 (a9 (Q3 K)):=by
 refine fj Tryz.f111 fun args hh x hx=>?_
 unfold Q3 at hx;split at hx
 ·rename_i f_ ti tg xk xi xe xt m;cases hx;refine q4 fun _ hv=>?_
  obtain⟨hp,hd⟩:=hv;generalize hG:ch (R:=Rs) _ _=G;refine cJ (T:=(XT K)) (show cL D Tryz.prog (XT K) from⟨aT _ _ look_ok,aT _ _ (U3 K),trivial⟩) mixed 200 ?_
  refine bK (q:=let Z1:=(br ay m (aN ti tg));let Z2:=(bW (my 0 (xl (iM 0 0 0) (iM 0 0 0) 0 0 (cW 0 0) an (cW 0 0) an (cW 0 0))));let Z3:=(j3 ay (qi (cW xk xi)) K (aJ m (aN ti tg)) Z1 (my (0:Int) (xl (iM (0:Int) (0:Int) (0:Int)) (iM (0:Int) (0:Int) (0:Int)) (0:Int) (0:Int) (cW (0:Int) (0:Int)) an (cW (0:Int) (0:Int)) an (cW (0:Int) (0:Int)))) f_);Vc (PP m)/\Vc ((bj Z1)=bj Z1/\Z2=Z2/\PP (aJ m (aN ti tg))/\gH ay K (aJ m (aN ti tg)) Z1)/\aW (G (bk ar (aA Z3)) [dD 2 ti tg,aa (.inl (75,[.int ar xk,.int ar xi,.bool xe,.int ar xt])),oP (aw Z3)])) ?_ (by kernel_rfl)
  intro Z1 Z2 Z3;subst Z3 Z2 Z1;subst hG
  repeat' (first|apply cY|apply Vc.mk|apply fits.mk|intro h|apply aW.mk)
  all_goals (try simp only[sB] at *)
  all_goals first|contradiction|omega|exact jm ‹_›|exact jo ‹_›|exact jk ‹_›|exact⟨rfl,by omega⟩|exact rfl|(simp[*,-av];done)|skip
  all_goals first|assumption|(simp only[iX];assumption)|skip
  exact⟨[0,1,2],rfl,rfl,⟨.inl rfl,.inl rfl,rfl,trivial⟩,rfl,rfl,rfl,rfl⟩
 ·cases hx
end G8
namespace G8
open Rx
open Gv (KK)
set_option maxRecDepth 100000
set_option maxHeartbeats 8000000
def H6:Prim Rt:=fun args hh=>match args,hh with
 |[.int .i64 c],[]=>aa ⟨True,.pointer (aa ⟨0,0,aj⟩),aj,[oT (qU k8 c)],[],[(0,0)]⟩
 |_,_=>aj
theorem Q7:b6 D2 Tryz.prog 90 (a9 H6):=by
 refine nr (c:=a9 Ir) QW fun args hh x hx=>?_
 unfold H6 at hx;split at hx
 ·rename_i c;cases hx;refine⟨du _,lM rfl,(fun hw=>by cases hw),fun hv=>⟨⟨_,.inl ⟨rfl,rfl⟩,rfl,?_,?_,?_⟩,rfl,rfl⟩⟩
  ·trivial
  ·rfl
  ·rfl
 ·cases hx
def AA:Prim Rt:=fun args hh=>match args,hh with
 |[.pointer (aa ⟨0,0,aj⟩)],[aa (.inr (.inr (.inr (.tree s))))]=>aa ⟨s.gk,.int .i64 s.l.length,aj,[oT s.seen],[],[(0,0)]⟩
 |_,_=>aj
theorem BR:b6 D2 Tryz.prog 40 (a9 AA):=by
 refine nr (c:=a9 BO) Kj fun args hh x hx=>?_
 unfold AA at hx;split at hx
 ·rename_i s;cases hx;refine⟨a_ _,lM rfl,(fun hw=>by cases hw),fun hv=>⟨⟨_,.inl ⟨rfl,rfl⟩,rfl,?_,?_,?_⟩,rfl,rfl⟩⟩
  ·exact s.pp hv
  ·rfl
  ·exact congrArg (bk ar) s.ok.nn
 ·cases hx
def IC:Prim Rt:=fun args hh=>match args,hh with
 |[.pointer (aa ⟨0,0,aj⟩)],[aa (.inr (.inr (.inr (.tree s))))]=>aa ⟨True,.int .i64 s.m.cX,aj,hh,[],[]⟩
 |_,_=>aj
theorem QC:b6 D2 Tryz.prog 76 (a9 IC):=by
 refine nr (c:=a9 yT) HR fun args hh x hx=>?_
 unfold IC at hx;split at hx
 ·rename_i s;cases hx;refine⟨a_ _,lM rfl,(fun _=>rfl),fun hv=>⟨⟨_,.inl ⟨rfl,rfl⟩,rfl,?_,?_,?_⟩,rfl,rfl⟩⟩
  ·trivial
  ·rfl
  ·rfl
 ·cases hx
def Dt:Prim Rt:=fun args hh=>match args,hh with
 |[.pointer (aa ⟨0,0,aj⟩),.agg ⟨[.int .i64 k0,.bool k1,.int .i64 k2,.int .i64 k3,.bool k4,.bool k5,.int .i64 k6,.int .i64 k7]⟩],[aa (.inr (.inr (.inr (.tree s))))]=>aa ⟨s.kV (⟨k0,k1,⟨k2,k3⟩,k4,k5,⟨k6,k7⟩⟩:h_),.bool (s.KB (⟨k0,k1,⟨k2,k3⟩,k4,k5,⟨k6,k7⟩⟩:h_)),aj,[oT (s.put (⟨k0,k1,⟨k2,k3⟩,k4,k5,⟨k6,k7⟩⟩:h_))],[],[(0,0)]⟩
 |_,_=>aj
theorem G7:b6 D2 Tryz.prog 67 (a9 Dt):=by
 refine nr (c:=a9 (H_ KK)) (Q1 KK) fun args hh x hx=>?_
 unfold Dt at hx;split at hx
 ·rename_i k0 k1 k2 k3 k4 k5 k6 k7 s;cases hx;refine⟨a_ _,lM rfl,(fun hw=>by cases hw),fun hv=>⟨⟨_,.inl ⟨rfl,rfl⟩,rfl,?_,?_,?_⟩,rfl,rfl⟩⟩
  ·exact⟨rfl,s.pp hv.lT,(Fw hv).1⟩
  ·rw[Wr hv];rfl
  ·exact congrArg aD (Fw hv).2.1
 ·cases hx
def CH:Prim Rt:=fun args hh=>match args,hh with
 |[.pointer (aa ⟨0,0,aj⟩),.agg ⟨[.int .i64 k0,.bool k1,.int .i64 k2,.int .i64 k3,.bool k4,.bool k5,.int .i64 k6,.int .i64 k7]⟩],[aa (.inr (.inr (.inr (.tree s))))]=>aa ⟨s.gk,.tuple #[.agg ⟨[.int .i64 (fv ay (⟨k0,k1,⟨k2,k3⟩,k4,k5,⟨k6,k7⟩⟩:h_) s.l).1.t,.bool (fv ay (⟨k0,k1,⟨k2,k3⟩,k4,k5,⟨k6,k7⟩⟩:h_) s.l).1.ins,.int .i64 (fv ay (⟨k0,k1,⟨k2,k3⟩,k4,k5,⟨k6,k7⟩⟩:h_) s.l).1.it.k,.int .i64 (fv ay (⟨k0,k1,⟨k2,k3⟩,k4,k5,⟨k6,k7⟩⟩:h_) s.l).1.it.i,.bool (fv ay (⟨k0,k1,⟨k2,k3⟩,k4,k5,⟨k6,k7⟩⟩:h_) s.l).1.here,.bool (fv ay (⟨k0,k1,⟨k2,k3⟩,k4,k5,⟨k6,k7⟩⟩:h_) s.l).1.tf,.int .i64 (fv ay (⟨k0,k1,⟨k2,k3⟩,k4,k5,⟨k6,k7⟩⟩:h_) s.l).1.tk.k,.int .i64 (fv ay (⟨k0,k1,⟨k2,k3⟩,k4,k5,⟨k6,k7⟩⟩:h_) s.l).1.tk.i]⟩,.bool (fv ay (⟨k0,k1,⟨k2,k3⟩,k4,k5,⟨k6,k7⟩⟩:h_) s.l).2],aj,[oT (s.drop (⟨k0,k1,⟨k2,k3⟩,k4,k5,⟨k6,k7⟩⟩:h_))],[],[(0,0)]⟩
 |_,_=>aj
theorem Io:b6 D2 Tryz.prog 74 (a9 CH):=by
 refine nr (c:=a9 (EU KK)) (Np KK) fun args hh x hx=>?_
 unfold CH at hx;split at hx
 ·rename_i k0 k1 k2 k3 k4 k5 k6 k7 s;cases hx;refine⟨a_ _,lM rfl,(fun hw=>by cases hw),fun hv=>⟨⟨_,.inl ⟨rfl,rfl⟩,rfl,?_,?_,?_⟩,rfl,rfl⟩⟩
  ·exact⟨rfl,s.pp hv,(s.tu (⟨k0,k1,⟨k2,k3⟩,k4,k5,⟨k6,k7⟩⟩:h_)).1⟩
  ·rfl
  ·obtain⟨_,h1,h2,_⟩:=s.tu (⟨k0,k1,⟨k2,k3⟩,k4,k5,⟨k6,k7⟩⟩:h_);show cq #[.agg ⟨[.int .i64 (jR ay KK s.m s.r (⟨k0,k1,⟨k2,k3⟩,k4,k5,⟨k6,k7⟩⟩:h_)).1.t,.bool (jR ay KK s.m s.r (⟨k0,k1,⟨k2,k3⟩,k4,k5,⟨k6,k7⟩⟩:h_)).1.ins,.int .i64 (jR ay KK s.m s.r (⟨k0,k1,⟨k2,k3⟩,k4,k5,⟨k6,k7⟩⟩:h_)).1.it.k,.int .i64 (jR ay KK s.m s.r (⟨k0,k1,⟨k2,k3⟩,k4,k5,⟨k6,k7⟩⟩:h_)).1.it.i,.bool (jR ay KK s.m s.r (⟨k0,k1,⟨k2,k3⟩,k4,k5,⟨k6,k7⟩⟩:h_)).1.here,.bool (jR ay KK s.m s.r (⟨k0,k1,⟨k2,k3⟩,k4,k5,⟨k6,k7⟩⟩:h_)).1.tf,.int .i64 (jR ay KK s.m s.r (⟨k0,k1,⟨k2,k3⟩,k4,k5,⟨k6,k7⟩⟩:h_)).1.tk.k,.int .i64 (jR ay KK s.m s.r (⟨k0,k1,⟨k2,k3⟩,k4,k5,⟨k6,k7⟩⟩:h_)).1.tk.i]⟩,.bool (jR ay KK s.m s.r (⟨k0,k1,⟨k2,k3⟩,k4,k5,⟨k6,k7⟩⟩:h_)).2.1]=_
   have h1:(jR ay KK s.m s.r (⟨k0,k1,⟨k2,k3⟩,k4,k5,⟨k6,k7⟩⟩:h_)).1=(fv ay (⟨k0,k1,⟨k2,k3⟩,k4,k5,⟨k6,k7⟩⟩:h_) s.l).1:=h1;have h2:(jR ay KK s.m s.r (⟨k0,k1,⟨k2,k3⟩,k4,k5,⟨k6,k7⟩⟩:h_)).2.1=(fv ay (⟨k0,k1,⟨k2,k3⟩,k4,k5,⟨k6,k7⟩⟩:h_) s.l).2:=h2;rw[h1,h2]
   rfl
 ·cases hx
def An:Prim Rt:=fun args hh=>match args,hh with
 |[.pointer (aa ⟨0,0,aj⟩),.agg ⟨[.int .i64 k0,.bool k1,.int .i64 k2,.int .i64 k3,.bool k4,.bool k5,.int .i64 k6,.int .i64 k7]⟩],[aa (.inr (.inr (.inr (.tree s))))]=>aa ⟨s.gk,.tuple #[.agg ⟨[.int .i64 (fv ay (⟨k0,k1,⟨k2,k3⟩,k4,k5,⟨k6,k7⟩⟩:h_) s.l).1.t,.bool (fv ay (⟨k0,k1,⟨k2,k3⟩,k4,k5,⟨k6,k7⟩⟩:h_) s.l).1.ins,.int .i64 (fv ay (⟨k0,k1,⟨k2,k3⟩,k4,k5,⟨k6,k7⟩⟩:h_) s.l).1.it.k,.int .i64 (fv ay (⟨k0,k1,⟨k2,k3⟩,k4,k5,⟨k6,k7⟩⟩:h_) s.l).1.it.i,.bool (fv ay (⟨k0,k1,⟨k2,k3⟩,k4,k5,⟨k6,k7⟩⟩:h_) s.l).1.here,.bool (fv ay (⟨k0,k1,⟨k2,k3⟩,k4,k5,⟨k6,k7⟩⟩:h_) s.l).1.tf,.int .i64 (fv ay (⟨k0,k1,⟨k2,k3⟩,k4,k5,⟨k6,k7⟩⟩:h_) s.l).1.tk.k,.int .i64 (fv ay (⟨k0,k1,⟨k2,k3⟩,k4,k5,⟨k6,k7⟩⟩:h_) s.l).1.tk.i]⟩,.bool (fv ay (⟨k0,k1,⟨k2,k3⟩,k4,k5,⟨k6,k7⟩⟩:h_) s.l).2],aj,[oT (s.find (⟨k0,k1,⟨k2,k3⟩,k4,k5,⟨k6,k7⟩⟩:h_))],[],[(0,0)]⟩
 |_,_=>aj
theorem EH:b6 D2 Tryz.prog 73 (a9 An):=by
 refine nr (c:=a9 (EI KK)) (M4 KK) fun args hh x hx=>?_
 unfold An at hx;split at hx
 ·rename_i k0 k1 k2 k3 k4 k5 k6 k7 s;cases hx;refine⟨a_ _,lM rfl,(fun hw=>by cases hw),fun hv=>⟨⟨_,.inl ⟨rfl,rfl⟩,rfl,?_,?_,?_⟩,rfl,rfl⟩⟩
  ·exact⟨rfl,s.pp hv,(s.ok.find (e:=(⟨k0,k1,⟨k2,k3⟩,k4,k5,⟨k6,k7⟩⟩:h_)) s.k1).1⟩
  ·rfl
  ·obtain⟨_,m',h1,_⟩:=s.ok.find (K:=KK) (e:=(⟨k0,k1,⟨k2,k3⟩,k4,k5,⟨k6,k7⟩⟩:h_)) s.k1;have h1:(iB ay KK (aJ s.m s.r) (br ay s.m s.r) (⟨k0,k1,⟨k2,k3⟩,k4,k5,⟨k6,k7⟩⟩:h_))=((fv ay (⟨k0,k1,⟨k2,k3⟩,k4,k5,⟨k6,k7⟩⟩:h_) s.l),m'):=h1;show cq #[.agg ⟨[.int .i64 (iB ay KK (aJ s.m s.r) (br ay s.m s.r) (⟨k0,k1,⟨k2,k3⟩,k4,k5,⟨k6,k7⟩⟩:h_)).1.1.t,.bool (iB ay KK (aJ s.m s.r) (br ay s.m s.r) (⟨k0,k1,⟨k2,k3⟩,k4,k5,⟨k6,k7⟩⟩:h_)).1.1.ins,.int .i64 (iB ay KK (aJ s.m s.r) (br ay s.m s.r) (⟨k0,k1,⟨k2,k3⟩,k4,k5,⟨k6,k7⟩⟩:h_)).1.1.it.k,.int .i64 (iB ay KK (aJ s.m s.r) (br ay s.m s.r) (⟨k0,k1,⟨k2,k3⟩,k4,k5,⟨k6,k7⟩⟩:h_)).1.1.it.i,.bool (iB ay KK (aJ s.m s.r) (br ay s.m s.r) (⟨k0,k1,⟨k2,k3⟩,k4,k5,⟨k6,k7⟩⟩:h_)).1.1.here,.bool (iB ay KK (aJ s.m s.r) (br ay s.m s.r) (⟨k0,k1,⟨k2,k3⟩,k4,k5,⟨k6,k7⟩⟩:h_)).1.1.tf,.int .i64 (iB ay KK (aJ s.m s.r) (br ay s.m s.r) (⟨k0,k1,⟨k2,k3⟩,k4,k5,⟨k6,k7⟩⟩:h_)).1.1.tk.k,.int .i64 (iB ay KK (aJ s.m s.r) (br ay s.m s.r) (⟨k0,k1,⟨k2,k3⟩,k4,k5,⟨k6,k7⟩⟩:h_)).1.1.tk.i]⟩,.bool (iB ay KK (aJ s.m s.r) (br ay s.m s.r) (⟨k0,k1,⟨k2,k3⟩,k4,k5,⟨k6,k7⟩⟩:h_)).1.2]=_
   rw[h1]
   rfl
 ·cases hx
def Hw:Prim Rt:=fun args hh=>match args,hh with
 |[.pointer (aa ⟨0,0,aj⟩),.agg ⟨[.int .i64 k0,.bool k1,.int .i64 k2,.int .i64 k3,.bool k4,.bool k5,.int .i64 k6,.int .i64 k7]⟩],[aa (.inr (.inr (.inr (.tree s))))]=>aa ⟨s.gk,.int .i64 (yF ay (⟨k0,k1,⟨k2,k3⟩,k4,k5,⟨k6,k7⟩⟩:h_) s.l).length,aj,[oT (s.ky (⟨k0,k1,⟨k2,k3⟩,k4,k5,⟨k6,k7⟩⟩:h_))],[],[(0,0)]⟩
 |_,_=>aj
theorem VQ:b6 D2 Tryz.prog 65 (a9 Hw):=by
 refine nr (c:=a9 (D9 KK)) (MT KK) fun args hh x hx=>?_
 unfold Hw at hx;split at hx
 ·rename_i k0 k1 k2 k3 k4 k5 k6 k7 s;cases hx;refine⟨a_ _,lM rfl,(fun hw=>by cases hw),fun hv=>⟨⟨_,.inl ⟨rfl,rfl⟩,rfl,?_,?_,?_⟩,rfl,rfl⟩⟩
  ·exact⟨rfl,s.pp hv,(s.ok.ky (e:=(⟨k0,k1,⟨k2,k3⟩,k4,k5,⟨k6,k7⟩⟩:h_)) s.k1).1⟩
  ·rfl
  ·obtain⟨_,m',h1,_⟩:=s.ok.ky (K:=KK) (e:=(⟨k0,k1,⟨k2,k3⟩,k4,k5,⟨k6,k7⟩⟩:h_)) s.k1;have h1:(lO ay KK (aJ s.m s.r) (br ay s.m s.r) (⟨k0,k1,⟨k2,k3⟩,k4,k5,⟨k6,k7⟩⟩:h_) 0)=(((yF ay (⟨k0,k1,⟨k2,k3⟩,k4,k5,⟨k6,k7⟩⟩:h_) s.l).length:Int),m'):=h1;show bk ar (lO ay KK (aJ s.m s.r) (br ay s.m s.r) (⟨k0,k1,⟨k2,k3⟩,k4,k5,⟨k6,k7⟩⟩:h_) 0).1=_
   rw[h1]
   rfl
 ·cases hx
def Ia:Prim Rt:=fun args hh=>match args,hh with
 |[.pointer (aa ⟨0,0,aj⟩)],[aa (.inr (.inr (.inr (.tree s))))]=>aa ⟨s.gk,.slice (aa ⟨1,0,aa 8000⟩) s.l.length 0,aj,[oT s.all,aa (.inr (.inl (49,⟨[.int .i64 0,.bool an,.int .i64 0,.int .i64 0,.bool an,.bool an,.int .i64 0,.int .i64 0],s.l.length,[⟨s.l.map fun e=>e.t,[],[]⟩,⟨[],s.l.map fun e=>e.ins,[]⟩,⟨s.l.map fun e=>e.it.k,[],[]⟩,⟨s.l.map fun e=>e.it.i,[],[]⟩,⟨[],s.l.map fun e=>e.here,[]⟩,⟨[],s.l.map fun e=>e.tf,[]⟩,⟨s.l.map fun e=>e.tk.k,[],[]⟩,⟨s.l.map fun e=>e.tk.i,[],[]⟩]⟩)))],[],[(0,0)]⟩
 |_,_=>aj
theorem QZ:b6 D2 Tryz.prog 21 (a9 Ia):=by
 refine nr (c:=a9 (HY KK)) (Rb KK) fun args hh x hx=>?_
 unfold Ia at hx;split at hx
 ·rename_i s;cases hx;refine⟨kO _,lM rfl,(fun hw=>by cases hw),fun hv=>⟨⟨_,.inl ⟨rfl,rfl⟩,rfl,?_,?_,?_⟩,rfl,rfl⟩⟩
  ·exact⟨s.pp hv,(s.ok.all (K:=KK) s.k1).1⟩
  ·obtain⟨_,m',h1,_⟩:=s.ok.all (K:=KK) s.k1;have h1:(bY ay KK (aJ s.m s.r) s.r)=(s.l,m'):=h1;show([aa (.inl (110,[.pointer (aa ⟨1,0,aj⟩),.int .i64 s.r.i,.int .i64 s.r.g])),aa (.inr (.inr (.inr (.da (bY ay KK (aJ s.m s.r) s.r).2)))),aa (.inr (.inl (49,⟨[.int .i64 0,.bool an,.int .i64 0,.int .i64 0,.bool an,.bool an,.int .i64 0,.int .i64 0],(bY ay KK (aJ s.m s.r) s.r).1.length,[⟨(bY ay KK (aJ s.m s.r) s.r).1.map fun e=>e.t,[],[]⟩,⟨[],(bY ay KK (aJ s.m s.r) s.r).1.map fun e=>e.ins,[]⟩,⟨(bY ay KK (aJ s.m s.r) s.r).1.map fun e=>e.it.k,[],[]⟩,⟨(bY ay KK (aJ s.m s.r) s.r).1.map fun e=>e.it.i,[],[]⟩,⟨[],(bY ay KK (aJ s.m s.r) s.r).1.map fun e=>e.here,[]⟩,⟨[],(bY ay KK (aJ s.m s.r) s.r).1.map fun e=>e.tf,[]⟩,⟨(bY ay KK (aJ s.m s.r) s.r).1.map fun e=>e.tk.k,[],[]⟩,⟨(bY ay KK (aJ s.m s.r) s.r).1.map fun e=>e.tk.i,[],[]⟩]⟩)))]:Hp Rs)=[aa (.inl (110,[.pointer (aa ⟨1,0,aj⟩),.int .i64 s.r.i,.int .i64 s.r.g])),aa (.inr (.inr (.inr (.da (bY ay KK (aJ s.m s.r) s.r).2)))),aa (.inr (.inl (49,⟨[.int .i64 0,.bool an,.int .i64 0,.int .i64 0,.bool an,.bool an,.int .i64 0,.int .i64 0],s.l.length,[⟨s.l.map fun e=>e.t,[],[]⟩,⟨[],s.l.map fun e=>e.ins,[]⟩,⟨s.l.map fun e=>e.it.k,[],[]⟩,⟨s.l.map fun e=>e.it.i,[],[]⟩,⟨[],s.l.map fun e=>e.here,[]⟩,⟨[],s.l.map fun e=>e.tf,[]⟩,⟨s.l.map fun e=>e.tk.k,[],[]⟩,⟨s.l.map fun e=>e.tk.i,[],[]⟩]⟩)))]
   rw[h1]
  ·obtain⟨_,m',h1,_⟩:=s.ok.all (K:=KK) s.k1;have h1:(bY ay KK (aJ s.m s.r) s.r)=(s.l,m'):=h1;show bx (aa ⟨2,0,aa 8000⟩) (bY ay KK (aJ s.m s.r) s.r).1.length 0=_
   rw[h1]
   rfl
 ·cases hx
def Q9:Prim Rt:=fun args hh=>match args,hh with
 |[.pointer (aa ⟨0,0,aj⟩),.int .i64 i_],[aa (.inr (.inr (.inr (.tree s))))]=>aa ⟨s.gk,.tuple #[.agg ⟨[.int .i64 (ml ay i_ s.l).1.t,.bool (ml ay i_ s.l).1.ins,.int .i64 (ml ay i_ s.l).1.it.k,.int .i64 (ml ay i_ s.l).1.it.i,.bool (ml ay i_ s.l).1.here,.bool (ml ay i_ s.l).1.tf,.int .i64 (ml ay i_ s.l).1.tk.k,.int .i64 (ml ay i_ s.l).1.tk.i]⟩,.bool (ml ay i_ s.l).2],aj,[oT (s.at_ i_)],[],[(0,0)]⟩
 |_,_=>aj
theorem ack:b6 D2 Tryz.prog 141 (a9 Q9):=by
 refine nr (c:=a9 (M1 KK)) (V3 KK) fun args hh x hx=>?_
 unfold Q9 at hx;split at hx
 ·rename_i i_ s;cases hx;refine⟨a_ _,lM rfl,(fun hw=>by cases hw),fun hv=>⟨⟨_,.inl ⟨rfl,rfl⟩,rfl,?_,?_,?_⟩,rfl,rfl⟩⟩
  ·exact⟨s.pp hv,(s.ok.at_ (i:=i_) s.k1).1⟩
  ·rfl
  ·obtain⟨_,m',h1,_⟩:=s.ok.at_ (K:=KK) (i:=i_) s.k1;have h1:(lA ay KK s.m s.r i_)=((ml ay i_ s.l),m'):=h1;show cq #[.agg ⟨[.int .i64 (lA ay KK s.m s.r i_).1.1.t,.bool (lA ay KK s.m s.r i_).1.1.ins,.int .i64 (lA ay KK s.m s.r i_).1.1.it.k,.int .i64 (lA ay KK s.m s.r i_).1.1.it.i,.bool (lA ay KK s.m s.r i_).1.1.here,.bool (lA ay KK s.m s.r i_).1.1.tf,.int .i64 (lA ay KK s.m s.r i_).1.1.tk.k,.int .i64 (lA ay KK s.m s.r i_).1.1.tk.i]⟩,.bool (lA ay KK s.m s.r i_).1.2]=_
   rw[h1]
   rfl
 ·cases hx
def Pw:Prim Rt:=fun args hh=>match args,hh with
 |[.pointer (aa ⟨0,0,aj⟩),.int .i64 x_,.int .i64 y_],[aa (.inr (.inr (.inr (.tree s))))]=>aa ⟨s.gk,.agg ⟨[.int .i64 (ue (mX s.l x_.toNat y_.toNat)).c.n,.int .i64 (ue (mX s.l x_.toNat y_.toNat)).c.s,.int .i64 (ue (mX s.l x_.toNat y_.toNat)).c.l,.int .i64 (ue (mX s.l x_.toNat y_.toNat)).w.n,.int .i64 (ue (mX s.l x_.toNat y_.toNat)).w.s,.int .i64 (ue (mX s.l x_.toNat y_.toNat)).w.l,.int .i64 (ue (mX s.l x_.toNat y_.toNat)).d,.int .i64 (ue (mX s.l x_.toNat y_.toNat)).f,.int .i64 (ue (mX s.l x_.toNat y_.toNat)).m.k,.int .i64 (ue (mX s.l x_.toNat y_.toNat)).m.i,.bool (ue (mX s.l x_.toNat y_.toNat)).gf,.int .i64 (ue (mX s.l x_.toNat y_.toNat)).g.k,.int .i64 (ue (mX s.l x_.toNat y_.toNat)).g.i,.bool (ue (mX s.l x_.toNat y_.toNat)).lf,.int .i64 (ue (mX s.l x_.toNat y_.toNat)).l.k,.int .i64 (ue (mX s.l x_.toNat y_.toNat)).l.i]⟩,aj,[oT (s.F5 x_ y_)],[],[(0,0)]⟩
 |_,_=>aj
theorem Rl:b6 D2 Tryz.prog 78 (a9 Pw):=by
 refine nr (c:=a9 (Y9 KK)) (ags KK) fun args hh x hx=>?_
 unfold Pw at hx;split at hx
 ·rename_i x_ y_ s;cases hx;refine⟨a_ _,lM rfl,(fun hw=>by cases hw),fun hv=>⟨⟨_,.inl ⟨rfl,rfl⟩,rfl,?_,?_,?_⟩,rfl,rfl⟩⟩
  ·exact⟨s.pp hv,(s.ok.F5 (f:=x_) (u:=y_) s.k1).1⟩
  ·rfl
  ·obtain⟨_,m',h1,_⟩:=s.ok.F5 (K:=KK) (f:=x_) (u:=y_) s.k1;have h1:(gU ay KK (aJ s.m s.r) (br ay s.m s.r) x_ y_)=(⟨(mX s.l x_.toNat y_.toNat).length,(ue (mX s.l x_.toNat y_.toNat))⟩,m'):=h1;show(.agg ⟨[.int .i64 (gU ay KK (aJ s.m s.r) (br ay s.m s.r) x_ y_).1.sum.c.n,.int .i64 (gU ay KK (aJ s.m s.r) (br ay s.m s.r) x_ y_).1.sum.c.s,.int .i64 (gU ay KK (aJ s.m s.r) (br ay s.m s.r) x_ y_).1.sum.c.l,.int .i64 (gU ay KK (aJ s.m s.r) (br ay s.m s.r) x_ y_).1.sum.w.n,.int .i64 (gU ay KK (aJ s.m s.r) (br ay s.m s.r) x_ y_).1.sum.w.s,.int .i64 (gU ay KK (aJ s.m s.r) (br ay s.m s.r) x_ y_).1.sum.w.l,.int .i64 (gU ay KK (aJ s.m s.r) (br ay s.m s.r) x_ y_).1.sum.d,.int .i64 (gU ay KK (aJ s.m s.r) (br ay s.m s.r) x_ y_).1.sum.f,.int .i64 (gU ay KK (aJ s.m s.r) (br ay s.m s.r) x_ y_).1.sum.m.k,.int .i64 (gU ay KK (aJ s.m s.r) (br ay s.m s.r) x_ y_).1.sum.m.i,.bool (gU ay KK (aJ s.m s.r) (br ay s.m s.r) x_ y_).1.sum.gf,.int .i64 (gU ay KK (aJ s.m s.r) (br ay s.m s.r) x_ y_).1.sum.g.k,.int .i64 (gU ay KK (aJ s.m s.r) (br ay s.m s.r) x_ y_).1.sum.g.i,.bool (gU ay KK (aJ s.m s.r) (br ay s.m s.r) x_ y_).1.sum.lf,.int .i64 (gU ay KK (aJ s.m s.r) (br ay s.m s.r) x_ y_).1.sum.l.k,.int .i64 (gU ay KK (aJ s.m s.r) (br ay s.m s.r) x_ y_).1.sum.l.i]⟩:Value)=_
   rw[h1]
   rfl
 ·cases hx
def ME:Prim Rt:=fun args hh=>match args,hh with
 |[.pointer (aa ⟨0,0,aj⟩),.int .i64 f_,.func (.func 154) ⟨[]⟩ ⟨[.pointer (aa ⟨1,0,aj⟩)]⟩],[aa (.inr (.inr (.inr (.tree s)))),aa (.inl (3,[.int .i64 xx]))]=>aa ⟨s.gk,.int .i64 (pj (j4 xx) s f_),aj,[oT (yG (j4 xx) s f_),aa (.inl (3,[.int .i64 xx]))],[],[(0,0)]⟩
 |_,_=>aj
theorem YT:b6 D2 Tryz.prog 108 (a9 ME):=by
 refine nr (c:=bJ zN 2 (a9 (Nb KK))) (aT _ _ (ZG KK)).ok fun args hh x hx=>?_
 unfold ME at hx;split at hx
 ·rename_i f_ s xx;cases hx;refine⟨a_ _,lM rfl,(fun hw=>by cases hw),fun hv=>⟨⟨_,.inl ⟨rfl,rfl⟩,rfl,?_,?_,?_⟩,rfl,rfl⟩⟩
  ·exact⟨s.pp hv,s.Ls⟩
  ·rfl
  ·rfl
 ·cases hx
def Rd:Prim Rt:=fun args hh=>match args,hh with
 |[.pointer (aa ⟨0,0,aj⟩),.int .i64 f_,.func (.func 154) ⟨[]⟩ ⟨[.pointer (aa ⟨1,0,aj⟩)]⟩],[aa (.inr (.inr (.inr (.tree s)))),aa (.inl (3,[.int .i64 xx]))]=>aa ⟨s.gk,.int .i64 (tT (j4 xx) s f_),aj,[oT (DK (j4 xx) s f_),aa (.inl (3,[.int .i64 xx]))],[],[(0,0)]⟩
 |_,_=>aj
theorem abz:b6 D2 Tryz.prog 111 (a9 Rd):=by
 refine nr (c:=bJ zN 2 (a9 (Rv KK))) (aT _ _ (aaN KK)).ok fun args hh x hx=>?_
 unfold Rd at hx;split at hx
 ·rename_i f_ s xx;cases hx;refine⟨a_ _,lM rfl,(fun hw=>by cases hw),fun hv=>⟨⟨_,.inl ⟨rfl,rfl⟩,rfl,?_,?_,?_⟩,rfl,rfl⟩⟩
  ·exact⟨s.pp hv,s.Ls⟩
  ·rfl
  ·rfl
 ·cases hx
def Ng:Prim Rt:=fun args hh=>match args,hh with
 |[.pointer (aa ⟨0,0,aj⟩),.int .i64 f_,.func (.func 105) ⟨[]⟩ ⟨[.pointer (aa ⟨1,0,aj⟩)]⟩],[aa (.inr (.inr (.inr (.tree s)))),aa (.inl (75,[.int .i64 xk,.int .i64 xi,.bool xe,.int .i64 xt]))]=>aa ⟨s.gk,.int .i64 (pj (Pa.qc ⟨xk,xi⟩) s f_),aj,[oT (yG (Pa.qc ⟨xk,xi⟩) s f_),aa (.inl (75,[.int .i64 xk,.int .i64 xi,.bool xe,.int .i64 xt]))],[],[(0,0)]⟩
 |_,_=>aj
theorem Zd:b6 D2 Tryz.prog 108 (a9 Ng):=by
 refine nr (c:=bJ zN 2 (a9 (MV KK))) (aT _ _ (ZC KK)).ok fun args hh x hx=>?_
 unfold Ng at hx;split at hx
 ·rename_i f_ s xk xi xe xt;cases hx;refine⟨a_ _,lM rfl,(fun hw=>by cases hw),fun hv=>⟨⟨_,.inl ⟨rfl,rfl⟩,rfl,?_,?_,?_⟩,rfl,rfl⟩⟩
  ·exact⟨s.pp hv,s.Ls⟩
  ·rfl
  ·rfl
 ·cases hx
def Q6:Prim Rt:=fun args hh=>match args,hh with
 |[.pointer (aa ⟨0,0,aj⟩),.int .i64 f_,.func (.func 110) ⟨[]⟩ ⟨[.pointer (aa ⟨1,0,aj⟩)]⟩],[aa (.inr (.inr (.inr (.tree s)))),aa (.inl (75,[.int .i64 xk,.int .i64 xi,.bool xe,.int .i64 xt]))]=>aa ⟨s.gk,.int .i64 (tT (qi ⟨xk,xi⟩) s f_),aj,[oT (DK (qi ⟨xk,xi⟩) s f_),aa (.inl (75,[.int .i64 xk,.int .i64 xi,.bool xe,.int .i64 xt]))],[],[(0,0)]⟩
 |_,_=>aj
theorem acp:b6 D2 Tryz.prog 111 (a9 Q6):=by
 refine nr (c:=bJ zN 2 (a9 (Q3 KK))) (aT _ _ (acb KK)).ok fun args hh x hx=>?_
 unfold Q6 at hx;split at hx
 ·rename_i f_ s xk xi xe xt;cases hx;refine⟨a_ _,lM rfl,(fun hw=>by cases hw),fun hv=>⟨⟨_,.inl ⟨rfl,rfl⟩,rfl,?_,?_,?_⟩,rfl,rfl⟩⟩
  ·exact⟨s.pp hv,s.Ls⟩
  ·rfl
  ·rfl
 ·cases hx
end G8
namespace G9
open Rx
set_option maxRecDepth 100000
abbrev Nd:=Gv.Node jG Qh
abbrev Pl:=Gv.PM Nd
def bj (n:Nd):List Value:=[.int .i64 n.e.it.k,.int .i64 n.e.it.i,.bool n.e.kA,.int .i64 n.e.time,.int .i64 n.l.i,.int .i64 n.l.g,.int .i64 n.r.i,.int .i64 n.r.g,.int .i64 n.all.n,.int .i64 n.all.sum.n,.int .i64 n.h]
def bW (p:HI Qh):List Value:=[.int .i64 p.n,.int .i64 p.sum.n]
def dr (e:jG):List Value:=[.int .i64 e.it.k,.int .i64 e.it.i,.bool e.kA,.int .i64 e.time]
def km (s:Qh):List Value:=[.int .i64 s.n]
def fP (l:List Value):jG:=⟨⟨(vI (gm l 0)),(vI (gm l 1))⟩,(vB (gm l 2)),(vI (gm l 3))⟩
def o_ (l:List Value):HI Qh:=⟨(vI (gm l 0)),⟨(vI (gm l 1))⟩⟩
def fU (l:List Value):Nd:=⟨⟨⟨(vI (gm l 0)),(vI (gm l 1))⟩,(vB (gm l 2)),(vI (gm l 3))⟩,⟨(vI (gm l 4)),(vI (gm l 5))⟩,⟨(vI (gm l 6)),(vI (gm l 7))⟩,⟨(vI (gm l 8)),⟨(vI (gm l 9))⟩⟩,(vI (gm l 10))⟩
def di:List Value:=[.int .i64 0,.int .i64 0,.bool an,.int .i64 0,.int .i64 0,.int .i64 0,.int .i64 0,.int .i64 0,.int .i64 0,.int .i64 0,.int .i64 0,.int .i64 0,.bool an]
abbrev zd:Nd:=Gv.zn aM
def cV (a:List Int) (b:List Int) (c:List Bool) (d:List Int) (e:List Int) (f:List Int) (g:List Int) (h:List Int) (i:List Int) (j:List Int) (k:List Int) (l:List Int) (m:List Bool):List aX:=[⟨a,[],[]⟩,⟨b,[],[]⟩,⟨[],c,[]⟩,⟨d,[],[]⟩,⟨e,[],[]⟩,⟨f,[],[]⟩,⟨g,[],[]⟩,⟨h,[],[]⟩,⟨i,[],[]⟩,⟨j,[],[]⟩,⟨k,[],[]⟩,⟨l,[],[]⟩,⟨[],m,[]⟩]
def cM (v:List Nd) (g:List Int) (b:List Bool):List aX:=cV (v.map fun n:Nd=>n.e.it.k) (v.map fun n:Nd=>n.e.it.i) (v.map fun n:Nd=>n.e.kA) (v.map fun n:Nd=>n.e.time) (v.map fun n:Nd=>n.l.i) (v.map fun n:Nd=>n.l.g) (v.map fun n:Nd=>n.r.i) (v.map fun n:Nd=>n.r.g) (v.map fun n:Nd=>n.all.n) (v.map fun n:Nd=>n.all.sum.n) (v.map fun n:Nd=>n.h) g b
def cS (v:List Nd) (k:Nat) (x:Nd) (g:List Int) (b:List Bool):List aX:=cV ((v.map fun n:Nd=>n.e.it.k).set k x.e.it.k) ((v.map fun n:Nd=>n.e.it.i).set k x.e.it.i) ((v.map fun n:Nd=>n.e.kA).set k x.e.kA) ((v.map fun n:Nd=>n.e.time).set k x.e.time) ((v.map fun n:Nd=>n.l.i).set k x.l.i) ((v.map fun n:Nd=>n.l.g).set k x.l.g) ((v.map fun n:Nd=>n.r.i).set k x.r.i) ((v.map fun n:Nd=>n.r.g).set k x.r.g) ((v.map fun n:Nd=>n.all.n).set k x.all.n) ((v.map fun n:Nd=>n.all.sum.n).set k x.all.sum.n) ((v.map fun n:Nd=>n.h).set k x.h) g b
def cG (v:List Nd) (k:Nat) (x:Nd) (g:List Int) (b:List Bool):List aX:=cV (((v.map fun n:Nd=>n.e.it.k)++[0]).set k x.e.it.k) (((v.map fun n:Nd=>n.e.it.i)++[0]).set k x.e.it.i) (((v.map fun n:Nd=>n.e.kA)++[an]).set k x.e.kA) (((v.map fun n:Nd=>n.e.time)++[0]).set k x.e.time) (((v.map fun n:Nd=>n.l.i)++[0]).set k x.l.i) (((v.map fun n:Nd=>n.l.g)++[0]).set k x.l.g) (((v.map fun n:Nd=>n.r.i)++[0]).set k x.r.i) (((v.map fun n:Nd=>n.r.g)++[0]).set k x.r.g) (((v.map fun n:Nd=>n.all.n)++[0]).set k x.all.n) (((v.map fun n:Nd=>n.all.sum.n)++[0]).set k x.all.sum.n) (((v.map fun n:Nd=>n.h)++[0]).set k x.h) g b
def gM (v:List Nd) (k:Nat):List Value:=[.int .i64 ((v.map fun n:Nd=>n.e.it.k).getD k 0),.int .i64 ((v.map fun n:Nd=>n.e.it.i).getD k 0),.bool ((v.map fun n:Nd=>n.e.kA).getD k an),.int .i64 ((v.map fun n:Nd=>n.e.time).getD k 0),.int .i64 ((v.map fun n:Nd=>n.l.i).getD k 0),.int .i64 ((v.map fun n:Nd=>n.l.g).getD k 0),.int .i64 ((v.map fun n:Nd=>n.r.i).getD k 0),.int .i64 ((v.map fun n:Nd=>n.r.g).getD k 0),.int .i64 ((v.map fun n:Nd=>n.all.n).getD k 0),.int .i64 ((v.map fun n:Nd=>n.all.sum.n).getD k 0),.int .i64 ((v.map fun n:Nd=>n.h).getD k 0)]
def QJ (m:Pl):Hp Empty :=
 [aa (.inl (194,[.slice (aa ⟨1,0,aa 13000⟩) m.vs.length 0,.slice (aa ⟨2,0,aa 1000⟩) m.free.length 0,.int .i64 m.held,.int .i64 m.cap,.int .i64 m.cX])),
 aa (.inr (.inl (197,⟨di,m.vs.length,cM m.vs m.dE m.live⟩))),
 aa (.inr (.inl (3,⟨[.int .i64 0],m.free.length,[⟨m.free,[],[]⟩]⟩)))]
end G9
namespace G9
open Rx
inductive Rs
 |da (m:Pl)
def lay:Rs->Hp Empty
 |.da m=>QJ m
def L:EZ Rs Empty where
 lay:=lay
 ne x:=by cases x<;>exact sL _
 own x b X h:=by cases x<;>exact Cj rfl h
 ins x:=by cases x<;>rfl
def D:fH Rs:=F3 s8 L
set_option maxRecDepth 100000
abbrev k9:Gv.Kd jG Qh:=Sh.k9
abbrev Ts:=Gv.TS k9
inductive Rt
 |tree (s:Ts)
def IG:Rt->Hp Rs
 |.tree s=>[aa (.inl (132,[.pointer (aa ⟨1,0,aj⟩),.int .i64 s.r.i,.int .i64 s.r.g])),aa (.inr (.inr (.inr (.da s.m))))]
def L2:EZ Rt Rs where
 lay:=IG
 ne x:=by cases x<;>exact sL _
 own x b X h:=by
  cases x with
  |tree s =>
   match b,h with
   |0,h=>simp only[IG,cd,ct] at h;subst h;rfl
   |1,h=>simp only[IG,bH,cd,ct] at h;subst h;rfl
   |b+2,h=>simp[IG] at h
 ins x:=by cases x<;>rfl
def D2:fH Rt:=F3 D L2
abbrev oT (s:Ts):Option (SB Rt):=aa (.inr (.inr (.inr (.tree s))))
def pD (n:Nat) (c:aX):Prop:=∃ l:List Int,c=⟨l,[],[]⟩/\l.length=n
def OS (n:Nat) (c:aX):Prop:=∃ l:List Bool,c=⟨[],l,[]⟩/\l.length=n
def rB (n:Nat) (gs:List Int) (lv:List Bool) (i g:Int):Bool:=decide (0≤i)&&decide (i<n)&&lv.getD i.toNat an&&decide (gs.getD i.toNat 0=g)
structure aeq (n:Nat) (c0 c1 c2 c3 c4 c5 c6 c7 c8 c9 ou oo om:aX):Prop where
 Dl:pD n c0
 Of:pD n c1
 pS:OS n c2
 R9:pD n c3
 hc4:pD n c4
 hc5:pD n c5
 hc6:pD n c6
 hc7:pD n c7
 hc8:pD n c8
 hc9:pD n c9
 am_:pD n ou
 amU:pD n oo
 anb:OS n om
def mU (n:Nat):List aX->Prop
 |[c0,c1,c2,c3,c4,c5,c6,c7,c8,c9,ou,oo,om]=>aeq n c0 c1 c2 c3 c4 c5 c6 c7 c8 c9 ou oo om
 |_=>False
def VX:List Value->Hp Empty->Option Bool:=fun args hh=>match args,hh with
 |[.pointer (aa ⟨0,0,aj⟩),.agg ⟨[.int .i64 i,.int .i64 g]⟩],[aa (.inl (194,[.slice (aa ⟨1,0,aa 13000⟩) n cp,.slice (aa ⟨2,0,aa 1000⟩) fn fc,.int .i64 hd,.int .i64 ca,.int .i64 vi])),aa (.inr (.inl (197,⟨tm,n2,[c0,c1,c2,c3,c4,c5,c6,c7,c8,c9,ou,oo,om]⟩))),aa (.inr (.inl (3,⟨[.int .i64 0],f2,[⟨fr,[],[]⟩]⟩)))]=>aa (rB n oo.i om.b i g)
 |_,_=>aj
def J6:Prim Empty:=fun args hh=>match args,hh with
 |[.pointer (aa ⟨0,0,aj⟩),.agg ⟨[.int .i64 i,.int .i64 g]⟩],[aa (.inl (194,[.slice (aa ⟨1,0,aa 13000⟩) n cp,.slice (aa ⟨2,0,aa 1000⟩) fn fc,.int .i64 hd,.int .i64 ca,.int .i64 vi])),aa (.inr (.inl (197,⟨tm,n2,[c0,c1,c2,c3,c4,c5,c6,c7,c8,c9,ou,oo,om]⟩))),aa (.inr (.inl (3,⟨[.int .i64 0],f2,[⟨fr,[],[]⟩]⟩)))]=>aa ⟨tm=di/\n2=n/\n<1000000/\mU n [c0,c1,c2,c3,c4,c5,c6,c7,c8,c9,ou,oo,om],.pointer (aa ⟨1,i.toNat,aa 13000⟩),aj,[aa (.inl (194,[.slice (aa ⟨1,0,aa 13000⟩) n cp,.slice (aa ⟨2,0,aa 1000⟩) fn fc,.int .i64 hd,.int .i64 ca,.int .i64 (ar.wrap (vi+1))])),aa (.inr (.inl (197,⟨tm,n2,[c0,c1,c2,c3,c4,c5,c6,c7,c8,c9,ou,oo,om]⟩))),aa (.inr (.inl (3,⟨[.int .i64 0],f2,[⟨fr,[],[]⟩]⟩)))],[],[(0,0)]⟩
 |_,_=>aj
def KF:Prim Empty:=fun args hh=>match args,hh with
 |[.pointer (aa ⟨0,0,aj⟩),.agg ⟨[.int .i64 i,.int .i64 g]⟩],[aa (.inl (194,[.slice (aa ⟨1,0,aa 13000⟩) n cp,.slice (aa ⟨2,0,aa 1000⟩) fn fc,.int .i64 hd,.int .i64 ca,.int .i64 vi])),aa (.inr (.inl (197,⟨tm,n2,[c0,c1,c2,c3,c4,c5,c6,c7,c8,c9,ou,oo,om]⟩))),aa (.inr (.inl (3,⟨[.int .i64 0],f2,[⟨fr,[],[]⟩]⟩)))]=>aa ⟨tm=di/\n2=n/\n<1000000/\mU n [c0,c1,c2,c3,c4,c5,c6,c7,c8,c9,ou,oo,om],.pointer aj,aj,hh,[],[]⟩
 |_,_=>aj
def qS:jb Empty:=⟨VX,J6,KF⟩
def VM:ez Empty:=[(1000000000,lL)]
theorem KH:cL s8 Tryz.prog VM:=⟨iu,trivial⟩
theorem KE:rK s8 Tryz.prog 147 (rZ qS ao) (qS.go ao):=by
 refine wg (fn:=Tryz.f147) (root:=dJ Tryz.f147) (by kernel_rfl) (by kernel_rfl) (by kernel_rfl) fun args hh x hx=>?_
 unfold qS jb.go J6 at hx;simp only at hx;split at hx
 ·rename_i i g n cp fn fc hd ca vi tm n2 c0 c1 c2 c3 c4 c5 c6 c7 c8 c9 ou oo om f2 fr;cases hx;refine⟨a_ _,(fun b hb=>by cases hb),(fun hw=>by first|rfl|cases hw),fun mN hv=>?_⟩
  obtain⟨rfl,rfl,u_,⟨⟨l0,rfl,n9⟩,⟨l1,rfl,zk⟩,⟨l2,rfl,Bm⟩,⟨l3,rfl,yh⟩,⟨l4,rfl,yv⟩,⟨l5,rfl,Eo⟩,⟨l6,rfl,Em⟩,⟨l7,rfl,Ek⟩,⟨l8,rfl,EO⟩,⟨l9,rfl,Ed⟩,⟨qT,rfl,yL⟩,⟨nM,rfl,yP⟩,⟨mT,rfl,yS⟩⟩⟩:=hv;have hw:rB n2 nM mT i g=ao:=by
   rcases mN with⟨h,_⟩|h
   ·exact(wu _ h).elim
   ·exact pa h
  clear mN;generalize hG:ch (R:=Empty) _ _=G;refine cJ (T:=VM) KH mixed 200 ?_;refine bK (q:=let Z1:=bk ar;(decide (i<(0:Int))=ao->Vc (aD (decide (i<(0:Int)))=aD ao)/\aW (G (aC aj) [aa (.inl (194,[.slice (aa ⟨1,0,aa 13000⟩) n2 cp,.slice (aa ⟨2,0,aa 1000⟩) fn fc,Z1 hd,Z1 ca,Z1 vi])),aa (.inr (.inl (197,Row.mk di n2 (cV l0 l1 l2 l3 l4 l5 l6 l7 l8 l9 qT nM mT)))),aa (.inr (.inl (3,Row.mk [Z1 0] f2 [aX.mk fr [] []]))),aa (.inl (108,[Z1 i,Z1 g]))]))/\(decide (i<(0:Int))=an->Vc (aD (decide (i<(0:Int)))=aD an)/\(decide (i≥(↑n2:Int))=ao->aW (G (aC aj) [aa (.inl (194,[.slice (aa ⟨1,0,aa 13000⟩) n2 cp,.slice (aa ⟨2,0,aa 1000⟩) fn fc,Z1 hd,Z1 ca,Z1 vi])),aa (.inr (.inl (197,Row.mk di n2 (cV l0 l1 l2 l3 l4 l5 l6 l7 l8 l9 qT nM mT)))),aa (.inr (.inl (3,Row.mk [Z1 0] f2 [aX.mk fr [] []]))),aa (.inl (108,[Z1 i,Z1 g]))]))/\(decide (i≥(↑n2:Int))=an->Vc ((0:Int)≤i/\i<(↑n2:Int)/\0+n2≤n2)/\Vc (0+aH i<n2)/\((!ax mT (0+aH i) an)=ao->Vc (0+aH i<n2)/\Vc ((aD !ax mT (0+aH i) an)=aD ao)/\aW (G (aC aj) [aa (.inl (194,[.slice (aa ⟨1,0,aa 13000⟩) n2 cp,.slice (aa ⟨2,0,aa 1000⟩) fn fc,Z1 hd,Z1 ca,Z1 vi])),aa (.inr (.inl (197,Row.mk di n2 (cV l0 l1 l2 l3 l4 l5 l6 l7 l8 l9 qT nM mT)))),aa (.inr (.inl (3,Row.mk [Z1 0] f2 [aX.mk fr [] []]))),aa (.inl (108,[Z1 i,Z1 g]))]))/\((!ax mT (0+aH i) an)=an->Vc (0+aH i<n2)/\Vc ((aD !ax mT (0+aH i) an)=aD an)/\Vc (0+aH i<n2)/\((ax nM (0+aH i) (0:Int) != g)=ao->aW (G (aC aj) [aa (.inl (194,[.slice (aa ⟨1,0,aa 13000⟩) n2 cp,.slice (aa ⟨2,0,aa 1000⟩) fn fc,Z1 hd,Z1 ca,Z1 vi])),aa (.inr (.inl (197,Row.mk di n2 (cV l0 l1 l2 l3 l4 l5 l6 l7 l8 l9 qT nM mT)))),aa (.inr (.inl (3,Row.mk [Z1 0] f2 [aX.mk fr [] []]))),aa (.inl (108,[Z1 i,Z1 g]))]))/\((ax nM (0+aH i) (0:Int) != g)=an->Vc True/\aW (G (aC (aa (RE 1 (0+aH i) (aa 13000)))) [aa (.inl (194,[.slice (aa ⟨1,0,aa 13000⟩) n2 cp,.slice (aa ⟨2,0,aa 1000⟩) fn fc,Z1 hd,Z1 ca,Z1 (ck ar (vi+(1:Int)))])),aa (.inr (.inl (197,Row.mk di n2 (cV l0 l1 l2 l3 l4 l5 l6 l7 l8 l9 qT nM mT)))),aa (.inr (.inl (3,Row.mk [Z1 0] f2 [aX.mk fr [] []]))),aa (.inl (108,[Z1 i,Z1 g]))])))))) ?_ (by kernel_rfl)
  intro Z1;subst Z1;have e0:0+i.toNat=i.toNat:=bV _;rw[e0];clear n9 zk Bm yh yv Eo Em Ek EO Ed yL yP yS;subst hG;have r_:rB n2 nM mT i g=(decide (0≤i)&&decide (i<n2)&&(mT).getD i.toNat an&&decide ((nM).getD i.toNat 0=g)):=rfl;refine⟨fun h=>⟨⟨congrArg aD h⟩,⟨?_⟩⟩,fun h=>⟨⟨congrArg aD h⟩,fun h2=>⟨?_⟩,fun h2=>?_⟩⟩
  rotate_left 2
  ·have i0:=of_decide_eq_false h;have i1:=of_decide_eq_false h2;rw[decide_eq_true (by omega),decide_eq_true (by omega),je,je] at r_
   refine⟨⟨by omega,by omega,by omega⟩,⟨by omega⟩,fun h3=>⟨⟨by omega⟩,⟨congrArg aD h3⟩,⟨?_⟩⟩,fun h3=>⟨⟨by omega⟩,⟨congrArg aD h3⟩,⟨by omega⟩,fun h4=>⟨?_⟩,fun h4=>⟨⟨trivial⟩,⟨?_⟩⟩⟩⟩
   ·rw[Bool.not_eq_true'] at h3;rw[hw,h3] at r_;cases r_
   ·rw[hw,decide_eq_false (ne_of_beq_false (by simpa using h4)),uQ] at r_;cases r_
   ·exact⟨[0,1,2],rfl,rfl,⟨.inl rfl,⟨_,rfl,.inl rfl⟩,⟨_,rfl,.inl rfl⟩,trivial⟩,rfl,rfl,rfl,rfl⟩
  ·have:=of_decide_eq_true h;rw[hw,decide_eq_false (by omega)] at r_;cases r_
  ·have:=of_decide_eq_true h2;rw[hw,decide_eq_false (p:=i<n2) (by omega),uQ] at r_;cases r_
 ·cases hx
theorem J8:rK s8 Tryz.prog 147 (rZ qS an) (qS.go an):=by
 refine wg (fn:=Tryz.f147) (root:=dJ Tryz.f147) (by kernel_rfl) (by kernel_rfl) (by kernel_rfl) fun args hh x hx=>?_
 unfold qS jb.go KF at hx;simp only at hx;split at hx
 ·rename_i i g n cp fn fc hd ca vi tm n2 c0 c1 c2 c3 c4 c5 c6 c7 c8 c9 ou oo om f2 fr;cases hx;refine⟨a_ _,(fun b hb=>by cases hb),(fun hw=>by first|rfl|cases hw),fun mN hv=>?_⟩
  obtain⟨rfl,rfl,u_,⟨⟨l0,rfl,n9⟩,⟨l1,rfl,zk⟩,⟨l2,rfl,Bm⟩,⟨l3,rfl,yh⟩,⟨l4,rfl,yv⟩,⟨l5,rfl,Eo⟩,⟨l6,rfl,Em⟩,⟨l7,rfl,Ek⟩,⟨l8,rfl,EO⟩,⟨l9,rfl,Ed⟩,⟨qT,rfl,yL⟩,⟨nM,rfl,yP⟩,⟨mT,rfl,yS⟩⟩⟩:=hv;have hw:rB n2 nM mT i g=an:=by
   rcases mN with⟨h,_⟩|h
   ·exact(wu _ h).elim
   ·exact pa h
  clear mN;generalize hG:ch (R:=Empty) _ _=G;refine cJ (T:=VM) KH mixed 200 ?_;refine bK (q:=let Z1:=bk ar;(decide (i<(0:Int))=ao->Vc (aD (decide (i<(0:Int)))=aD ao)/\aW (G (aC aj) [aa (.inl (194,[.slice (aa ⟨1,0,aa 13000⟩) n2 cp,.slice (aa ⟨2,0,aa 1000⟩) fn fc,Z1 hd,Z1 ca,Z1 vi])),aa (.inr (.inl (197,Row.mk di n2 (cV l0 l1 l2 l3 l4 l5 l6 l7 l8 l9 qT nM mT)))),aa (.inr (.inl (3,Row.mk [Z1 0] f2 [aX.mk fr [] []]))),aa (.inl (108,[Z1 i,Z1 g]))]))/\(decide (i<(0:Int))=an->Vc (aD (decide (i<(0:Int)))=aD an)/\(decide (i≥(↑n2:Int))=ao->aW (G (aC aj) [aa (.inl (194,[.slice (aa ⟨1,0,aa 13000⟩) n2 cp,.slice (aa ⟨2,0,aa 1000⟩) fn fc,Z1 hd,Z1 ca,Z1 vi])),aa (.inr (.inl (197,Row.mk di n2 (cV l0 l1 l2 l3 l4 l5 l6 l7 l8 l9 qT nM mT)))),aa (.inr (.inl (3,Row.mk [Z1 0] f2 [aX.mk fr [] []]))),aa (.inl (108,[Z1 i,Z1 g]))]))/\(decide (i≥(↑n2:Int))=an->Vc ((0:Int)≤i/\i<(↑n2:Int)/\0+n2≤n2)/\Vc (0+aH i<n2)/\((!ax mT (0+aH i) an)=ao->Vc (0+aH i<n2)/\Vc ((aD !ax mT (0+aH i) an)=aD ao)/\aW (G (aC aj) [aa (.inl (194,[.slice (aa ⟨1,0,aa 13000⟩) n2 cp,.slice (aa ⟨2,0,aa 1000⟩) fn fc,Z1 hd,Z1 ca,Z1 vi])),aa (.inr (.inl (197,Row.mk di n2 (cV l0 l1 l2 l3 l4 l5 l6 l7 l8 l9 qT nM mT)))),aa (.inr (.inl (3,Row.mk [Z1 0] f2 [aX.mk fr [] []]))),aa (.inl (108,[Z1 i,Z1 g]))]))/\((!ax mT (0+aH i) an)=an->Vc (0+aH i<n2)/\Vc ((aD !ax mT (0+aH i) an)=aD an)/\Vc (0+aH i<n2)/\((ax nM (0+aH i) (0:Int) != g)=ao->aW (G (aC aj) [aa (.inl (194,[.slice (aa ⟨1,0,aa 13000⟩) n2 cp,.slice (aa ⟨2,0,aa 1000⟩) fn fc,Z1 hd,Z1 ca,Z1 vi])),aa (.inr (.inl (197,Row.mk di n2 (cV l0 l1 l2 l3 l4 l5 l6 l7 l8 l9 qT nM mT)))),aa (.inr (.inl (3,Row.mk [Z1 0] f2 [aX.mk fr [] []]))),aa (.inl (108,[Z1 i,Z1 g]))]))/\((ax nM (0+aH i) (0:Int) != g)=an->Vc True/\aW (G (aC (aa (RE 1 (0+aH i) (aa 13000)))) [aa (.inl (194,[.slice (aa ⟨1,0,aa 13000⟩) n2 cp,.slice (aa ⟨2,0,aa 1000⟩) fn fc,Z1 hd,Z1 ca,Z1 (ck ar (vi+(1:Int)))])),aa (.inr (.inl (197,Row.mk di n2 (cV l0 l1 l2 l3 l4 l5 l6 l7 l8 l9 qT nM mT)))),aa (.inr (.inl (3,Row.mk [Z1 0] f2 [aX.mk fr [] []]))),aa (.inl (108,[Z1 i,Z1 g]))])))))) ?_ (by kernel_rfl)
  intro Z1;subst Z1;have e0:0+i.toNat=i.toNat:=bV _;rw[e0];clear n9 zk Bm yh yv Eo Em Ek EO Ed yL yP yS;subst hG;have r_:rB n2 nM mT i g=(decide (0≤i)&&decide (i<n2)&&(mT).getD i.toNat an&&decide ((nM).getD i.toNat 0=g)):=rfl;refine⟨fun h=>⟨⟨congrArg aD h⟩,⟨?_⟩⟩,fun h=>⟨⟨congrArg aD h⟩,fun h2=>⟨?_⟩,fun h2=>?_⟩⟩
  rotate_left 2
  ·have i0:=of_decide_eq_false h;have i1:=of_decide_eq_false h2;rw[decide_eq_true (by omega),decide_eq_true (by omega),je,je] at r_
   refine⟨⟨by omega,by omega,by omega⟩,⟨by omega⟩,fun h3=>⟨⟨by omega⟩,⟨congrArg aD h3⟩,⟨?_⟩⟩,fun h3=>⟨⟨by omega⟩,⟨congrArg aD h3⟩,⟨by omega⟩,fun h4=>⟨?_⟩,fun h4=>⟨⟨trivial⟩,⟨?_⟩⟩⟩⟩
   ·exact⟨[0,1,2],rfl,rfl,⟨.inl rfl,⟨_,rfl,.inl rfl⟩,⟨_,rfl,.inl rfl⟩,trivial⟩,rfl,rfl,rfl,rfl⟩
   ·exact⟨[0,1,2],rfl,rfl,⟨.inl rfl,⟨_,rfl,.inl rfl⟩,⟨_,rfl,.inl rfl⟩,trivial⟩,rfl,rfl,rfl,rfl⟩
   ·rw[hw,decide_eq_true (by simpa using h4),SW] at r_;rw[Bool.not_eq_false'] at h3;rw[h3] at r_;cases r_
  ·exact⟨[0,1,2],rfl,rfl,⟨.inl rfl,⟨_,rfl,.inl rfl⟩,⟨_,rfl,.inl rfl⟩,trivial⟩,rfl,rfl,rfl,rfl⟩
  ·exact⟨[0,1,2],rfl,rfl,⟨.inl rfl,⟨_,rfl,.inl rfl⟩,⟨_,rfl,.inl rfl⟩,trivial⟩,rfl,rfl,rfl,rfl⟩
 ·cases hx
theorem Nr:b6 s8 Tryz.prog 147 qS:=fun b=>by cases b;exact J8;exact KE
theorem QV:Vc (fits (-1)):=⟨⟨by omega,by omega⟩⟩
theorem UK {n:Nat} (h:n<1000000):Vc (0+n≤n/\1≤1/\(n+1)*104≤140737488355328/\n+1≤140737488355328):=⟨by omega,by omega,by omega,by omega⟩
theorem Rk {n:Nat} (h:n<1000000):Vc (fits (((n+1:Nat):Int)-1)):=⟨⟨by omega,by omega⟩⟩
theorem YK (n:Nat):((n+1:Nat):Int)-1=n:=by omega
def ZJ:List Value->Hp Empty->Option Bool:=fun args hh=>match args,hh with
 |[.pointer (aa ⟨0,0,aj⟩)],[aa (.inl (194,[.slice (aa ⟨1,0,aa 13000⟩) n cp,.slice (aa ⟨2,0,aa 1000⟩) fn fc,.int .i64 hd,.int .i64 ca,.int .i64 vi])),aa (.inr (.inl (197,⟨tm,n2,[c0,c1,c2,c3,c4,c5,c6,c7,c8,c9,ou,oo,om]⟩))),aa (.inr (.inl (3,⟨[.int .i64 0],f2,[⟨fr,[],[]⟩]⟩)))]=>aa (decide (fn=0))
 |_,_=>aj
def PD:Prim Empty:=fun args hh=>match args,hh with
 |[.pointer (aa ⟨0,0,aj⟩)],[aa (.inl (194,[.slice (aa ⟨1,0,aa 13000⟩) n cp,.slice (aa ⟨2,0,aa 1000⟩) fn fc,.int .i64 hd,.int .i64 ca,.int .i64 vi])),aa (.inr (.inl (197,⟨tm,n2,[c0,c1,c2,c3,c4,c5,c6,c7,c8,c9,ou,oo,om]⟩))),aa (.inr (.inl (3,⟨[.int .i64 0],f2,[⟨fr,[],[]⟩]⟩)))]=>aa ⟨fn=0/\f2=fn/\fc=0/\cp=0/\tm=di/\n2=n/\n<1000000/\mU n [c0,c1,c2,c3,c4,c5,c6,c7,c8,c9,ou,oo,om],.int .i64 n,aj,[aa (.inl (194,[.slice (aa ⟨3,0,aa 13000⟩) (n+1) 0,.slice (aa ⟨2,0,aa 1000⟩) fn fc,.int .i64 hd,.int .i64 ca,.int .i64 vi])),aj,aa (.inr (.inl (3,⟨[.int .i64 0],f2,[⟨fr,[],[]⟩]⟩))),aa (.inr (.inl (197,⟨tm,(n+1),[⟨c0.i++[0],[],[]⟩,⟨c1.i++[0],[],[]⟩,⟨[],c2.b++[an],[]⟩,⟨c3.i++[0],[],[]⟩,⟨c4.i++[0],[],[]⟩,⟨c5.i++[0],[],[]⟩,⟨c6.i++[0],[],[]⟩,⟨c7.i++[0],[],[]⟩,⟨c8.i++[0],[],[]⟩,⟨c9.i++[0],[],[]⟩,⟨ou.i++[0],[],[]⟩,⟨oo.i++[0],[],[]⟩,⟨[],om.b++[an],[]⟩]⟩)))],[],[(0,0)]⟩
 |_,_=>aj
def Oj:Prim Empty:=fun args hh=>match args,hh with
 |[.pointer (aa ⟨0,0,aj⟩)],[aa (.inl (194,[.slice (aa ⟨1,0,aa 13000⟩) n cp,.slice (aa ⟨2,0,aa 1000⟩) fn fc,.int .i64 hd,.int .i64 ca,.int .i64 vi])),aa (.inr (.inl (197,⟨tm,n2,[c0,c1,c2,c3,c4,c5,c6,c7,c8,c9,ou,oo,om]⟩))),aa (.inr (.inl (3,⟨[.int .i64 0],f2,[⟨fr,[],[]⟩]⟩)))]=>aa ⟨fn≠0/\f2=fn/\fr.length=fn/\fc=0/\cp=0/\fn<1000000/\tm=di/\n2=n/\n<1000000/\mU n [c0,c1,c2,c3,c4,c5,c6,c7,c8,c9,ou,oo,om],.int .i64 (fr.getD (fn-1) 0),aj,[aa (.inl (194,[.slice (aa ⟨1,0,aa 13000⟩) n 0,.slice (aa ⟨2,0,aa 1000⟩) (fn-1) 0,.int .i64 hd,.int .i64 ca,.int .i64 vi])),aa (.inr (.inl (197,⟨tm,n2,[c0,c1,c2,c3,c4,c5,c6,c7,c8,c9,ou,oo,om]⟩))),aa (.inr (.inl (3,⟨[.int .i64 0],(fn-1),[⟨(fr.take (fn-1)),[],[]⟩]⟩)))],[],[(0,0)]⟩
 |_,_=>aj
def tH:jb Empty:=⟨ZJ,PD,Oj⟩
theorem NI:rK s8 Tryz.prog 138 (rZ tH ao) (tH.go ao):=by
 refine wg (fn:=Tryz.f138) (root:=dJ Tryz.f138) (by kernel_rfl) (by kernel_rfl) (by kernel_rfl) fun args hh x hx=>?_
 unfold tH jb.go PD at hx;simp only at hx;split at hx
 ·rename_i n cp fn fc hd ca vi tm n2 c0 c1 c2 c3 c4 c5 c6 c7 c8 c9 ou oo om f2 fr;cases hx;refine⟨by first|exact a_ _|exact kO _,(fun b hb=>by cases hb),(fun hw=>by first|rfl|cases hw),fun mN hv=>?_⟩
  obtain⟨rfl,rfl,rfl,rfl,hv⟩:=hv;obtain⟨rfl,rfl,u_,⟨⟨l0,rfl,n9⟩,⟨l1,rfl,zk⟩,⟨l2,rfl,Bm⟩,⟨l3,rfl,yh⟩,⟨l4,rfl,yv⟩,⟨l5,rfl,Eo⟩,⟨l6,rfl,Em⟩,⟨l7,rfl,Ek⟩,⟨l8,rfl,EO⟩,⟨l9,rfl,Ed⟩,⟨qT,rfl,yL⟩,⟨nM,rfl,yP⟩,⟨mT,rfl,yS⟩⟩⟩:=hv;clear mN;generalize hG:ch (R:=Empty) _ _=G;refine cJ (T:=[]) trivial mixed 200 ?_;refine bK (q:=let Z2:=bk ar;let Z1:=(0:Int);Vc (fits (-1:Int))/\(ao=ao->Vc (0+n2≤n2/\1≤1/\(n2+1)*104≤140737488355328/\n2+1≤140737488355328)/\Vc (fits ((↑(n2+1):Int)-(1:Int)))/\aW (G (Z2 ((↑(n2+1):Int)-(1:Int))) [aa (.inl (194,[.slice (aa ⟨4,0,aa 13000⟩) (n2+1) 0,.slice (aa ⟨2,0,aa 1000⟩) 0 0,Z2 hd,Z2 ca,Z2 vi])),aj,aa (.inr (.inl (3,Row.mk [Z2 0] 0 [aX.mk fr [] []]))),aa (.inr (.inl (197,Row.mk di 1 [aX.mk [Z1] [] [],aX.mk [Z1] [] [],aX.mk [] [an] [],aX.mk [Z1] [] [],aX.mk [Z1] [] [],aX.mk [Z1] [] [],aX.mk [Z1] [] [],aX.mk [Z1] [] [],aX.mk [Z1] [] [],aX.mk [Z1] [] [],aX.mk [Z1] [] [],aX.mk [Z1] [] [],aX.mk [] [an] []]))),aa (.inr (.inl (197,Row.mk di (n2+1) (cV (cut l0 0 n2++[Z1]) (cut l1 0 n2++[Z1]) (cut l2 0 n2++[an]) (cut l3 0 n2++[Z1]) (cut l4 0 n2++[Z1]) (cut l5 0 n2++[Z1]) (cut l6 0 n2++[Z1]) (cut l7 0 n2++[Z1]) (cut l8 0 n2++[Z1]) (cut l9 0 n2++[Z1]) (cut qT 0 n2++[Z1]) (cut nM 0 n2++[Z1]) (cut mT 0 n2++[an])))))]))/\(ao=an->Vc (Z1≤(-1:Int)/\(-1:Int)<Z1/\0≤0)/\Vc (0<0)/\Vc (Z1≤(-1:Int)/\(-1:Int)≤Z1/\0≤0)/\aW (G (Z2 (ax fr 0 Z1)) [aa (.inl (194,[.slice (aa ⟨1,0,aa 13000⟩) n2 0,.slice (aa ⟨2,0,aa 1000⟩) 0 0,Z2 hd,Z2 ca,Z2 vi])),aa (.inr (.inl (197,Row.mk di n2 (cV l0 l1 l2 l3 l4 l5 l6 l7 l8 l9 qT nM mT)))),aa (.inr (.inl (3,Row.mk [Z2 0] 0 [aX.mk fr [] []])))]))) ?_ (by kernel_rfl)
  intro Z2 Z1;subst Z1 Z2;subst hG;refine⟨QV,fun _=>⟨UK u_,Rk u_,⟨?_⟩⟩,fun h=>by cases h⟩
  simp only[fF n9,fF zk,fF Bm,fF yh,fF yv,fF Eo,fF Em,fF Ek,fF EO,fF Ed,fF yL,fF yP,fF yS,YK];exact⟨[0,1,2,4],rfl,rfl,⟨.inl rfl,⟨_,rfl,.inl rfl⟩,⟨_,rfl,.inl rfl⟩,trivial⟩,rfl,rfl,rfl,(by kernel_rfl)⟩
 ·cases hx
theorem Nw:rK s8 Tryz.prog 138 (rZ tH an) (tH.go an):=by
 refine wg (fn:=Tryz.f138) (root:=dJ Tryz.f138) (by kernel_rfl) (by kernel_rfl) (by kernel_rfl) fun args hh x hx=>?_
 unfold tH jb.go Oj at hx;simp only at hx;split at hx
 ·rename_i n cp fn fc hd ca vi tm n2 c0 c1 c2 c3 c4 c5 c6 c7 c8 c9 ou oo om f2 fr;cases hx;refine⟨by first|exact a_ _|exact kO _,(fun b hb=>by cases hb),(fun hw=>by first|rfl|cases hw),fun mN hv=>?_⟩
  obtain⟨h0,rfl,hf,rfl,rfl,Ub,hv⟩:=hv;obtain⟨rfl,rfl,u_,⟨⟨l0,rfl,n9⟩,⟨l1,rfl,zk⟩,⟨l2,rfl,Bm⟩,⟨l3,rfl,yh⟩,⟨l4,rfl,yv⟩,⟨l5,rfl,Eo⟩,⟨l6,rfl,Em⟩,⟨l7,rfl,Ek⟩,⟨l8,rfl,EO⟩,⟨l9,rfl,Ed⟩,⟨qT,rfl,yL⟩,⟨nM,rfl,yP⟩,⟨mT,rfl,yS⟩⟩⟩:=hv;clear mN;generalize hG:ch (R:=Empty) _ _=G;refine cJ (T:=[]) trivial mixed 200 ?_;refine bK (q:=let Z2:=bk ar;let Z1:=(0:Int);Vc (fits ((↑f2:Int)-(1:Int)))/\(decide ((↑f2:Int)-(1:Int)<Z1)=ao->Vc (0+n2≤n2/\1≤1/\(n2+1)*104≤140737488355328/\n2+1≤140737488355328)/\Vc (fits ((↑(n2+1):Int)-(1:Int)))/\aW (G (Z2 ((↑(n2+1):Int)-(1:Int))) [aa (.inl (194,[.slice (aa ⟨4,0,aa 13000⟩) (n2+1) 0,.slice (aa ⟨2,0,aa 1000⟩) f2 0,Z2 hd,Z2 ca,Z2 vi])),aj,aa (.inr (.inl (3,Row.mk [Z2 0] f2 [aX.mk fr [] []]))),aa (.inr (.inl (197,Row.mk di 1 [aX.mk [Z1] [] [],aX.mk [Z1] [] [],aX.mk [] [an] [],aX.mk [Z1] [] [],aX.mk [Z1] [] [],aX.mk [Z1] [] [],aX.mk [Z1] [] [],aX.mk [Z1] [] [],aX.mk [Z1] [] [],aX.mk [Z1] [] [],aX.mk [Z1] [] [],aX.mk [Z1] [] [],aX.mk [] [an] []]))),aa (.inr (.inl (197,Row.mk di (n2+1) (cV (cut l0 0 n2++[Z1]) (cut l1 0 n2++[Z1]) (cut l2 0 n2++[an]) (cut l3 0 n2++[Z1]) (cut l4 0 n2++[Z1]) (cut l5 0 n2++[Z1]) (cut l6 0 n2++[Z1]) (cut l7 0 n2++[Z1]) (cut l8 0 n2++[Z1]) (cut l9 0 n2++[Z1]) (cut qT 0 n2++[Z1]) (cut nM 0 n2++[Z1]) (cut mT 0 n2++[an])))))]))/\(decide ((↑f2:Int)-(1:Int)<Z1)=an->Vc (Z1≤(↑f2:Int)-(1:Int)/\(↑f2:Int)-(1:Int)<(↑f2:Int)/\0+f2≤f2)/\Vc (0+aH ((↑f2:Int)-(1:Int))<f2)/\Vc (Z1≤(↑f2:Int)-(1:Int)/\(↑f2:Int)-(1:Int)≤(↑f2:Int)/\0+f2≤f2)/\aW (G (Z2 (ax fr (0+aH ((↑f2:Int)-(1:Int))) Z1)) [aa (.inl (194,[.slice (aa ⟨1,0,aa 13000⟩) n2 0,.slice (aa ⟨2,0,aa 1000⟩) (aH ((↑f2:Int)-(1:Int))) 0,Z2 hd,Z2 ca,Z2 vi])),aa (.inr (.inl (197,Row.mk di n2 (cV l0 l1 l2 l3 l4 l5 l6 l7 l8 l9 qT nM mT)))),aa (.inr (.inl (3,Row.mk [Z2 0] f2 [aX.mk fr [] []])))]))) ?_ (by kernel_rfl)
  intro Z2 Z1;subst Z1 Z2;subst hG;clear n9 zk Bm yh yv Eo Em Ek EO Ed yL yP yS;have e1:((f2:Int)-1).toNat=f2-1:=by omega
  simp only[e1,bV];refine⟨⟨by omega,by omega⟩,fun h=>absurd (of_decide_eq_true h) (by omega),fun _=>⟨⟨by omega,by omega,by omega⟩,⟨by omega⟩,⟨by omega,by omega,by omega⟩,⟨?_⟩⟩⟩
  exact⟨[0,1,2],rfl,rfl,⟨.inl rfl,⟨_,rfl,.inl rfl⟩,⟨_,rfl,.inr ⟨rfl,Bc _ _,by simp[B1]⟩⟩,trivial⟩,rfl,rfl,rfl,(by kernel_rfl)⟩
 ·cases hx
theorem Rw:b6 s8 Tryz.prog 138 tH:=fun b=>by cases b;exact Nw;exact NI
def TA:ez Empty:=[(138,bJ zN 2 tH),(147,bJ zN 2 qS)]
theorem xI:cL s8 Tryz.prog TA:=⟨aT _ _ Rw,aT _ _ Nr,trivial⟩
abbrev PP (m:Pl):Prop:=Gv.fX 100000 m
theorem BY (m:Pl) (i g:Int):rB m.vs.length m.dE m.live i g=yE m ⟨i,g⟩:=rfl
theorem En {m:Pl} {i g:Int} (h:yE m ⟨i,g⟩=ao):0≤i/\i<m.vs.length/\m.live.getD i.toNat an=ao/\m.dE.getD i.toNat 0=g:=Gv.sy h
theorem gP {α:Type} (f:Nd->α) (m:Pl) (k:Nat) (a:α) (ha:f zd=a):(m.vs.map f).getD k a=f (m.vs.getD k zd):=by
 subst ha;simp only[av,fh];cases m.vs[k]?<;>rfl
theorem G3 (m:Pl) (k:Nat):gM m.vs k=bj (m.vs.getD k zd):=by
 unfold gM bj;simp only[gP (fun n:Nd=>n.e.it.k) m _ 0 rfl,gP (fun n:Nd=>n.e.it.i) m _ 0 rfl,gP (fun n:Nd=>n.e.kA) m _ an rfl,gP (fun n:Nd=>n.e.time) m _ 0 rfl,gP (fun n:Nd=>n.l.i) m _ 0 rfl,gP (fun n:Nd=>n.l.g) m _ 0 rfl,gP (fun n:Nd=>n.r.i) m _ 0 rfl,gP (fun n:Nd=>n.r.g) m _ 0 rfl,gP (fun n:Nd=>n.all.n) m _ 0 rfl,gP (fun n:Nd=>n.all.sum.n) m _ 0 rfl,gP (fun n:Nd=>n.h) m _ 0 rfl]
theorem Bq (m:Pl) (k:Nat) (x:Nd) (g:List Int) (b:List Bool):(⟨di,m.vs.length,cS m.vs k x g b⟩:Row)=⟨di,(m.vs.set k x).length,cM (m.vs.set k x) g b⟩:=by
 unfold cS cM;simp only[Fq,fa]
theorem gQ {α:Type} (f:Nd->α) (m:Pl):(m.vs.map f).length=m.vs.length:=fR ..
theorem Bt {m:Pl} (hv:PP m):mU m.vs.length (cM m.vs m.dE m.live):=⟨⟨_,rfl,gQ _ m⟩,⟨_,rfl,gQ _ m⟩,⟨_,rfl,gQ _ m⟩,⟨_,rfl,gQ _ m⟩,⟨_,rfl,gQ _ m⟩,⟨_,rfl,gQ _ m⟩,⟨_,rfl,gQ _ m⟩,⟨_,rfl,gQ _ m⟩,⟨_,rfl,gQ _ m⟩,⟨_,rfl,gQ _ m⟩,⟨_,rfl,gQ _ m⟩,⟨_,rfl,hv.dE⟩,⟨_,rfl,hv.live⟩⟩
theorem uk {m:Pl} (hv:PP m):True/\True/\m.vs.length<1000000/\mU m.vs.length (cM m.vs m.dE m.live):=⟨trivial,trivial,by have:=hv.cells;omega,Bt hv⟩
def MF:Prim Rs:=fun args hh=>match args,hh with
 |[.int .i64 c],[]=>aa ⟨True,.pointer (aa ⟨0,0,aj⟩),aj,[aa (.inr (.inr (.inr (.da ⟨[],[],[],[],0,min (max c 0) 16777216,0⟩))))],[],[(0,0)]⟩
 |_,_=>aj
theorem Wd:b6 D Tryz.prog 131 (a9 MF):=by
 refine qa (rA (L:=L) (D0:=s8) (fn:=Tryz.f131) (root:=dJ Tryz.f131) (by kernel_rfl) (by kernel_rfl) (by kernel_rfl) fun args hh x hx=>?_)
 unfold MF at hx;split at hx
 ·rename_i c;cases hx;refine q4 fun _ hv=>?_
  generalize hG:xG (R:=Rs) (R0:=Empty) _ _ _=G;refine cJ (T:=TA) xI mixed 200 ?_;refine bK (q:=aW (G (aC (aa ⟨0,0,aj⟩)) [aa (.inl (194,[.slice aj 0 0,.slice aj 0 0,.int ar 0,.int ar (if(16777216:Int)<if(0:Int)>c then(0:Int) else c then(16777216:Int) else if(0:Int)>c then(0:Int) else c),.int ar 0]))])) ?_ (by kernel_rfl)
  subst hG;have e:(if 16777216<if 0>c then 0 else c then 16777216 else if 0>c then 0 else c)=min (max c 0) 16777216:=by
   by_cases h1:0>c
   ·rw[if_pos h1];simp;omega
   ·rw[if_neg h1];split<;>omega
  rw[e];refine⟨⟨[0,1,1],rfl,rfl,⟨.inl rfl,⟨rfl,sL _,rfl⟩,⟨rfl,sL _,rfl⟩,trivial⟩,rfl,rfl,rfl,rfl,rfl⟩⟩
 ·cases hx
def M0:Prim Rs:=fun args hh=>match args,hh with
 |[.pointer (aa ⟨0,0,aj⟩),.agg ⟨[.int .i64 i,.int .i64 g]⟩],[aa (.inr (.inr (.inr (.da m))))]=>aa ⟨PP m,.tuple #[.agg ⟨bj (jQ zd m ⟨i,g⟩)⟩,.bool (yE m ⟨i,g⟩)],aj,[aa (.inr (.inr (.inr (.da (aJ m ⟨i,g⟩)))))],[],[(0,0)]⟩
 |_,_=>aj
theorem T4:b6 D Tryz.prog 120 (a9 M0):=by
 refine qa (rA (L:=L) (D0:=s8) (fn:=Tryz.f120) (root:=dJ Tryz.f120) (by kernel_rfl) (by kernel_rfl) (by kernel_rfl) fun args hh x hx=>?_)
 unfold M0 at hx;split at hx
 ·rename_i i g m;cases hx;refine q4 fun _ hv=>?_
  generalize hG:xG (R:=Rs) (R0:=Empty) _ _ _=G;refine cJ (T:=TA) xI mixed 200 ?_;refine bK (q:=let Z3:=bk ar;let Z1:=(ae (cH m));let Z2:=(bj (fy (ju (cW 0 0) an 0) (aN 0 0) (aN 0 0) (my 0 (aeJ 0)) 0));(rB Z1 (dM m) (eM m) i g=ao->Vc (di=di/\ae (cH m)=ae (cH m)/\ae (cH m)<1000000/\mU Z1 (cM (cH m) (dM m) (eM m)))/\Vc (aH i<ae (cH m))/\aW (G (cq (aO [.agg (aO (gM (cH m) (aH i))),.bool ao])) [aa (.inl (194,[.slice (aa ⟨1,0,aa 13000⟩) Z1 0,.slice (aa ⟨2,0,aa 1000⟩) (ae (dR m)) 0,Z3 (fM m),Z3 (ib m),Z3 (ck ar (gV m+(1:Int)))])),aa (.inr (.inl (197,Row.mk di Z1 (cM (cH m) (dM m) (eM m))))),aa (.inr (.inl (3,Row.mk [Z3 0] (ae (dR m)) [aX.mk (dR m) [] []]))),aa (.inl (108,[Z3 i,Z3 g])),aa (.inl (128,(gM (cH m) (aH i))))]))/\(rB Z1 (dM m) (eM m) i g=an->Vc (di=di/\ae (cH m)=ae (cH m)/\ae (cH m)<1000000/\mU Z1 (cM (cH m) (dM m) (eM m)))/\aW (G (cq (aO [.agg (aO Z2),.bool an])) [aa (.inl (194,[.slice (aa ⟨1,0,aa 13000⟩) Z1 0,.slice (aa ⟨2,0,aa 1000⟩) (ae (dR m)) 0,Z3 (fM m),Z3 (ib m),Z3 (gV m)])),aa (.inr (.inl (197,Row.mk di Z1 (cM (cH m) (dM m) (eM m))))),aa (.inr (.inl (3,Row.mk [Z3 0] (ae (dR m)) [aX.mk (dR m) [] []]))),aa (.inl (108,[Z3 i,Z3 g])),aa (.inl (128,Z2)),aa (.inl (128,Z2))]))) ?_ (by kernel_rfl)
  intro Z3 Z1 Z2;subst Z2 Z1 Z3;subst hG;simp only[BY,bV];refine⟨fun h=>⟨⟨uk hv⟩,⟨by have:=En h;omega⟩,⟨?_⟩⟩,fun h=>⟨⟨uk hv⟩,⟨?_⟩⟩⟩
  ·have e1:jQ zd m ⟨i,g⟩=m.vs.getD i.toNat zd:=by unfold jQ;rw[if_pos h]
   have e2:aJ m ⟨i,g⟩=HJ m:=by unfold aJ;rw[if_pos h]
   rw[G3 m i.toNat,e1,e2,h];exact⟨[0,1,2],rfl,rfl,⟨.inl rfl,⟨_,rfl,.inl rfl⟩,⟨_,rfl,.inl rfl⟩,trivial⟩,rfl,rfl,rfl,rfl,rfl⟩
  ·have e1:jQ zd m ⟨i,g⟩=zd:=by unfold jQ;rw[if_neg (by rw[h];decide)]
   have e2:aJ m ⟨i,g⟩=m:=by unfold aJ;rw[if_neg (by rw[h];decide)]
   rw[e1,e2,h];exact⟨[0,1,2],rfl,rfl,⟨.inl rfl,⟨_,rfl,.inl rfl⟩,⟨_,rfl,.inl rfl⟩,trivial⟩,rfl,rfl,rfl,rfl,rfl⟩
 ·cases hx
def M2:Prim Rs:=fun args hh=>match args,hh with
 |[.pointer (aa ⟨0,0,aj⟩),.agg ⟨[.int .i64 i,.int .i64 g]⟩,.agg ⟨xN⟩],[aa (.inr (.inr (.inr (.da m))))]=>aa ⟨xN=bj (fU xN)/\PP m,.bool (yE m ⟨i,g⟩),aj,[aa (.inr (.inr (.inr (.da (tx m ⟨i,g⟩ (fU xN))))))],[],[(0,0)]⟩
 |_,_=>aj
theorem Vp:b6 D Tryz.prog 175 (a9 M2):=by
 refine qa (rA (L:=L) (D0:=s8) (fn:=Tryz.f175) (root:=dJ Tryz.f175) (by kernel_rfl) (by kernel_rfl) (by kernel_rfl) fun args hh x hx=>?_)
 unfold M2 at hx;split at hx
 ·rename_i i g xN m;cases hx;refine q4 fun _ hv=>?_
  obtain⟨hq,hv⟩:=hv;generalize fU xN=x at *;subst hq
  generalize hG:xG (R:=Rs) (R0:=Empty) _ _ _=G;refine cJ (T:=TA) xI mixed 200 ?_;refine bK (q:=let Z2:=bk ar;let Z1:=(ae (cH m));(rB Z1 (dM m) (eM m) i g=ao->Vc (di=di/\ae (cH m)=ae (cH m)/\ae (cH m)<1000000/\mU Z1 (cM (cH m) (dM m) (eM m)))/\Vc (aH i<ae (cH m))/\aW (G (aD ao) [aa (.inl (194,[.slice (aa ⟨1,0,aa 13000⟩) Z1 0,.slice (aa ⟨2,0,aa 1000⟩) (ae (dR m)) 0,Z2 (fM m),Z2 (ib m),Z2 (ck ar (gV m+(1:Int)))])),aa (.inr (.inl (197,Row.mk di Z1 (cS (cH m) (aH i) x (dM m) (eM m))))),aa (.inr (.inl (3,Row.mk [Z2 0] (ae (dR m)) [aX.mk (dR m) [] []]))),aa (.inl (108,[Z2 i,Z2 g])),aa (.inl (128,(bj x)))]))/\(rB Z1 (dM m) (eM m) i g=an->Vc (di=di/\ae (cH m)=ae (cH m)/\ae (cH m)<1000000/\mU Z1 (cM (cH m) (dM m) (eM m)))/\aW (G (aD an) [aa (.inl (194,[.slice (aa ⟨1,0,aa 13000⟩) Z1 0,.slice (aa ⟨2,0,aa 1000⟩) (ae (dR m)) 0,Z2 (fM m),Z2 (ib m),Z2 (gV m)])),aa (.inr (.inl (197,Row.mk di Z1 (cM (cH m) (dM m) (eM m))))),aa (.inr (.inl (3,Row.mk [Z2 0] (ae (dR m)) [aX.mk (dR m) [] []]))),aa (.inl (108,[Z2 i,Z2 g])),aa (.inl (128,(bj x)))]))) ?_ (by kernel_rfl)
  intro Z2 Z1;subst Z1 Z2;subst hG;simp only[BY,bV];refine⟨fun h=>⟨⟨uk hv⟩,⟨by have:=En h;omega⟩,⟨?_⟩⟩,fun h=>⟨⟨uk hv⟩,⟨?_⟩⟩⟩
  ·have e2:∀ y,tx m ⟨i,g⟩ y={ HJ m with vs:=m.vs.set i.toNat y }:=fun y=>by unfold tx;rw[if_pos h]
   rw[e2,h];exact⟨[0,1,2],rfl,rfl,⟨.inl (by rw[fa];rfl),⟨_,rfl,.inl (Bq m i.toNat x _ _).symm⟩,⟨_,rfl,.inl rfl⟩,trivial⟩,rfl,rfl,rfl,rfl,rfl⟩
  ·have e2:∀ y,tx m ⟨i,g⟩ y=m:=fun y=>by unfold tx;rw[if_neg (by rw[h];decide)]
   rw[e2,h];exact⟨[0,1,2],rfl,rfl,⟨.inl rfl,⟨_,rfl,.inl rfl⟩,⟨_,rfl,.inl rfl⟩,trivial⟩,rfl,rfl,rfl,rfl,rfl⟩
 ·cases hx
def Bu:Prim Rs:=fun args hh=>match args,hh with
 |[.pointer (aa ⟨0,0,aj⟩)],[aa (.inr (.inr (.inr (.da m))))]=>aa ⟨True,.int .i64 m.cX,aj,hh,[],[]⟩
 |_,_=>aj
theorem JG:b6 D Tryz.prog 118 (a9 Bu):=by
 refine qa (rA (L:=L) (D0:=s8) (fn:=Tryz.f118) (root:=dJ Tryz.f118) (by kernel_rfl) (by kernel_rfl) (by kernel_rfl) fun args hh x hx=>?_)
 unfold Bu at hx;split at hx
 ·rename_i m;cases hx;refine q4 fun _ hv=>?_
  generalize hG:xG (R:=Rs) (R0:=Empty) _ _ _=G;refine cJ (T:=TA) xI mixed 200 ?_;refine bK (q:=let Z1:=bk ar;aW (G (Z1 (gV m)) [aa (.inl (194,[.slice (aa ⟨1,0,aa 13000⟩) (ae (cH m)) 0,.slice (aa ⟨2,0,aa 1000⟩) (ae (dR m)) 0,Z1 (fM m),Z1 (ib m),Z1 (gV m)])),aa (.inr (.inl (197,Row.mk di (ae (cH m)) (cM (cH m) (dM m) (eM m))))),aa (.inr (.inl (3,Row.mk [Z1 0] (ae (dR m)) [aX.mk (dR m) [] []])))])) ?_ (by kernel_rfl)
  intro Z1;subst Z1;subst hG;exact⟨⟨[0,1,2],rfl,rfl,⟨.inl rfl,⟨_,rfl,.inl rfl⟩,⟨_,rfl,.inl rfl⟩,trivial⟩,rfl,rfl,rfl,rfl,rfl⟩⟩
 ·cases hx
def Cc:Prim Rs:=fun args hh=>match args,hh with
 |[.pointer (aa ⟨0,0,aj⟩),.agg ⟨[.int .i64 i,.int .i64 g]⟩],[aa (.inr (.inr (.inr (.da m))))]=>aa ⟨PP m,.tuple #[.agg ⟨bj (jQ zd m ⟨i,g⟩)⟩,.bool (yE m ⟨i,g⟩)],aj,[aa (.inr (.inr (.inr (.da (wh zd m ⟨i,g⟩)))))],[],[(0,0)]⟩
 |_,_=>aj
theorem tu:b6 D Tryz.prog 116 (a9 Cc):=by
 refine qa (rA (L:=L) (D0:=s8) (fn:=Tryz.f116) (root:=dJ Tryz.f116) (by kernel_rfl) (by kernel_rfl) (by kernel_rfl) fun args hh x hx=>?_)
 unfold Cc at hx;split at hx
 ·rename_i i g m;cases hx;refine q4 fun _ hv=>?_
  generalize hG:xG (R:=Rs) (R0:=Empty) _ _ _=G;refine cJ (T:=TA) xI mixed 200 ?_;refine bK (q:=let Z7:=bk ar;let Z1:=(ae (cH m));let Z2:=(aH i<ae (cH m));let Z3:=(ax (dM m) (aH i) (0:Int)<(4294967295:Int));let Z4:=(cq (aO [.agg (aO (gM (cH m) (aH i))),.bool ao]));let Z5:=(bj (fy (ju (cW 0 0) an 0) (aN 0 0) (aN 0 0) (my 0 (aeJ 0)) 0));let Z6:=(ae (dR m));(rB Z1 (dM m) (eM m) i g=ao->Vc (di=di/\ae (cH m)=ae (cH m)/\ae (cH m)<1000000/\mU Z1 (cM (cH m) (dM m) (eM m)))/\Vc Z2/\Vc Z2/\Vc Z2/\Vc (fits (fM m-(1:Int)))/\Vc Z2/\(decide Z3=ao->Vc (0+ae (dR m)≤ae (dR m)/\1≤1/\(ae (dR m)+1)*8≤140737488355328/\ae (dR m)+1≤140737488355328)/\aW (G Z4 [aa (.inl (194,[.slice (aa ⟨1,0,aa 13000⟩) Z1 0,.slice (aa ⟨8,0,aa 1000⟩) (ae (dR m)+1) 0,Z7 (fM m-(1:Int)),Z7 (ib m),Z7 (ck ar (gV m+(1:Int)))])),aa (.inr (.inl (197,Row.mk di Z1 (cS (cH m) (aH i) zd (dM m) (qf (eM m) (aH i) an))))),aj,aa (.inl (108,[Z7 i,Z7 g])),aa (.inl (128,(gM (cH m) (aH i)))),aa (.inl (128,Z5)),aa (.inl (128,(gM (cH m) (aH i)))),aa (.inr (.inl (3,Row.mk [Z7 0] 1 [aX.mk [i] [] []]))),aa (.inr (.inl (3,Row.mk [Z7 0] (ae (dR m)+1) [aX.mk (cut (dR m) 0 Z6++cut [i] 0 1) [] []])))]))/\(decide Z3=an->aW (G Z4 [aa (.inl (194,[.slice (aa ⟨1,0,aa 13000⟩) Z1 0,.slice (aa ⟨2,0,aa 1000⟩) Z6 0,Z7 (fM m-(1:Int)),Z7 (ib m),Z7 (ck ar (gV m+(1:Int)))])),aa (.inr (.inl (197,Row.mk di Z1 (cS (cH m) (aH i) zd (dM m) (qf (eM m) (aH i) an))))),aa (.inr (.inl (3,Row.mk [Z7 0] Z6 [aX.mk (dR m) [] []]))),aa (.inl (108,[Z7 i,Z7 g])),aa (.inl (128,(gM (cH m) (aH i)))),aa (.inl (128,Z5)),aa (.inl (128,(gM (cH m) (aH i))))])))/\(rB Z1 (dM m) (eM m) i g=an->Vc (di=di/\ae (cH m)=ae (cH m)/\ae (cH m)<1000000/\mU Z1 (cM (cH m) (dM m) (eM m)))/\aW (G (cq (aO [.agg (aO Z5),.bool an])) [aa (.inl (194,[.slice (aa ⟨1,0,aa 13000⟩) Z1 0,.slice (aa ⟨2,0,aa 1000⟩) Z6 0,Z7 (fM m),Z7 (ib m),Z7 (gV m)])),aa (.inr (.inl (197,Row.mk di Z1 (cM (cH m) (dM m) (eM m))))),aa (.inr (.inl (3,Row.mk [Z7 0] Z6 [aX.mk (dR m) [] []]))),aa (.inl (108,[Z7 i,Z7 g])),aa (.inl (128,Z5)),aa (.inl (128,Z5))]))) ?_ (by kernel_rfl)
  intro Z7 Z1 Z2 Z3 Z4 Z5 Z6;subst Z6 Z5 Z4 Z3 Z2 Z1 Z7;subst hG;simp only[BY,bV];have hgb:=Df (i:=i.toNat) hv.gen;have hhl:=hv.Sj;have hfr:=hv.pK;refine⟨fun h=>?_,fun h=>⟨⟨uk hv⟩,⟨?_⟩⟩⟩
  ·have cj:i.toNat<m.vs.length:=by have:=En h;omega
   have g3:m.dE.getD i.toNat 0<4294967295:=by omega
   have e1:jQ zd m ⟨i,g⟩=m.vs.getD i.toNat zd:=by unfold jQ;rw[if_pos h]
   have e2:wh zd m ⟨i,g⟩={ HJ m with vs:=m.vs.set i.toNat zd,live:=m.live.set i.toNat an,held:=m.held-1,free:=m.free++[i] }:=by unfold wh;rw[if_pos h,if_pos g3]
   have ec:cut m.free 0 m.free.length++cut [i] 0 1=m.free++[i]:=by rw[fF rfl];rfl
   rw[ec];refine⟨⟨uk hv⟩,⟨cj⟩,⟨cj⟩,⟨cj⟩,⟨⟨by omega,by omega⟩⟩,⟨cj⟩,fun _=>⟨⟨by omega,by omega,by omega,by omega⟩,⟨?_⟩⟩,fun h2=>absurd g3 (of_decide_eq_false h2)⟩
   rw[G3 m i.toNat,e1,e2,h];exact⟨[0,1,8],rfl,rfl,⟨.inl (by rw[fa,bA];rfl),⟨_,rfl,.inl (Bq m i.toNat zd _ _).symm⟩,⟨_,rfl,.inl (by rw[bA];rfl)⟩,trivial⟩,rfl,rfl,rfl,rfl,rfl⟩
  ·have e1:jQ zd m ⟨i,g⟩=zd:=by unfold jQ;rw[if_neg (by rw[h];decide)]
   have e2:wh zd m ⟨i,g⟩=m:=by unfold wh;rw[if_neg (by rw[h];decide)]
   rw[e1,e2,h];exact⟨[0,1,2],rfl,rfl,⟨.inl rfl,⟨_,rfl,.inl rfl⟩,⟨_,rfl,.inl rfl⟩,trivial⟩,rfl,rfl,rfl,rfl,rfl⟩
 ·cases hx
theorem Q8 (m:Pl) (k:Nat) (x:Nd) (g:List Int) (b:List Bool):(⟨di,m.vs.length+1,cG m.vs k x g b⟩:Row)=⟨di,((m.vs++[zd]).set k x).length,cM ((m.vs++[zd]).set k x) g b⟩:=by
 unfold cG cM;simp only[Fq,dG,fa,bA,gr,uP,cy,jN]
 rfl
theorem Fc {m:Pl} (h0:m.held=m.cap) (x:Nd):tK zd m x=m/\lp zd m=⟨0,0⟩:=by
 unfold tK lp;rw[if_pos h0,if_pos h0];exact⟨rfl,rfl⟩
theorem Ex {m:Pl} (h0:¬ m.held=m.cap) (hf:m.free.length=0) (x:Nd):tK zd m x=⟨(m.vs++[zd]).set m.vs.length x,(m.dE++[0]).set m.vs.length ((m.dE++[0]).getD m.vs.length 0+1),(m.live++[an]).set m.vs.length ao,m.free,m.held+1,m.cap,m.cX⟩/\lp zd m=⟨m.vs.length,(m.dE++[0]).getD m.vs.length 0+1⟩:=by
 have en:vz m=m.vs.length:=by rw[vz,if_pos hf]
 unfold tK lp Gv.Ai KT;rw[if_neg h0,if_neg h0];simp only[if_pos hf,en,iF]
 constructor<;>first|rfl|trivial
theorem Es {m:Pl} (h0:¬ m.held=m.cap) (hf:¬ m.free.length=0) (x:Nd):tK zd m x=⟨m.vs.set (m.free.getD (m.free.length-1) 0).toNat x,m.dE.set (m.free.getD (m.free.length-1) 0).toNat (m.dE.getD (m.free.getD (m.free.length-1) 0).toNat 0+1),m.live.set (m.free.getD (m.free.length-1) 0).toNat ao,m.free.take (m.free.length-1),m.held+1,m.cap,m.cX⟩/\lp zd m=⟨m.free.getD (m.free.length-1) 0,m.dE.getD (m.free.getD (m.free.length-1) 0).toNat 0+1⟩:=by
 have en:vz m=m.free.getD (m.free.length-1) 0:=by rw[vz,if_neg hf]
 unfold tK lp Gv.Ai KT;rw[if_neg h0,if_neg h0];simp only[if_neg hf,en]
 constructor<;>first|rfl|trivial
structure Bds (m:Pl):Prop where
 dE:m.dE.length=m.vs.length
 cells:m.vs.length<1000000
 pK:m.free.length<1000000
 held:-1000000≤m.held/\m.held<1000000
 gen:∀ i,0≤m.dE.getD i 0/\m.dE.getD i 0≤100000
 last:¬ m.free.length=0->0≤m.free.getD (m.free.length-1) 0/\m.free.getD (m.free.length-1) 0<m.vs.length
theorem bds {m:Pl} (hv:PP m):Bds m:=by
 have v1:=hv.dE;have v3:=hv.cells;have v4:=hv.pK;have v5:=hv.Sj;refine⟨v1,by omega,by omega,by omega,fun i=>?_,fun h=>?_⟩
 ·have:=Df (i:=i) hv.gen;omega
 ·have:=hv.inn _ (yY (d:=0) (l:=m.free) (i:=m.free.length-1) (by omega))
  exact⟨this.1,this.2.1⟩
theorem E5 (l:List Int) (k:Nat) (x:Int) (h:k<l.length):(l.set k x).getD k 0=x:=by
 rw[ot,if_pos ⟨rfl,h⟩]
def Ic:Prim Rs:=fun args hh=>match args,hh with
 |[.pointer (aa ⟨0,0,aj⟩),.agg ⟨xN⟩],[aa (.inr (.inr (.inr (.da m))))]=>aa ⟨xN=bj (fU xN)/\PP m,.tuple #[.agg ⟨[.int .i64 (lp zd m).i,.int .i64 (lp zd m).g]⟩,.bool (!decide (m.held=m.cap))],aj,[aa (.inr (.inr (.inr (.da (tK zd m (fU xN))))))],[],[(0,0)]⟩
 |_,_=>aj
theorem tA:b6 D Tryz.prog 101 (a9 Ic):=by
 refine qa (rA (L:=L) (D0:=s8) (fn:=Tryz.f101) (root:=dJ Tryz.f101) (by kernel_rfl) (by kernel_rfl) (by kernel_rfl) fun args hh x hx=>?_)
 unfold Ic at hx;split at hx
 ·rename_i xN m;cases hx;refine q4 fun _ hv=>?_
  obtain⟨hq,hv⟩:=hv;generalize fU xN=x at *;subst hq
  generalize hG:xG (R:=Rs) (R0:=Empty) _ _ _=G;refine cJ (T:=TA) xI mixed 200 ?_;refine bK (q:=let cx:=bk ar;let Z1:=(cH m);let Z2:=(ae Z1);let Z3:=(dR m);let Z4:=(cM Z1 (dM m) (eM m));let Z5:=(ax (dM m++[(0:Int)]) (0+(Z2:Int).toNat) (0:Int)+(1:Int));let Z6:=(qf (dM m++[(0:Int)]) (0+(Z2:Int).toNat) Z5);let Z7:=(ae Z3-1);let Z8:=(ax Z3 Z7 (0:Int));let Z9:=(ax (dM m) (0+aH Z8) (0:Int)+(1:Int));let dX:=(ax (qf (dM m) (0+aH Z8) Z9) (0+aH Z8) (0:Int));((fM m==ib m)=ao->aW (G (cq (aO [.agg (aO [cx 0,cx 0]),.bool an])) [aa (.inl (194,[.slice (aa ⟨1,0,aa 13000⟩) Z2 0,.slice (aa ⟨2,0,aa 1000⟩) (ae Z3) 0,cx (fM m),cx (ib m),cx (gV m)])),aa (.inr (.inl (197,Row.mk di Z2 Z4))),aa (.inr (.inl (3,Row.mk [cx 0] (ae Z3) [aX.mk Z3 [] []]))),aa (.inl (128,(bj x))),aa (.inl (108,[cx 0,cx 0]))]))/\((fM m==ib m)=an->(decide (ae Z3=0)=ao->Vc (ae Z3=0/\ae Z3=ae Z3/\0=0/\0=0/\di=di/\ae Z1=ae Z1/\ae Z1<1000000/\mU Z2 Z4)/\Vc ((0:Int)≤(↑Z2:Int)/\(↑Z2:Int)<(↑(ae Z1+1):Int)/\0+(ae Z1+1)≤ae Z1+1)/\Vc (0+(Z2:Int).toNat<ae Z1+1)/\Vc (0+(Z2:Int).toNat<ae Z1+1)/\Vc (0+(Z2:Int).toNat<ae Z1+1)/\Vc (fits Z5)/\Vc (0+(Z2:Int).toNat<ae Z1+1)/\Vc (fits (fM m+(1:Int)))/\Vc (0+(Z2:Int).toNat<ae Z1+1)/\aW (G (cq (aO [.agg (aO [cx (↑Z2:Int),cx (ax Z6 (0+(Z2:Int).toNat) (0:Int))]),.bool ao])) [aa (.inl (194,[.slice (aa ⟨5,0,aa 13000⟩) (ae Z1+1) 0,.slice (aa ⟨2,0,aa 1000⟩) (ae Z3) 0,cx (fM m+(1:Int)),cx (ib m),cx (gV m)])),aj,aa (.inr (.inl (3,Row.mk [cx 0] (ae Z3) [aX.mk Z3 [] []]))),aa (.inl (128,(bj x))),aa (.inl (108,[cx (↑Z2:Int),cx (ax Z6 (0+(Z2:Int).toNat) (0:Int))])),aa (.inr (.inl (197,Row.mk di (ae Z1+1) (cG Z1 (0+(Z2:Int).toNat) x Z6 (qf (eM m++[an]) (0+(Z2:Int).toNat) ao)))))]))/\(decide (ae Z3=0)=an->Vc (ae Z3≠0/\ae Z3=ae Z3/\ae Z3=ae Z3/\0=0/\0=0/\ae Z3<1000000/\di=di/\ae Z1=ae Z1/\ae Z1<1000000/\mU Z2 Z4)/\Vc ((0:Int)≤ax Z3 Z7 (0:Int)/\ax Z3 Z7 (0:Int)<(↑Z2:Int)/\0+ae Z1≤ae Z1)/\Vc (0+aH Z8<ae Z1)/\Vc (0+aH Z8<ae Z1)/\Vc (0+aH Z8<ae Z1)/\Vc (fits Z9)/\Vc (0+aH Z8<ae Z1)/\Vc (fits (fM m+(1:Int)))/\Vc (0+aH Z8<ae Z1)/\aW (G (cq (aO [.agg (aO [cx Z8,cx dX]),.bool ao])) [aa (.inl (194,[.slice (aa ⟨1,0,aa 13000⟩) Z2 0,.slice (aa ⟨2,0,aa 1000⟩) Z7 0,cx (fM m+(1:Int)),cx (ib m),cx (gV m)])),aa (.inr (.inl (197,Row.mk di Z2 (cS Z1 (0+aH Z8) x (qf (dM m) (0+aH Z8) Z9) (qf (eM m) (0+aH Z8) ao))))),aa (.inr (.inl (3,Row.mk [cx 0] Z7 [aX.mk (gY Z7 Z3) [] []]))),aa (.inl (128,(bj x))),aa (.inl (108,[cx Z8,cx dX]))])))) ?_ (by kernel_rfl)
  intro cx Z1 Z2 Z3 Z4 Z5 Z6 Z7 Z8 Z9 dX;subst dX Z9 Z8 Z7 Z6 Z5 Z4 Z3 Z2 Z1 cx;subst hG;simp only[bV,iF];have hb:=bds hv;refine⟨fun h=>?_,fun h=>⟨fun hf=>?_,fun hf=>?_⟩⟩
  ·have h0:m.held=m.cap:=eq_of_beq h;rw[(Fc h0 x).1,(Fc h0 x).2,decide_eq_true h0];exact⟨⟨[0,1,2],rfl,rfl,⟨.inl rfl,⟨_,rfl,.inl rfl⟩,⟨_,rfl,.inl rfl⟩,trivial⟩,rfl,rfl,rfl,rfl,rfl⟩⟩
  ·have h0:¬ m.held=m.cap:=fun c=>by rw[c,beq_self_eq_true] at h;cases h
   have h1:m.free.length=0:=of_decide_eq_true hf;have hk:m.vs.length<(m.dE++[0]).length:=by rw[bA,hb.dE];exact fC _
   have e1:(m.dE++[0]).getD m.vs.length 0=0:=by rw[ur,if_pos hb.dE.symm]
   rw[(Ex h0 h1 x).1,(Ex h0 h1 x).2,decide_eq_false h0,E5 _ _ _ hk];refine⟨⟨h1,trivial,trivial,trivial,trivial,trivial,hb.cells,Bt hv⟩,⟨by omega,by omega,a_ _⟩,⟨fC _⟩,⟨fC _⟩,⟨fC _⟩,⟨by rw[e1];exact⟨by omega,by omega⟩⟩,⟨fC _⟩,⟨by have:=hb.held;exact⟨by omega,by omega⟩⟩,⟨fC _⟩,⟨[0,5,2],rfl,rfl,?_,rfl,rfl,rfl,rfl,rfl⟩⟩
   exact⟨.inl (by rw[fa,bA];rfl),⟨_,rfl,.inl (Q8 m m.vs.length x _ _).symm⟩,⟨_,rfl,.inl rfl⟩,trivial⟩
  ·have h0:¬ m.held=m.cap:=fun c=>by rw[c,beq_self_eq_true] at h;cases h
   have h1:¬ m.free.length=0:=of_decide_eq_false hf;have hl:=hb.last h1;have hk:(m.free.getD (m.free.length-1) 0).toNat<m.vs.length:=by omega
   rw[(Es h0 h1 x).1,(Es h0 h1 x).2,decide_eq_false h0,E5 _ _ _ (by rw[hb.dE];exact hk)]
   refine⟨⟨h1,trivial,trivial,trivial,trivial,hb.pK,trivial,trivial,hb.cells,Bt hv⟩,⟨hl.1,hl.2,a_ _⟩,⟨hk⟩,⟨hk⟩,⟨hk⟩,⟨by have:=hb.gen (m.free.getD (m.free.length-1) 0).toNat;exact⟨by omega,by omega⟩⟩,⟨hk⟩,⟨by have:=hb.held;exact⟨by omega,by omega⟩⟩,⟨hk⟩,⟨[0,1,2],rfl,rfl,?_,rfl,rfl,rfl,rfl,rfl⟩⟩
   exact⟨.inl (by rw[fa,dZ,tL (Bc _ _)];rfl),⟨_,rfl,.inl (Bq m _ x _ _).symm⟩,⟨_,rfl,.inl (by rw[dZ,tL (Bc _ _)])⟩,trivial⟩
 ·cases hx
abbrev dD (b:Nat) (i g:Int):Option (SB Rs):=aa (.inl (132,[.pointer (aa ⟨b,0,aj⟩),.int .i64 i,.int .i64 g]))
abbrev oP (m:Pl):Option (SB Rs):=aa (.inr (.inr (.inr (.da m))))
def TQ {R:Type}:ez R:=[(241,bJ zN 2 (a9 Sh.Zw))]
theorem QN {R:Type} {D:fH R}:cL D Tryz.prog (TQ:ez R):=⟨aT _ _ Sh.agK,trivial⟩
def Pb {R:Type}:ez R:=[(1000000000,lL),(242,bJ zN 2 (a9 Sh.Ut))]
theorem N3 {R:Type} {D:fH R}:cL D Tryz.prog (Pb:ez R):=⟨iu,aT _ _ Sh.aeC,trivial⟩
def AB {R:Type}:Prim R:=fun args hh=>match args,hh with
 |[.agg ⟨kE⟩],[]=>aa ⟨kE=dr (fP kE)/\(True),.agg ⟨bW (nN aM (fP kE))⟩,aj,hh,[],[]⟩
 |_,_=>aj
theorem yw {R:Type} {D:fH R}:b6 D Tryz.prog 102 (a9 AB):=by
 refine fj Tryz.f102 fun args hh x hx=>?_
 unfold AB at hx;split at hx
 ·rename_i kE;cases hx;refine q4 fun _ hv=>?_
  obtain⟨jU,hv⟩:=hv;generalize fP kE=ke at *;subst jU
  generalize hG:ch (R:=R) _ _=G;refine cJ (T:=TQ) QN mixed 200 ?_;refine bK (q:=Vc True/\Vc True/\aW (G (bE (aO [.int ar 1,.int ar (px (IW aM ke))])) [aa (.inl (75,(dr ke))),aa (.inl (126,[.int ar 1,.int ar (px (IW aM ke))]))])) ?_ (by kernel_rfl)
  subst hG
  repeat' (first|apply cY|apply Vc.mk|apply fits.mk|intro h|apply aW.mk)
  all_goals (try simp only[sB] at *)
  all_goals first|contradiction|omega|exact jm ‹_›|exact jo ‹_›|exact jk ‹_›|exact⟨rfl,by omega⟩|exact rfl|(simp[*,-av];done)|skip
  exact⟨[],rfl,rfl,trivial,rfl,rfl,rfl,rfl⟩
 ·cases hx
def dY {R:Type}:Prim R:=fun args hh=>match args,hh with
 |[.agg ⟨pP⟩,.agg ⟨qP⟩],[]=>aa ⟨pP=bW (o_ pP)/\qP=bW (o_ qP)/\(True),.agg ⟨bW (ew aM (o_ pP) (o_ qP))⟩,aj,hh,[],[]⟩
 |_,_=>aj
theorem uz {R:Type} {D:fH R}:b6 D Tryz.prog 174 (a9 dY):=by
 refine fj Tryz.f174 fun args hh x hx=>?_
 unfold dY at hx;split at hx
 ·rename_i pP qP;cases hx;refine q4 fun _ hv=>?_
  obtain⟨jU,ss,hv⟩:=hv;generalize o_ pP=pp at *;subst jU;generalize o_ qP=qp at *;subst ss
  generalize hG:ch (R:=R) _ _=G;refine cJ (T:=Pb) N3 mixed 200 ?_;refine bK (q:=let Z2:=bk ar;let Z1:=(px (Gv.iL.plus aM (bG pp) (bG qp)));((bM pp==(0:Int))=ao->aW (G (bE (aO [Z2 (bM qp),Z2 (px (bG qp))])) [aa (.inl (126,[Z2 (bM pp),Z2 (px (bG pp))])),aa (.inl (126,[Z2 (bM qp),Z2 (px (bG qp))])),aa (.inl (126,[Z2 (bM qp),Z2 (px (bG qp))]))]))/\((bM pp==(0:Int))=an->((bM qp==(0:Int))=ao->aW (G (bE (aO [Z2 (bM pp),Z2 (px (bG pp))])) [aa (.inl (126,[Z2 (bM pp),Z2 (px (bG pp))])),aa (.inl (126,[Z2 (bM qp),Z2 (px (bG qp))])),aa (.inl (126,[Z2 (bM pp),Z2 (px (bG pp))]))]))/\((bM qp==(0:Int))=an->Vc True/\Vc True/\Vc True/\aW (G (bE (aO [Z2 (ck ar (bM pp+bM qp)),Z2 Z1])) [aa (.inl (126,[Z2 (bM pp),Z2 (px (bG pp))])),aa (.inl (126,[Z2 (bM qp),Z2 (px (bG qp))])),aa (.inl (126,[Z2 (ck ar (bM pp+bM qp)),Z2 Z1]))])))) ?_ (by kernel_rfl)
  intro Z2 Z1;subst Z1 Z2;have done:∀ (p:HI Qh) (hp:Hp R),p=ew aM pp qp->G (.agg ⟨bW p⟩) hp:=by
   intro p hp e;subst e;subst hG;exact⟨⟨[],rfl,rfl,trivial,rfl,rfl,rfl,rfl⟩⟩
  clear hG
  repeat' (first|apply cY|apply Vc.mk|apply fits.mk|intro h|apply aW.mk)
  all_goals (try simp only[sB] at *)
  all_goals first|contradiction|omega|exact jm ‹_›|exact jo ‹_›|exact jk ‹_›|exact⟨rfl,by omega⟩|exact rfl|(simp[*,-av];done)|skip
  ·have h:pp.n=0:=by assumption
   exact done qp _ (by rw[ew,if_pos h])
  ·have h:pp.n≠0:=by assumption
   have h2:qp.n=0:=by assumption
   exact done pp _ (by rw[ew,if_neg h,if_pos h2])
  ·have h:pp.n≠0:=by assumption
   have h2:qp.n≠0:=by assumption
   exact done ⟨m7 (pp.n+qp.n),aM.plus pp.sum qp.sum⟩ _ (by rw[ew,if_neg h,if_neg h2])
 ·cases hx
def Ps:ez Rs:=[(120,bJ zN 2 (a9 M0))]
theorem NT:cL D Tryz.prog Ps:=⟨aT _ _ T4,trivial⟩
def j9:Prim Rs:=fun args hh=>match args,hh with
 |[.pointer (aa ⟨0,0,aj⟩),.agg ⟨[.int .i64 ri,.int .i64 rg]⟩],[aa (.inl (132,[.pointer (aa ⟨1,0,aj⟩),.int .i64 ti,.int .i64 tg])),aa (.inr (.inr (.inr (.da m))))]=>aa ⟨PP m,.agg ⟨bj (br aM m ⟨ri,rg⟩)⟩,aj,[aa (.inl (132,[.pointer (aa ⟨1,0,aj⟩),.int .i64 ti,.int .i64 tg])),aa (.inr (.inr (.inr (.da (aJ m ⟨ri,rg⟩)))))],[],[(0,0)]⟩
 |_,_=>aj
theorem look_ok:b6 D Tryz.prog 79 (a9 j9):=by
 refine fj Tryz.f79 fun args hh x hx=>?_
 unfold j9 at hx;split at hx
 ·rename_i ri rg ti tg m;cases hx;refine q4 fun _ hv=>?_
  generalize hG:ch (R:=Rs) _ _=G;refine cJ (T:=Ps) NT mixed 200 ?_;refine bK (q:=Vc (PP m)/\aW (G (bE (aO (bj (jQ zd m (aN ri rg))))) [dD 1 ti tg,oP (aJ m (aN ri rg)),aa (.inl (108,[.int ar ri,.int ar rg])),aa (.inl (128,(bj (jQ zd m (aN ri rg))))),aa (.inl (128,(bj (jQ zd m (aN ri rg)))))])) ?_ (by kernel_rfl)
  subst hG;exact⟨⟨hv⟩,⟨⟨[0,1],rfl,rfl,⟨.inl rfl,rfl,trivial⟩,rfl,rfl,rfl,rfl⟩⟩⟩
 ·cases hx
def T3:ez Rs:=[(1000000000,lL),(102,bJ zN 2 (a9 AB)),(174,bJ zN 2 (a9 dY)),(175,bJ zN 2 (a9 M2))]
theorem QD:cL D Tryz.prog T3:=⟨iu,aT _ _ yw,aT _ _ uz,aT _ _ Vp,trivial⟩
def AZ:Prim Rs:=fun args hh=>match args,hh with
 |[.pointer (aa ⟨0,0,aj⟩),.agg ⟨[.int .i64 ri,.int .i64 rg]⟩,.agg ⟨xN⟩,.agg ⟨yN⟩,.agg ⟨zN⟩],[aa (.inl (132,[.pointer (aa ⟨1,0,aj⟩),.int .i64 ti,.int .i64 tg])),aa (.inr (.inr (.inr (.da m))))]=>aa ⟨xN=bj (fU xN)/\yN=bj (fU yN)/\zN=bj (fU zN)/\(PP m),.agg ⟨[.int .i64 ri,.int .i64 rg]⟩,aj,[aa (.inl (132,[.pointer (aa ⟨1,0,aj⟩),.int .i64 ti,.int .i64 tg])),aa (.inr (.inr (.inr (.da (D3 aM m ⟨ri,rg⟩ (fU xN) (fU yN) (fU zN))))))],[],[(0,0)]⟩
 |_,_=>aj
theorem xy:b6 D Tryz.prog 158 (a9 AZ):=by
 refine fj Tryz.f158 fun args hh x hx=>?_
 unfold AZ at hx;split at hx
 ·rename_i ri rg xN yN zN ti tg m;cases hx;refine q4 fun _ hv=>?_
  obtain⟨jU,ss,FW,hv⟩:=hv;generalize fU xN=xn at *;subst jU;generalize fU yN=yn at *;subst ss;generalize fU zN=zn at *;subst FW
  generalize hG:ch (R:=Rs) _ _=G;refine cJ (T:=T3) QD mixed 200 ?_;refine bK (q:=let Z4:=bk ar;let Z1:=(nN aM (bZ xn));let Z2:=(ew aM (bt yn) Z1);let Z3:=(fy (bZ xn) (bc xn) (bn xn) (ew aM Z2 (bt zn)) (ck ar ((1:Int)+if cu zn>cu yn then cu zn else cu yn)));Vc True/\Vc ((dr (bZ xn))=dr (bZ xn)/\True)/\Vc ([Z4 (bM (bt yn)),Z4 (px (bG (bt yn)))]=bW (bt yn)/\[Z4 (bM Z1),Z4 (px (bG Z1))]=bW Z1/\True)/\Vc ([Z4 (bM Z2),Z4 (px (bG Z2))]=bW Z2/\[Z4 (bM (bt zn)),Z4 (px (bG (bt zn)))]=bW (bt zn)/\True)/\Vc ((bj Z3)=bj Z3/\PP m)/\aW (G (bE (aO [Z4 ri,Z4 rg])) [dD 1 ti tg,oP (tx m (aN ri rg) Z3),aa (.inl (108,[Z4 ri,Z4 rg])),aa (.inl (128,(bj Z3))),aa (.inl (128,(bj yn))),aa (.inl (128,(bj zn))),aa (.inl (108,[Z4 ri,Z4 rg]))])) ?_ (by kernel_rfl)
  intro Z4 Z1 Z2 Z3;subst Z3 Z2 Z1 Z4;subst hG
  repeat' (first|apply cY|apply Vc.mk|apply fits.mk|intro h|apply aW.mk)
  all_goals (try simp only[sB] at *)
  all_goals first|contradiction|omega|exact jm ‹_›|exact jo ‹_›|exact jk ‹_›|exact⟨rfl,by omega⟩|exact rfl|(simp[*,-av];done)|skip
  all_goals first|assumption|exact⟨[0,1],rfl,rfl,⟨.inl rfl,rfl,trivial⟩,rfl,rfl,rfl,rfl⟩
 ·cases hx
def Vj:ez Rs:=[(79,bJ zN 2 (a9 j9)),(158,bJ zN 2 (a9 AZ))]
theorem QF:cL D Tryz.prog Vj:=⟨aT _ _ look_ok,aT _ _ xy,trivial⟩
def Ii:Prim Rs:=fun args hh=>match args,hh with
 |[.pointer (aa ⟨0,0,aj⟩),.agg ⟨[.int .i64 ri,.int .i64 rg]⟩,.agg ⟨xN⟩],[aa (.inl (132,[.pointer (aa ⟨1,0,aj⟩),.int .i64 ti,.int .i64 tg])),aa (.inr (.inr (.inr (.da m))))]=>aa ⟨xN=bj (fU xN)/\(PP m),.agg ⟨[.int .i64 ri,.int .i64 rg]⟩,aj,[aa (.inl (132,[.pointer (aa ⟨1,0,aj⟩),.int .i64 ti,.int .i64 tg])),aa (.inr (.inr (.inr (.da (sM aM m ⟨ri,rg⟩ (fU xN))))))],[],[(0,0)]⟩
 |_,_=>aj
theorem AP:b6 D Tryz.prog 137 (a9 Ii):=by
 refine fj Tryz.f137 fun args hh x hx=>?_
 unfold Ii at hx;split at hx
 ·rename_i ri rg xN ti tg m;cases hx;refine q4 fun _ hv=>?_
  obtain⟨jU,hv⟩:=hv;generalize fU xN=xn at *;subst jU
  generalize hG:ch (R:=Rs) _ _=G;refine cJ (T:=Vj) QF mixed 200 ?_;refine bK (q:=let Z2:=bk ar;let Z1:=(br aM (aJ m (bc xn)) (bn xn));Vc (PP m)/\Vc (PP (aJ m (bc xn)))/\Vc ((bj xn)=bj xn/\(bj (br aM m (bc xn)))=bj (br aM m (bc xn))/\(bj Z1)=bj Z1/\PP (aJ (aJ m (bc xn)) (bn xn)))/\aW (G (bE (aO [Z2 ri,Z2 rg])) [dD 1 ti tg,oP (D3 aM (aJ (aJ m (bc xn)) (bn xn)) (aN ri rg) xn (br aM m (bc xn)) Z1),aa (.inl (108,[Z2 ri,Z2 rg])),aa (.inl (128,(bj xn))),aa (.inl (108,[Z2 ri,Z2 rg]))])) ?_ (by kernel_rfl)
  intro Z2 Z1;subst Z1 Z2;subst hG
  repeat' (first|apply cY|apply Vc.mk|apply fits.mk|intro h|apply aW.mk)
  all_goals (try simp only[sB] at *)
  all_goals first|contradiction|omega|exact jm ‹_›|exact jo ‹_›|exact jk ‹_›|exact⟨rfl,by omega⟩|exact rfl|(simp[*,-av];done)|skip
  all_goals first|assumption|(simp only[iX];assumption)|skip
  exact⟨[0,1],rfl,rfl,⟨.inl rfl,rfl,trivial⟩,rfl,rfl,rfl,rfl⟩
 ·cases hx
def Iv:ez Rs:=[(79,bJ zN 2 (a9 j9)),(137,bJ zN 2 (a9 Ii))]
theorem ET:cL D Tryz.prog Iv:=⟨aT _ _ look_ok,aT _ _ AP,trivial⟩
def Fb:Prim Rs:=fun args hh=>match args,hh with
 |[.pointer (aa ⟨0,0,aj⟩),.agg ⟨[.int .i64 ri,.int .i64 rg]⟩,.agg ⟨xN⟩],[aa (.inl (132,[.pointer (aa ⟨1,0,aj⟩),.int .i64 ti,.int .i64 tg])),aa (.inr (.inr (.inr (.da m))))]=>aa ⟨xN=bj (fU xN)/\(PP m),.agg ⟨[.int .i64 (fU xN).r.i,.int .i64 (fU xN).r.g]⟩,aj,[aa (.inl (132,[.pointer (aa ⟨1,0,aj⟩),.int .i64 ti,.int .i64 tg])),aa (.inr (.inr (.inr (.da (vC aM m ⟨ri,rg⟩ (fU xN))))))],[],[(0,0)]⟩
 |_,_=>aj
theorem By:b6 D Tryz.prog 159 (a9 Fb):=by
 refine fj Tryz.f159 fun args hh x hx=>?_
 unfold Fb at hx;split at hx
 ·rename_i ri rg xN ti tg m;cases hx;refine q4 fun _ hv=>?_
  obtain⟨jU,hv⟩:=hv;generalize fU xN=xn at *;subst jU
  generalize hG:ch (R:=Rs) _ _=G;refine cJ (T:=Iv) ET mixed 200 ?_;refine bK (q:=let Z5:=bk ar;let Z1:=(br aM m (bn xn));let Z2:=(fy (bZ xn) (bc xn) (bc Z1) (bt xn) (cu xn));let Z3:=(fy (bZ Z1) (aN ri rg) (bn Z1) (bt Z1) (cu Z1));let Z4:=(sM aM (aJ m (bn xn)) (aN ri rg) Z2);Vc (PP m)/\Vc ((bj Z2)=bj Z2/\PP (aJ m (bn xn)))/\Vc ((bj Z3)=bj Z3/\PP Z4)/\aW (G (bE (aO [Z5 (cA (bn xn)),Z5 (cB (bn xn))])) [dD 1 ti tg,oP (sM aM Z4 (bn xn) Z3),aa (.inl (108,[Z5 ri,Z5 rg])),aa (.inl (128,(bj Z2))),aa (.inl (108,[Z5 (cA (bn xn)),Z5 (cB (bn xn))])),aa (.inl (108,[Z5 (cA (bn xn)),Z5 (cB (bn xn))])),aa (.inl (128,(bj Z3)))])) ?_ (by kernel_rfl)
  intro Z5 Z1 Z2 Z3 Z4;subst Z4 Z3 Z2 Z1 Z5;subst hG
  repeat' (first|apply cY|apply Vc.mk|apply fits.mk|intro h|apply aW.mk)
  all_goals (try simp only[sB] at *)
  all_goals first|contradiction|omega|exact jm ‹_›|exact jo ‹_›|exact jk ‹_›|exact⟨rfl,by omega⟩|exact rfl|(simp[*,-av];done)|skip
  all_goals first|assumption|(simp only[iX];assumption)|skip
  exact⟨[0,1],rfl,rfl,⟨.inl rfl,rfl,trivial⟩,rfl,rfl,rfl,rfl⟩
 ·cases hx
def Eu:Prim Rs:=fun args hh=>match args,hh with
 |[.pointer (aa ⟨0,0,aj⟩),.agg ⟨[.int .i64 ri,.int .i64 rg]⟩,.agg ⟨xN⟩],[aa (.inl (132,[.pointer (aa ⟨1,0,aj⟩),.int .i64 ti,.int .i64 tg])),aa (.inr (.inr (.inr (.da m))))]=>aa ⟨xN=bj (fU xN)/\(PP m),.agg ⟨[.int .i64 (fU xN).l.i,.int .i64 (fU xN).l.g]⟩,aj,[aa (.inl (132,[.pointer (aa ⟨1,0,aj⟩),.int .i64 ti,.int .i64 tg])),aa (.inr (.inr (.inr (.da (vD aM m ⟨ri,rg⟩ (fU xN))))))],[],[(0,0)]⟩
 |_,_=>aj
theorem BD:b6 D Tryz.prog 160 (a9 Eu):=by
 refine fj Tryz.f160 fun args hh x hx=>?_
 unfold Eu at hx;split at hx
 ·rename_i ri rg xN ti tg m;cases hx;refine q4 fun _ hv=>?_
  obtain⟨jU,hv⟩:=hv;generalize fU xN=xn at *;subst jU
  generalize hG:ch (R:=Rs) _ _=G;refine cJ (T:=Iv) ET mixed 200 ?_;refine bK (q:=let Z5:=bk ar;let Z1:=(br aM m (bc xn));let Z2:=(fy (bZ xn) (bn Z1) (bn xn) (bt xn) (cu xn));let Z3:=(fy (bZ Z1) (bc Z1) (aN ri rg) (bt Z1) (cu Z1));let Z4:=(sM aM (aJ m (bc xn)) (aN ri rg) Z2);Vc (PP m)/\Vc ((bj Z2)=bj Z2/\PP (aJ m (bc xn)))/\Vc ((bj Z3)=bj Z3/\PP Z4)/\aW (G (bE (aO [Z5 (cA (bc xn)),Z5 (cB (bc xn))])) [dD 1 ti tg,oP (sM aM Z4 (bc xn) Z3),aa (.inl (108,[Z5 ri,Z5 rg])),aa (.inl (128,(bj Z2))),aa (.inl (108,[Z5 (cA (bc xn)),Z5 (cB (bc xn))])),aa (.inl (108,[Z5 (cA (bc xn)),Z5 (cB (bc xn))])),aa (.inl (128,(bj Z3)))])) ?_ (by kernel_rfl)
  intro Z5 Z1 Z2 Z3 Z4;subst Z4 Z3 Z2 Z1 Z5;subst hG
  repeat' (first|apply cY|apply Vc.mk|apply fits.mk|intro h|apply aW.mk)
  all_goals (try simp only[sB] at *)
  all_goals first|contradiction|omega|exact jm ‹_›|exact jo ‹_›|exact jk ‹_›|exact⟨rfl,by omega⟩|exact rfl|(simp[*,-av];done)|skip
  all_goals first|assumption|(simp only[iX];assumption)|skip
  exact⟨[0,1],rfl,rfl,⟨.inl rfl,rfl,trivial⟩,rfl,rfl,rfl,rfl⟩
 ·cases hx
def Vz:ez Rs:=[(1000000000,lL),(79,bJ zN 2 (a9 j9)),(158,bJ zN 2 (a9 AZ)),(159,bJ zN 2 (a9 Fb)),(160,bJ zN 2 (a9 Eu))]
theorem Ru:cL D Tryz.prog Vz:=⟨iu,aT _ _ look_ok,aT _ _ xy,aT _ _ By,aT _ _ BD,trivial⟩
def uL:Prim Rs:=fun args hh=>match args,hh with
 |[.pointer (aa ⟨0,0,aj⟩),.agg ⟨[.int .i64 ri,.int .i64 rg]⟩,.agg ⟨xN⟩],[aa (.inl (132,[.pointer (aa ⟨1,0,aj⟩),.int .i64 ti,.int .i64 tg])),aa (.inr (.inr (.inr (.da m))))]=>aa ⟨xN=bj (fU xN)/\(PP m),.agg ⟨[.int .i64 (gq aM m ⟨ri,rg⟩ (fU xN)).1.i,.int .i64 (gq aM m ⟨ri,rg⟩ (fU xN)).1.g]⟩,aj,[aa (.inl (132,[.pointer (aa ⟨1,0,aj⟩),.int .i64 ti,.int .i64 tg])),aa (.inr (.inr (.inr (.da (gq aM m ⟨ri,rg⟩ (fU xN)).2))))],[],[(0,0)]⟩
 |_,_=>aj
theorem sF:b6 D Tryz.prog 139 (a9 uL):=by
 refine fj Tryz.f139 fun args hh x hx=>?_
 unfold uL at hx;split at hx
 ·rename_i ri rg xN ti tg m;cases hx;refine q4 fun _ hv=>?_
  obtain⟨jU,hv⟩:=hv;generalize fU xN=xn at *;subst jU
  generalize hG:ch (R:=Rs) _ _=G;refine cJ (T:=Vz) Ru mixed 200 ?_;refine bK (q:=let dF:=bk ar;let Z1:=(br aM m (bc xn));let Z2:=(br aM (aJ m (bc xn)) (bn xn));let Z3:=(cu Z1>ck ar (cu Z2+(1:Int)));let Z4:=(aJ (aJ m (bc xn)) (bn xn));let Z5:=(cu (br aM Z4 (bn Z1))>cu (br aM (aJ Z4 (bn Z1)) (bc Z1)));let Z6:=(aJ (aJ Z4 (bn Z1)) (bc Z1));let Z7:=(fy (bZ xn) (bn Z1) (bn xn) (bt xn) (cu xn));let Z8:=(cu Z2>ck ar (cu Z1+(1:Int)));let Z9:=(cu (br aM Z4 (bc Z2))>cu (br aM (aJ Z4 (bc Z2)) (bn Z2)));let dX:=(aJ (aJ Z4 (bc Z2)) (bn Z2));let cx:=(fy (bZ xn) (bc xn) (bc Z2) (bt xn) (cu xn));Vc (PP m)/\Vc (PP (aJ m (bc xn)))/\Vc True/\(decide Z3=ao->Vc (PP Z4)/\Vc (PP (aJ Z4 (bn Z1)))/\(decide Z5=ao->Vc ((bj Z1)=bj Z1/\PP Z6)/\Vc ((bj Z7)=bj Z7/\PP (vC aM Z6 (bc xn) Z1))/\aW (G (bE (aO [dF (cA (bc Z7)),dF (cB (bc Z7))])) [dD 1 ti tg,oP (vD aM (vC aM Z6 (bc xn) Z1) (aN ri rg) Z7),aa (.inl (108,[dF ri,dF rg])),aa (.inl (128,(bj Z7))),aa (.inl (108,[dF (cA (bc Z7)),dF (cB (bc Z7))])),aa (.inl (128,(bj Z1))),aa (.inl (128,(bj Z2)))]))/\(decide Z5=an->Vc ((bj xn)=bj xn/\PP Z6)/\aW (G (bE (aO [dF (cA (bc xn)),dF (cB (bc xn))])) [dD 1 ti tg,oP (vD aM Z6 (aN ri rg) xn),aa (.inl (108,[dF ri,dF rg])),aa (.inl (128,(bj xn))),aa (.inl (108,[dF (cA (bc xn)),dF (cB (bc xn))])),aa (.inl (128,(bj Z1))),aa (.inl (128,(bj Z2)))])))/\(decide Z3=an->Vc True/\(decide Z8=ao->Vc (PP Z4)/\Vc (PP (aJ Z4 (bc Z2)))/\(decide Z9=ao->Vc ((bj Z2)=bj Z2/\PP dX)/\Vc ((bj cx)=bj cx/\PP (vD aM dX (bn xn) Z2))/\aW (G (bE (aO [dF (cA (bn cx)),dF (cB (bn cx))])) [dD 1 ti tg,oP (vC aM (vD aM dX (bn xn) Z2) (aN ri rg) cx),aa (.inl (108,[dF ri,dF rg])),aa (.inl (128,(bj cx))),aa (.inl (108,[dF (cA (bn cx)),dF (cB (bn cx))])),aa (.inl (128,(bj Z1))),aa (.inl (128,(bj Z2)))]))/\(decide Z9=an->Vc ((bj xn)=bj xn/\PP dX)/\aW (G (bE (aO [dF (cA (bn xn)),dF (cB (bn xn))])) [dD 1 ti tg,oP (vC aM dX (aN ri rg) xn),aa (.inl (108,[dF ri,dF rg])),aa (.inl (128,(bj xn))),aa (.inl (108,[dF (cA (bn xn)),dF (cB (bn xn))])),aa (.inl (128,(bj Z1))),aa (.inl (128,(bj Z2)))])))/\(decide Z8=an->Vc ((bj xn)=bj xn/\(bj Z1)=bj Z1/\(bj Z2)=bj Z2/\PP Z4)/\aW (G (bE (aO [dF ri,dF rg])) [dD 1 ti tg,oP (D3 aM Z4 (aN ri rg) xn Z1 Z2),aa (.inl (108,[dF ri,dF rg])),aa (.inl (128,(bj xn))),aa (.inl (108,[dF ri,dF rg])),aa (.inl (128,(bj Z1))),aa (.inl (128,(bj Z2)))])))) ?_ (by kernel_rfl)
  intro dF Z1 Z2 Z3 Z4 Z5 Z6 Z7 Z8 Z9 dX cx;subst cx dX Z9 Z8 Z7 Z6 Z5 Z4 Z3 Z2 Z1 dF;have done:∀ (i g:Int) (m':Pl) (rest:Hp Rs),gq aM m ⟨ri,rg⟩ xn=(⟨i,g⟩,m')->G (.agg ⟨[.int .i64 i,.int .i64 g]⟩) ([aa (.inl (132,[.pointer (aa ⟨1,0,aj⟩),.int .i64 ti,.int .i64 tg])),aa (.inr (.inr (.inr (.da m'))))]++rest):=by
   intro i g m' rest e;subst hG;refine⟨[0,1],?_,rfl,⟨.inl rfl,?_,trivial⟩,rfl,rfl,rfl,rfl⟩
   ·simp only[e];rfl
   ·simp only[e];rfl
  clear hG
  repeat' (first|apply cY|apply Vc.mk|apply fits.mk|intro h|apply aW.mk)
  all_goals (try simp only[sB] at *)
  all_goals first|contradiction|omega|exact jm ‹_›|exact jo ‹_›|exact jk ‹_›|exact⟨rfl,by omega⟩|exact rfl|(simp[*,-av];done)|skip
  all_goals first|assumption|(simp only[iX];assumption)|skip
  all_goals (refine done _ _ _ _ ?_;unfold gq;(try dsimp only [m7]);repeat' split)
  all_goals first|rfl|(exfalso;omega)
 ·cases hx
def AF  (k:Nat):Prim Rs:=fun args hh=>match args,hh with
 |[.pointer (aa ⟨0,0,aj⟩),.agg ⟨[.int .i64 ri,.int .i64 rg]⟩,.agg ⟨[.int .i64 fi,.int .i64 fg]⟩,.agg ⟨kE⟩],[aa (.inl (132,[.pointer (aa ⟨1,0,aj⟩),.int .i64 ti,.int .i64 tg])),aa (.inr (.inr (.inr (.da m))))]=>aa ⟨kE=dr (fP kE)/\(PP m/\iY aM k m ⟨ri,rg⟩),.agg ⟨[.int .i64 (nI aM k m ⟨ri,rg⟩ ⟨fi,fg⟩ (fP kE)).1.i,.int .i64 (nI aM k m ⟨ri,rg⟩ ⟨fi,fg⟩ (fP kE)).1.g]⟩,aj,[aa (.inl (132,[.pointer (aa ⟨1,0,aj⟩),.int .i64 ti,.int .i64 tg])),aa (.inr (.inr (.inr (.da (nI aM k m ⟨ri,rg⟩ ⟨fi,fg⟩ (fP kE)).2))))],[],[(0,0)]⟩
 |_,_=>aj
def OO (k:Nat):ez Rs:=[(106,bJ zN 2 (a9 I0)),(79,bJ zN 2 (a9 j9)),(139,bJ zN 2 (a9 uL)),(103,bJ zN 2 (a9 (AF k)))]
theorem xw:∀ k:Nat,b6 D Tryz.prog 103 (a9 (AF k))
 |0=>by
  refine fj Tryz.f103 fun args hh x hx=>?_
  unfold AF at hx;split at hx
  ·rename_i ri rg fi fg kE ti tg m;cases hx;refine q4 fun _ hv=>?_
   exact kK (ic (ic hv))
  ·cases hx
 |k+1=>by
  have ih:=xw k;refine fj Tryz.f103 fun args hh x hx=>?_
  unfold AF at hx;split at hx
  ·rename_i ri rg fi fg kE ti tg m;cases hx;refine q4 fun _ hv=>?_
   obtain⟨jU,hv⟩:=hv;generalize fP kE=ke at *;subst jU;obtain⟨hp,hd⟩:=hv
   generalize hG:ch (R:=Rs) _ _=G;refine cJ (T:=(OO k)) (show cL D Tryz.prog (OO k) from⟨aT _ _ xW,aT _ _ look_ok,aT _ _ sF,aT _ _ ih,trivial⟩) mixed 200 ?_
   refine bK (q:=let cx:=bk ar;let Z1:=(br aM m (aN ri rg));let Z2:=(aJ m (aN ri rg));let Z3:=(fy (bZ Z1) (aA (nI aM k Z2 (bc Z1) (aN fi fg) ke)) (bn Z1) (bt Z1) (cu Z1));let Z4:=(aw (nI aM k Z2 (bc Z1) (aN fi fg) ke));let Z5:=(cA (aA (gq aM Z4 (aN ri rg) Z3)));let Z6:=(cB (aA (gq aM Z4 (aN ri rg) Z3)));let Z7:=(fy (bZ Z1) (bc Z1) (aA (nI aM k Z2 (bn Z1) (aN fi fg) ke)) (bt Z1) (cu Z1));let Z8:=(aw (nI aM k Z2 (bn Z1) (aN fi fg) ke));let Z9:=(cA (aA (gq aM Z8 (aN ri rg) Z7)));let dX:=(cB (aA (gq aM Z8 (aN ri rg) Z7)));Vc (PP m)/\((cu Z1==(0:Int))=ao->aW (G (bE (aO [cx fi,cx fg])) [dD 1 ti tg,oP Z2,aa (.inl (108,[cx ri,cx rg])),aa (.inl (108,[cx fi,cx fg])),aa (.inl (75,(dr ke))),aa (.inl (108,[cx fi,cx fg])),aa (.inl (128,(bj Z1)))]))/\((cu Z1==(0:Int))=an->Vc True/\Vc True/\(decide (gW aM ke (bZ Z1)<(0:Int))=ao->Vc ((dr ke)=dr ke/\PP Z2/\iY aM k Z2 (bc Z1))/\Vc ((bj Z3)=bj Z3/\PP Z4)/\aW (G (bE (aO [cx Z5,cx Z6])) [dD 1 ti tg,oP (aw (gq aM Z4 (aN ri rg) Z3)),aa (.inl (108,[cx ri,cx rg])),aa (.inl (108,[cx fi,cx fg])),aa (.inl (75,(dr ke))),aa (.inl (108,[cx Z5,cx Z6])),aa (.inl (128,(bj Z3)))]))/\(decide (gW aM ke (bZ Z1)<(0:Int))=an->Vc ((dr ke)=dr ke/\PP Z2/\iY aM k Z2 (bn Z1))/\Vc ((bj Z7)=bj Z7/\PP Z8)/\aW (G (bE (aO [cx Z9,cx dX])) [dD 1 ti tg,oP (aw (gq aM Z8 (aN ri rg) Z7)),aa (.inl (108,[cx ri,cx rg])),aa (.inl (108,[cx fi,cx fg])),aa (.inl (75,(dr ke))),aa (.inl (108,[cx Z9,cx dX])),aa (.inl (128,(bj Z7)))])))) ?_ (by kernel_rfl)
   intro cx Z1 Z2 Z3 Z4 Z5 Z6 Z7 Z8 Z9 dX;subst dX Z9 Z8 Z7 Z6 Z5 Z4 Z3 Z2 Z1 cx;simp only[iY] at hd;have done:∀ (i g:Int) (m':Pl) (rest:Hp Rs),nI aM (k+1) m ⟨ri,rg⟩ ⟨fi,fg⟩ ke=(⟨i,g⟩,m')->G (.agg ⟨[.int .i64 i,.int .i64 g]⟩) ([aa (.inl (132,[.pointer (aa ⟨1,0,aj⟩),.int .i64 ti,.int .i64 tg])),aa (.inr (.inr (.inr (.da m'))))]++rest):=by
    intro i g m' rest e;subst hG;refine⟨[0,1],?_,rfl,⟨.inl rfl,?_,trivial⟩,rfl,rfl,rfl,rfl⟩
    ·simp only[e];rfl
    ·simp only[e];rfl
   clear hG
   repeat' (first|apply cY|apply Vc.mk|apply fits.mk|intro h|apply aW.mk)
   all_goals (try simp only[sB] at *)
   all_goals first|contradiction|omega|exact jm ‹_›|exact jo ‹_›|exact jk ‹_›|exact⟨rfl,by omega⟩|exact rfl|(simp[*,-av];done)|skip
   all_goals first|assumption|(simp only[iX];assumption)|skip
   all_goals first|(rw[qB];rcases hd with hd|hd;exfalso;omega;first|exact hd.1|exact hd.2)|skip
   all_goals (refine done _ _ _ _ ?_;rw[nI];(try dsimp only [m7]);repeat' split)
   all_goals first|rfl|(exfalso;omega)|contradiction|exact kf (re (by assumption)) rfl|(exfalso;simp_all;done)
  ·cases hx
def sv  (k:Nat):Prim Rs:=fun args hh=>match args,hh with
 |[.pointer (aa ⟨0,0,aj⟩),.agg ⟨[.int .i64 ri,.int .i64 rg]⟩,.agg ⟨kE⟩],[aa (.inl (132,[.pointer (aa ⟨1,0,aj⟩),.int .i64 ti,.int .i64 tg])),aa (.inr (.inr (.inr (.da m))))]=>aa ⟨kE=dr (fP kE)/\(PP m/\iY aM k m ⟨ri,rg⟩),.bool (nJ aM k m ⟨ri,rg⟩ (fP kE)).1,aj,[aa (.inl (132,[.pointer (aa ⟨1,0,aj⟩),.int .i64 ti,.int .i64 tg])),aa (.inr (.inr (.inr (.da (nJ aM k m ⟨ri,rg⟩ (fP kE)).2))))],[],[(0,0)]⟩
 |_,_=>aj
def Oh (k:Nat):ez Rs:=[(106,bJ zN 2 (a9 I0)),(79,bJ zN 2 (a9 j9)),(137,bJ zN 2 (a9 Ii)),(100,bJ zN 2 (a9 (sv k)))]
theorem rT:∀ k:Nat,b6 D Tryz.prog 100 (a9 (sv k))
 |0=>by
  refine fj Tryz.f100 fun args hh x hx=>?_
  unfold sv at hx;split at hx
  ·rename_i ri rg kE ti tg m;cases hx;refine q4 fun _ hv=>?_
   exact kK (ic (ic hv))
  ·cases hx
 |k+1=>by
  have ih:=rT k;refine fj Tryz.f100 fun args hh x hx=>?_
  unfold sv at hx;split at hx
  ·rename_i ri rg kE ti tg m;cases hx;refine q4 fun _ hv=>?_
   obtain⟨jU,hv⟩:=hv;generalize fP kE=ke at *;subst jU;obtain⟨hp,hd⟩:=hv
   generalize hG:ch (R:=Rs) _ _=G;refine cJ (T:=(Oh k)) (show cL D Tryz.prog (Oh k) from⟨aT _ _ xW,aT _ _ look_ok,aT _ _ AP,aT _ _ ih,trivial⟩) mixed 200 ?_
   refine bK (q:=let Z6:=bk ar;let Z1:=(br aM m (aN ri rg));let Z2:=(aJ m (aN ri rg));let Z3:=(nJ aM k Z2 (bc Z1) ke);let Z4:=(nJ aM k Z2 (bn Z1) ke);let Z5:=(fy ke (bc Z1) (bn Z1) (bt Z1) (cu Z1));Vc (PP m)/\((cu Z1==(0:Int))=ao->aW (G (aD an) [dD 1 ti tg,oP Z2,aa (.inl (108,[Z6 ri,Z6 rg])),aa (.inl (75,(dr ke))),aa (.inl (128,(bj Z1)))]))/\((cu Z1==(0:Int))=an->Vc True/\Vc True/\(decide (gW aM ke (bZ Z1)<(0:Int))=ao->Vc ((dr ke)=dr ke/\PP Z2/\iY aM k Z2 (bc Z1))/\(aA Z3=ao->Vc ((bj Z1)=bj Z1/\PP (aw Z3))/\aW (G (aD (aA Z3)) [dD 1 ti tg,oP (sM aM (aw Z3) (aN ri rg) Z1),aa (.inl (108,[Z6 ri,Z6 rg])),aa (.inl (75,(dr ke))),aa (.inl (128,(bj Z1)))]))/\(aA Z3=an->aW (G (aD (aA Z3)) [dD 1 ti tg,oP (aw Z3),aa (.inl (108,[Z6 ri,Z6 rg])),aa (.inl (75,(dr ke))),aa (.inl (128,(bj Z1)))])))/\(decide (gW aM ke (bZ Z1)<(0:Int))=an->(decide (gW aM ke (bZ Z1)>(0:Int))=ao->Vc ((dr ke)=dr ke/\PP Z2/\iY aM k Z2 (bn Z1))/\(aA Z4=ao->Vc ((bj Z1)=bj Z1/\PP (aw Z4))/\aW (G (aD (aA Z4)) [dD 1 ti tg,oP (sM aM (aw Z4) (aN ri rg) Z1),aa (.inl (108,[Z6 ri,Z6 rg])),aa (.inl (75,(dr ke))),aa (.inl (128,(bj Z1)))]))/\(aA Z4=an->aW (G (aD (aA Z4)) [dD 1 ti tg,oP (aw Z4),aa (.inl (108,[Z6 ri,Z6 rg])),aa (.inl (75,(dr ke))),aa (.inl (128,(bj Z1)))])))/\(decide (gW aM ke (bZ Z1)>(0:Int))=an->Vc ((bj Z5)=bj Z5/\PP Z2)/\aW (G (aD ao) [dD 1 ti tg,oP (sM aM Z2 (aN ri rg) Z5),aa (.inl (108,[Z6 ri,Z6 rg])),aa (.inl (75,(dr ke))),aa (.inl (128,(bj Z5)))]))))) ?_ (by kernel_rfl)
   intro Z6 Z1 Z2 Z3 Z4 Z5;subst Z5 Z4 Z3 Z2 Z1 Z6;simp only[iY] at hd;have done:∀ (b:Bool) (m':Pl) (rest:Hp Rs),nJ aM (k+1) m ⟨ri,rg⟩ ke=(b,m')->G (.bool b) ([aa (.inl (132,[.pointer (aa ⟨1,0,aj⟩),.int .i64 ti,.int .i64 tg])),aa (.inr (.inr (.inr (.da m'))))]++rest):=by
    intro b m' rest e;subst hG;refine⟨[0,1],?_,rfl,⟨.inl rfl,?_,trivial⟩,rfl,rfl,rfl,rfl⟩
    ·simp only[e];rfl
    ·simp only[e];rfl
   clear hG
   repeat' (first|apply cY|apply Vc.mk|apply fits.mk|intro h|apply aW.mk)
   all_goals (try simp only[sB] at *)
   all_goals first|contradiction|omega|exact jm ‹_›|exact jo ‹_›|exact jk ‹_›|exact⟨rfl,by omega⟩|exact rfl|(simp[*,-av];done)|skip
   all_goals first|assumption|(simp only[iX];assumption)|skip
   all_goals first|(rw[qB];rcases hd with hd|hd;exfalso;omega;first|exact hd.1|exact hd.2)|skip
   all_goals (refine done _ _ _ ?_;rw[nJ];(try dsimp only [m7]);repeat' split)
   all_goals first|rfl|(exfalso;omega)|contradiction|exact kf (re (by assumption)) rfl|(exfalso;simp_all;done)
  ·cases hx
def xa  (k:Nat):Prim Rs:=fun args hh=>match args,hh with
 |[.pointer (aa ⟨0,0,aj⟩),.agg ⟨[.int .i64 ri,.int .i64 rg]⟩],[aa (.inl (132,[.pointer (aa ⟨1,0,aj⟩),.int .i64 ti,.int .i64 tg])),aa (.inr (.inr (.inr (.da m))))]=>aa ⟨PP m/\xj aM k m ⟨ri,rg⟩,.tuple #[.agg ⟨[.int .i64 (kg aM k m ⟨ri,rg⟩).1.i,.int .i64 (kg aM k m ⟨ri,rg⟩).1.g]⟩,.agg ⟨[.int .i64 (kg aM k m ⟨ri,rg⟩).2.1.i,.int .i64 (kg aM k m ⟨ri,rg⟩).2.1.g]⟩],aj,[aa (.inl (132,[.pointer (aa ⟨1,0,aj⟩),.int .i64 ti,.int .i64 tg])),aa (.inr (.inr (.inr (.da (kg aM k m ⟨ri,rg⟩).2.2))))],[],[(0,0)]⟩
 |_,_=>aj
def JT (k:Nat):ez Rs:=[(79,bJ zN 2 (a9 j9)),(139,bJ zN 2 (a9 uL)),(165,bJ zN 2 (a9 (xa k)))]
theorem vl:∀ k:Nat,b6 D Tryz.prog 165 (a9 (xa k))
 |0=>by
  refine fj Tryz.f165 fun args hh x hx=>?_
  unfold xa at hx;split at hx
  ·rename_i ri rg ti tg m;cases hx;refine q4 fun _ hv=>?_
   exact kK (ic hv)
  ·cases hx
 |k+1=>by
  have ih:=vl k;refine fj Tryz.f165 fun args hh x hx=>?_
  unfold xa at hx;split at hx
  ·rename_i ri rg ti tg m;cases hx;refine q4 fun _ hv=>?_
   obtain⟨hp,hd⟩:=hv;generalize hG:ch (R:=Rs) _ _=G;refine cJ (T:=(JT k)) (show cL D Tryz.prog (JT k) from⟨aT _ _ look_ok,aT _ _ sF,aT _ _ ih,trivial⟩) mixed 200 ?_
   refine bK (q:=let Z9:=bk ar;let Z1:=(br aM m (aN ri rg));let Z2:=(if an=ao then !(cA (bc Z1)==(0:Int)&&(cB (bc Z1)==(0:Int)&&ao)) else cA (bc Z1)==(0:Int)&&(cB (bc Z1)==(0:Int)&&ao));let Z3:=(aJ m (aN ri rg));let Z4:=(fy (bZ Z1) (aA (kg aM k Z3 (bc Z1))) (bn Z1) (bt Z1) (cu Z1));let Z5:=(aw (aw (kg aM k Z3 (bc Z1))));let Z6:=(cA (aA (gq aM Z5 (aN ri rg) Z4)));let Z7:=(cB (aA (gq aM Z5 (aN ri rg) Z4)));let Z8:=(aA (aw (kg aM k Z3 (bc Z1))));Vc (PP m)/\(Z2=ao->aW (G (cq (aO [.agg (aO [Z9 (cA (bn Z1)),Z9 (cB (bn Z1))]),bE (aO [Z9 ri,Z9 rg])])) [dD 1 ti tg,oP Z3,aa (.inl (108,[Z9 ri,Z9 rg])),aa (.inl (108,[Z9 (cA (bn Z1)),Z9 (cB (bn Z1))])),aa (.inl (108,[Z9 ri,Z9 rg])),aa (.inl (128,(bj Z1)))]))/\(Z2=an->Vc (PP Z3/\xj aM k Z3 (bc Z1))/\Vc ((bj Z4)=bj Z4/\PP Z5)/\aW (G (cq (aO [.agg (aO [Z9 Z6,Z9 Z7]),bE (aO [Z9 (cA Z8),Z9 (cB Z8)])])) [dD 1 ti tg,oP (aw (gq aM Z5 (aN ri rg) Z4)),aa (.inl (108,[Z9 ri,Z9 rg])),aa (.inl (108,[Z9 Z6,Z9 Z7])),aa (.inl (108,[Z9 (cA Z8),Z9 (cB Z8)])),aa (.inl (128,(bj Z4)))]))) ?_ (by kernel_rfl)
   intro Z9 Z1 Z2 Z3 Z4 Z5 Z6 Z7 Z8;subst Z8 Z7 Z6 Z5 Z4 Z3 Z2 Z1 Z9;simp only[xj] at hd;have done:∀ (i g i2 g2:Int) (m':Pl) (rest:Hp Rs),kg aM (k+1) m ⟨ri,rg⟩=(⟨i,g⟩,⟨i2,g2⟩,m')->G (.tuple #[.agg ⟨[.int .i64 i,.int .i64 g]⟩,.agg ⟨[.int .i64 i2,.int .i64 g2]⟩]) ([aa (.inl (132,[.pointer (aa ⟨1,0,aj⟩),.int .i64 ti,.int .i64 tg])),aa (.inr (.inr (.inr (.da m'))))]++rest):=by
    intro i g i2 g2 m' rest e;subst hG;refine⟨[0,1],?_,rfl,⟨.inl rfl,?_,trivial⟩,rfl,rfl,rfl,rfl⟩
    ·simp only[e];rfl
    ·simp only[e];rfl
   clear hG
   try simp only[KU,Bd]
   repeat' (first|apply cY|apply Vc.mk|apply fits.mk|intro h|apply aW.mk)
   all_goals (try simp only[sB] at *)
   all_goals first|contradiction|omega|exact jm ‹_›|exact jo ‹_›|exact jk ‹_›|exact⟨rfl,by omega⟩|exact rfl|(simp[*,-av];done)|skip
   all_goals first|assumption|(simp only[iX];assumption)|skip
   all_goals first|(rw[Dg];first|assumption|(rw[if_neg (by assumption),Dg] at hd;exact hd))|skip
   all_goals (refine done _ _ _ _ _ _ ?_;rw[kg];(try dsimp only [m7]);repeat' split)
   all_goals first|rfl|(exfalso;omega)|contradiction|exact kf (re (by assumption)) rfl|(exfalso;simp_all;done)
  ·cases hx
def A4  (k:Nat):Prim Rs:=fun args hh=>match args,hh with
 |[.pointer (aa ⟨0,0,aj⟩),.agg ⟨[.int .i64 ai,.int .i64 ag]⟩,.agg ⟨[.int .i64 bi,.int .i64 bg]⟩,.agg ⟨[.int .i64 ci,.int .i64 cg]⟩],[aa (.inl (132,[.pointer (aa ⟨1,0,aj⟩),.int .i64 ti,.int .i64 tg])),aa (.inr (.inr (.inr (.da m))))]=>aa ⟨PP m/\vE aM k m ⟨ai,ag⟩ ⟨bi,bg⟩ ⟨ci,cg⟩,.agg ⟨[.int .i64 (kz aM k m ⟨ai,ag⟩ ⟨bi,bg⟩ ⟨ci,cg⟩).1.i,.int .i64 (kz aM k m ⟨ai,ag⟩ ⟨bi,bg⟩ ⟨ci,cg⟩).1.g]⟩,aj,[aa (.inl (132,[.pointer (aa ⟨1,0,aj⟩),.int .i64 ti,.int .i64 tg])),aa (.inr (.inr (.inr (.da (kz aM k m ⟨ai,ag⟩ ⟨bi,bg⟩ ⟨ci,cg⟩).2))))],[],[(0,0)]⟩
 |_,_=>aj
def O2 (k:Nat):ez Rs:=[(1000000000,lL),(79,bJ zN 2 (a9 j9)),(139,bJ zN 2 (a9 uL)),(158,bJ zN 2 (a9 AZ)),(166,bJ zN 2 (a9 (A4 k)))]
theorem xF:∀ k:Nat,b6 D Tryz.prog 166 (a9 (A4 k))
 |0=>by
  refine fj Tryz.f166 fun args hh x hx=>?_
  unfold A4 at hx;split at hx
  ·rename_i ai ag bi bg ci cg ti tg m;cases hx;refine q4 fun _ hv=>?_
   exact kK (ic hv)
  ·cases hx
 |k+1=>by
  have ih:=xF k;refine fj Tryz.f166 fun args hh x hx=>?_
  unfold A4 at hx;split at hx
  ·rename_i ai ag bi bg ci cg ti tg m;cases hx;refine q4 fun _ hv=>?_
   obtain⟨hp,hd⟩:=hv;generalize hG:ch (R:=Rs) _ _=G;refine cJ (T:=(O2 k)) (show cL D Tryz.prog (O2 k) from⟨iu,aT _ _ look_ok,aT _ _ sF,aT _ _ xy,aT _ _ ih,trivial⟩) mixed 200 ?_
   refine bK (q:=let gu:=bk ar;let Z1:=(aN ai ag);let Z2:=(br aM m Z1);let Z3:=(aN ci cg);let Z4:=(br aM (aJ m Z1) Z3);let Z5:=(cu Z2>ck ar (cu Z4+(1:Int)));let Z6:=(aJ (aJ m Z1) Z3);let Z7:=(aN bi bg);let Z8:=(fy (bZ Z2) (bc Z2) (aA (kz aM k Z6 (bn Z2) Z7 Z3)) (bt Z2) (cu Z2));let Z9:=(gq aM (aw (kz aM k Z6 (bn Z2) Z7 Z3)) Z1 Z8);let dX:=(cu Z4>ck ar (cu Z2+(1:Int)));let cx:=(fy (bZ Z4) (aA (kz aM k Z6 Z1 Z7 (bc Z4))) (bn Z4) (bt Z4) (cu Z4));let dF:=(gq aM (aw (kz aM k Z6 Z1 Z7 (bc Z4))) Z3 cx);let fx:=(fy (bZ (br aM Z6 Z7)) Z1 Z3 (bt (br aM Z6 Z7)) (cu (br aM Z6 Z7)));Vc (PP m)/\Vc (PP (aJ m Z1))/\Vc True/\(decide Z5=ao->Vc (PP Z6/\vE aM k Z6 (bn Z2) Z7 Z3)/\Vc ((bj Z8)=bj Z8/\PP (aw (kz aM k Z6 (bn Z2) Z7 Z3)))/\aW (G (bE (aO [gu (cA (aA Z9)),gu (cB (aA Z9))])) [dD 1 ti tg,oP (aw Z9),aa (.inl (108,[gu ai,gu ag])),aa (.inl (108,[gu bi,gu bg])),aa (.inl (108,[gu ci,gu cg])),aa (.inl (108,[gu (cA (aA Z9)),gu (cB (aA Z9))])),aa (.inl (128,(bj Z8))),aa (.inl (128,(bj Z4)))]))/\(decide Z5=an->Vc True/\(decide dX=ao->Vc (PP Z6/\vE aM k Z6 Z1 Z7 (bc Z4))/\Vc ((bj cx)=bj cx/\PP (aw (kz aM k Z6 Z1 Z7 (bc Z4))))/\aW (G (bE (aO [gu (cA (aA dF)),gu (cB (aA dF))])) [dD 1 ti tg,oP (aw dF),aa (.inl (108,[gu ai,gu ag])),aa (.inl (108,[gu bi,gu bg])),aa (.inl (108,[gu ci,gu cg])),aa (.inl (108,[gu (cA (aA dF)),gu (cB (aA dF))])),aa (.inl (128,(bj Z2))),aa (.inl (128,(bj cx)))]))/\(decide dX=an->Vc (PP Z6)/\Vc ((bj fx)=bj fx/\(bj Z2)=bj Z2/\(bj Z4)=bj Z4/\PP (aJ Z6 Z7))/\aW (G (bE (aO [gu bi,gu bg])) [dD 1 ti tg,oP (D3 aM (aJ Z6 Z7) Z7 fx Z2 Z4),aa (.inl (108,[gu ai,gu ag])),aa (.inl (108,[gu bi,gu bg])),aa (.inl (108,[gu ci,gu cg])),aa (.inl (108,[gu bi,gu bg])),aa (.inl (128,(bj Z2))),aa (.inl (128,(bj Z4))),aa (.inl (128,(bj fx)))])))) ?_ (by kernel_rfl)
   intro gu Z1 Z2 Z3 Z4 Z5 Z6 Z7 Z8 Z9 dX cx dF fx;subst fx dF cx dX Z9 Z8 Z7 Z6 Z5 Z4 Z3 Z2 Z1 gu;rw[vE] at hd
   dsimp only [m7] at hd
   have done:∀ (i g:Int) (m':Pl) (rest:Hp Rs),kz aM (k+1) m ⟨ai,ag⟩ ⟨bi,bg⟩ ⟨ci,cg⟩=(⟨i,g⟩,m')->G (.agg ⟨[.int .i64 i,.int .i64 g]⟩) ([aa (.inl (132,[.pointer (aa ⟨1,0,aj⟩),.int .i64 ti,.int .i64 tg])),aa (.inr (.inr (.inr (.da m'))))]++rest):=by
    intro i g m' rest e;subst hG;refine⟨[0,1],?_,rfl,⟨.inl rfl,?_,trivial⟩,rfl,rfl,rfl,rfl⟩
    ·simp only[e];rfl
    ·simp only[e];rfl
   clear hG
   repeat' (first|apply cY|apply Vc.mk|apply fits.mk|intro h|apply aW.mk)
   all_goals (try simp only[sB] at *)
   all_goals first|contradiction|omega|exact jm ‹_›|exact jo ‹_›|exact jk ‹_›|exact⟨rfl,by omega⟩|exact rfl|(simp[*,-av];done)|skip
   all_goals first|assumption|(simp only[iX];assumption)|skip
   all_goals first|(rw[if_pos (by assumption)] at hd;exact hd)|(rw[if_neg (by omega),if_pos (by assumption)] at hd;exact hd)|skip
   all_goals (refine done _ _ _ _ ?_;rw[kz];(try dsimp only [m7]);repeat' split)
   all_goals first|rfl|(exfalso;omega)|contradiction|exact kf (re (by assumption)) rfl|(exfalso;simp_all;done)
  ·cases hx
def IK (K:Nat):Prim Rs:=fun args hh=>match args,hh with
 |[.pointer (aa ⟨0,0,aj⟩),.agg ⟨[.int .i64 ai,.int .i64 ag]⟩,.agg ⟨[.int .i64 ci,.int .i64 cg]⟩],[aa (.inl (132,[.pointer (aa ⟨1,0,aj⟩),.int .i64 ti,.int .i64 tg])),aa (.inr (.inr (.inr (.da m))))]=>aa ⟨PP m/\Fs aM K m ⟨ai,ag⟩ ⟨ci,cg⟩,.agg ⟨[.int .i64 (sq aM K m ⟨ai,ag⟩ ⟨ci,cg⟩).1.i,.int .i64 (sq aM K m ⟨ai,ag⟩ ⟨ci,cg⟩).1.g]⟩,aj,[aa (.inl (132,[.pointer (aa ⟨1,0,aj⟩),.int .i64 ti,.int .i64 tg])),aa (.inr (.inr (.inr (.da (sq aM K m ⟨ai,ag⟩ ⟨ci,cg⟩).2))))],[],[(0,0)]⟩
 |_,_=>aj
def PH (K:Nat):ez Rs:=[(165,bJ zN 2 (a9 (xa K))),(166,bJ zN 2 (a9 (A4 K)))]
theorem HB (K:Nat):b6 D Tryz.prog 146 (a9 (IK K)):=by
 refine fj Tryz.f146 fun args hh x hx=>?_
 unfold IK at hx;split at hx
 ·rename_i ai ag ci cg ti tg m;cases hx;refine q4 fun _ hv=>?_
  obtain⟨hp,hd⟩:=hv;generalize hG:ch (R:=Rs) _ _=G;refine cJ (T:=(PH K)) (show cL D Tryz.prog (PH K) from⟨aT _ _ (vl K),aT _ _ (xF K),trivial⟩) mixed 200 ?_
  refine bK (q:=let Z7:=bk ar;let Z1:=(if an=ao then !(ci==(0:Int)&&(cg==(0:Int)&&ao)) else ci==(0:Int)&&(cg==(0:Int)&&ao));let Z2:=(aw (aw (kg aM K m (aN ci cg))));let Z3:=(aA (aw (kg aM K m (aN ci cg))));let Z4:=(aA (kg aM K m (aN ci cg)));let Z5:=(cA (aA (kz aM K Z2 (aN ai ag) Z3 Z4)));let Z6:=(cB (aA (kz aM K Z2 (aN ai ag) Z3 Z4)));(Z1=ao->aW (G (bE (aO [Z7 ai,Z7 ag])) [dD 1 ti tg,oP m,aa (.inl (108,[Z7 ai,Z7 ag])),aa (.inl (108,[Z7 ci,Z7 cg])),aa (.inl (108,[Z7 ai,Z7 ag]))]))/\(Z1=an->Vc (PP m/\xj aM K m (aN ci cg))/\Vc (PP Z2/\vE aM K Z2 (aN ai ag) Z3 Z4)/\aW (G (bE (aO [Z7 Z5,Z7 Z6])) [dD 1 ti tg,oP (aw (kz aM K Z2 (aN ai ag) Z3 Z4)),aa (.inl (108,[Z7 ai,Z7 ag])),aa (.inl (108,[Z7 ci,Z7 cg])),aa (.inl (108,[Z7 Z5,Z7 Z6])),aa (.inl (108,[Z7 (cA Z4),Z7 (cB Z4)])),aa (.inl (108,[Z7 (cA Z3),Z7 (cB Z3)]))]))) ?_ (by kernel_rfl)
  intro Z7 Z1 Z2 Z3 Z4 Z5 Z6;subst Z6 Z5 Z4 Z3 Z2 Z1 Z7;unfold Fs at hd;have done:∀ (i g:Int) (m':Pl) (rest:Hp Rs),sq aM K m ⟨ai,ag⟩ ⟨ci,cg⟩=(⟨i,g⟩,m')->G (.agg ⟨[.int .i64 i,.int .i64 g]⟩) ([aa (.inl (132,[.pointer (aa ⟨1,0,aj⟩),.int .i64 ti,.int .i64 tg])),aa (.inr (.inr (.inr (.da m'))))]++rest):=by
   intro i g m' rest e;subst hG;refine⟨[0,1],?_,rfl,⟨.inl rfl,?_,trivial⟩,rfl,rfl,rfl,rfl⟩
   ·simp only[e];rfl
   ·simp only[e];rfl
  clear hG
  try simp only[KU,Bd]
  repeat' (first|apply cY|apply Vc.mk|apply fits.mk|intro h|apply aW.mk)
  all_goals (try simp only[sB] at *)
  all_goals first|contradiction|omega|exact jm ‹_›|exact jo ‹_›|exact jk ‹_›|exact⟨rfl,by omega⟩|exact rfl|(simp[*,-av];done)|skip
  all_goals first|assumption|(simp only[iX];assumption)|skip
  all_goals first|(rw[if_neg (by assumption)] at hd;first|exact hd.1|exact hd.2)|skip
  all_goals (refine done _ _ _ _ ?_;unfold sq;(try dsimp only [m7]);repeat' split)
  all_goals first|rfl|(exfalso;omega)|contradiction|exact kf (re (by assumption)) rfl|(exfalso;simp_all;done)
 ·cases hx
def AR (K:Nat) (k:Nat):Prim Rs:=fun args hh=>match args,hh with
 |[.pointer (aa ⟨0,0,aj⟩),.agg ⟨[.int .i64 ri,.int .i64 rg]⟩,.agg ⟨kE⟩],[aa (.inl (132,[.pointer (aa ⟨1,0,aj⟩),.int .i64 ti,.int .i64 tg])),aa (.inr (.inr (.inr (.da m))))]=>aa ⟨kE=dr (fP kE)/\(PP m/\sN aM K k m ⟨ri,rg⟩ (fP kE)),.tuple #[.agg ⟨[.int .i64 (jv aM K k m ⟨ri,rg⟩ (fP kE)).1.i,.int .i64 (jv aM K k m ⟨ri,rg⟩ (fP kE)).1.g]⟩,.agg ⟨[.int .i64 (jv aM K k m ⟨ri,rg⟩ (fP kE)).2.1.i,.int .i64 (jv aM K k m ⟨ri,rg⟩ (fP kE)).2.1.g]⟩],aj,[aa (.inl (132,[.pointer (aa ⟨1,0,aj⟩),.int .i64 ti,.int .i64 tg])),aa (.inr (.inr (.inr (.da (jv aM K k m ⟨ri,rg⟩ (fP kE)).2.2))))],[],[(0,0)]⟩
 |_,_=>aj
def Oo (K:Nat) (k:Nat):ez Rs:=[(106,bJ zN 2 (a9 I0)),(79,bJ zN 2 (a9 j9)),(139,bJ zN 2 (a9 uL)),(146,bJ zN 2 (a9 (IK K))),(115,bJ zN 2 (a9 (AR K k)))]
theorem xv (K:Nat):∀ k:Nat,b6 D Tryz.prog 115 (a9 (AR K k))
 |0=>by
  refine fj Tryz.f115 fun args hh x hx=>?_
  unfold AR at hx;split at hx
  ·rename_i ri rg kE ti tg m;cases hx;refine q4 fun _ hv=>?_
   exact kK (ic (ic hv))
  ·cases hx
 |k+1=>by
  have ih:=xv K k;refine fj Tryz.f115 fun args hh x hx=>?_
  unfold AR at hx;split at hx
  ·rename_i ri rg kE ti tg m;cases hx;refine q4 fun _ hv=>?_
   obtain⟨jU,hv⟩:=hv;generalize fP kE=ke at *;subst jU;obtain⟨hp,hd⟩:=hv
   generalize hG:ch (R:=Rs) _ _=G;refine cJ (T:=(Oo K k)) (show cL D Tryz.prog (Oo K k) from⟨aT _ _ xW,aT _ _ look_ok,aT _ _ sF,aT _ _ (HB K),aT _ _ ih,trivial⟩) mixed 200 ?_
   refine bK (q:=let e9:=bk ar;let Z1:=(br aM m (aN ri rg));let Z2:=(aO [e9 ri,e9 rg]);let Z3:=(aJ m (aN ri rg));let Z4:=(aA (aw (jv aM K k Z3 (bc Z1) ke)));let Z5:=(if an=ao then !(cA Z4==(0:Int)&&(cB Z4==(0:Int)&&ao)) else cA Z4==(0:Int)&&(cB Z4==(0:Int)&&ao));let Z6:=(aw (aw (jv aM K k Z3 (bc Z1) ke)));let Z7:=(fy (bZ Z1) (aA (jv aM K k Z3 (bc Z1) ke)) (bn Z1) (bt Z1) (cu Z1));let Z8:=(cA (aA (gq aM Z6 (aN ri rg) Z7)));let Z9:=(cB (aA (gq aM Z6 (aN ri rg) Z7)));let dX:=(aA (aw (jv aM K k Z3 (bn Z1) ke)));let cx:=(if an=ao then !(cA dX==(0:Int)&&(cB dX==(0:Int)&&ao)) else cA dX==(0:Int)&&(cB dX==(0:Int)&&ao));let dF:=(aw (aw (jv aM K k Z3 (bn Z1) ke)));let fx:=(fy (bZ Z1) (bc Z1) (aA (jv aM K k Z3 (bn Z1) ke)) (bt Z1) (cu Z1));let gu:=(cA (aA (gq aM dF (aN ri rg) fx)));let mP:=(cB (aA (gq aM dF (aN ri rg) fx)));let kS:=(aA (sq aM K Z3 (bc Z1) (bn Z1)));Vc (PP m)/\((cu Z1==(0:Int))=ao->aW (G (cq (aO [.agg Z2,bE (aO [e9 0,e9 0])])) [dD 1 ti tg,oP Z3,aa (.inl (108,[e9 ri,e9 rg])),aa (.inl (75,(dr ke))),aa (.inl (108,[e9 ri,e9 rg])),aa (.inl (108,[e9 0,e9 0])),aa (.inl (128,(bj Z1)))]))/\((cu Z1==(0:Int))=an->Vc True/\Vc True/\(decide (gW aM ke (bZ Z1)<(0:Int))=ao->Vc ((dr ke)=dr ke/\PP Z3/\sN aM K k Z3 (bc Z1) ke)/\(Z5=ao->aW (G (cq (aO [.agg Z2,bE (aO [e9 (cA Z4),e9 (cB Z4)])])) [dD 1 ti tg,oP Z6,aa (.inl (108,[e9 ri,e9 rg])),aa (.inl (75,(dr ke))),aa (.inl (108,[e9 ri,e9 rg])),aa (.inl (108,[e9 (cA Z4),e9 (cB Z4)])),aa (.inl (128,(bj Z7)))]))/\(Z5=an->Vc ((bj Z7)=bj Z7/\PP Z6)/\aW (G (cq (aO [.agg (aO [e9 Z8,e9 Z9]),bE (aO [e9 (cA Z4),e9 (cB Z4)])])) [dD 1 ti tg,oP (aw (gq aM Z6 (aN ri rg) Z7)),aa (.inl (108,[e9 ri,e9 rg])),aa (.inl (75,(dr ke))),aa (.inl (108,[e9 Z8,e9 Z9])),aa (.inl (108,[e9 (cA Z4),e9 (cB Z4)])),aa (.inl (128,(bj Z7)))])))/\(decide (gW aM ke (bZ Z1)<(0:Int))=an->(decide (gW aM ke (bZ Z1)>(0:Int))=ao->Vc ((dr ke)=dr ke/\PP Z3/\sN aM K k Z3 (bn Z1) ke)/\(cx=ao->aW (G (cq (aO [.agg Z2,bE (aO [e9 (cA dX),e9 (cB dX)])])) [dD 1 ti tg,oP dF,aa (.inl (108,[e9 ri,e9 rg])),aa (.inl (75,(dr ke))),aa (.inl (108,[e9 ri,e9 rg])),aa (.inl (108,[e9 (cA dX),e9 (cB dX)])),aa (.inl (128,(bj fx)))]))/\(cx=an->Vc ((bj fx)=bj fx/\PP dF)/\aW (G (cq (aO [.agg (aO [e9 gu,e9 mP]),bE (aO [e9 (cA dX),e9 (cB dX)])])) [dD 1 ti tg,oP (aw (gq aM dF (aN ri rg) fx)),aa (.inl (108,[e9 ri,e9 rg])),aa (.inl (75,(dr ke))),aa (.inl (108,[e9 gu,e9 mP])),aa (.inl (108,[e9 (cA dX),e9 (cB dX)])),aa (.inl (128,(bj fx)))])))/\(decide (gW aM ke (bZ Z1)>(0:Int))=an->Vc (PP Z3/\Fs aM K Z3 (bc Z1) (bn Z1))/\aW (G (cq (aO [.agg (aO [e9 (cA kS),e9 (cB kS)]),bE Z2])) [dD 1 ti tg,oP (aw (sq aM K Z3 (bc Z1) (bn Z1))),aa (.inl (108,[e9 ri,e9 rg])),aa (.inl (75,(dr ke))),aa (.inl (108,[e9 (cA kS),e9 (cB kS)])),aa (.inl (108,[e9 ri,e9 rg])),aa (.inl (128,(bj Z1)))]))))) ?_ (by kernel_rfl)
   intro e9 Z1 Z2 Z3 Z4 Z5 Z6 Z7 Z8 Z9 dX cx dF fx gu mP kS;subst kS mP gu fx dF cx dX Z9 Z8 Z7 Z6 Z5 Z4 Z3 Z2 Z1 e9;rw[sN] at hd;have done:∀ (i g i2 g2:Int) (m':Pl) (rest:Hp Rs),jv aM K (k+1) m ⟨ri,rg⟩ ke=(⟨i,g⟩,⟨i2,g2⟩,m')->G (.tuple #[.agg ⟨[.int .i64 i,.int .i64 g]⟩,.agg ⟨[.int .i64 i2,.int .i64 g2]⟩]) ([aa (.inl (132,[.pointer (aa ⟨1,0,aj⟩),.int .i64 ti,.int .i64 tg])),aa (.inr (.inr (.inr (.da m'))))]++rest):=by
    intro i g i2 g2 m' rest e;subst hG;refine⟨[0,1],?_,rfl,⟨.inl rfl,?_,trivial⟩,rfl,rfl,rfl,rfl⟩
    ·simp only[e];rfl
    ·simp only[e];rfl
   clear hG
   try simp only[KU,Bd]
   repeat' (first|apply cY|apply Vc.mk|apply fits.mk|intro h|apply aW.mk)
   all_goals (try simp only[sB] at *)
   all_goals first|contradiction|omega|exact jm ‹_›|exact jo ‹_›|exact jk ‹_›|exact⟨rfl,by omega⟩|exact rfl|(simp[*,-av];done)|skip
   all_goals first|assumption|(simp only[iX];assumption)|skip
   all_goals first|(rw[if_neg (by assumption),if_pos (by assumption)] at hd;exact hd)|(rw[if_neg (by assumption),if_neg (by omega),if_pos (by assumption)] at hd;exact hd)|(rw[if_neg (by assumption),if_neg (by omega),if_neg (by omega)] at hd;exact hd)|skip
   all_goals (refine done _ _ _ _ _ _ ?_;rw[jv];(try dsimp only [m7]);repeat' split)
   all_goals first|rfl|(exfalso;omega)|contradiction|exact kf (re (by assumption)) rfl|(exfalso;simp_all;done)
  ·cases hx
def uw  (k:Nat):Prim Rs:=fun args hh=>match args,hh with
 |[.pointer (aa ⟨0,0,aj⟩),.slice (aa ⟨1,0,aa 4000⟩) n cp,.agg ⟨[.int .i64 ri,.int .i64 rg]⟩],[aa (.inl (132,[.pointer (aa ⟨2,0,aj⟩),.int .i64 ti,.int .i64 tg])),aa (.inr (.inl (75,⟨[.int .i64 0,.int .i64 0,.bool an,.int .i64 0],n2,[⟨a0,[],[]⟩,⟨a1,[],[]⟩,⟨[],a2,[]⟩,⟨a3,[],[]⟩]⟩))),aa (.inr (.inr (.inr (.da m))))]=>aa ⟨(PP m/\n2=n/\a0.length=n/\a1.length=n/\a2.length=n/\a3.length=n/\n+(bY aM k m ⟨ri,rg⟩).1.length<900000)/\iY aM k m ⟨ri,rg⟩,.slice (aa ⟨3,0,aa 4000⟩) (n+(bY aM k m ⟨ri,rg⟩).1.length) (if(bY aM k m ⟨ri,rg⟩).1.length=0 then cp else 0),aj,[aa (.inl (132,[.pointer (aa ⟨2,0,aj⟩),.int .i64 ti,.int .i64 tg])),aj,aa (.inr (.inr (.inr (.da (bY aM k m ⟨ri,rg⟩).2)))),aa (.inr (.inl (75,⟨[.int .i64 0,.int .i64 0,.bool an,.int .i64 0],(n+(bY aM k m ⟨ri,rg⟩).1.length),[⟨(a0++(bY aM k m ⟨ri,rg⟩).1.map fun e=>e.it.k),[],[]⟩,⟨(a1++(bY aM k m ⟨ri,rg⟩).1.map fun e=>e.it.i),[],[]⟩,⟨[],(a2++(bY aM k m ⟨ri,rg⟩).1.map fun e=>e.kA),[]⟩,⟨(a3++(bY aM k m ⟨ri,rg⟩).1.map fun e=>e.time),[],[]⟩]⟩)))],[],[(0,0)]⟩
 |_,_=>aj
def GM (k:Nat):ez Rs:=[(79,bJ zN 2 (a9 j9)),(93,bJ zN 2 (a9 (uw k)))]
theorem qJ:∀ k:Nat,b6 D Tryz.prog 93 (a9 (uw k))
 |0=>by
  refine fj Tryz.f93 fun args hh x hx=>?_
  unfold uw at hx;split at hx
  ·rename_i n cp ri rg ti tg n2 a0 a1 a2 a3 m;cases hx;refine q4 fun _ hv=>?_
   exact kK (ic hv)
  ·cases hx
 |k+1=>by
  have ih:=qJ k;refine fj Tryz.f93 fun args hh x hx=>?_
  unfold uw at hx;split at hx
  ·rename_i n cp ri rg ti tg n2 a0 a1 a2 a3 m;cases hx;refine q4 fun _ hv=>?_
   obtain⟨⟨hp,rfl,ha0,ha1,ha2,ha3,hb⟩,hd⟩:=hv;generalize hG:ch (R:=Rs) _ _=G;refine cJ (T:=(GM k)) (show cL D Tryz.prog (GM k) from⟨aT _ _ look_ok,aT _ _ ih,trivial⟩) mixed 200 ?_
   refine bK (q:=let Z1:=(br aM m (aN ri rg));let Z2:=(dr (ju (cW 0 0) an 0));let Z3:=(aJ m (aN ri rg));let Z4:=(aA (bY aM k Z3 (bc Z1)));let Z5:=(n2+ae Z4);let Z6:=(aw (bY aM k Z3 (bc Z1)));let Z7:=(bZ Z1);let Z8:=(aA (bY aM k Z6 (bn Z1)));Vc (PP m)/\((cu Z1==(0:Int))=ao->aW (G (bx (aa ⟨1,0,aa 4000⟩) n2 cp) [dD 2 ti tg,aa (.inr (.inl (75,Row.mk Z2 n2 [aX.mk a0 [] [],aX.mk a1 [] [],aX.mk [] a2 [],aX.mk a3 [] []]))),oP Z3,aa (.inl (108,[.int ar ri,.int ar rg])),aa (.inr (.inl (75,Row.mk Z2 0 [aX.mk [] [] [],aX.mk [] [] [],aX.mk [] [] [],aX.mk [] [] []]))),aa (.inl (128,(bj Z1)))]))/\((cu Z1==(0:Int))=an->Vc ((PP Z3/\n2=n2/\ae a0=n2/\ae a1=n2/\ae a2=n2/\ae a3=n2/\n2+ae Z4<900000)/\iY aM k Z3 (bc Z1))/\Vc (0+Z5≤n2+ae Z4/\1≤1/\(n2+ae Z4+1)*32≤140737488355328/\n2+ae Z4+1≤140737488355328)/\Vc ((PP Z6/\n2+ae Z4+1=n2+ae Z4+1/\ae (cut (a0++au (fun e=>m_ (lK e)) Z4) 0 Z5++cut [m_ (lK Z7)] 0 1)=n2+ae Z4+1/\ae (cut (a1++au (fun e=>na (lK e)) Z4) 0 Z5++cut [na (lK Z7)] 0 1)=n2+ae Z4+1/\ae (cut (a2++au (fun e=>o8 e) Z4) 0 Z5++cut [o8 Z7] 0 1)=n2+ae Z4+1/\ae (cut (a3++au (fun e=>qC e) Z4) 0 Z5++cut [qC Z7] 0 1)=n2+ae Z4+1/\n2+ae Z4+1+ae Z8<900000)/\iY aM k Z6 (bn Z1))/\aW (G (bx (aa ⟨9,0,aa 4000⟩) (n2+ae Z4+1+ae Z8) (if ae Z8=0 then 0 else 0)) [dD 2 ti tg,aj,oP (aw (bY aM k Z6 (bn Z1))),aa (.inl (108,[.int ar ri,.int ar rg])),aa (.inr (.inl (75,Row.mk Z2 0 [aX.mk [] [] [],aX.mk [] [] [],aX.mk [] [] [],aX.mk [] [] []]))),aa (.inl (128,(bj Z1))),aj,aa (.inr (.inl (75,Row.mk Z2 1 [aX.mk [m_ (lK Z7)] [] [],aX.mk [na (lK Z7)] [] [],aX.mk [] [o8 Z7] [],aX.mk [qC Z7] [] []]))),aj,aa (.inr (.inl (75,Row.mk Z2 (n2+ae Z4+1+ae Z8) [aX.mk (cut (a0++au (fun e=>m_ (lK e)) Z4) 0 Z5++cut [m_ (lK Z7)] 0 1++au (fun e=>m_ (lK e)) Z8) [] [],aX.mk (cut (a1++au (fun e=>na (lK e)) Z4) 0 Z5++cut [na (lK Z7)] 0 1++au (fun e=>na (lK e)) Z8) [] [],aX.mk [] (cut (a2++au (fun e=>o8 e) Z4) 0 Z5++cut [o8 Z7] 0 1++au (fun e=>o8 e) Z8) [],aX.mk (cut (a3++au (fun e=>qC e) Z4) 0 Z5++cut [qC Z7] 0 1++au (fun e=>qC e) Z8) [] []])))]))) ?_ (by kernel_rfl)
   intro Z1 Z2 Z3 Z4 Z5 Z6 Z7 Z8;subst Z8 Z7 Z6 Z5 Z4 Z3 Z2 Z1;simp only[iY] at hd;subst hG;have c1:∀ x:Int,cut [x] 0 1=[x]:=fun x=>rfl
   have c2:∀ x:Bool,cut [x] 0 1=[x]:=fun x=>rfl
   have e0:(br aM m (⟨ri,rg⟩:bm)).h=0->bY aM (k+1) m (⟨ri,rg⟩:bm)=([],aJ m (⟨ri,rg⟩:bm)):=fun h=>by rw[bY,if_pos h]
   have e1:(br aM m (⟨ri,rg⟩:bm)).h≠0->bY aM (k+1) m (⟨ri,rg⟩:bm)=((bY aM k (aJ m (⟨ri,rg⟩:bm)) (br aM m (⟨ri,rg⟩:bm)).l).1++(br aM m (⟨ri,rg⟩:bm)).e::(bY aM k (bY aM k (aJ m (⟨ri,rg⟩:bm)) (br aM m (⟨ri,rg⟩:bm)).l).2 (br aM m (⟨ri,rg⟩:bm)).r).1,(bY aM k (bY aM k (aJ m (⟨ri,rg⟩:bm)) (br aM m (⟨ri,rg⟩:bm)).l).2 (br aM m (⟨ri,rg⟩:bm)).r).2):=fun h=>by rw[bY,if_neg h]
   have LX:(br aM m (⟨ri,rg⟩:bm)).h≠0->n2+((bY aM k (aJ m (⟨ri,rg⟩:bm)) (br aM m (⟨ri,rg⟩:bm)).l).1.length+((bY aM k (bY aM k (aJ m (⟨ri,rg⟩:bm)) (br aM m (⟨ri,rg⟩:bm)).l).2 (br aM m (⟨ri,rg⟩:bm)).r).1.length+1))<900000:=fun h=>by rw[e1 h] at hb;simpa using hb
   generalize hx:bY aM k (aJ m (⟨ri,rg⟩:bm)) (br aM m (⟨ri,rg⟩:bm)).l=x at *
   generalize hy:bY aM k x.2 (br aM m (⟨ri,rg⟩:bm)).r=y at *
   have hxp:PP x.2:=by rw[← hx];exact Gv.qJ.2 (iZ.2 hp)
   have wX:∀ q,iY aM k x.2 q↔iY aM k m q:=fun q=>by rw[← hx,Gv.L5,qB]
   simp only[fF (show(a0++x.1.map fun e=>e.it.k).length=n2+x.1.length by simp[ha0]),fF (show(a1++x.1.map fun e=>e.it.i).length=n2+x.1.length by simp[ha1]),fF (show(a2++x.1.map fun e=>e.kA).length=n2+x.1.length by simp[ha2]),fF (show(a3++x.1.map fun e=>e.time).length=n2+x.1.length by simp[ha3]),c1,c2,qB,wX]
   repeat' (first|apply cY|apply Vc.mk|apply fits.mk|intro h|apply aW.mk)
   all_goals (try simp only[sB] at *)
   all_goals first|contradiction|omega|exact jm ‹_›|exact jo ‹_›|exact jk ‹_›|exact⟨rfl,by omega⟩|exact rfl|(simp[*,-av];done)|skip
   all_goals first|omega|assumption|exact iZ.2 hp|(rcases hd with hd|hd;exfalso;omega;first|exact hd.1|exact hd.2)|(have:=LX (by assumption);omega)|(simp;omega)|skip
   ·have h0:(br aM m (⟨ri,rg⟩:bm)).h=0:=by assumption
    rw[e0 h0];simp only[jN,if_true];refine⟨[0,1,2,1],?_,rfl,?_,rfl,rfl,rfl,(by kernel_rfl)⟩
    ·rfl
    ·simp[dr,ub,AY,nth,fS,wT,pA,lU,gg,vT,ui,B4,zP,Gd,yQ,AM]
   ·have h0:(br aM m (⟨ri,rg⟩:bm)).h≠0:=by assumption
    rw[e1 h0];have e2:n2+(x.1++(br aM m (⟨ri,rg⟩:bm)).e::y.1).length=n2+x.1.length+1+y.1.length:=by simp;omega
    have e3:(x.1++(br aM m (⟨ri,rg⟩:bm)).e::y.1).length≠0:=by simp
    simp only[e2,if_neg e3,ite_self];refine⟨[0,1,2,9],?_,rfl,?_,rfl,rfl,rfl,(by kernel_rfl)⟩
    ·rfl
    ·simp[dr,ub,AY,nth,fS,wT,pA,lU,gg,vT,ui,B4,zP,Gd,yQ,AM]
     all_goals first|rfl|omega|skip
  ·cases hx
set_option maxHeartbeats 16000000
def V4:ez Rs:=[(131,bJ zN 2 (a9 MF))]
theorem Rf:cL D Tryz.prog V4:=⟨aT _ _ Wd,trivial⟩
def Ir:Prim Rs:=fun args hh=>match args,hh with
 |[.int .i64 c],[]=>aa ⟨True,.pointer (aa ⟨0,0,aj⟩),aj,[aa (.inl (132,[.pointer (aa ⟨1,0,aj⟩),.int .i64 Gv.r0.i,.int .i64 Gv.r0.g])),aa (.inr (.inr (.inr (.da ⟨[],[],[],[],0,min (max c 0) 16777216,0⟩))))],[],[(0,0)]⟩
 |_,_=>aj
theorem QW:b6 D Tryz.prog 91 (a9 Ir):=by
 refine fj Tryz.f91 fun args hh x hx=>?_
 unfold Ir at hx;split at hx
 ·rename_i c;cases hx;refine q4 fun _ hv=>?_
  generalize hG:ch (R:=Rs) _ _=G;refine cJ (T:=V4) Rf mixed 200 ?_;refine bK (q:=Vc True/\aW (G (aC (aa ⟨1,0,aj⟩)) [oP (Gv.PM.mk [] [] [] [] (0:Int) (min (max c (0:Int)) (16777216:Int)) (0:Int)),dD 0 0 0])) ?_ (by kernel_rfl)
  subst hG
  repeat' (first|apply cY|apply Vc.mk|apply fits.mk|intro h|apply aW.mk)
  all_goals (try simp only[sB] at *)
  all_goals first|contradiction|omega|exact jm ‹_›|exact jo ‹_›|exact jk ‹_›|exact⟨rfl,by omega⟩|exact rfl|(simp[*,-av];done)|skip
  exact⟨[1,0],rfl,rfl,⟨.inl rfl,rfl,trivial⟩,rfl,rfl,rfl,rfl⟩
 ·cases hx
def J9:ez Rs:=[(79,bJ zN 2 (a9 j9))]
theorem Kc:cL D Tryz.prog J9:=⟨aT _ _ look_ok,trivial⟩
def BO:Prim Rs:=fun args hh=>match args,hh with
 |[.pointer (aa ⟨0,0,aj⟩)],[aa (.inl (132,[.pointer (aa ⟨1,0,aj⟩),.int .i64 ti,.int .i64 tg])),aa (.inr (.inr (.inr (.da m))))]=>aa ⟨PP m,.int .i64 (br aM m (⟨ti,tg⟩:bm)).all.n,aj,[aa (.inl (132,[.pointer (aa ⟨1,0,aj⟩),.int .i64 ti,.int .i64 tg])),aa (.inr (.inr (.inr (.da (aJ m (⟨ti,tg⟩:bm))))))],[],[(0,0)]⟩
 |_,_=>aj
theorem Kj:b6 D Tryz.prog 38 (a9 BO):=by
 refine fj Tryz.f38 fun args hh x hx=>?_
 unfold BO at hx;split at hx
 ·rename_i ti tg m;cases hx;refine q4 fun _ hv=>?_
  generalize hG:ch (R:=Rs) _ _=G;refine cJ (T:=J9) Kc mixed 200 ?_;refine bK (q:=Vc (PP m)/\aW (G (bk ar (bM (bt (br aM m (aN ti tg))))) [dD 1 ti tg,oP (aJ m (aN ti tg))])) ?_ (by kernel_rfl)
  subst hG
  repeat' (first|apply cY|apply Vc.mk|apply fits.mk|intro h|apply aW.mk)
  all_goals (try simp only[sB] at *)
  all_goals first|contradiction|omega|exact jm ‹_›|exact jo ‹_›|exact jk ‹_›|exact⟨rfl,by omega⟩|exact rfl|(simp[*,-av];done)|skip
  all_goals first|assumption|(simp only[iX];assumption)|skip
  exact⟨[0,1],rfl,rfl,⟨.inl rfl,rfl,trivial⟩,rfl,rfl,rfl,rfl⟩
 ·cases hx
def UP:ez Rs:=[(118,bJ zN 2 (a9 Bu))]
theorem Ro:cL D Tryz.prog UP:=⟨aT _ _ JG,trivial⟩
def yT:Prim Rs:=fun args hh=>match args,hh with
 |[.pointer (aa ⟨0,0,aj⟩)],[aa (.inl (132,[.pointer (aa ⟨1,0,aj⟩),.int .i64 ti,.int .i64 tg])),aa (.inr (.inr (.inr (.da m))))]=>aa ⟨True,.int .i64 m.cX,aj,hh,[],[]⟩
 |_,_=>aj
theorem HR:b6 D Tryz.prog 77 (a9 yT):=by
 refine fj Tryz.f77 fun args hh x hx=>?_
 unfold yT at hx;split at hx
 ·rename_i ti tg m;cases hx;refine q4 fun _ hv=>?_
  generalize hG:ch (R:=Rs) _ _=G;refine cJ (T:=UP) Ro mixed 200 ?_;refine bK (q:=Vc True/\aW (G (bk ar (gV m)) [dD 1 ti tg,oP m])) ?_ (by kernel_rfl)
  subst hG
  repeat' (first|apply cY|apply Vc.mk|apply fits.mk|intro h|apply aW.mk)
  all_goals (try simp only[sB] at *)
  all_goals first|contradiction|omega|exact jm ‹_›|exact jo ‹_›|exact jk ‹_›|exact⟨rfl,by omega⟩|exact rfl|(simp[*,-av];done)|skip
  exact⟨[0,1],rfl,rfl,⟨.inl rfl,rfl,trivial⟩,rfl,rfl,rfl,rfl⟩
 ·cases hx
def H_ (K:Nat):Prim Rs:=fun args hh=>match args,hh with
 |[.pointer (aa ⟨0,0,aj⟩),.agg ⟨kE⟩],[aa (.inl (132,[.pointer (aa ⟨1,0,aj⟩),.int .i64 ti,.int .i64 tg])),aa (.inr (.inr (.inr (.da m))))]=>aa ⟨kE=dr (fP kE)/\(PP m/\Gv.QH aM K m (⟨ti,tg⟩:bm) (fP kE)),.bool (uS aM K m (⟨ti,tg⟩:bm) (fP kE)).1,aj,[aa (.inl (132,[.pointer (aa ⟨1,0,aj⟩),.int .i64 (uS aM K m (⟨ti,tg⟩:bm) (fP kE)).2.1.i,.int .i64 (uS aM K m (⟨ti,tg⟩:bm) (fP kE)).2.1.g])),aa (.inr (.inr (.inr (.da (uS aM K m (⟨ti,tg⟩:bm) (fP kE)).2.2))))],[],[(0,0)]⟩
 |_,_=>aj
def PU (K:Nat):ez Rs:=[(100,bJ zN 2 (a9 (sv K))),(102,bJ zN 2 (a9 AB)),(101,bJ zN 2 (a9 Ic)),(103,bJ zN 2 (a9 (AF K)))]
theorem Q1 (K:Nat):b6 D Tryz.prog 68 (a9 (H_ K)):=by
 refine fj Tryz.f68 fun args hh x hx=>?_
 unfold H_ at hx;split at hx
 ·rename_i kE ti tg m;cases hx;refine q4 fun _ hv=>?_
  obtain⟨jU,hv⟩:=hv;generalize fP kE=ke at *;subst jU;obtain⟨hp,hd⟩:=hv
  generalize hG:ch (R:=Rs) _ _=G;refine cJ (T:=(PU K)) (show cL D Tryz.prog (PU K) from⟨aT _ _ (rT K),aT _ _ yw,aT _ _ tA,aT _ _ (xw K),trivial⟩) mixed 200 ?_
  refine bK (q:=let Z1:=(nJ aM K m (aN ti tg) ke);let Z2:=(fy ke (aN (0:Int) (0:Int)) (aN (0:Int) (0:Int)) (nN aM ke) (1:Int));let Z3:=(tK zd (aw Z1) Z2);let Z4:=(aD !decide (fM (aw Z1)=ib (aw Z1)));let Z5:=(nI aM K Z3 (aN ti tg) (lp zd (aw Z1)) ke);Vc ((dr ke)=dr ke/\PP m/\iY aM K m (aN ti tg))/\(aA Z1=ao->aW (G (aD ao) [dD 1 ti tg,oP (aw Z1),aa (.inl (75,(dr ke)))]))/\(aA Z1=an->Vc ((dr ke)=dr ke/\True)/\Vc ((bj (fy ke (aN 0 0) (aN 0 0) (nN aM ke) 1))=bj Z2/\PP (aw Z1))/\((!decide (fM (aw Z1)=ib (aw Z1)))=ao->Vc ((dr ke)=dr ke/\PP Z3/\iY aM K Z3 (aN ti tg))/\aW (G Z4 [dD 1 (cA (aA Z5)) (cB (aA Z5)),oP (aw Z5),aa (.inl (75,(dr ke))),aa (.inl (108,[.int ar (cA (lp zd (aw Z1))),.int ar (cB (lp zd (aw Z1)))]))]))/\((!decide (fM (aw Z1)=ib (aw Z1)))=an->aW (G Z4 [dD 1 ti tg,oP Z3,aa (.inl (75,(dr ke))),aa (.inl (108,[.int ar (cA (lp zd (aw Z1))),.int ar (cB (lp zd (aw Z1)))]))])))) ?_ (by kernel_rfl)
  intro Z1 Z2 Z3 Z4 Z5;subst Z5 Z4 Z3 Z2 Z1;obtain⟨Vi,wX⟩:=hd;have done:∀ (b:Bool) (i g:Int) (m':Pl) (rest:Hp Rs),uS aM K m (⟨ti,tg⟩:bm) ke=(b,⟨i,g⟩,m')->G (.bool b) ([aa (.inl (132,[.pointer (aa ⟨1,0,aj⟩),.int .i64 (⟨i,g⟩:bm).i,.int .i64 (⟨i,g⟩:bm).g])),aa (.inr (.inr (.inr (.da m'))))]++rest):=by
   intro b i g m' rest e;subst hG;refine⟨[0,1],?_,rfl,⟨.inl ?_,?_,trivial⟩,rfl,rfl,rfl,rfl⟩
   ·simp only[e];rfl
   ·simp only[e];rfl
   ·simp only[e];rfl
  clear hG
  repeat' (first|apply cY|apply Vc.mk|apply fits.mk|intro h|apply aW.mk)
  all_goals (try simp only[sB] at *)
  all_goals first|contradiction|omega|exact jm ‹_›|exact jo ‹_›|exact jk ‹_›|exact⟨rfl,by omega⟩|exact rfl|(simp[*,-av];done)|skip
  all_goals first|assumption|(simp only[iX];assumption)|skip
  all_goals first|exact(wX (by assumption)).1|exact(wX (by assumption)).2|skip
  all_goals (refine done _ _ _ _ _ ?_;unfold uS;repeat' split)
  all_goals first|rfl|(exfalso;simp_all;done)|(refine kf ?_ rfl;simp[*];done)
 ·cases hx
def EU (K:Nat):Prim Rs:=fun args hh=>match args,hh with
 |[.pointer (aa ⟨0,0,aj⟩),.agg ⟨kE⟩],[aa (.inl (132,[.pointer (aa ⟨1,0,aj⟩),.int .i64 ti,.int .i64 tg])),aa (.inr (.inr (.inr (.da m))))]=>aa ⟨kE=dr (fP kE)/\(PP m/\sN aM K K m (⟨ti,tg⟩:bm) (fP kE)),.tuple #[.agg ⟨dr (jR aM K m (⟨ti,tg⟩:bm) (fP kE)).1⟩,.bool (jR aM K m (⟨ti,tg⟩:bm) (fP kE)).2.1],aj,[aa (.inl (132,[.pointer (aa ⟨1,0,aj⟩),.int .i64 (jR aM K m (⟨ti,tg⟩:bm) (fP kE)).2.2.1.i,.int .i64 (jR aM K m (⟨ti,tg⟩:bm) (fP kE)).2.2.1.g])),aa (.inr (.inr (.inr (.da (jR aM K m (⟨ti,tg⟩:bm) (fP kE)).2.2.2))))],[],[(0,0)]⟩
 |_,_=>aj
def JM (K:Nat):ez Rs:=[(115,bJ zN 2 (a9 (AR K K))),(116,bJ zN 2 (a9 Cc))]
theorem Np (K:Nat):b6 D Tryz.prog 75 (a9 (EU K)):=by
 refine fj Tryz.f75 fun args hh x hx=>?_
 unfold EU at hx;split at hx
 ·rename_i kE ti tg m;cases hx;refine q4 fun _ hv=>?_
  obtain⟨jU,hv⟩:=hv;generalize fP kE=ke at *;subst jU;obtain⟨hp,hd⟩:=hv
  generalize hG:ch (R:=Rs) _ _=G;refine cJ (T:=(JM K)) (show cL D Tryz.prog (JM K) from⟨aT _ _ (xv K K),aT _ _ tu,trivial⟩) mixed 200 ?_
  refine bK (q:=let Z1:=(aw (aw (jv aM K K m (aN ti tg) ke)));let Z2:=(aA (aw (jv aM K K m (aN ti tg) ke)));let Z3:=(cA (aA (jv aM K K m (aN ti tg) ke)));let Z4:=(cB (aA (jv aM K K m (aN ti tg) ke)));Vc ((dr ke)=dr ke/\PP m/\sN aM K K m (aN ti tg) ke)/\Vc (PP Z1)/\aW (G (cq (aO [.agg (aO (dr (bZ (jQ zd Z1 Z2)))),.bool (yE Z1 Z2)])) [dD 1 Z3 Z4,oP (wh zd Z1 Z2),aa (.inl (75,(dr ke))),aa (.inl (75,(dr (bZ (jQ zd Z1 Z2))))),aa (.inl (108,[.int ar Z3,.int ar Z4])),aa (.inl (108,[.int ar (cA Z2),.int ar (cB Z2)])),aa (.inl (128,(bj (jQ zd Z1 Z2))))])) ?_ (by kernel_rfl)
  intro Z1 Z2 Z3 Z4;subst Z4 Z3 Z2 Z1;subst hG
  repeat' (first|apply cY|apply Vc.mk|apply fits.mk|intro h|apply aW.mk)
  all_goals (try simp only[sB] at *)
  all_goals first|contradiction|omega|exact jm ‹_›|exact jo ‹_›|exact jk ‹_›|exact⟨rfl,by omega⟩|exact rfl|(simp[*,-av];done)|skip
  all_goals first|assumption|(simp only[iX];assumption)|skip
  exact⟨[0,1],rfl,rfl,⟨.inl rfl,rfl,trivial⟩,rfl,rfl,rfl,rfl⟩
 ·cases hx
theorem N4:Ll [0] (a9 BO):=by
 intro b args h x hx i hi hl;cases b with
 |false=>cases hx
 |true =>
  simp only[a9,jb.go,BO] at hx;split at hx
  ·injection hx with hx
   subst hx;simp only[List.mem_singleton] at hi;subst hi
   rfl
  ·cases hx
def HY (K:Nat):Prim Rs:=fun args hh=>match args,hh with
 |[.pointer (aa ⟨0,0,aj⟩)],[aa (.inl (132,[.pointer (aa ⟨1,0,aj⟩),.int .i64 ti,.int .i64 tg])),aa (.inr (.inr (.inr (.da m))))]=>aa ⟨PP m/\iY aM K m (⟨ti,tg⟩:bm)/\(br aM m (⟨ti,tg⟩:bm)).all.n=(bY aM K (aJ m (⟨ti,tg⟩:bm)) (⟨ti,tg⟩:bm)).1.length/\(bY aM K (aJ m (⟨ti,tg⟩:bm)) (⟨ti,tg⟩:bm)).1.length<900000,.slice (aa ⟨2,0,aa 4000⟩) (bY aM K (aJ m (⟨ti,tg⟩:bm)) (⟨ti,tg⟩:bm)).1.length 0,aj,[aa (.inl (132,[.pointer (aa ⟨1,0,aj⟩),.int .i64 ti,.int .i64 tg])),aa (.inr (.inr (.inr (.da (bY aM K (aJ m (⟨ti,tg⟩:bm)) (⟨ti,tg⟩:bm)).2)))),aa (.inr (.inl (75,⟨[.int .i64 0,.int .i64 0,.bool an,.int .i64 0],(bY aM K (aJ m (⟨ti,tg⟩:bm)) (⟨ti,tg⟩:bm)).1.length,[⟨((bY aM K (aJ m (⟨ti,tg⟩:bm)) (⟨ti,tg⟩:bm)).1.map fun e=>e.it.k),[],[]⟩,⟨((bY aM K (aJ m (⟨ti,tg⟩:bm)) (⟨ti,tg⟩:bm)).1.map fun e=>e.it.i),[],[]⟩,⟨[],((bY aM K (aJ m (⟨ti,tg⟩:bm)) (⟨ti,tg⟩:bm)).1.map fun e=>e.kA),[]⟩,⟨((bY aM K (aJ m (⟨ti,tg⟩:bm)) (⟨ti,tg⟩:bm)).1.map fun e=>e.time),[],[]⟩]⟩)))],[],[(0,0)]⟩
 |_,_=>aj
def Px (K:Nat):ez Rs:=[(38,Cs [0] 2 (a9 BO)),(93,bJ zN 2 (a9 (uw K)))]
theorem Rb (K:Nat):b6 D Tryz.prog 61 (a9 (HY K)):=by
 refine fj Tryz.f61 fun args hh x hx=>?_
 unfold HY at hx;split at hx
 ·rename_i ti tg m;cases hx;refine q4 fun _ hv=>?_
  obtain⟨hp,hd⟩:=hv;generalize hG:ch (R:=Rs) _ _=G;refine cJ (T:=(Px K)) (show cL D Tryz.prog (Px K) from⟨CL _ _ Kj N4,aT _ _ (qJ K),trivial⟩) mixed 200 ?_
  refine bK (q:=let Z1:=(bt (br aM m (aN ti tg)));let Z2:=(bY aM K (aJ m (aN ti tg)) (aN ti tg));Vc (PP m)/\Vc ((0:Int)≤(0:Int)/\(0:Int)≤bM Z1/\bM Z1*(32:Int)≤(140737488355328:Int)/\bM Z1≤(140737488355328:Int))/\Vc ((PP (aJ m (aN ti tg))/\0=0/\0=0/\0=0/\0=0/\0=0/\0+ae (aA Z2)<900000)/\iY aM K (aJ m (aN ti tg)) (aN ti tg))/\aW (G (bx (aa ⟨4,0,aa 4000⟩) (0+ae (aA Z2)) (if ae (aA Z2)=0 then aH (bM Z1) else 0)) [dD 1 ti tg,oP (aw Z2),aa (.inr (.inl (75,Row.mk (dr (ju (cW 0 0) an 0)) 0 [aX.mk [] [] [],aX.mk [] [] [],aX.mk [] [] [],aX.mk [] [] []]))),aj,aa (.inr (.inl (75,Row.mk (dr (ju (cW 0 0) an 0)) (0+ae (aA Z2)) [aX.mk ([]++au (fun e=>m_ (lK e)) (aA Z2)) [] [],aX.mk ([]++au (fun e=>na (lK e)) (aA Z2)) [] [],aX.mk [] ([]++au (fun e=>o8 e) (aA Z2)) [],aX.mk ([]++au (fun e=>qC e) (aA Z2)) [] []])))])) ?_ (by kernel_rfl)
  intro Z1 Z2;subst Z2 Z1;subst hG;obtain⟨Vi,wX,hd4⟩:=hd;have hd5:=(qB (s:=(⟨ti,tg⟩:bm))).2 Vi;have e2:(if(bY aM K (aJ m (⟨ti,tg⟩:bm)) (⟨ti,tg⟩:bm)).1.length=0 then(br aM m (⟨ti,tg⟩:bm)).all.n.toNat else 0)=0:=by rw[wX];split<;>omega
  simp only[e2,bV,List.nil_append]
  repeat' (first|apply cY|apply Vc.mk|apply fits.mk|intro h|apply aW.mk)
  all_goals (try simp only[sB] at *)
  all_goals first|contradiction|omega|exact jm ‹_›|exact jo ‹_›|exact jk ‹_›|exact⟨rfl,by omega⟩|exact rfl|(simp[*,-av];done)|skip
  all_goals first|omega|assumption|exact iZ.2 hp|(simp;done)|skip
  refine⟨[0,1,4],?_,rfl,?_,rfl,rfl,rfl,rfl⟩
  ·rfl
  ·simp[dr,ub,AY,nth,fS,wT,pA,lU,gg,vT,ui,B4,zP,Gd,yQ,AM]
   all_goals first|rfl|skip
 ·cases hx
def EI (K:Nat):Prim Rs:=fun args hh=>match args,hh with
 |[.pointer (aa ⟨0,0,aj⟩),.agg ⟨kE⟩],[aa (.inl (132,[.pointer (aa ⟨1,0,aj⟩),.int .i64 ti,.int .i64 tg])),aa (.inr (.inr (.inr (.da m))))]=>aa ⟨kE=dr (fP kE)/\(PP m/\vF aM K (aJ m (⟨ti,tg⟩:bm)) (br aM m (⟨ti,tg⟩:bm)) (fP kE)),.tuple #[.agg ⟨dr (iB aM K (aJ m (⟨ti,tg⟩:bm)) (br aM m (⟨ti,tg⟩:bm)) (fP kE)).1.1⟩,.bool (iB aM K (aJ m (⟨ti,tg⟩:bm)) (br aM m (⟨ti,tg⟩:bm)) (fP kE)).1.2],aj,[aa (.inl (132,[.pointer (aa ⟨1,0,aj⟩),.int .i64 ti,.int .i64 tg])),aa (.inr (.inr (.inr (.da (iB aM K (aJ m (⟨ti,tg⟩:bm)) (br aM m (⟨ti,tg⟩:bm)) (fP kE)).2))))],[],[(0,0)]⟩
 |_,_=>aj
def Am (K:Nat):ez Rs:=[(79,bJ zN 2 (a9 j9)),(106,bJ zN 2 (a9 I0))]
theorem M4 (K:Nat):b6 D Tryz.prog 94 (a9 (EI K)):=by
 refine fj Tryz.f94 fun args hh x hx=>?_
 unfold EI at hx;split at hx
 ·rename_i kE ti tg m;cases hx;refine q4 fun _ hv=>?_
  obtain⟨jU,hv⟩:=hv;generalize fP kE=ke at *;subst jU;obtain⟨hp,hd⟩:=hv
  generalize hG:ch (R:=Rs) _ _=G;refine cJ (T:=(Am K)) (show cL D Tryz.prog (Am K) from⟨aT _ _ look_ok,aT _ _ xW,trivial⟩) mixed 200 ?_
  refine bK (q:=let Z1:=(aC (aa ⟨0,0,aj⟩));Vc (PP m)/\At D Tryz.prog (dJ Tryz.f94) 2 (iE Tryz.prog (dA (dC Tryz.f94)) G) [.inl [1,1,0,0],.inr (.inl 0),.inl [1,1,1]] (SS.mk (aa Z1::aa (bE (aO (dr ke)))::aj::aa (aC (aa ⟨2,0,aj⟩))::aa (aC (aa ⟨3,0,aj⟩))::aa (aD an)::aa (aC (aa ⟨4,0,aj⟩))::aj::aj::aa Z1::aa Z1::aa Z1::aa (aC (aa ⟨0,1,aj⟩))::aa (bE (aO [.int ar ti,.int ar tg]))::aa (bE (aO (bj (br aM m (aN ti tg)))))::nH (n4 (aj::aj::aj::[]))) [(5,an)] [dD 1 ti tg,oP (aJ m (aN ti tg)),aa (.inl (75,(dr ke))),aa (.inl (75,(dr (ju (cW 0 0) an 0)))),aa (.inl (128,(bj (br aM m (aN ti tg)))))])) ?_ (by kernel_rfl)
  intro Z1;subst Z1;refine⟨⟨hp⟩,?_⟩;refine kH (by kernel_rfl) (ι:=Nat×Nd×Pl) (fun s=>PP s.2.2/\vF aM s.1 s.2.2 s.2.1 ke/\iB aM s.1 s.2.2 s.2.1 ke=iB aM K (aJ m (⟨ti,tg⟩:bm)) (br aM m (⟨ti,tg⟩:bm)) ke) [0,3,4,5,6] (fun s=>[.pointer (aa ⟨0,0,aj⟩),.pointer (aa ⟨2,0,aj⟩),.pointer (aa ⟨3,0,aj⟩),.bool an,.pointer (aa ⟨4,0,aj⟩)]) (fun s=>[aa (.inl (132,[.pointer (aa ⟨1,0,aj⟩),.int .i64 ti,.int .i64 tg])),aa (.inr (.inr (.inr (.da s.2.2)))),aa (.inl (75,dr ke)),aa (.inl (75,[.int .i64 0,.int .i64 0,.bool an,.int .i64 0])),aa (.inl (128,bj s.2.1))]) (fun s=>s.1) (Tryz.f94).ntmps (fun s hs=>⟨rfl,rfl,tM _ _⟩) ⟨(K,br aM m (⟨ti,tg⟩:bm),aJ m (⟨ti,tg⟩:bm)),⟨iZ.2 hp,hd,rfl⟩,⟨[0,1,2,3,4],rfl,⟨.inl rfl,rfl,.inl rfl,.inl rfl,.inl rfl,trivial⟩,rfl,rfl,rfl,rfl⟩⟩ fun s hs=>?_
  obtain⟨k,n,m2⟩:=s;obtain⟨s1,s2,s3⟩:=hs;simp only at s1 s2 s3;rcases k with _|k
  ·exact s2.elim
  refine cJ (T:=Am K) (show cL D Tryz.prog (Am K) from⟨aT _ _ look_ok,aT _ _ xW,trivial⟩) mixed 200 ?_
  refine bK (q:=let Z5:=aC (aa ⟨4,0,aj⟩);let Z6:=aC (aa ⟨3,0,aj⟩);let Z7:=aC (aa ⟨0,0,aj⟩);let Z8:=aC (aa ⟨2,0,aj⟩);let Z1:=(gW aM ke (bZ (aA (n,m2)))==(0:Int));let Z2:=(aw (n,m2));let Z3:=(gW aM ke (bZ (aA (n,m2)))<(0:Int));let Z4:=(dr (ju (cW 0 0) an 0));(decide (cu (aA (n,m2))>(0:Int))=ao->Vc True/\Vc True/\(Z1=ao->aW (G (cq (aO [.agg (aO (dr (bZ (aA (n,m2))))),.bool ao])) [dD 1 ti tg,oP Z2,aa (.inl (75,(dr ke))),aa (.inl (75,(dr (bZ (aA (n,m2)))))),aa (.inl (128,(bj (aA (n,m2)))))]))/\(Z1=an->(decide Z3=ao->Vc (PP Z2)/\aW (∃ j,(PP (aw (aw j))/\vF aM (aA j) (aw (aw j)) (aA (aw j)) ke/\iB aM (aA j) (aw (aw j)) (aA (aw j)) ke=iB aM K (aJ m (aN ti tg)) (br aM m (aN ti tg)) ke)/\aA j<k+1/\j6 Rs 2 (pf Tryz.f94) [0,3,4,5,6] [Z7,Z8,Z6,.bool an,Z5] [dD 1 ti tg,oP (aw (aw j)),aa (.inl ((75:TypeId),dr ke)),aa (.inl ((75:TypeId),Z4)),aa (.inl ((128:TypeId),bj (aA (aw j))))] [aa (Z7),aa (Z8),aa (Z6),aa (aD an),aa (Z5)] [dD 1 ti tg,oP (aJ Z2 (bc (aA (n,m2)))),aa (.inl (75,(dr ke))),aa (.inl (75,Z4)),aa (.inl (128,(bj (br aM Z2 (bc (aA (n,m2)))))))] 38))/\(decide Z3=an->Vc (PP Z2)/\aW (∃ j,(PP (aw (aw j))/\vF aM (aA j) (aw (aw j)) (aA (aw j)) ke/\iB aM (aA j) (aw (aw j)) (aA (aw j)) ke=iB aM K (aJ m (aN ti tg)) (br aM m (aN ti tg)) ke)/\aA j<k+1/\j6 Rs 2 (pf Tryz.f94) [0,3,4,5,6] [Z7,Z8,Z6,.bool an,Z5] [dD 1 ti tg,oP (aw (aw j)),aa (.inl ((75:TypeId),dr ke)),aa (.inl ((75:TypeId),Z4)),aa (.inl ((128:TypeId),bj (aA (aw j))))] [aa (Z7),aa (Z8),aa (Z6),aa (aD an),aa (Z5)] [dD 1 ti tg,oP (aJ Z2 (bn (aA (n,m2)))),aa (.inl (75,(dr ke))),aa (.inl (75,Z4)),aa (.inl (128,(bj (br aM Z2 (bn (aA (n,m2)))))))] 38))))/\(decide (cu (aA (n,m2))>(0:Int))=an->aW (G (cq (aO [.agg (aO Z4),.bool an])) [dD 1 ti tg,oP Z2,aa (.inl (75,(dr ke))),aa (.inl (75,Z4)),aa (.inl (128,(bj (aA (n,m2))))),aa (.inl (75,Z4))]))) ?_ (by kernel_rfl)
  intro Z5 Z6 Z7 Z8 Z1 Z2 Z3 Z4;subst Z4 Z3 Z2 Z1 Z8 Z7 Z6 Z5;rw[vF] at s2;rw[iB] at s3;subst hG
  repeat' (first|apply cY|apply Vc.mk|apply fits.mk|intro h|apply aW.mk)
  all_goals (try simp only[sB] at *)
  all_goals first|contradiction|omega|exact jm ‹_›|exact jo ‹_›|exact jk ‹_›|exact⟨rfl,by omega⟩|exact rfl|(simp[*,-av];done)|skip
  all_goals first|assumption|skip
  ·have h1:n.h>0:=by assumption
   have h2:aM.cmp ke n.e=0:=by assumption
   rw[if_pos h1,if_pos h2] at s3;rw[← s3];exact⟨[0,1],rfl,rfl,⟨.inl rfl,rfl,trivial⟩,rfl,rfl,rfl,rfl⟩
  ·have h1:n.h>0:=by assumption
   have h2:aM.cmp ke n.e≠0:=by assumption
   have h3:aM.cmp ke n.e<0:=by assumption
   rw[if_pos h1,if_neg h2,if_pos h3] at s3;exact⟨(k,br aM m2 n.l,aJ m2 n.l),⟨iZ.2 s1,(s2 h1 h2).1 (by omega),s3⟩,fC _,⟨[0,1,2,3,4],rfl,⟨.inl rfl,rfl,.inl rfl,.inl rfl,.inl rfl,trivial⟩,rfl,rfl,rfl,rfl⟩⟩
  ·have h1:n.h>0:=by assumption
   have h2:aM.cmp ke n.e≠0:=by assumption
   have h3:¬ aM.cmp ke n.e<0:=by omega
   rw[if_pos h1,if_neg h2,if_neg h3] at s3;exact⟨(k,br aM m2 n.r,aJ m2 n.r),⟨iZ.2 s1,(s2 h1 h2).2 (by omega),s3⟩,fC _,⟨[0,1,2,3,4],rfl,⟨.inl rfl,rfl,.inl rfl,.inl rfl,.inl rfl,trivial⟩,rfl,rfl,rfl,rfl⟩⟩
  ·have h1:¬ n.h>0:=by omega
   rw[if_neg h1] at s3;rw[← s3];exact⟨[0,1],rfl,rfl,⟨.inl rfl,rfl,trivial⟩,rfl,rfl,rfl,rfl⟩
 ·cases hx
def D9 (K:Nat):Prim Rs:=fun args hh=>match args,hh with
 |[.pointer (aa ⟨0,0,aj⟩),.agg ⟨kE⟩],[aa (.inl (132,[.pointer (aa ⟨1,0,aj⟩),.int .i64 ti,.int .i64 tg])),aa (.inr (.inr (.inr (.da m))))]=>aa ⟨kE=dr (fP kE)/\(PP m/\vG aM K (aJ m (⟨ti,tg⟩:bm)) (br aM m (⟨ti,tg⟩:bm)) (fP kE) 0),.int .i64 (lO aM K (aJ m (⟨ti,tg⟩:bm)) (br aM m (⟨ti,tg⟩:bm)) (fP kE) 0).1,aj,[aa (.inl (132,[.pointer (aa ⟨1,0,aj⟩),.int .i64 ti,.int .i64 tg])),aa (.inr (.inr (.inr (.da (lO aM K (aJ m (⟨ti,tg⟩:bm)) (br aM m (⟨ti,tg⟩:bm)) (fP kE) 0).2))))],[],[(0,0)]⟩
 |_,_=>aj
def Au (K:Nat):ez Rs:=[(1000000000,lL),(79,bJ zN 2 (a9 j9)),(106,bJ zN 2 (a9 I0))]
theorem MT (K:Nat):b6 D Tryz.prog 129 (a9 (D9 K)):=by
 refine fj Tryz.f129 fun args hh x hx=>?_
 unfold D9 at hx;split at hx
 ·rename_i kE ti tg m;cases hx;refine q4 fun _ hv=>?_
  obtain⟨jU,hv⟩:=hv;generalize fP kE=ke at *;subst jU;obtain⟨hp,hd⟩:=hv
  generalize hG:ch (R:=Rs) _ _=G;refine cJ (T:=(Au K)) (show cL D Tryz.prog (Au K) from⟨iu,aT _ _ look_ok,aT _ _ xW,trivial⟩) mixed 200 ?_
  refine bK (q:=let Z1:=(aC (aa ⟨0,0,aj⟩));Vc (PP m)/\At D Tryz.prog (dJ Tryz.f129) 2 (iE Tryz.prog (dA (dC Tryz.f129)) G) [.inl [1,1,1,0,0],.inr (.inl 0),.inl [1,1,1,1]] (SS.mk (aa Z1::aa (bE (aO (dr ke)))::aj::aa (aC (aa ⟨2,0,aj⟩))::aa (bk ar 0)::aa (bk ar 0)::aa (aC (aa ⟨3,0,aj⟩))::aj::aa Z1::aa Z1::aa Z1::aa (aC (aa ⟨0,1,aj⟩))::aa (bE (aO [.int ar ti,.int ar tg]))::aa (bE (aO (bj (br aM m (aN ti tg)))))::nH (n4 (n4 (n4 ([]))))) [] [dD 1 ti tg,oP (aJ m (aN ti tg)),aa (.inl (75,(dr ke))),aa (.inl (128,(bj (br aM m (aN ti tg)))))])) ?_ (by kernel_rfl)
  intro Z1;subst Z1;refine⟨⟨hp⟩,?_⟩;refine kH (by kernel_rfl) (ι:=Nat×Nd×Pl×Int) (fun s=>PP s.2.2.1/\vG aM s.1 s.2.2.1 s.2.1 ke s.2.2.2/\lO aM s.1 s.2.2.1 s.2.1 ke s.2.2.2=lO aM K (aJ m (⟨ti,tg⟩:bm)) (br aM m (⟨ti,tg⟩:bm)) ke 0) [0,3,5,6] (fun s=>[.pointer (aa ⟨0,0,aj⟩),.pointer (aa ⟨2,0,aj⟩),.int .i64 s.2.2.2,.pointer (aa ⟨3,0,aj⟩)]) (fun s=>[aa (.inl (132,[.pointer (aa ⟨1,0,aj⟩),.int .i64 ti,.int .i64 tg])),aa (.inr (.inr (.inr (.da s.2.2.1)))),aa (.inl (75,dr ke)),aa (.inl (128,bj s.2.1))]) (fun s=>s.1) (Tryz.f129).ntmps (fun s hs=>⟨rfl,rfl,tM _ _⟩) ⟨(K,br aM m (⟨ti,tg⟩:bm),aJ m (⟨ti,tg⟩:bm),0),⟨iZ.2 hp,hd,rfl⟩,⟨[0,1,2,3],rfl,⟨.inl rfl,rfl,.inl rfl,.inl rfl,trivial⟩,rfl,rfl,rfl,rfl⟩⟩ fun s hs=>?_
  obtain⟨k,n,m2,c⟩:=s;obtain⟨s1,s2,s3⟩:=hs;simp only at s1 s2 s3;rcases k with _|k
  ·exact s2.elim
  refine cJ (T:=Au K) (show cL D Tryz.prog (Au K) from⟨iu,aT _ _ look_ok,aT _ _ xW,trivial⟩) mixed 200 ?_
  refine bK (q:=let Z3:=aC (aa ⟨3,0,aj⟩);let Z4:=aC (aa ⟨0,0,aj⟩);let Z5:=aC (aa ⟨2,0,aj⟩);let Z6:=bk ar;let Z1:=(aA (n,m2,c));let Z2:=(aA (aw (n,m2,c)));(decide (cu Z1>(0:Int))=ao->Vc True/\Vc True/\(decide (gW aM ke (bZ Z1)≤(0:Int))=ao->Vc (PP Z2)/\aW (∃ j,(PP (aA (aw (aw j)))/\vG aM (aA j) (aA (aw (aw j))) (aA (aw j)) ke (aw (aw (aw j)))/\lO aM (aA j) (aA (aw (aw j))) (aA (aw j)) ke (aw (aw (aw j)))=lO aM K (aJ m (aN ti tg)) (br aM m (aN ti tg)) ke (0:Int))/\aA j<k+1/\j6 Rs 2 (pf Tryz.f129) [0,3,5,6] [Z4,Z5,Z6 (aw (aw (aw j))),Z3] [dD 1 ti tg,oP (aA (aw (aw j))),aa (.inl ((75:TypeId),dr ke)),aa (.inl ((128:TypeId),bj (aA (aw j))))] [aa (Z4),aa (Z5),aa (Z6 (aw (aw (n,m2,c)))),aa (Z3)] [dD 1 ti tg,oP (aJ Z2 (bc Z1)),aa (.inl (75,(dr ke))),aa (.inl (128,(bj (br aM Z2 (bc Z1)))))] 42))/\(decide (gW aM ke (bZ Z1)≤(0:Int))=an->Vc (PP Z2)/\Vc True/\Vc True/\aW (∃ j,(PP (aA (aw (aw j)))/\vG aM (aA j) (aA (aw (aw j))) (aA (aw j)) ke (aw (aw (aw j)))/\lO aM (aA j) (aA (aw (aw j))) (aA (aw j)) ke (aw (aw (aw j)))=lO aM K (aJ m (aN ti tg)) (br aM m (aN ti tg)) ke (0:Int))/\aA j<k+1/\j6 Rs 2 (pf Tryz.f129) [0,3,5,6] [Z4,Z5,Z6 (aw (aw (aw j))),Z3] [dD 1 ti tg,oP (aA (aw (aw j))),aa (.inl ((75:TypeId),dr ke)),aa (.inl ((128:TypeId),bj (aA (aw j))))] [aa (Z4),aa (Z5),aa (Z6 (ck ar (aw (aw (n,m2,c))+ck ar (bM (bt Z1)-bM (bt (br aM Z2 (bn Z1))))))),aa (Z3)] [dD 1 ti tg,oP (aJ Z2 (bn Z1)),aa (.inl (75,(dr ke))),aa (.inl (128,(bj (br aM Z2 (bn Z1))))),aa (.inl (128,(bj (br aM Z2 (bn Z1)))))] 42)))/\(decide (cu Z1>(0:Int))=an->aW (G (Z6 (aw (aw (n,m2,c)))) [dD 1 ti tg,oP Z2,aa (.inl (75,(dr ke))),aa (.inl (128,(bj Z1)))]))) ?_ (by kernel_rfl)
  intro Z3 Z4 Z5 Z6 Z1 Z2;subst Z2 Z1 Z6 Z5 Z4 Z3;rw[vG] at s2;rw[lO] at s3;subst hG
  repeat' (first|apply cY|apply Vc.mk|apply fits.mk|intro h|apply aW.mk)
  all_goals (try simp only[sB] at *)
  all_goals first|contradiction|omega|exact jm ‹_›|exact jo ‹_›|exact jk ‹_›|exact⟨rfl,by omega⟩|exact rfl|(simp[*,-av];done)|skip
  all_goals first|assumption|skip
  ·have h1:n.h>0:=by assumption
   have h2:aM.cmp ke n.e≤0:=by assumption
   rw[if_pos h1,if_pos h2] at s3;exact⟨(k,br aM m2 n.l,aJ m2 n.l,c),⟨iZ.2 s1,(s2 h1).1 (by omega),s3⟩,fC _,⟨[0,1,2,3],rfl,⟨.inl rfl,rfl,.inl rfl,.inl rfl,trivial⟩,rfl,rfl,rfl,rfl⟩⟩
  ·have h1:n.h>0:=by assumption
   have h2:¬ aM.cmp ke n.e≤0:=by omega
   rw[if_pos h1,if_neg h2] at s3;exact⟨(k,br aM m2 n.r,aJ m2 n.r,m7 (c+m7 (n.all.n-(br aM m2 n.r).all.n))),⟨iZ.2 s1,(s2 h1).2 (by omega),s3⟩,fC _,⟨[0,1,2,3],rfl,⟨.inl rfl,rfl,.inl rfl,.inl rfl,trivial⟩,rfl,rfl,rfl,rfl⟩⟩
  ·have h1:¬ n.h>0:=by omega
   rw[if_neg h1] at s3;rw[← s3];exact⟨[0,1],rfl,rfl,⟨.inl rfl,rfl,trivial⟩,rfl,rfl,rfl,rfl⟩
 ·cases hx
def M1 (K:Nat):Prim Rs:=fun args hh=>match args,hh with
 |[.pointer (aa ⟨0,0,aj⟩),.int .i64 i_],[aa (.inl (132,[.pointer (aa ⟨1,0,aj⟩),.int .i64 ti,.int .i64 tg])),aa (.inr (.inr (.inr (.da m))))]=>aa ⟨PP m/\Gv.AtD aM K m (⟨ti,tg⟩:bm) i_,.tuple #[.agg ⟨dr (lA aM K m (⟨ti,tg⟩:bm) i_).1.1⟩,.bool (lA aM K m (⟨ti,tg⟩:bm) i_).1.2],aj,[aa (.inl (132,[.pointer (aa ⟨1,0,aj⟩),.int .i64 ti,.int .i64 tg])),aa (.inr (.inr (.inr (.da (lA aM K m (⟨ti,tg⟩:bm) i_).2))))],[],[(0,0)]⟩
 |_,_=>aj
def Ih (K:Nat):ez Rs:=[(1000000000,lL),(79,bJ zN 2 (a9 j9))]
theorem V3 (K:Nat):b6 D Tryz.prog 122 (a9 (M1 K)):=by
 refine fj Tryz.f122 fun args hh x hx=>?_
 unfold M1 at hx;split at hx
 ·rename_i i_ ti tg m;cases hx;refine q4 fun _ hv=>?_
  obtain⟨hp,hd⟩:=hv;generalize hG:ch (R:=Rs) _ _=G;refine cJ (T:=(Ih K)) (show cL D Tryz.prog (Ih K) from⟨iu,aT _ _ look_ok,trivial⟩) mixed 200 ?_
  refine bK (q:=let Z3:=bk ar;let Z1:=(i_≥bM (bt (br aM m (aN ti tg))));let Z2:=(aC (aa ⟨0,0,aj⟩));Vc (PP m)/\(decide (i_<(0:Int))=an->(decide Z1=ao->aW (G (cq (aO [.agg (aO (dr (ju (cW 0 0) an 0))),.bool an])) [dD 1 ti tg,oP (aJ m (aN ti tg)),aa (.inl (75,(dr (ju (cW 0 0) an 0)))),aa (.inl (75,(dr (ju (cW 0 0) an 0)))),aa (.inl (128,(bj (br aM m (aN ti tg)))))]))/\(decide Z1=an->At D Tryz.prog (dJ Tryz.f122) 2 (iE Tryz.prog (dA (dC Tryz.f122)) G) [.inl [1,1,1,1,0],.inr (.inl 0)] (SS.mk (aa Z2::aa (Z3 i_)::aj::aj::aa (aC (aa ⟨2,0,aj⟩))::aa (aD an)::aa (aC (aa ⟨3,0,aj⟩))::aa (aC (aa ⟨4,0,aj⟩))::aj::aa Z2::aa Z2::aa Z2::aa (aC (aa ⟨0,1,aj⟩))::aa (bE (aO [Z3 ti,Z3 tg]))::aa (bE (aO (bj (br aM m (aN ti tg)))))::aa (Z3 i_)::aa (aD (decide (i_<(0:Int))))::aa (aD an)::aa (Z3 i_)::aa (aC (aa ⟨4,8,aj⟩))::aa (aC (aa ⟨4,8,aj⟩))::aa (Z3 (bM (bt (br aM m (aN ti tg)))))::aa (aD (decide Z1))::aa (aD an)::nH (n4 (n4 (n4 ([]))))) [(23,an),(17,an),(5,an)] [dD 1 ti tg,oP (aJ m (aN ti tg)),aa (.inl (75,(dr (ju (cW 0 0) an 0)))),aa (.inl (75,(dr (ju (cW 0 0) an 0)))),aa (.inl (128,(bj (br aM m (aN ti tg)))))])))/\(decide (i_<(0:Int))=ao->aW (G (cq (aO [.agg (aO (dr (ju (cW 0 0) an 0))),.bool an])) [dD 1 ti tg,oP (aJ m (aN ti tg)),aa (.inl (75,(dr (ju (cW 0 0) an 0)))),aa (.inl (75,(dr (ju (cW 0 0) an 0)))),aa (.inl (128,(bj (br aM m (aN ti tg)))))]))) ?_ (by kernel_rfl)
  intro Z3 Z1 Z2;subst Z2 Z1 Z3;have n1:i_<0∨i_≥(br aM m (⟨ti,tg⟩:bm)).all.n->G (.tuple #[.agg ⟨[.int .i64 0,.int .i64 0,.bool an,.int .i64 0]⟩,.bool an])=G (.tuple #[.agg ⟨[.int .i64 0,.int .i64 0,.bool an,.int .i64 0]⟩,.bool an]):=fun _=>rfl
  have en:∀ rest,i_<0∨i_≥(br aM m (⟨ti,tg⟩:bm)).all.n->G (.tuple #[.agg ⟨[.int .i64 0,.int .i64 0,.bool an,.int .i64 0]⟩,.bool an]) ([aa (.inl (132,[.pointer (aa ⟨1,0,aj⟩),.int .i64 ti,.int .i64 tg])),aa (.inr (.inr (.inr (.da (aJ m (⟨ti,tg⟩:bm))))))]++rest):=by
   intro rest h;have e:lA aM K m (⟨ti,tg⟩:bm) i_=((aM.e0,an),aJ m (⟨ti,tg⟩:bm)):=by rw[lA,if_pos h]
   subst hG;rw[e];exact⟨[0,1],rfl,rfl,⟨.inl rfl,rfl,trivial⟩,rfl,rfl,rfl,rfl⟩
  refine⟨⟨hp⟩,fun h=>⟨fun h2=>⟨en _ (.inr (by simpa using h2))⟩,fun h2=>?_⟩,fun h=>⟨en _ (.inl (by simpa using h))⟩⟩
  have h3:¬ i_<0:=by simpa using h
  have h4:¬ i_≥(br aM m (⟨ti,tg⟩:bm)).all.n:=by simpa using h2
  have ee:lA aM K m (⟨ti,tg⟩:bm) i_=(((oU aM K (aJ m (⟨ti,tg⟩:bm)) (br aM m (⟨ti,tg⟩:bm)) i_).1,ao),(oU aM K (aJ m (⟨ti,tg⟩:bm)) (br aM m (⟨ti,tg⟩:bm)) i_).2):=by rw[lA,if_neg (by omega)]
  have wX:=hd h3 h4;refine kH (by kernel_rfl) (ι:=Nat×Nd×Pl×Int) (fun s=>PP s.2.2.1/\B_ aM s.1 s.2.2.1 s.2.1 s.2.2.2/\oU aM s.1 s.2.2.1 s.2.1 s.2.2.2=oU aM K (aJ m (⟨ti,tg⟩:bm)) (br aM m (⟨ti,tg⟩:bm)) i_) [0,1,4,7] (fun s=>[.pointer (aa ⟨0,0,aj⟩),.int .i64 s.2.2.2,.pointer (aa ⟨2,0,aj⟩),.pointer (aa ⟨3,0,aj⟩)]) (fun s=>[aa (.inl (132,[.pointer (aa ⟨1,0,aj⟩),.int .i64 ti,.int .i64 tg])),aa (.inr (.inr (.inr (.da s.2.2.1)))),aa (.inl (75,[.int .i64 0,.int .i64 0,.bool an,.int .i64 0])),aa (.inl (128,bj s.2.1))]) (fun s=>s.1) (Tryz.f122).ntmps (fun s hs=>⟨rfl,rfl,tM _ _⟩) ⟨(K,br aM m (⟨ti,tg⟩:bm),aJ m (⟨ti,tg⟩:bm),i_),⟨iZ.2 hp,wX,rfl⟩,⟨[0,1,2,4],rfl,⟨.inl rfl,rfl,.inl rfl,.inl rfl,trivial⟩,rfl,rfl,rfl,rfl⟩⟩ fun s hs=>?_
  obtain⟨k,n,m2,c⟩:=s;obtain⟨s1,s2,s3⟩:=hs;simp only at s1 s2 s3;rcases k with _|k
  ·exact s2.elim
  refine cJ (T:=Ih K) (show cL D Tryz.prog (Ih K) from⟨iu,aT _ _ look_ok,trivial⟩) mixed 200 ?_
  refine bK (q:=let Z4:=aC (aa ⟨3,0,aj⟩);let Z5:=aC (aa ⟨0,0,aj⟩);let Z6:=aC (aa ⟨2,0,aj⟩);let Z1:=(aw (n,m2,c));let Z2:=(br aM (aA Z1) (bc (aA (n,m2,c))));let Z3:=(aJ (aA Z1) (bc (aA (n,m2,c))));Vc (PP (aA Z1))/\((aw Z1==bM (bt Z2))=ao->aW (G (cq (aO [.agg (aO (dr (bZ (aA (n,m2,c))))),.bool ao])) [dD 1 ti tg,oP Z3,aa (.inl (75,(dr (bZ (aA (n,m2,c)))))),aa (.inl (128,(bj (aA (n,m2,c))))),aa (.inl (128,(bj Z2)))]))/\((aw Z1==bM (bt Z2))=an->(decide (aw Z1<bM (bt Z2))=ao->aW (∃ j,(PP (aA (aw (aw j)))/\B_ aM (aA j) (aA (aw (aw j))) (aA (aw j)) (aw (aw (aw j)))/\oU aM (aA j) (aA (aw (aw j))) (aA (aw j)) (aw (aw (aw j)))=oU aM K (aJ m (aN ti tg)) (br aM m (aN ti tg)) i_)/\aA j<k+1/\j6 Rs 2 (pf Tryz.f122) [0,1,4,7] [Z5,.int ar (aw (aw (aw j))),Z6,Z4] [dD 1 ti tg,oP (aA (aw (aw j))),aa (.inl ((75:TypeId),(dr (ju (cW 0 0) an 0)))),aa (.inl ((128:TypeId),bj (aA (aw j))))] [aa (Z5),aa (bk ar (aw Z1)),aa (Z6),aa (Z4)] [dD 1 ti tg,oP Z3,aa (.inl (75,(dr (ju (cW 0 0) an 0)))),aa (.inl (128,(bj Z2))),aa (.inl (128,(bj Z2)))] 52))/\(decide (aw Z1<bM (bt Z2))=an->Vc True/\Vc True/\Vc (PP Z3)/\aW (∃ j,(PP (aA (aw (aw j)))/\B_ aM (aA j) (aA (aw (aw j))) (aA (aw j)) (aw (aw (aw j)))/\oU aM (aA j) (aA (aw (aw j))) (aA (aw j)) (aw (aw (aw j)))=oU aM K (aJ m (aN ti tg)) (br aM m (aN ti tg)) i_)/\aA j<k+1/\j6 Rs 2 (pf Tryz.f122) [0,1,4,7] [Z5,.int ar (aw (aw (aw j))),Z6,Z4] [dD 1 ti tg,oP (aA (aw (aw j))),aa (.inl ((75:TypeId),(dr (ju (cW 0 0) an 0)))),aa (.inl ((128:TypeId),bj (aA (aw j))))] [aa (Z5),aa (bk ar (ck ar (aw Z1-ck ar (bM (bt Z2)+(1:Int))))),aa (Z6),aa (Z4)] [dD 1 ti tg,oP (aJ Z3 (bn (aA (n,m2,c)))),aa (.inl (75,(dr (ju (cW 0 0) an 0)))),aa (.inl (128,(bj (br aM Z3 (bn (aA (n,m2,c))))))),aa (.inl (128,(bj Z2)))] 52)))) ?_ (by kernel_rfl)
  intro Z4 Z5 Z6 Z1 Z2 Z3;subst Z3 Z2 Z1 Z6 Z5 Z4;rw[B_] at s2;rw[oU] at s3;subst hG
  repeat' (first|apply cY|apply Vc.mk|apply fits.mk|intro h|apply aW.mk)
  all_goals (try simp only[sB] at *)
  all_goals first|contradiction|omega|exact jm ‹_›|exact jo ‹_›|exact jk ‹_›|exact⟨rfl,by omega⟩|exact rfl|(simp[*,-av];done)|skip
  all_goals first|assumption|exact iZ.2 s1|skip
  ·have h1:c=(br aM m2 n.l).all.n:=by assumption
   rw[if_pos h1] at s3;rw[ee,← s3];exact⟨[0,1],rfl,rfl,⟨.inl rfl,rfl,trivial⟩,rfl,rfl,rfl,rfl⟩
  ·have h1:c≠(br aM m2 n.l).all.n:=by assumption
   have h2:c<(br aM m2 n.l).all.n:=by assumption
   rw[if_neg h1,if_pos h2] at s3;exact⟨(k,br aM m2 n.l,aJ m2 n.l,c),⟨iZ.2 s1,(s2 h1).1 (by omega),s3⟩,fC _,⟨[0,1,2,3],rfl,⟨.inl rfl,rfl,.inl rfl,.inl rfl,trivial⟩,rfl,rfl,rfl,rfl⟩⟩
  ·have h1:c≠(br aM m2 n.l).all.n:=by assumption
   have h2:¬ c<(br aM m2 n.l).all.n:=by omega
   rw[if_neg h1,if_neg h2] at s3;exact⟨(k,br aM (aJ m2 n.l) n.r,aJ (aJ m2 n.l) n.r,m7 (c-m7 ((br aM m2 n.l).all.n+1))),⟨iZ.2 (iZ.2 s1),(s2 h1).2 (by omega),s3⟩,fC _,⟨[0,1,2,3],rfl,⟨.inl rfl,rfl,.inl rfl,.inl rfl,trivial⟩,rfl,rfl,rfl,rfl⟩⟩
 ·cases hx
end G9
namespace G9
open Rx
open Gv (KK)
set_option maxRecDepth 100000
set_option maxHeartbeats 8000000
def H6:Prim Rt:=fun args hh=>match args,hh with
 |[.int .i64 c],[]=>aa ⟨True,.pointer (aa ⟨0,0,aj⟩),aj,[oT (qU k9 c)],[],[(0,0)]⟩
 |_,_=>aj
theorem Q7:b6 D2 Tryz.prog 91 (a9 H6):=by
 refine nr (c:=a9 Ir) QW fun args hh x hx=>?_
 unfold H6 at hx;split at hx
 ·rename_i c;cases hx;refine⟨du _,lM rfl,(fun hw=>by cases hw),fun hv=>⟨⟨_,.inl ⟨rfl,rfl⟩,rfl,?_,?_,?_⟩,rfl,rfl⟩⟩
  ·trivial
  ·rfl
  ·rfl
 ·cases hx
def AA:Prim Rt:=fun args hh=>match args,hh with
 |[.pointer (aa ⟨0,0,aj⟩)],[aa (.inr (.inr (.inr (.tree s))))]=>aa ⟨s.gk,.int .i64 s.l.length,aj,[oT s.seen],[],[(0,0)]⟩
 |_,_=>aj
theorem BR:b6 D2 Tryz.prog 38 (a9 AA):=by
 refine nr (c:=a9 BO) Kj fun args hh x hx=>?_
 unfold AA at hx;split at hx
 ·rename_i s;cases hx;refine⟨a_ _,lM rfl,(fun hw=>by cases hw),fun hv=>⟨⟨_,.inl ⟨rfl,rfl⟩,rfl,?_,?_,?_⟩,rfl,rfl⟩⟩
  ·exact s.pp hv
  ·rfl
  ·exact congrArg (bk ar) s.ok.nn
 ·cases hx
def IC:Prim Rt:=fun args hh=>match args,hh with
 |[.pointer (aa ⟨0,0,aj⟩)],[aa (.inr (.inr (.inr (.tree s))))]=>aa ⟨True,.int .i64 s.m.cX,aj,hh,[],[]⟩
 |_,_=>aj
theorem QC:b6 D2 Tryz.prog 77 (a9 IC):=by
 refine nr (c:=a9 yT) HR fun args hh x hx=>?_
 unfold IC at hx;split at hx
 ·rename_i s;cases hx;refine⟨a_ _,lM rfl,(fun _=>rfl),fun hv=>⟨⟨_,.inl ⟨rfl,rfl⟩,rfl,?_,?_,?_⟩,rfl,rfl⟩⟩
  ·trivial
  ·rfl
  ·rfl
 ·cases hx
def Dt:Prim Rt:=fun args hh=>match args,hh with
 |[.pointer (aa ⟨0,0,aj⟩),.agg ⟨[.int .i64 k0,.int .i64 k1,.bool k2,.int .i64 k3]⟩],[aa (.inr (.inr (.inr (.tree s))))]=>aa ⟨s.kV (⟨⟨k0,k1⟩,k2,k3⟩:jG),.bool (s.KB (⟨⟨k0,k1⟩,k2,k3⟩:jG)),aj,[oT (s.put (⟨⟨k0,k1⟩,k2,k3⟩:jG))],[],[(0,0)]⟩
 |_,_=>aj
theorem G7:b6 D2 Tryz.prog 68 (a9 Dt):=by
 refine nr (c:=a9 (H_ KK)) (Q1 KK) fun args hh x hx=>?_
 unfold Dt at hx;split at hx
 ·rename_i k0 k1 k2 k3 s;cases hx;refine⟨a_ _,lM rfl,(fun hw=>by cases hw),fun hv=>⟨⟨_,.inl ⟨rfl,rfl⟩,rfl,?_,?_,?_⟩,rfl,rfl⟩⟩
  ·exact⟨rfl,s.pp hv.lT,(Fw hv).1⟩
  ·rw[Wr hv];rfl
  ·exact congrArg aD (Fw hv).2.1
 ·cases hx
def CH:Prim Rt:=fun args hh=>match args,hh with
 |[.pointer (aa ⟨0,0,aj⟩),.agg ⟨[.int .i64 k0,.int .i64 k1,.bool k2,.int .i64 k3]⟩],[aa (.inr (.inr (.inr (.tree s))))]=>aa ⟨s.gk,.tuple #[.agg ⟨[.int .i64 (fv aM (⟨⟨k0,k1⟩,k2,k3⟩:jG) s.l).1.it.k,.int .i64 (fv aM (⟨⟨k0,k1⟩,k2,k3⟩:jG) s.l).1.it.i,.bool (fv aM (⟨⟨k0,k1⟩,k2,k3⟩:jG) s.l).1.kA,.int .i64 (fv aM (⟨⟨k0,k1⟩,k2,k3⟩:jG) s.l).1.time]⟩,.bool (fv aM (⟨⟨k0,k1⟩,k2,k3⟩:jG) s.l).2],aj,[oT (s.drop (⟨⟨k0,k1⟩,k2,k3⟩:jG))],[],[(0,0)]⟩
 |_,_=>aj
theorem Io:b6 D2 Tryz.prog 75 (a9 CH):=by
 refine nr (c:=a9 (EU KK)) (Np KK) fun args hh x hx=>?_
 unfold CH at hx;split at hx
 ·rename_i k0 k1 k2 k3 s;cases hx;refine⟨a_ _,lM rfl,(fun hw=>by cases hw),fun hv=>⟨⟨_,.inl ⟨rfl,rfl⟩,rfl,?_,?_,?_⟩,rfl,rfl⟩⟩
  ·exact⟨rfl,s.pp hv,(s.tu (⟨⟨k0,k1⟩,k2,k3⟩:jG)).1⟩
  ·rfl
  ·obtain⟨_,h1,h2,_⟩:=s.tu (⟨⟨k0,k1⟩,k2,k3⟩:jG);show cq #[.agg ⟨[.int .i64 (jR aM KK s.m s.r (⟨⟨k0,k1⟩,k2,k3⟩:jG)).1.it.k,.int .i64 (jR aM KK s.m s.r (⟨⟨k0,k1⟩,k2,k3⟩:jG)).1.it.i,.bool (jR aM KK s.m s.r (⟨⟨k0,k1⟩,k2,k3⟩:jG)).1.kA,.int .i64 (jR aM KK s.m s.r (⟨⟨k0,k1⟩,k2,k3⟩:jG)).1.time]⟩,.bool (jR aM KK s.m s.r (⟨⟨k0,k1⟩,k2,k3⟩:jG)).2.1]=_
   have h1:(jR aM KK s.m s.r (⟨⟨k0,k1⟩,k2,k3⟩:jG)).1=(fv aM (⟨⟨k0,k1⟩,k2,k3⟩:jG) s.l).1:=h1;have h2:(jR aM KK s.m s.r (⟨⟨k0,k1⟩,k2,k3⟩:jG)).2.1=(fv aM (⟨⟨k0,k1⟩,k2,k3⟩:jG) s.l).2:=h2;rw[h1,h2]
   rfl
 ·cases hx
def An:Prim Rt:=fun args hh=>match args,hh with
 |[.pointer (aa ⟨0,0,aj⟩),.agg ⟨[.int .i64 k0,.int .i64 k1,.bool k2,.int .i64 k3]⟩],[aa (.inr (.inr (.inr (.tree s))))]=>aa ⟨s.gk,.tuple #[.agg ⟨[.int .i64 (fv aM (⟨⟨k0,k1⟩,k2,k3⟩:jG) s.l).1.it.k,.int .i64 (fv aM (⟨⟨k0,k1⟩,k2,k3⟩:jG) s.l).1.it.i,.bool (fv aM (⟨⟨k0,k1⟩,k2,k3⟩:jG) s.l).1.kA,.int .i64 (fv aM (⟨⟨k0,k1⟩,k2,k3⟩:jG) s.l).1.time]⟩,.bool (fv aM (⟨⟨k0,k1⟩,k2,k3⟩:jG) s.l).2],aj,[oT (s.find (⟨⟨k0,k1⟩,k2,k3⟩:jG))],[],[(0,0)]⟩
 |_,_=>aj
theorem EH:b6 D2 Tryz.prog 94 (a9 An):=by
 refine nr (c:=a9 (EI KK)) (M4 KK) fun args hh x hx=>?_
 unfold An at hx;split at hx
 ·rename_i k0 k1 k2 k3 s;cases hx;refine⟨a_ _,lM rfl,(fun hw=>by cases hw),fun hv=>⟨⟨_,.inl ⟨rfl,rfl⟩,rfl,?_,?_,?_⟩,rfl,rfl⟩⟩
  ·exact⟨rfl,s.pp hv,(s.ok.find (e:=(⟨⟨k0,k1⟩,k2,k3⟩:jG)) s.k1).1⟩
  ·rfl
  ·obtain⟨_,m',h1,_⟩:=s.ok.find (K:=KK) (e:=(⟨⟨k0,k1⟩,k2,k3⟩:jG)) s.k1;have h1:(iB aM KK (aJ s.m s.r) (br aM s.m s.r) (⟨⟨k0,k1⟩,k2,k3⟩:jG))=((fv aM (⟨⟨k0,k1⟩,k2,k3⟩:jG) s.l),m'):=h1;show cq #[.agg ⟨[.int .i64 (iB aM KK (aJ s.m s.r) (br aM s.m s.r) (⟨⟨k0,k1⟩,k2,k3⟩:jG)).1.1.it.k,.int .i64 (iB aM KK (aJ s.m s.r) (br aM s.m s.r) (⟨⟨k0,k1⟩,k2,k3⟩:jG)).1.1.it.i,.bool (iB aM KK (aJ s.m s.r) (br aM s.m s.r) (⟨⟨k0,k1⟩,k2,k3⟩:jG)).1.1.kA,.int .i64 (iB aM KK (aJ s.m s.r) (br aM s.m s.r) (⟨⟨k0,k1⟩,k2,k3⟩:jG)).1.1.time]⟩,.bool (iB aM KK (aJ s.m s.r) (br aM s.m s.r) (⟨⟨k0,k1⟩,k2,k3⟩:jG)).1.2]=_
   rw[h1]
   rfl
 ·cases hx
def Hw:Prim Rt:=fun args hh=>match args,hh with
 |[.pointer (aa ⟨0,0,aj⟩),.agg ⟨[.int .i64 k0,.int .i64 k1,.bool k2,.int .i64 k3]⟩],[aa (.inr (.inr (.inr (.tree s))))]=>aa ⟨s.gk,.int .i64 (yF aM (⟨⟨k0,k1⟩,k2,k3⟩:jG) s.l).length,aj,[oT (s.ky (⟨⟨k0,k1⟩,k2,k3⟩:jG))],[],[(0,0)]⟩
 |_,_=>aj
theorem VQ:b6 D2 Tryz.prog 129 (a9 Hw):=by
 refine nr (c:=a9 (D9 KK)) (MT KK) fun args hh x hx=>?_
 unfold Hw at hx;split at hx
 ·rename_i k0 k1 k2 k3 s;cases hx;refine⟨a_ _,lM rfl,(fun hw=>by cases hw),fun hv=>⟨⟨_,.inl ⟨rfl,rfl⟩,rfl,?_,?_,?_⟩,rfl,rfl⟩⟩
  ·exact⟨rfl,s.pp hv,(s.ok.ky (e:=(⟨⟨k0,k1⟩,k2,k3⟩:jG)) s.k1).1⟩
  ·rfl
  ·obtain⟨_,m',h1,_⟩:=s.ok.ky (K:=KK) (e:=(⟨⟨k0,k1⟩,k2,k3⟩:jG)) s.k1;have h1:(lO aM KK (aJ s.m s.r) (br aM s.m s.r) (⟨⟨k0,k1⟩,k2,k3⟩:jG) 0)=(((yF aM (⟨⟨k0,k1⟩,k2,k3⟩:jG) s.l).length:Int),m'):=h1;show bk ar (lO aM KK (aJ s.m s.r) (br aM s.m s.r) (⟨⟨k0,k1⟩,k2,k3⟩:jG) 0).1=_
   rw[h1]
   rfl
 ·cases hx
def Ia:Prim Rt:=fun args hh=>match args,hh with
 |[.pointer (aa ⟨0,0,aj⟩)],[aa (.inr (.inr (.inr (.tree s))))]=>aa ⟨s.gk,.slice (aa ⟨1,0,aa 4000⟩) s.l.length 0,aj,[oT s.all,aa (.inr (.inl (75,⟨[.int .i64 0,.int .i64 0,.bool an,.int .i64 0],s.l.length,[⟨s.l.map fun e=>e.it.k,[],[]⟩,⟨s.l.map fun e=>e.it.i,[],[]⟩,⟨[],s.l.map fun e=>e.kA,[]⟩,⟨s.l.map fun e=>e.time,[],[]⟩]⟩)))],[],[(0,0)]⟩
 |_,_=>aj
theorem QZ:b6 D2 Tryz.prog 61 (a9 Ia):=by
 refine nr (c:=a9 (HY KK)) (Rb KK) fun args hh x hx=>?_
 unfold Ia at hx;split at hx
 ·rename_i s;cases hx;refine⟨kO _,lM rfl,(fun hw=>by cases hw),fun hv=>⟨⟨_,.inl ⟨rfl,rfl⟩,rfl,?_,?_,?_⟩,rfl,rfl⟩⟩
  ·exact⟨s.pp hv,(s.ok.all (K:=KK) s.k1).1⟩
  ·obtain⟨_,m',h1,_⟩:=s.ok.all (K:=KK) s.k1;have h1:(bY aM KK (aJ s.m s.r) s.r)=(s.l,m'):=h1;show([aa (.inl (132,[.pointer (aa ⟨1,0,aj⟩),.int .i64 s.r.i,.int .i64 s.r.g])),aa (.inr (.inr (.inr (.da (bY aM KK (aJ s.m s.r) s.r).2)))),aa (.inr (.inl (75,⟨[.int .i64 0,.int .i64 0,.bool an,.int .i64 0],(bY aM KK (aJ s.m s.r) s.r).1.length,[⟨(bY aM KK (aJ s.m s.r) s.r).1.map fun e=>e.it.k,[],[]⟩,⟨(bY aM KK (aJ s.m s.r) s.r).1.map fun e=>e.it.i,[],[]⟩,⟨[],(bY aM KK (aJ s.m s.r) s.r).1.map fun e=>e.kA,[]⟩,⟨(bY aM KK (aJ s.m s.r) s.r).1.map fun e=>e.time,[],[]⟩]⟩)))]:Hp Rs)=[aa (.inl (132,[.pointer (aa ⟨1,0,aj⟩),.int .i64 s.r.i,.int .i64 s.r.g])),aa (.inr (.inr (.inr (.da (bY aM KK (aJ s.m s.r) s.r).2)))),aa (.inr (.inl (75,⟨[.int .i64 0,.int .i64 0,.bool an,.int .i64 0],s.l.length,[⟨s.l.map fun e=>e.it.k,[],[]⟩,⟨s.l.map fun e=>e.it.i,[],[]⟩,⟨[],s.l.map fun e=>e.kA,[]⟩,⟨s.l.map fun e=>e.time,[],[]⟩]⟩)))]
   rw[h1]
  ·obtain⟨_,m',h1,_⟩:=s.ok.all (K:=KK) s.k1;have h1:(bY aM KK (aJ s.m s.r) s.r)=(s.l,m'):=h1;show bx (aa ⟨2,0,aa 4000⟩) (bY aM KK (aJ s.m s.r) s.r).1.length 0=_
   rw[h1]
   rfl
 ·cases hx
def Q9:Prim Rt:=fun args hh=>match args,hh with
 |[.pointer (aa ⟨0,0,aj⟩),.int .i64 i_],[aa (.inr (.inr (.inr (.tree s))))]=>aa ⟨s.gk,.tuple #[.agg ⟨[.int .i64 (ml aM i_ s.l).1.it.k,.int .i64 (ml aM i_ s.l).1.it.i,.bool (ml aM i_ s.l).1.kA,.int .i64 (ml aM i_ s.l).1.time]⟩,.bool (ml aM i_ s.l).2],aj,[oT (s.at_ i_)],[],[(0,0)]⟩
 |_,_=>aj
theorem ack:b6 D2 Tryz.prog 122 (a9 Q9):=by
 refine nr (c:=a9 (M1 KK)) (V3 KK) fun args hh x hx=>?_
 unfold Q9 at hx;split at hx
 ·rename_i i_ s;cases hx;refine⟨a_ _,lM rfl,(fun hw=>by cases hw),fun hv=>⟨⟨_,.inl ⟨rfl,rfl⟩,rfl,?_,?_,?_⟩,rfl,rfl⟩⟩
  ·exact⟨s.pp hv,(s.ok.at_ (i:=i_) s.k1).1⟩
  ·rfl
  ·obtain⟨_,m',h1,_⟩:=s.ok.at_ (K:=KK) (i:=i_) s.k1;have h1:(lA aM KK s.m s.r i_)=((ml aM i_ s.l),m'):=h1;show cq #[.agg ⟨[.int .i64 (lA aM KK s.m s.r i_).1.1.it.k,.int .i64 (lA aM KK s.m s.r i_).1.1.it.i,.bool (lA aM KK s.m s.r i_).1.1.kA,.int .i64 (lA aM KK s.m s.r i_).1.1.time]⟩,.bool (lA aM KK s.m s.r i_).1.2]=_
   rw[h1]
   rfl
 ·cases hx
end G9
namespace Wv
open Rx
set_option maxRecDepth 100000
set_option maxHeartbeats 4000000
def adf {R:Type}:Prim R:=fun args hh=>match args,hh with
 |[.agg ⟨[.int .i64 a,.int .i64 b]⟩,.agg ⟨[.int .i64 c,.int .i64 d]⟩],[]=>aa ⟨True,.bool (decide (ah ⟨a,b⟩ ⟨c,d⟩)),aj,hh,[],[]⟩
 |_,_=>aj
theorem akj {R:Type} {D:fH R}:b6 D Tryz.prog 92 (a9 adf):=by
 refine fj Tryz.f92 fun args hh x hx=>?_
 unfold adf at hx;split at hx
 ·rename_i a b c d;cases hx;refine q4 fun _ hv=>?_
  generalize hG:ch (R:=R) _ _=G;refine cJ (T:=[]) trivial mixed 200 ?_;refine bK (q:=let Z1:=bk ar;(decide (a<c)=an->((a==c)=ao->aW (G (aD (decide (b<d))) [aa (.inl (31,[Z1 a,Z1 b])),aa (.inl (31,[Z1 c,Z1 d]))]))/\((a==c)=an->aW (G (aD an) [aa (.inl (31,[Z1 a,Z1 b])),aa (.inl (31,[Z1 c,Z1 d]))])))/\(decide (a<c)=ao->aW (G (aD ao) [aa (.inl (31,[Z1 a,Z1 b])),aa (.inl (31,[Z1 c,Z1 d]))]))) ?_ (by kernel_rfl)
  intro Z1;subst Z1;have fin:∀ (z:Bool) (hp:Hp R),z=decide (ah ⟨a,b⟩ ⟨c,d⟩)->G (.bool z) hp:=by
   intro z hp ht;subst ht;subst hG;exact⟨⟨[],rfl,rfl,trivial,rfl,rfl,rfl,rfl⟩⟩
  clear hG
  repeat' (first|apply cY|apply Vc.mk|apply fits.mk|intro h|apply aW.mk)
  all_goals (try simp only[sB] at *)
  all_goals first|contradiction|omega|exact jm ‹_›|exact jo ‹_›|exact jk ‹_›|exact⟨rfl,by omega⟩|exact rfl|(simp[*,-av];done)|skip
  ·refine fin _ _ (decide_eq_decide.2 ?_);unfold ah;simp only;omega
  ·refine fin _ _ (decide_eq_false ?_).symm;unfold ah;simp only;omega
  ·refine fin _ _ (decide_eq_true ?_).symm;unfold ah;simp only;omega
 ·cases hx
abbrev iR (l:List It):Row:=⟨[.int .i64 0,.int .i64 0],l.length,[⟨l.map It.k,[],[]⟩,⟨l.map It.i,[],[]⟩]⟩
def fZ (r:Row):List It:=match r.eu with
 |[a,b]=>(oi r.n).map fun i=>⟨a.i.getD i 0,b.i.getD i 0⟩
 |_=>[]
theorem FF {α:Type} {l:List α} {f:Nat->α} (h:∀ i (hi:i<l.length),f i=l[i]):(oi l.length).map f=l:=by
 refine Oc (by simp) fun i h1 h2=>?_
 simp only[List.getElem_map,List.getElem_range];exact h i h2
theorem H3 {α β:Type} {l:List α} {i:Nat} (f:α->β) (d:β) (hi:i<l.length):(l.map f).getD i d=f l[i]:=by
 rw[av,fh,bd hi];rfl
theorem CR (l:List It):fZ (iR l)=l:=by
 unfold fZ;refine FF fun i hi=>?_
 simp only[H3 _ _ hi]
theorem Xq {α β:Type} (f:α->β) (l:List α) (a b:Nat):cut (l.map f) a b=(cut l a b).map f:=by
 unfold cut;rw[nz,mH]
theorem cm {α β:Type} (f:α->β) (l:List α):cut (l.map f) 0 l.length=l.map f:=fF (by simp)
abbrev vI {R:Type} (l:List It):Option (SB R):=aa (.inr (.inr (.inl (iR l))))
abbrev oI {R:Type} (l:List It):Option (SB R):=aa (.inr (.inl (31,iR l)))
theorem aeb {α:Type} {x:List α} {a b:Nat} (h:x.length≤a+b):cut x a b=x.drop a:=by
 unfold cut;exact jj (by simp;omega)
theorem adb {α:Type} {x:List α} {r:Nat} (v:α) (h:r≤x.length):cut (cut ([]++cut x 0 r) 0 r++cut [v] 0 1) 0 (r+1)=x.take r++[v]:=by
 have h1:cut ([]++cut x 0 r) 0 r=x.take r:=by unfold cut;simp[List.take_take]
 rw[h1,show cut [v] 0 1=[v] from rfl]
 exact fF (by simp;omega)
theorem Ew {α:Type} {x:List α} {r L:Nat} {v:α} (hL:x.length=L) (h:r≤L):cut (cut ([]++cut x 0 r) 0 r++cut [v] 0 1) 0 (r+1)++cut x r ((L:Int)-(r:Int)).toNat=x.take r++v::x.drop r:=by
 rw[adb v (by omega),aeb (by omega)]
 simp
theorem UG {l:List It} {i:Nat} (hi:i<l.length):mK (l.take (i+1))=ins (l.getD i iz) (mK (l.take i)):=by
 rw[xK iz hi,D8]
theorem nR {x:It} {S:List It} {k:Nat} (h:tC x S S.length=k):(ins x S).map It.k=(S.map It.k).take k++x.k::(S.map It.k).drop k/\(ins x S).map It.i=(S.map It.i).take k++x.i::(S.map It.i).drop k/\(k≤S.length->k+1+((S.length:Int)-(k:Int)).toNat=(ins x S).length):=by
 subst h;refine⟨?_,?_,fun h=>?_⟩
 ·unfold ins;rw[dG,gr,nz,mH]
 ·unfold ins;rw[dG,gr,nz,mH]
 ·rw[Xv];omega
def TAh {R:Type}:ez R:=[(92,bJ zN 2 (a9 adf))]
theorem Uc {R:Type} {D:fH R}:cL D Tryz.prog (TAh:ez R):=⟨aT _ _ akj,trivial⟩
def Zj {R:Type}:Prim R:=fun args hh=>match args,hh with
 |[.slice (aa ⟨0,0,aa 2000⟩) n c],[aa (.inr (.inr (.inl r)))]=>aa ⟨r=iR (fZ r)/\n=(fZ r).length/\(fZ r).length≤100000,.slice (aa ⟨1,0,aa 2000⟩) (mK (fZ r)).length 0,aj,[aa (.inr (.inr (.inl r))),oI (mK (fZ r))],[],[(0,0)]⟩
 |_,_=>aj
theorem agG {R:Type} {D:fH R}:b6 D Tryz.prog 59 (a9 Zj):=by
 refine fj Tryz.f59 fun args hh x hx=>?_
 unfold Zj at hx;split at hx
 ·rename_i n c r;cases hx;refine q4 fun _ hv=>?_
  obtain⟨hr,rfl,hb⟩:=hv;generalize fZ r=l at *;subst hr
  generalize hG:ch (R:=R) _ _=G;refine cJ (T:=TAh) Uc mixed 200 ?_;refine bK (q:=let Z1:=bk ar;At D Tryz.prog (dJ Tryz.f59) 1 (iE Tryz.prog (dA (dC Tryz.f59)) G) [.inl [1,1,0,1,0],.inr (.inl 0),.inl [1,1,1]] (SS.mk (aa (bx (aa ⟨0,0,aa 2000⟩) l.length c)::aj::aa (bx (aa ⟨1,0,aa 2000⟩) 0 0)::aa (bx (aa ⟨2,0,aa 2000⟩) 0 0)::aa (Z1 0)::nH (nH (n4 (n4 (n4 ([])))))) [] [aa (.inr (.inr (.inl (Row.mk [Z1 0,Z1 0] l.length [aX.mk (au It.k l) [] [],aX.mk (au It.i l) [] []])))),aa (.inr (.inl (31,Row.mk [Z1 0,Z1 0] 0 [aX.mk [] [] [],aX.mk [] [] []]))),aa (.inr (.inl (31,Row.mk [Z1 0,Z1 0] 0 [aX.mk [] [] [],aX.mk [] [] []])))])) ?_ (by kernel_rfl)
  intro Z1;subst Z1;refine kH (by kernel_rfl) (ι:=Nat×List It) (fun x=>x.1≤l.length/\x.2=mK (l.take x.1)) [0,3,4] (fun x=>[.slice (aa ⟨0,0,aa 2000⟩) l.length c,.slice (aa ⟨1,0,aa 2000⟩) x.2.length 0,.int .i64 x.1]) (fun x=>[vI l,oI x.2]) (fun x=>l.length-x.1) 49 (fun i hi=>⟨rfl,rfl,by simp⟩) ⟨(0,[]),⟨du _,rfl⟩,⟨[0,2],rfl,⟨rfl,⟨_,rfl,.inl rfl⟩,trivial⟩,rfl,rfl,rfl,rfl⟩⟩ fun x hx=>?_
  obtain⟨i,S⟩:=x;obtain⟨hi,hS⟩:=hx;simp only at hi hS ⊢;have hSl:S.length=i:=by rw[hS,Yn,dZ];omega
  refine cJ (T:=TAh) Uc mixed 200 ?_;refine bK (q:=let Z3:=bk ar;let Z1:=(bx (aa ⟨0,0,aa 2000⟩) l.length c);let Z2:=(bx (aa ⟨1,0,aa 2000⟩) (ae S) 0);(decide ((↑i:Int)<(↑l.length:Int))=ao->At D Tryz.prog (dJ Tryz.f59) 1 (iE Tryz.prog (dA (dC Tryz.f59)) G) [.inl [1,1,0,1,0,0,1,0,0,1,0,0],.inr (.inl 2),.inl [1,1,0,1,0,0,1,0,0,1,1],.inr (.inl 1),.inl [1,1,0,1,0,0,1,1],.inr (.inr fun oy=>∃ j,(aA j≤ae l/\aw j=mK (gY (aA j) l))/\ae l-aA j<ae l-i/\j6 R 1 49 [0,3,4] [.slice (aa ⟨0,0,aa 2000⟩) l.length c,.slice (aa ⟨1,0,aa 2000⟩) (ae (aw j)) 0,Z3 (↑(aA j):Int)] [vI l,oI (aw j)] (JL (SS.tm oy) [0,3,4]) (SS.hp oy) (ae (SS.tm oy))),.inr (.inl 0),.inl [1,1,1]] (SS.mk (aa Z1::aj::aj::aa Z2::aa (Z3 (↑i:Int))::aa (Z3 (↑(ae S):Int))::aj::aa (Z3 (↑i:Int))::aa Z1::aa (Z3 (↑l.length:Int))::aa (aD ao)::aj::aj::aa Z2::aa (Z3 (↑(ae S):Int))::nH (nH (aj::aj::[]))) [(10,ao)] [aa (.inr (.inr (.inl (Row.mk [Z3 0,Z3 0] l.length [aX.mk (au It.k l) [] [],aX.mk (au It.i l) [] []])))),aa (.inr (.inl (31,Row.mk [Z3 0,Z3 0] (ae S) [aX.mk (au It.k S) [] [],aX.mk (au It.i S) [] []])))]))/\(decide ((↑i:Int)<(↑l.length:Int))=an->aW (G Z2 [aa (.inr (.inr (.inl (Row.mk [Z3 0,Z3 0] l.length [aX.mk (au It.k l) [] [],aX.mk (au It.i l) [] []])))),aa (.inr (.inl (31,Row.mk [Z3 0,Z3 0] (ae S) [aX.mk (au It.k S) [] [],aX.mk (au It.i S) [] []])))]))) ?_ (by kernel_rfl)
  intro Z3 Z1 Z2;subst Z2 Z1 Z3;refine⟨fun h=>?_,fun h=>⟨?_⟩⟩
  ·have cj:i<l.length:=by have:=of_decide_eq_true h;omega
   clear h;refine kH (by kernel_rfl) (ι:=Nat) (fun k=>k≤S.length/\tC (l.getD i iz) S k=tC (l.getD i iz) S S.length) [0,3,4,5] (fun k=>[.slice (aa ⟨0,0,aa 2000⟩) l.length c,.slice (aa ⟨1,0,aa 2000⟩) S.length 0,.int .i64 i,.int .i64 k]) (fun k=>[vI l,oI S]) (fun k=>k) 49 (fun i hi=>⟨rfl,rfl,by simp⟩) ⟨S.length,⟨a_ _,rfl⟩,⟨[0,1],rfl,⟨rfl,⟨_,rfl,.inl rfl⟩,trivial⟩,rfl,rfl,rfl,rfl⟩⟩ fun k hk=>?_
   obtain⟨Xo,hk2⟩:=hk;refine cJ (T:=TAh) Uc mixed 200 ?_;refine bK (q:=let Z5:=bk ar;let Z1:=(↑k:Int);let Z2:=(↑(ae S):Int);let Z3:=(ah (It.mk (ax (au It.k l) (0+(i:Int).toNat) (0:Int)) (ax (au It.i l) (0+(i:Int).toNat) (0:Int))) (It.mk (ax (au It.k S) (0+aH (Z1-(1:Int))) (0:Int)) (ax (au It.i S) (0+aH (Z1-(1:Int))) (0:Int))));let Z4:=(bx (aa ⟨0,0,aa 2000⟩) l.length c);(decide (Z1>(0:Int))=ao->Vc (aD (decide (Z1>(0:Int)))=aD ao)/\Vc ((0:Int)≤(↑i:Int)/\(↑i:Int)<(↑l.length:Int)/\0+ae l≤ae l)/\Vc (0+(i:Int).toNat<ae l)/\Vc (fits (Z1-(1:Int)))/\Vc ((0:Int)≤Z1-(1:Int)/\Z1-(1:Int)<Z2/\0+ae S≤ae S)/\Vc (0+aH (Z1-(1:Int))<ae S)/\Vc True/\(decide Z3=ao->Vc (fits (Z1-(1:Int)))/\aW (∃ j,(j≤ae S/\tC (ax l i iz) S j=tC (ax l i iz) S (ae S))/\j<k/\j6 R 1 49 [0,3,4,5] [.slice (aa ⟨0,0,aa 2000⟩) l.length c,.slice (aa ⟨1,0,aa 2000⟩) (ae S) 0,Z5 (↑i:Int),Z5 (↑j:Int)] [vI l,oI S] [aa Z4,aa (bx (aa ⟨1,0,aa 2000⟩) (ae S) 0),aa (Z5 (↑i:Int)),aa (Z5 (Z1-(1:Int)))] [aa (.inr (.inr (.inl (Row.mk [Z5 0,Z5 0] l.length [aX.mk (au It.k l) [] [],aX.mk (au It.i l) [] []])))),aa (.inr (.inl (31,Row.mk [Z5 0,Z5 0] (ae S) [aX.mk (au It.k S) [] [],aX.mk (au It.i S) [] []])))] 49))/\(decide Z3=an->Vc ((0:Int)≤Z1/\Z1≤Z2/\0+ae S≤ae S)/\Vc (0≤0/\0+aH Z1≤ae S/\(0+aH Z1)*16≤140737488355328/\0+aH Z1≤140737488355328)/\Vc ((0:Int)≤(↑i:Int)/\(↑i:Int)<(↑l.length:Int)/\0+ae l≤ae l)/\Vc (0+(i:Int).toNat<ae l)/\Vc (0+(0+aH Z1)≤0+aH Z1/\1≤1/\(0+aH Z1+1)*16≤140737488355328/\0+aH Z1+1≤140737488355328)/\Vc (0=0/\(0:Int)≤Z1/\Z1≤Z2/\Z2≤Z2/\0+ae S≤ae S)/\Vc (0+(0+aH Z1+1)≤0+aH Z1+1/\0+aH Z1+aH (Z2-Z1)≤ae S/\(0+aH Z1+1+aH (Z2-Z1))*16≤140737488355328/\0+aH Z1+1+aH (Z2-Z1)≤140737488355328)/\Vc (fits ((↑i:Int)+(1:Int)))/\aW (∃ j,(aA j≤ae l/\aw j=mK (gY (aA j) l))/\ae l-aA j<ae l-i/\j6 R 1 49 [0,3,4] [.slice (aa ⟨0,0,aa 2000⟩) l.length c,.slice (aa ⟨1,0,aa 2000⟩) (ae (aw j)) 0,Z5 (↑(aA j):Int)] [vI l,oI (aw j)] [aa Z4,aa (bx (aa ⟨6,0,aa 2000⟩) (0+aH Z1+1+aH (Z2-Z1)) 0),aa (Z5 ((↑i:Int)+(1:Int)))] [aa (.inr (.inr (.inl (Row.mk [Z5 0,Z5 0] l.length [aX.mk (au It.k l) [] [],aX.mk (au It.i l) [] []])))),aa (.inr (.inl (31,Row.mk [Z5 0,Z5 0] (ae S) [aX.mk (au It.k S) [] [],aX.mk (au It.i S) [] []]))),aj,aj,aa (.inr (.inl (31,Row.mk [Z5 0,Z5 0] 1 [aX.mk [ax (au It.k l) (0+(i:Int).toNat) (0:Int)] [] [],aX.mk [ax (au It.i l) (0+(i:Int).toNat) (0:Int)] [] []]))),aj,aa (.inr (.inl (31,Row.mk [Z5 0,Z5 0] (0+aH Z1+1+aH (Z2-Z1)) [aX.mk (cut (cut ([]++cut (au It.k S) 0 (aH Z1)) 0 (0+aH Z1)++cut [ax (au It.k l) (0+(i:Int).toNat) (0:Int)] 0 1) 0 (0+aH Z1+1)++cut (au It.k S) (0+aH Z1) (aH (Z2-Z1))) [] [],aX.mk (cut (cut ([]++cut (au It.i S) 0 (aH Z1)) 0 (0+aH Z1)++cut [ax (au It.i l) (0+(i:Int).toNat) (0:Int)] 0 1) 0 (0+aH Z1+1)++cut (au It.i S) (0+aH Z1) (aH (Z2-Z1))) [] []])))] 49)))/\(decide (Z1>(0:Int))=an->Vc (aD (decide (Z1>(0:Int)))=aD an)/\Vc ((0:Int)≤Z1/\Z1≤Z2/\0+ae S≤ae S)/\Vc (0≤0/\0+aH Z1≤ae S/\(0+aH Z1)*16≤140737488355328/\0+aH Z1≤140737488355328)/\Vc ((0:Int)≤(↑i:Int)/\(↑i:Int)<(↑l.length:Int)/\0+ae l≤ae l)/\Vc (0+(i:Int).toNat<ae l)/\Vc (0+(0+aH Z1)≤0+aH Z1/\1≤1/\(0+aH Z1+1)*16≤140737488355328/\0+aH Z1+1≤140737488355328)/\Vc (0=0/\(0:Int)≤Z1/\Z1≤Z2/\Z2≤Z2/\0+ae S≤ae S)/\Vc (0+(0+aH Z1+1)≤0+aH Z1+1/\0+aH Z1+aH (Z2-Z1)≤ae S/\(0+aH Z1+1+aH (Z2-Z1))*16≤140737488355328/\0+aH Z1+1+aH (Z2-Z1)≤140737488355328)/\Vc (fits ((↑i:Int)+(1:Int)))/\aW (∃ j,(aA j≤ae l/\aw j=mK (gY (aA j) l))/\ae l-aA j<ae l-i/\j6 R 1 49 [0,3,4] [.slice (aa ⟨0,0,aa 2000⟩) l.length c,.slice (aa ⟨1,0,aa 2000⟩) (ae (aw j)) 0,Z5 (↑(aA j):Int)] [vI l,oI (aw j)] [aa Z4,aa (bx (aa ⟨6,0,aa 2000⟩) (0+aH Z1+1+aH (Z2-Z1)) 0),aa (Z5 ((↑i:Int)+(1:Int)))] [aa (.inr (.inr (.inl (Row.mk [Z5 0,Z5 0] l.length [aX.mk (au It.k l) [] [],aX.mk (au It.i l) [] []])))),aa (.inr (.inl (31,Row.mk [Z5 0,Z5 0] (ae S) [aX.mk (au It.k S) [] [],aX.mk (au It.i S) [] []]))),aj,aj,aa (.inr (.inl (31,Row.mk [Z5 0,Z5 0] 1 [aX.mk [ax (au It.k l) (0+(i:Int).toNat) (0:Int)] [] [],aX.mk [ax (au It.i l) (0+(i:Int).toNat) (0:Int)] [] []]))),aj,aa (.inr (.inl (31,Row.mk [Z5 0,Z5 0] (0+aH Z1+1+aH (Z2-Z1)) [aX.mk (cut (cut ([]++cut (au It.k S) 0 (aH Z1)) 0 (0+aH Z1)++cut [ax (au It.k l) (0+(i:Int).toNat) (0:Int)] 0 1) 0 (0+aH Z1+1)++cut (au It.k S) (0+aH Z1) (aH (Z2-Z1))) [] [],aX.mk (cut (cut ([]++cut (au It.i S) 0 (aH Z1)) 0 (0+aH Z1)++cut [ax (au It.i l) (0+(i:Int).toNat) (0:Int)] 0 1) 0 (0+aH Z1+1)++cut (au It.i S) (0+aH Z1) (aH (Z2-Z1))) [] []])))] 49))) ?_ (by kernel_rfl)
   intro Z5 Z1 Z2 Z3 Z4;subst Z4 Z3 Z2 Z1 Z5;have e0:0+(i:Int).toNat=i:=by omega
   have gl:∀ f:It->Int,f iz=0->(l.map f).getD i 0=f (l.getD i iz):=fun f hf=>by rw[H3 f 0 cj,av,bd cj];rfl
   simp only[e0,gl It.k rfl,gl It.i rfl];have gS:∀ f:It->Int,f iz=0->((k:Int)-1).toNat<S.length->(S.map f).getD ((k:Int)-1).toNat 0=f (S.getD ((k:Int)-1).toNat iz):=fun f hf hj=>by rw[H3 f 0 hj,av,bd hj];rfl
   repeat' (first|apply cY|apply Vc.mk|apply fits.mk|intro h|apply aW.mk)
   all_goals (try simp only[sB] at *)
   all_goals first|contradiction|omega|exact jm ‹_›|exact jo ‹_›|exact jk ‹_›|exact⟨rfl,by omega⟩|exact rfl|(simp[*,-av];done)|skip
   ·have h1:(k:Int)>0:=by assumption
    rw[gS It.k rfl (by omega),gS It.i rfl (by omega)] at h
    obtain⟨n,rfl⟩:∃ n,k=n+1:=⟨k-1,by omega⟩
    have e1:((n+1:Nat):Int)-1=n:=by omega
    rw[e1,iF] at h;rw[e1];exact⟨n,⟨by omega,by rw[← hk2,tC,if_pos h]⟩,fC _,⟨[0,1],rfl,⟨rfl,⟨_,rfl,.inl rfl⟩,trivial⟩,rfl,rfl,rfl,rfl⟩⟩
   ·have h1:(k:Int)>0:=by assumption
    rw[gS It.k rfl (by omega),gS It.i rfl (by omega)] at h
    obtain⟨n,rfl⟩:∃ n,k=n+1:=⟨k-1,by omega⟩
    have e1:((n+1:Nat):Int)-1=n:=by omega
    rw[e1,iF] at h;have hp:tC (l.getD i iz) S S.length=n+1:=by rw[← hk2,tC,if_neg h]
    have hI:=nR hp;simp only[Ew (x:=S.map It.k) (r:=n+1) (L:=S.length) (fR ..) Xo,Ew (x:=S.map It.i) (r:=n+1) (L:=S.length) (fR ..) Xo,← hI.1,← hI.2.1,hI.2.2 Xo];exact⟨(i+1,ins (l.getD i iz) S),⟨cj,by rw[hS,UG cj]⟩,by omega,⟨[0,6],rfl,⟨rfl,⟨_,rfl,.inl rfl⟩,trivial⟩,rfl,rfl,rfl,rfl⟩⟩
   ·obtain rfl:k=0:=by omega
    have hp:tC (l.getD i iz) S S.length=0:=by rw[← hk2];rfl
    have hI:=nR hp;simp only[Ew (x:=S.map It.k) (r:=0) (L:=S.length) (fR ..) Xo,Ew (x:=S.map It.i) (r:=0) (L:=S.length) (fR ..) Xo,← hI.1,← hI.2.1,hI.2.2 Xo];exact⟨(i+1,ins (l.getD i iz) S),⟨cj,by rw[hS,UG cj]⟩,by omega,⟨[0,6],rfl,⟨rfl,⟨_,rfl,.inl rfl⟩,trivial⟩,rfl,rfl,rfl,rfl⟩⟩
  ·obtain rfl:i=l.length:=by have:=of_decide_eq_false h;omega
   subst hG;rw[hS,js];exact⟨[0,1],rfl,rfl,⟨rfl,⟨_,rfl,.inl rfl⟩,trivial⟩,rfl,rfl,rfl,rfl⟩
 ·cases hx
end Wv
namespace Sh
open Rx Wv
set_option maxRecDepth 100000
set_option maxHeartbeats 4000000
def nA (l:List It) (a n:Nat):Row:=⟨[.int .i64 0,.int .i64 0],n,[⟨cut (l.map It.k) a n,[],[]⟩,⟨cut (l.map It.i) a n,[],[]⟩]⟩
theorem BQ (l:List It):nA l 0 l.length=iR l:=by unfold nA;simp only[cm]
theorem ag7 (l:List It):(⟨[.int .i64 0,.int .i64 0],l.length,[⟨cut (l.map It.k) 0 l.length,[],[]⟩,⟨cut (l.map It.i) 0 l.length,[],[]⟩]⟩:Row)=iR l:=by simp only[cm]
theorem L_ {β:Type} {l:List It} {i:Nat} (f:It->β) (d:β) (h:f iz=d):(l.map f).getD i d=f (l.getD i iz):=by
 subst h;rw[av,av,fh];cases l[i]?<;>rfl
theorem TP (i:Nat):0+(i:Int).toNat=i:=by omega
theorem SZ {a b:It}:(a.k==b.k&&(a.i==b.i&&ao))=decide (a=b):=by
 rw[SW,Bool.eq_iff_iff];simp only[Bool.and_eq_true,beq_iff_eq,decide_eq_true_eq];exact⟨fun h=>It.Q_ h.1 h.2,fun h=>by rw[h];exact⟨rfl,rfl⟩⟩
def OM (l:List It) (x:It):Int:=if nK x l=ao then(pQ x l:Int) else -1
abbrev bI {R:Type} (x:It):Option (SB R):=aa (.inl (31,[.int .i64 x.k,.int .i64 x.i]))
def atP {R:Type}:Prim R:=fun args hh=>match args,hh with
 |[.slice (aa ⟨0,0,aa 2000⟩) n c,.agg ⟨[.int .i64 a,.int .i64 b]⟩],[aa (.inr (.inr (.inl r)))]=>aa ⟨r=iR (fZ r)/\n=(fZ r).length/\(fZ r).length≤100000,.int .i64 (OM (fZ r) ⟨a,b⟩),aj,hh,[],[]⟩
 |_,_=>aj
theorem alP {R:Type} {D:fH R}:b6 D Tryz.prog 50 (a9 atP):=by
 refine fj Tryz.f50 fun args hh x hx=>?_
 unfold atP at hx;split at hx
 ·rename_i n c a b r;cases hx;refine q4 fun _ hv=>?_
  obtain⟨hr,rfl,hb⟩:=hv;generalize fZ r=l at *;subst hr
  generalize hG:ch (R:=R) _ _=G;refine cJ (T:=[]) trivial mixed 200 ?_;refine bK (q:=let Z1:=bk ar;At D Tryz.prog (dJ Tryz.f50) 1 (iE Tryz.prog (dA (dC Tryz.f50)) G) [.inl [1,0,1,0],.inr (.inl 0),.inl [1,1]] (SS.mk (aa (bx (aa ⟨0,0,aa 2000⟩) l.length c)::aa (bE (aO [Z1 a,Z1 b]))::aj::aa (aC (aa ⟨1,0,aj⟩))::aa (Z1 0)::aa (Z1 0)::n4 (n4 (n4 (aj::[])))) [] [aa (.inr (.inr (.inl (iR l)))),aa (.inl (31,[Z1 a,Z1 b]))])) ?_ (by kernel_rfl)
  intro Z1;subst Z1;refine kH (by kernel_rfl) (ι:=Nat) (fun i=>i≤l.length/\∀ j,j<i->l.getD j iz≠⟨a,b⟩) [0,3,5] (fun i=>[.slice (aa ⟨0,0,aa 2000⟩) l.length c,.pointer (aa ⟨1,0,aj⟩),.int .i64 i]) (fun i=>[vI l,bI ⟨a,b⟩]) (fun i=>l.length-i) 19 (fun i hi=>⟨rfl,rfl,by simp⟩) ⟨0,⟨du _,fun j hj=>by omega⟩,⟨[0,1],rfl,⟨rfl,.inl rfl,trivial⟩,rfl,rfl,rfl,rfl⟩⟩ fun i hi=>?_
  obtain⟨hi,hn⟩:=hi;refine cJ (T:=[]) trivial mixed 200 ?_;refine bK (q:=let Z3:=bk ar;let Z1:=(ax (au It.i l) (0+(i:Int).toNat) (0:Int)==b&&ao);let Z2:=(if an=ao then !(ax (au It.k l) (0+(i:Int).toNat) (0:Int)==a&&Z1) else ax (au It.k l) (0+(i:Int).toNat) (0:Int)==a&&Z1);(decide ((↑i:Int)<(↑l.length:Int))=ao->Vc ((0:Int)≤(↑i:Int)/\(↑i:Int)<(↑l.length:Int)/\0+ae l≤ae l)/\Vc (0+(i:Int).toNat<ae l)/\(Z2=ao->aW (G (Z3 (↑i:Int)) [aa (.inr (.inr (.inl (iR l)))),aa (.inl (31,[Z3 a,Z3 b]))]))/\(Z2=an->Vc (fits ((↑i:Int)+(1:Int)))/\aW (∃ j,(j≤ae l/\∀ (L3:Nat),L3<j->ax l L3 iz≠It.mk a b)/\ae l-j<ae l-i/\j6 R 1 19 [0,3,5] [.slice (aa ⟨0,0,aa 2000⟩) l.length c,.pointer (aa ⟨1,0,aj⟩),Z3 (↑j:Int)] [Wv.vI l,bI (It.mk a b)] [aa (bx (aa ⟨0,0,aa 2000⟩) l.length c),aa (aC (aa ⟨1,0,aj⟩)),aa (Z3 ((↑i:Int)+(1:Int)))] [aa (.inr (.inr (.inl (iR l)))),aa (.inl (31,[Z3 a,Z3 b]))] 19)))/\(decide ((↑i:Int)<(↑l.length:Int))=an->aW (G (Z3 (-1:Int)) [aa (.inr (.inr (.inl (iR l)))),aa (.inl (31,[Z3 a,Z3 b]))]))) ?_ (by kernel_rfl)
  intro Z3 Z1 Z2;subst Z2 Z1 Z3;simp only[TP,L_ It.k 0 rfl,L_ It.i 0 rfl];simp only[fO,if_false];have hx:=SZ (a:=l.getD i iz) (b:=⟨a,b⟩);simp only at hx;simp only[hx];refine⟨fun h=>?_,fun h=>?_⟩
  ·have cj:i<l.length:=by have:=of_decide_eq_true h;omega
   refine⟨⟨by omega,by omega,by omega⟩,⟨cj⟩,fun h2=>⟨?_⟩,fun h2=>⟨⟨by omega,by omega⟩,⟨i+1,⟨cj,fun j hj=>?_⟩,by omega,⟨[0,1],rfl,⟨rfl,.inl rfl,trivial⟩,rfl,rfl,rfl,rfl⟩⟩⟩⟩
   ·have e:=aiN hn cj (of_decide_eq_true h2);subst hG;unfold OM nK;rw[e,decide_eq_true cj,if_pos rfl];exact⟨[0],rfl,rfl,⟨rfl,trivial⟩,rfl,rfl,rfl,rfl⟩
   ·rcases cr j i with c|c
    ·exact hn j c
    ·rw[show j=i by omega];exact of_decide_eq_false h2
  ·obtain rfl:i=l.length:=by have:=of_decide_eq_false h;omega
   have e:=ajl hn;refine⟨?_⟩;subst hG;unfold OM nK;rw[e,decide_eq_false (Nat.lt_irrefl _),if_neg (by decide)]
   exact⟨[0],rfl,rfl,⟨rfl,trivial⟩,rfl,rfl,rfl,rfl⟩
 ·cases hx
def Te {R:Type}:Prim R:=fun args hh=>match args,hh with
 |[.slice (aa ⟨0,0,aa 2000⟩) n c,.slice (aa ⟨1,0,aa 2000⟩) n' c'],[aa (.inr (.inr (.inl r))),aa (.inr (.inr (.inl r')))]=>aa ⟨r=iR (fZ r)/\n=(fZ r).length/\r'=iR (fZ r')/\n'=(fZ r').length/\(fZ r).length≤100000,.bool (decide (fZ r=fZ r')),aj,hh,[],[]⟩
 |_,_=>aj
theorem Yj {R:Type} {D:fH R}:b6 D Tryz.prog 26 (a9 Te):=by
 refine fj Tryz.f26 fun args hh x hx=>?_
 unfold Te at hx;split at hx
 ·rename_i n c n' c' r r';cases hx;refine q4 fun _ hv=>?_
  obtain⟨hr,rfl,tY,rfl,hb⟩:=hv;generalize fZ r=l at *;generalize fZ r'=l' at *;subst hr;subst tY
  generalize hG:ch (R:=R) _ _=G;refine cJ (T:=[]) trivial mixed 200 ?_;refine bK (q:=let Z1:=(bx (aa ⟨0,0,aa 2000⟩) l.length c);let Z2:=(bx (aa ⟨1,0,aa 2000⟩) (ae l') c');(((↑l.length:Int) != (↑(ae l'):Int))=ao->aW (G (aD an) [aa (.inr (.inr (.inl (iR l)))),aa (.inr (.inr (.inl (iR l'))))]))/\(((↑l.length:Int) != (↑(ae l'):Int))=an->At D Tryz.prog (dJ Tryz.f26) 2 (iE Tryz.prog (dA (dC Tryz.f26)) G) [.inl [1,1,0,1,0],.inr (.inl 0),.inl [1,1,1]] (SS.mk (aa Z1::aa Z2::aj::aj::aa (aD an)::aa (bk ar 0)::aa Z1::aa (bk ar (↑l.length:Int))::aa Z2::aa (bk ar (↑(ae l'):Int))::aa (aD an)::n4 (n4 (n4 (aj::aj::aj::[])))) [(10,an),(4,an)] [aa (.inr (.inr (.inl (iR l)))),aa (.inr (.inr (.inl (iR l'))))]))) ?_ (by kernel_rfl)
  intro Z1 Z2;subst Z2 Z1;refine⟨fun h=>⟨?_⟩,fun h=>?_⟩
  ·have h2:¬ l=l':=fun e=>by rw[e,bne_self_eq_false] at h;cases h
   subst hG;rw[decide_eq_false h2];exact⟨[0,1],rfl,rfl,⟨rfl,rfl,trivial⟩,rfl,rfl,rfl,rfl⟩
  have hl:l.length=l'.length:=by have:=(bne_eq_false_iff_eq).1 h;omega
  clear h;refine kH (by kernel_rfl) (ι:=Nat) (fun i=>i≤l.length/\∀ j,j<i->l.getD j iz=l'.getD j iz) [0,1,5] (fun i=>[.slice (aa ⟨0,0,aa 2000⟩) l.length c,.slice (aa ⟨1,0,aa 2000⟩) l'.length c',.int .i64 i]) (fun i=>[vI l,vI l']) (fun i=>l.length-i) 26 (fun i hi=>⟨rfl,rfl,by simp⟩) ⟨0,⟨du _,fun j hj=>by omega⟩,⟨[0,1],rfl,⟨rfl,rfl,trivial⟩,rfl,rfl,rfl,rfl⟩⟩ fun i hi=>?_
  obtain⟨hi,hn⟩:=hi;refine cJ (T:=[]) trivial mixed 200 ?_;refine bK (q:=let Z1:=(ax (au It.i l) (0+(i:Int).toNat) (0:Int)==ax (au It.i l') (0+(i:Int).toNat) (0:Int)&&ao);let Z2:=(if ao=ao then !(ax (au It.k l) (0+(i:Int).toNat) (0:Int)==ax (au It.k l') (0+(i:Int).toNat) (0:Int)&&Z1) else ax (au It.k l) (0+(i:Int).toNat) (0:Int)==ax (au It.k l') (0+(i:Int).toNat) (0:Int)&&Z1);(decide ((↑i:Int)<(↑l.length:Int))=ao->Vc ((0:Int)≤(↑i:Int)/\(↑i:Int)<(↑l.length:Int)/\0+ae l≤ae l)/\Vc (0+(i:Int).toNat<ae l)/\Vc ((0:Int)≤(↑i:Int)/\(↑i:Int)<(↑(ae l'):Int)/\0+ae l'≤ae l')/\Vc (0+(i:Int).toNat<ae l')/\(Z2=ao->aW (G (aD an) [aa (.inr (.inr (.inl (iR l)))),aa (.inr (.inr (.inl (iR l'))))]))/\(Z2=an->Vc (fits ((↑i:Int)+(1:Int)))/\aW (∃ j,(j≤ae l/\∀ (L3:Nat),L3<j->ax l L3 iz=ax l' L3 iz)/\ae l-j<ae l-i/\j6 R 2 26 [0,1,5] [.slice (aa ⟨0,0,aa 2000⟩) l.length c,.slice (aa ⟨1,0,aa 2000⟩) (ae l') c',.int ar (↑j:Int)] [Wv.vI l,Wv.vI l'] [aa (bx (aa ⟨0,0,aa 2000⟩) l.length c),aa (bx (aa ⟨1,0,aa 2000⟩) (ae l') c'),aa (bk ar ((↑i:Int)+(1:Int)))] [aa (.inr (.inr (.inl (iR l)))),aa (.inr (.inr (.inl (iR l'))))] 26)))/\(decide ((↑i:Int)<(↑l.length:Int))=an->aW (G (aD ao) [aa (.inr (.inr (.inl (iR l)))),aa (.inr (.inr (.inl (iR l'))))]))) ?_ (by kernel_rfl)
  intro Z1 Z2;subst Z2 Z1;simp only[TP,L_ It.k 0 rfl,L_ It.i 0 rfl];have hx:=SZ (a:=l.getD i iz) (b:=l'.getD i iz);simp only[hx,if_true,ite_true];refine⟨fun h=>?_,fun h=>?_⟩
  ·have cj:i<l.length:=by have:=of_decide_eq_true h;omega
   have Un:i<l'.length:=by omega
   refine⟨⟨by omega,by omega,by omega⟩,⟨cj⟩,⟨by omega,by omega,by omega⟩,⟨Un⟩,fun h2=>⟨?_⟩,fun h2=>⟨⟨by omega,by omega⟩,⟨i+1,⟨cj,fun j hj=>?_⟩,by omega,⟨[0,1],rfl,⟨rfl,rfl,trivial⟩,rfl,rfl,rfl,rfl⟩⟩⟩⟩
   ·have h3:¬ l.getD i iz=l'.getD i iz:=by simpa using h2
    have h4:¬ l=l':=fun e=>h3 (by rw[e])
    subst hG;rw[decide_eq_false h4];exact⟨[0,1],rfl,rfl,⟨rfl,rfl,trivial⟩,rfl,rfl,rfl,rfl⟩
   ·have h3:l.getD i iz=l'.getD i iz:=by simpa using h2
    rcases cr j i with c|c
    ·exact hn j c
    ·rw[show j=i by omega];exact h3
  ·obtain rfl:i=l.length:=by have:=of_decide_eq_false h;omega
   have e:l=l':=Oc hl fun j h1 h2=>by
    have:=hn j h1
    rwa [av,bd h1,av,bd h2] at this
   refine⟨?_⟩;subst hG;rw[decide_eq_true e];exact⟨[0,1],rfl,rfl,⟨rfl,rfl,trivial⟩,rfl,rfl,rfl,rfl⟩
 ·cases hx
theorem JN (l:List It) (x:It):decide (OM l x<0) = !nK x l:=by
 unfold OM;cases nK x l
 ·rfl
 ·simp only[if_true,Bool.not_true];exact decide_eq_false (by omega)
end Sh
namespace G9
open Rx Wv Sh
set_option maxRecDepth 100000
set_option maxHeartbeats 16000000
def Uk:jb Rt:=⟨fun _ _=>aa ao,fun _ _=>aj,fun _ _=>aa ⟨True,.bool an,aj,[],[],[]⟩⟩
theorem QB:QP D2 Uk:=by
 refine⟨fun _ X p F w h=>?_,fun e X x p F w hx=>by cases hx⟩
 obtain⟨Mi,PO,h1,h2,h3⟩:=h;obtain⟨t,cs,tl,hl⟩:∃ t cs tl,L2.lay X=aa (.inl (t,cs))::tl:=by cases X;exact⟨_,_,_,rfl⟩
 obtain⟨g1,g2,g3⟩:=(h3.at_ 0 (.inl (t,cs)) (by rw[hl];rfl)).1
 subst h1;exact⟨(h2 _).2 ⟨0,(g2 _).2 rfl⟩,_,_,g3⟩
def its (s:Ts):List It:=s.l.map Sl.it
theorem XY {s:Ts} {l:List It} (h:s.l=mC l):its s=l:=by
 unfold its;rw[h];unfold mC;rw[List.map_map];exact List.map_id'' (fun _=>rfl) l
abbrev oS (l:List Sl):Option (SB Rt):=aa (.inr (.inl (75,⟨[.int .i64 0,.int .i64 0,.bool an,.int .i64 0],l.length,[⟨l.map fun e=>e.it.k,[],[]⟩,⟨l.map fun e=>e.it.i,[],[]⟩,⟨[],l.map fun e=>e.kA,[]⟩,⟨l.map fun e=>e.time,[],[]⟩]⟩)))
theorem aio {α:Type} (v:α):cut [v] 0 1=[v]:=rfl
def TNw:ez Rt:=[(91,bJ zN 2 (a9 H6))]
theorem Vy:cL D2 Tryz.prog TNw:=⟨aT _ _ Q7,trivial⟩
def MJ:Prim Rt:=fun args hh=>match args,hh with
 |[.int .i64 c],[]=>aa ⟨True,.pointer (aa ⟨0,0,aj⟩),aj,[oT (qU k9 c)],[],[(0,0)]⟩
 |_,_=>aj
theorem Um:b6 D2 Tryz.prog 53 (a9 MJ):=by
 refine fj Tryz.f53 fun args hh x hx=>?_
 unfold MJ at hx;split at hx
 ·rename_i c;cases hx;refine q4 fun _ hv=>?_
  generalize hG:ch (R:=Rt) _ _=G;refine cJ (T:=TNw) Vy mixed 200 ?_;refine bK (q:=Vc True/\aW (G (aC (aa ⟨0,0,aj⟩)) [aa (.inr (.inr (.inr (Rt.tree (qU k9 c)))))])) ?_ (by kernel_rfl)
  subst hG;exact⟨⟨trivial⟩,⟨⟨[0],rfl,rfl,⟨rfl,trivial⟩,rfl,rfl,rfl,rfl⟩⟩⟩
 ·cases hx
def TIt:ez Rt:=[(1000000000,Uk),(61,bJ zN 2 (a9 Ia)),(38,bJ zN 2 (a9 AA)),(94,bJ zN 2 (a9 An)),(69,bJ zN 2 (a9 M5))]
theorem abJ:cL D2 Tryz.prog TIt:=⟨QB,aT _ _ QZ,aT _ _ BR,aT _ _ EH,aT _ _ Kp,trivial⟩
def Vx:Prim Rt:=fun args hh=>match args,hh with
 |[.pointer (aa ⟨0,0,aj⟩)],[aa (.inr (.inr (.inr (.tree s))))]=>aa ⟨s.gk,.slice (aa ⟨1,0,aa 2000⟩) s.l.length 0,aj,[oT s.seen.all,oI (its s)],[],[(0,0)]⟩
 |_,_=>aj
theorem adX:b6 D2 Tryz.prog 22 (a9 Vx):=by
 refine fj Tryz.f22 fun args hh x hx=>?_
 unfold Vx at hx;split at hx
 ·rename_i s;cases hx;refine q4 fun _ hv=>?_
  generalize hG:ch (R:=Rt) _ _=G;refine cJ (T:=TIt) abJ mixed 200 ?_;refine bK (q:=let Z5:=bk ar;let Z1:=(↑(ae (eK s)):Int);let Z2:=(aC (aa ⟨0,0,aj⟩));let Z3:=(bx (aa ⟨2,0,aa 2000⟩) 0 (aH Z1));let Z4:=(eK (dz s));Vc (eW s)/\Vc ((0:Int)≤(0:Int)/\(0:Int)≤Z1/\Z1*(16:Int)≤(140737488355328:Int)/\Z1≤(140737488355328:Int))/\Vc (eW (dz s))/\At D2 Tryz.prog (dJ Tryz.f22) 1 (iE Tryz.prog (dA (dC Tryz.f22)) G) [.inl [1,1,1,0,1,0],.inr (.inl 0),.inl [1,1,1,1]] (SS.mk (aa Z2::aj::aa (bx (aa ⟨1,0,aa 2000⟩) 0 0)::aa Z3::aj::aj::aa Z2::aa (aD an)::aa Z2::aa (Z5 Z1)::aa Z3::aa Z2::aa (bx (aa ⟨3,0,aa 4000⟩) (ae Z4) 0)::aa (Z5 (↑(ae Z4):Int))::aa (Z5 0)::n4 (n4 (aj::aj::[]))) [(7,an)] [aa (.inr (.inr (.inr (Rt.tree (sg (dz s)))))),aa (.inr (.inl (31,Row.mk [Z5 0,Z5 0] 0 [aX.mk [] [] [],aX.mk [] [] []]))),aa (.inr (.inl (31,Row.mk [Z5 0,Z5 0] 0 [aX.mk [] [] [],aX.mk [] [] []]))),aa (.inr (.inl (75,Row.mk [Z5 0,Z5 0,.bool an,Z5 0] (ae Z4) [aX.mk (au (fun e=>It.k (Sl.it e)) Z4) [] [],aX.mk (au (fun e=>It.i (Sl.it e)) Z4) [] [],aX.mk [] (au (fun e=>Sl.kA e) Z4) [],aX.mk (au (fun e=>Sl.time e) Z4) [] []])))])) ?_ (by kernel_rfl)
  intro Z5 Z1 Z2 Z3 Z4;subst Z4 Z3 Z2 Z1 Z5;have hb:=s.C4;refine⟨⟨hv⟩,⟨⟨by omega,by omega,by omega,by omega⟩⟩,⟨hv⟩,?_⟩
  have hL:(its s).length=s.l.length:=by unfold its;rw[fR]
  refine kH (by kernel_rfl) (ι:=Nat×Nat) (fun x=>x.1≤s.l.length/\(x.1=s.l.length->x.2=0)) [3,12,13,14] (fun x=>[.slice (aa ⟨1,0,aa 2000⟩) ((its s).take x.1).length x.2,.slice (aa ⟨2,0,aa 4000⟩) s.l.length 0,.int .i64 s.l.length,.int .i64 x.1]) (fun x=>[oT s.seen.all,oI ((its s).take x.1),oS s.l]) (fun x=>s.l.length-x.1) 25 (fun i hi=>⟨rfl,rfl,by simp⟩) ⟨(0,(s.l.length:Int).toNat),⟨du _,fun h=>by rw[← h];rfl⟩,⟨[0,2,3],rfl,⟨rfl,⟨_,rfl,.inl rfl⟩,⟨_,rfl,.inl rfl⟩,trivial⟩,rfl,rfl,rfl,rfl⟩⟩ fun x hx=>?_
  obtain⟨i,cp⟩:=x;obtain⟨hi,Wf⟩:=hx;simp only at hi Wf ⊢;refine cJ (T:=TIt) abJ mixed 200 ?_;refine bK (q:=let Z4:=bk ar;let Z1:=(eK s);let Z2:=(↑(ae Z1):Int);let Z3:=(gY i (its s));(decide ((↑i:Int)<Z2)=ao->Vc ((0:Int)≤(↑i:Int)/\(↑i:Int)<Z2/\0+ae Z1≤ae Z1)/\Vc (0+(i:Int).toNat<ae Z1)/\Vc (0+ae Z3≤ae Z3/\1≤1/\(ae Z3+1)*16≤140737488355328/\ae Z3+1≤140737488355328)/\Vc True/\aW (∃ j,(aA j≤ae Z1/\(aA j=ae Z1->aw j=0))/\ae Z1-aA j<ae Z1-i/\j6 Rt 1 25 [3,12,13,14] [.slice (aa ⟨1,0,aa 2000⟩) (ae (gY (aA j) (its s))) (aw j),.slice (aa ⟨2,0,aa 4000⟩) (ae Z1) 0,Z4 Z2,Z4 (↑(aA j):Int)] [oT (sg (dz s)),oI (gY (aA j) (its s)),oS Z1] [aa (bx (aa ⟨5,0,aa 2000⟩) (ae Z3+1) 0),aa (bx (aa ⟨2,0,aa 4000⟩) (ae Z1) 0),aa (Z4 Z2),aa (Z4 (ck ar ((↑i:Int)+(1:Int))))] [aa (.inr (.inr (.inr (Rt.tree (sg (dz s)))))),aj,aa (.inr (.inl (75,Row.mk [Z4 0,Z4 0,.bool an,Z4 0] (ae Z1) [aX.mk (au (fun e=>It.k (Sl.it e)) Z1) [] [],aX.mk (au (fun e=>It.i (Sl.it e)) Z1) [] [],aX.mk [] (au (fun e=>Sl.kA e) Z1) [],aX.mk (au (fun e=>Sl.time e) Z1) [] []]))),aa (.inl (75,[Z4 (ax (au (fun e=>It.k (Sl.it e)) Z1) (0+(i:Int).toNat) (0:Int)),Z4 (ax (au (fun e=>It.i (Sl.it e)) Z1) (0+(i:Int).toNat) (0:Int)),.bool (ax (au (fun e=>Sl.kA e) Z1) (0+(i:Int).toNat) an),Z4 (ax (au (fun e=>Sl.time e) Z1) (0+(i:Int).toNat) (0:Int))])),aa (.inr (.inl (31,Row.mk [Z4 0,Z4 0] 1 [aX.mk [ax (au (fun e=>It.k (Sl.it e)) Z1) (0+(i:Int).toNat) (0:Int)] [] [],aX.mk [ax (au (fun e=>It.i (Sl.it e)) Z1) (0+(i:Int).toNat) (0:Int)] [] []]))),aa (.inr (.inl (31,Row.mk [Z4 0,Z4 0] (ae Z3+1) [aX.mk (cut (au It.k Z3) 0 (ae Z3)++cut [ax (au (fun e=>It.k (Sl.it e)) Z1) (0+(i:Int).toNat) (0:Int)] 0 1) [] [],aX.mk (cut (au It.i Z3) 0 (ae Z3)++cut [ax (au (fun e=>It.i (Sl.it e)) Z1) (0+(i:Int).toNat) (0:Int)] 0 1) [] []])))] 25))/\(decide ((↑i:Int)<Z2)=an->aW (G (bx (aa ⟨1,0,aa 2000⟩) (ae Z3) cp) [aa (.inr (.inr (.inr (Rt.tree (sg (dz s)))))),aa (.inr (.inl (31,iR Z3))),aa (.inr (.inl (75,Row.mk [Z4 0,Z4 0,.bool an,Z4 0] (ae Z1) [aX.mk (au (fun e=>It.k (Sl.it e)) Z1) [] [],aX.mk (au (fun e=>It.i (Sl.it e)) Z1) [] [],aX.mk [] (au (fun e=>Sl.kA e) Z1) [],aX.mk (au (fun e=>Sl.time e) Z1) [] []])))]))) ?_ (by kernel_rfl)
  intro Z4 Z1 Z2 Z3;subst Z3 Z2 Z1 Z4;have gS:∀ {β:Type} (f:Sl->β) (d:β),f Yp=d->(s.l.map f).getD i d=f (s.l.getD i Yp):=fun f d h=>by
   subst h;rw[av,av,fh];cases s.l[i]?<;>rfl
  have hS:i<s.l.length->(its s).take (i+1)=(its s).take i++[(s.l.getD i Yp).it]:=fun h=>by
   rw[xK iz (by omega)]
   unfold its;rw[av,fh,av,bd h];rfl
  have FP:=List.length_take_le i (its s);simp only[gS (fun e=>e.it.k) 0 rfl,gS (fun e=>e.it.i) 0 rfl,gS (fun e=>e.kA) an rfl,gS (fun e=>e.time) 0 rfl,cm,aio,TP]
  refine⟨fun h=>?_,fun h=>?_⟩
  ·have cj:i<s.l.length:=by have:=of_decide_eq_true h;omega
   have hW:ar.wrap ((i:Int)+1)=((i+1:Nat):Int):=oJ ⟨by omega,by omega⟩
   refine⟨⟨by omega,by omega,by omega⟩,⟨by omega⟩,⟨by omega,by omega,by omega,by omega⟩,⟨trivial⟩,⟨(i+1,0),⟨cj,fun _=>rfl⟩,by simp only;omega,?_⟩⟩
   rw[hS cj,hW];simp only[oI,iR,bA,cy,jN,dG,gr,uP,bV];exact⟨[0,5,2],rfl,⟨rfl,⟨_,rfl,.inl rfl⟩,⟨_,rfl,.inl rfl⟩,trivial⟩,rfl,rfl,rfl,rfl⟩
  ·obtain rfl:i=s.l.length:=by have:=of_decide_eq_false h;omega
   obtain rfl:=Wf rfl;refine⟨?_⟩;subst hG;rw[← hL,js];exact⟨[0,1],rfl,rfl,⟨rfl,⟨_,rfl,.inl rfl⟩,trivial⟩,rfl,rfl,rfl,rfl⟩
 ·cases hx
end G9
namespace Br
open Rx Wv G8
set_option maxRecDepth 100000
def tkL (x:Option It):List Value:=[.bool x.isSome,.int .i64 (x.getD iz).k,.int .i64 (x.getD iz).i]
theorem Tz {L:List Mk} {b:Int} (hl:L.length≤60) (Mj:-1099511627776≤b) (Ov:b≤1099511627776):Gv.AS O8 S8 (j4 b) (fun i=>decide (v7 L b (i+1)≤0)) L:=aet fun p l q hL kv=>by
 have hn:=congrArg ae hL;simp only[bA] at hn;have hp:p.length≤60:=by omega
 have hq:l.length≤60:=by omega
 have h1:=Ti.Av (Ge ZX hp) _ (a_ _);have h2:=Ti.Gu (Ge ZX hq) _ (a_ _);have e1:(S8 p).w.s=Ti.o3 (p.map uF) (p.map uF).length:=rfl;have e2:(S8 l).w.l=Ti.qs (l.map uF) (l.map uF).length:=rfl;rw[← e1] at h1;rw[← e2] at h2;unfold j4;have w1:m7 (b+(S8 p).w.s)=b+(S8 p).w.s:=Gv.uD (by omega)
 have w2:m7 (b+(S8 p).w.s+(S8 l).w.l)=b+(S8 p).w.s+(S8 l).w.l:=Gv.uD (by omega)
 rw[w1,w2,decide_eq_true_eq]
theorem Sp (s:Ts):s.l.length≤60:=s.ok.dk
def CG (s:Ts) (p:Int):Ts:=s.seen.F5 0 (kF s.l.length p)
def Er (s:Ts) (p b:Int):Ts:=if kF s.l.length p=0/\b≤0 then s.seen else s.seen.first (j4 b) ((kF s.l.length p:Int)-1)
def Wa (s:Ts) (p b:Int):Ts:=s.seen.last (j4 b) (kF s.l.length p)
def Hr (s:Ts) (p:Int):Ts:=s.seen.seen.F5 (kF s.l.length p) s.l.length
theorem alU (s:Ts) (p b:Int):(Er s p b).l=s.l:=by unfold Er;split<;>rfl
theorem alQ (s:Ts) (p b:Int):(Er s p b).n=s.n:=by unfold Er;split<;>rfl
theorem alO (s:Ts) (p b:Int):(Er s p b).c=s.c:=by unfold Er;split<;>rfl
theorem agX {s:Ts} {L:List Mk} {p b:Int} (hL:s.l=L) (Mj:-1099511627776≤b) (Ov:b≤1099511627776):Fx (8*uU L.length+5) s.m (Er s p b).m:=by
 subst hL;have h1:=s.qb;have h3:=Qi (s:=s.seen) (f:=(kF s.l.length p:Int)-1) (may:=j4 b) (Tz (L:=s.l) (Sp s) Mj Ov);unfold Er;split
 ·exact h1.mono (by omega)
 ·exact(h1.trans h3).mono (by show 1+(4*uU s.l.length+1)≤_;omega)
theorem agA {s:Ts} {L:List Mk} {p b:Int} (hL:s.l=L) (Mj:-1099511627776≤b) (Ov:b≤1099511627776):Fx (8*uU L.length+5) s.m (Wa s p b).m:=by
 subst hL;have h1:=s.qb;have h3:=RG (s:=s.seen) (f:=(kF s.l.length p:Int)) (may:=j4 b) (Tz (L:=s.l) (Sp s) Mj Ov);exact(h1.trans h3).mono (by show 1+(4*uU s.l.length+1)≤_;omega)
set_option maxHeartbeats 8000000
def Uk:jb Rt:=⟨fun _ _=>aa ao,fun _ _=>aj,fun _ _=>aa ⟨True,.bool an,aj,[],[],[]⟩⟩
theorem QB:QP D2 Uk:=by
 refine⟨fun _ X p F w h=>?_,fun e X x p F w hx=>by cases hx⟩
 obtain⟨Mi,PO,h1,h2,h3⟩:=h;obtain⟨t,cs,tl,hl⟩:∃ t cs tl,L2.lay X=aa (.inl (t,cs))::tl:=by cases X;exact⟨_,_,_,rfl⟩
 obtain⟨g1,g2,g3⟩:=(h3.at_ 0 (.inl (t,cs)) (by rw[hl];rfl)).1
 subst h1;exact⟨(h2 _).2 ⟨0,(g2 _).2 rfl⟩,_,_,g3⟩
def TNw:ez Rt:=[(90,bJ zN 2 (a9 H6))]
theorem Vy:cL D2 Tryz.prog TNw:=⟨aT _ _ Q7,trivial⟩
def MJ:Prim Rt:=fun args hh=>match args,hh with
 |[.int .i64 c],[]=>aa ⟨True,.pointer (aa ⟨0,0,aj⟩),aj,[oT (qU k8 c)],[],[(0,0)]⟩
 |_,_=>aj
theorem Um:b6 D2 Tryz.prog 52 (a9 MJ):=by
 refine fj Tryz.f52 fun args hh x hx=>?_
 unfold MJ at hx;split at hx
 ·rename_i c;cases hx;refine q4 fun _ hv=>?_
  generalize hG:ch (R:=Rt) _ _=G;refine cJ (T:=TNw) Vy mixed 200 ?_;refine bK (q:=Vc True/\aW (G (aC (aa ⟨0,0,aj⟩)) [aa (.inr (.inr (.inr (Rt.tree (qU k8 c)))))])) ?_ (by kernel_rfl)
  subst hG;exact⟨⟨trivial⟩,⟨⟨[0],rfl,rfl,⟨rfl,trivial⟩,rfl,rfl,rfl,rfl⟩⟩⟩
 ·cases hx
def TCl:ez Rt:=[(40,bJ zN 2 (a9 AA)),(78,bJ zN 2 (a9 Pw))]
theorem ajE:cL D2 Tryz.prog TCl:=⟨aT _ _ BR,aT _ _ Rl,trivial⟩
def YS:Prim Rt:=fun args hh=>match args,hh with
 |[.pointer (aa ⟨0,0,aj⟩),.int .i64 p],[aa (.inr (.inr (.inr (.tree s))))]=>aa ⟨s.gk,.tuple ⟨[.pointer (aa ⟨0,0,aj⟩),.int .i64 (kF s.l.length p)]⟩,aj,[oT s.seen],[],[(0,0)]⟩
 |_,_=>aj
theorem agj:b6 D2 Tryz.prog 132 (a9 YS):=by
 refine fj Tryz.f132 fun args hh x hx=>?_
 unfold YS at hx;split at hx
 ·rename_i p s;cases hx;refine q4 fun _ hv=>?_
  generalize hG:ch (R:=Rt) _ _=G;refine cJ (T:=TCl) ajE mixed 200 ?_;refine bK (q:=Vc (eW s)/\aW (G (cq (aO [.pointer (aa ⟨0,0,aj⟩),.int ar (if(↑(ae (eK s)):Int)<if(0:Int)>p then(0:Int) else p then(↑(ae (eK s)):Int) else if(0:Int)>p then(0:Int) else p)])) [aa (.inr (.inr (.inr (Rt.tree (dz s)))))])) ?_ (by kernel_rfl)
  have e:(if(s.l.length:Int)<(if 0>p then 0 else p) then(s.l.length:Int) else(if 0>p then 0 else p))=(kF s.l.length p:Int):=by unfold kF;split<;>split at *<;>omega
  rw[e];subst hG;exact⟨⟨hv⟩,⟨⟨[0],rfl,rfl,⟨rfl,trivial⟩,rfl,rfl,rfl,rfl⟩⟩⟩
 ·cases hx
theorem abp (l:List Mk) (p:Int):mX l (kF l.length p) l.length=l.drop (kF l.length p):=by
 show(l.drop _).take (l.length-_)=_
 rw[jj (by rw[jt];exact a_ _)]
theorem ab2 (l:List Mk) (p:Int):mX l 0 (kF l.length p)=l.take (kF l.length p):=rfl
theorem yR {s:Ts} (h:s.gk):s.seen.gk:=h
def ZU:Prim Rt:=fun args hh=>match args,hh with
 |[.int .i64 b],[]=>aa ⟨True,.func (.func 154) ⟨[]⟩ ⟨[.pointer (aa ⟨0,0,aj⟩)]⟩,aj,[aa (.inl (3,[.int .i64 b]))],[],[(0,0)]⟩
 |_,_=>aj
theorem agq:b6 D2 Tryz.prog 133 (a9 ZU):=by
 refine fj Tryz.f133 fun args hh x hx=>?_
 unfold ZU at hx;split at hx
 ·rename_i b;cases hx;refine q4 fun _ hv=>?_
  generalize hG:ch (R:=Rt) _ _=G;refine cJ (T:=[]) trivial mixed 200 ?_;refine bK (q:=Vc True/\aW (G (Value.func (Fn.func 154) (aO []) (aO [.pointer (aa ⟨0,0,aj⟩)])) [aa (.inl (3,[.int ar b]))])) ?_ (by kernel_rfl)
  subst hG;exact⟨⟨trivial⟩,⟨⟨[0],rfl,rfl,⟨.inl rfl,trivial⟩,rfl,rfl,rfl,rfl⟩⟩⟩
 ·cases hx
def TBr:ez Rt:=[(1000000000,Uk),(132,bJ zN 2 (a9 YS)),(133,bJ zN 2 (a9 ZU)),(108,bJ zN 2 (a9 ME)),(111,bJ zN 2 (a9 Rd)),(40,bJ zN 2 (a9 AA)),(78,bJ zN 2 (a9 Pw))]
theorem Pd:cL D2 Tryz.prog TBr:=⟨QB,aT _ _ agj,aT _ _ agq,aT _ _ YT,aT _ _ abz,aT _ _ BR,aT _ _ Rl,trivial⟩
def ac5:Prim Rt:=fun args hh=>match args,hh with
 |[.pointer (aa ⟨0,0,aj⟩),.int .i64 p,.int .i64 b],[aa (.inr (.inr (.inr (.tree s))))]=>aa ⟨s.gk/\-1099511627776≤b/\b≤1099511627776,.int .i64 (O3 s.l p b),aj,[oT (Er s p b)],[],[(0,0)]⟩
 |_,_=>aj
theorem akG:b6 D2 Tryz.prog 112 (a9 ac5):=by
 refine fj Tryz.f112 fun args hh x hx=>?_
 unfold ac5 at hx;split at hx
 ·rename_i p b s;cases hx;refine q4 fun _ hv=>?_
  generalize hG:ch (R:=Rt) _ _=G;refine cJ (T:=TBr) Pd mixed 200 ?_;refine bK (q:=let Z2:=bk ar;let Z1:=(ck ar ((↑(kF (ae (eK s)) p):Int)-(1:Int)));Vc (eW s)/\(((↑(kF (ae (eK s)) p):Int)==(0:Int))=ao->(decide (b≤(0:Int))=ao->aW (G (Z2 0) [aa (.inr (.inr (.inr (Rt.tree (dz s)))))]))/\(decide (b≤(0:Int))=an->Vc True/\Vc True/\Vc (eW (dz s))/\(decide (pj (j4 b) (dz s) Z1<(0:Int))=ao->aW (G (Z2 (-1:Int)) [aa (.inr (.inr (.inr (Rt.tree (yG (j4 b) (dz s) Z1))))),aa (.inl (3,[Z2 b]))]))/\(decide (pj (j4 b) (dz s) Z1<(0:Int))=an->Vc True/\aW (G (Z2 (ck ar (pj (j4 b) (dz s) Z1+(1:Int)))) [aa (.inr (.inr (.inr (Rt.tree (yG (j4 b) (dz s) Z1))))),aa (.inl (3,[Z2 b]))]))))/\(((↑(kF (ae (eK s)) p):Int)==(0:Int))=an->Vc True/\Vc True/\Vc (eW (dz s))/\(decide (pj (j4 b) (dz s) Z1<(0:Int))=ao->aW (G (Z2 (-1:Int)) [aa (.inr (.inr (.inr (Rt.tree (yG (j4 b) (dz s) Z1))))),aa (.inl (3,[Z2 b]))]))/\(decide (pj (j4 b) (dz s) Z1<(0:Int))=an->Vc True/\aW (G (Z2 (ck ar (pj (j4 b) (dz s) Z1+(1:Int)))) [aa (.inr (.inr (.inr (Rt.tree (yG (j4 b) (dz s) Z1))))),aa (.inl (3,[Z2 b]))])))) ?_ (by kernel_rfl)
  intro Z2 Z1;subst Z1 Z2;obtain⟨lT,Mj,Ov⟩:=hv;have done:∀ (x:Int) (rest:Hp Rt),x=O3 s.l p b->G (.int .i64 x) (oT (Er s p b)::rest):=by
   intro x rest e;subst e;subst hG;exact⟨[0],rfl,rfl,⟨rfl,trivial⟩,rfl,rfl,rfl,rfl⟩
  clear hG;have hl:=Sp s;have hc:=Vk s.l.length p;have hN:=abi s.l p b;have hA:=Tz (L:=s.l) hl Mj Ov;have e1:ar.wrap ((kF s.l.length p:Int)-1)=(kF s.l.length p:Int)-1:=oJ ⟨by omega,by omega⟩
  simp only[e1];refine⟨⟨lT⟩,fun h0=>⟨fun h1=>⟨?_⟩,fun h1=>?_⟩,fun h0=>?_⟩
  ·have h0:kF s.l.length p=0:=by have:=eq_of_beq h0;omega
   have h1:=of_decide_eq_true h1;rw[Er,if_pos ⟨h0,h1⟩] at done;exact done _ _ (Pu (.inr ⟨0,rfl,by omega,by omega,by rw[Ee];exact h1,fun i g1 g2=>by omega⟩) hN)
  all_goals
   have cb:¬ (kF s.l.length p=0/\b≤0):=by
    first
    |exact fun c=>absurd c.2 (of_decide_eq_false h1)
    |exact fun c=>by have:=beq_eq_false_iff_ne.1 h0;omega
   rw[Er,if_neg cb] at done;have hF:=RH (s:=s.seen) (f:=(kF s.l.length p:Int)-1) (may:=j4 b) hA.toAsks;have hI:=ZB hc (fun c0 c1=>cb ⟨c0,c1⟩) hF
   generalize pj (j4 b) s.seen ((kF s.l.length p:Int)-1)=r at *
   have hr:-1≤r/\r<60:=by
    rcases hF with⟨h1,_⟩|⟨j,h1,_,h3,_⟩
    ·omega
    ·have h3:j<s.l.length:=h3;omega
   refine⟨⟨trivial⟩,⟨trivial⟩,⟨yR lT⟩,fun h2=>⟨?_⟩,fun h2=>⟨⟨trivial⟩,⟨?_⟩⟩⟩
   ·rw[if_pos (of_decide_eq_true h2)] at hI;exact done _ _ (Pu hI hN)
   ·rw[if_neg (of_decide_eq_false h2)] at hI;rw[show ar.wrap (r+1)=r+1 from oJ ⟨by omega,by omega⟩]
    exact done _ _ (Pu hI hN)
 ·cases hx
def adN:Prim Rt:=fun args hh=>match args,hh with
 |[.pointer (aa ⟨0,0,aj⟩),.int .i64 p,.int .i64 b],[aa (.inr (.inr (.inr (.tree s))))]=>aa ⟨s.gk/\-1099511627776≤b/\b≤1099511627776,.int .i64 (E7 s.l p b),aj,[oT (Wa s p b)],[],[(0,0)]⟩
 |_,_=>aj
theorem ain:b6 D2 Tryz.prog 95 (a9 adN):=by
 refine fj Tryz.f95 fun args hh x hx=>?_
 unfold adN at hx;split at hx
 ·rename_i p b s;cases hx;refine q4 fun _ hv=>?_
  generalize hG:ch (R:=Rt) _ _=G;refine cJ (T:=TBr) Pd mixed 200 ?_;refine bK (q:=let Z2:=bk ar;let Z1:=(↑(kF (ae (eK s)) p):Int);Vc (eW s)/\Vc True/\Vc (eW (dz s))/\(decide (tT (j4 b) (dz s) Z1<(0:Int))=ao->(decide (b>(0:Int))=ao->aW (G (Z2 (-1:Int)) [aa (.inr (.inr (.inr (Rt.tree (DK (j4 b) (dz s) Z1))))),aa (.inl (3,[Z2 b]))]))/\(decide (b>(0:Int))=an->Vc True/\aW (G (Z2 (ck ar (tT (j4 b) (dz s) Z1+(1:Int)))) [aa (.inr (.inr (.inr (Rt.tree (DK (j4 b) (dz s) Z1))))),aa (.inl (3,[Z2 b]))])))/\(decide (tT (j4 b) (dz s) Z1<(0:Int))=an->Vc True/\aW (G (Z2 (ck ar (tT (j4 b) (dz s) Z1+(1:Int)))) [aa (.inr (.inr (.inr (Rt.tree (DK (j4 b) (dz s) Z1))))),aa (.inl (3,[Z2 b]))]))) ?_ (by kernel_rfl)
  intro Z2 Z1;subst Z1 Z2;obtain⟨lT,Mj,Ov⟩:=hv;have done:∀ (x:Int) (rest:Hp Rt),x=E7 s.l p b->G (.int .i64 x) (oT (Wa s p b)::rest):=by
   intro x rest e;subst e;subst hG;exact⟨[0],rfl,rfl,⟨rfl,trivial⟩,rfl,rfl,rfl,rfl⟩
  clear hG;have hl:=Sp s;have hc:=Vk s.l.length p;have hN:=O' s.l p b;have hA:=Tz (L:=s.l) hl Mj Ov;have hF:=SX (s:=s.seen) (f:=(kF s.l.length p:Int)) (may:=j4 b) hA.toAsks;have hI:=aeg hc hF;unfold Wa at done;generalize tT (j4 b) s.seen (kF s.l.length p)=r at *
  have hr:-1≤r/\r<60:=by
   rcases hF with⟨h1,_⟩|⟨j,h1,_,h3,_⟩
   ·omega
   ·have h3:j<s.l.length:=h3;omega
  refine⟨⟨lT⟩,⟨trivial⟩,⟨yR lT⟩,fun h=>⟨fun h2=>⟨?_⟩,fun h2=>⟨⟨trivial⟩,⟨?_⟩⟩⟩,fun h=>⟨⟨trivial⟩,⟨?_⟩⟩⟩
  ·have h:=of_decide_eq_true h;have h2:=of_decide_eq_true h2;rw[if_neg (by omega),if_neg (by omega)] at hI
   exact done _ _ (Vw hI hN)
  ·have h:=of_decide_eq_true h;have h2:=of_decide_eq_false h2;rw[if_neg (by omega),if_pos (by omega)] at hI
   rw[show ar.wrap (r+1)=0 from by rw[oJ ⟨by omega,by omega⟩];omega]
   exact done _ _ (Vw hI hN)
  ·have h:=of_decide_eq_false h;rw[if_pos (by omega)] at hI
   rw[show ar.wrap (r+1)=r+1 from oJ ⟨by omega,by omega⟩]
   exact done _ _ (Vw hI hN)
 ·cases hx
def adg:Prim Rt:=fun args hh=>match args,hh with
 |[.pointer (aa ⟨0,0,aj⟩),.int .i64 p],[aa (.inr (.inr (.inr (.tree s))))]=>aa ⟨s.gk,.agg ⟨tkL (uK s.l p)⟩,aj,[oT (Hr s p)],[],[(0,0)]⟩
 |_,_=>aj
theorem ajg:b6 D2 Tryz.prog 104 (a9 adg):=by
 refine fj Tryz.f104 fun args hh x hx=>?_
 unfold adg at hx;split at hx
 ·rename_i p s;cases hx;refine q4 fun _ hv=>?_
  generalize hG:ch (R:=Rt) _ _=G;refine cJ (T:=TBr) Pd mixed 200 ?_;refine bK (q:=let Z1:=(S8 (mX (eK (dz (dz s))) (aH (↑(kF (ae (eK s)) p):Int)) (aH (↑(ae (eK (dz s))):Int))));Vc (eW s)/\Vc (eW (dz s))/\Vc (eW (dz (dz s)))/\aW (G (bE (aO [.bool (Sw.gf Z1),.int ar (It.k (Sw.g Z1)),.int ar (It.i (Sw.g Z1))])) [aa (.inr (.inr (.inr (Rt.tree (acW (dz (dz s)) (↑(kF (ae (eK s)) p):Int) (↑(ae (eK (dz s))):Int)))))),aa (.inl (47,[.bool (Sw.gf Z1),.int ar (It.k (Sw.g Z1)),.int ar (It.i (Sw.g Z1))]))])) ?_ (by kernel_rfl)
  intro Z1;subst Z1;subst hG;simp only[show eK (dz s)=s.l from rfl,show eK (dz (dz s))=s.l from rfl,iF,abp]
  exact⟨⟨hv⟩,⟨yR hv⟩,⟨yR (yR hv)⟩,⟨⟨[0],rfl,rfl,⟨rfl,trivial⟩,rfl,rfl,rfl,rfl⟩⟩⟩
 ·cases hx
def aek:Prim Rt:=fun args hh=>match args,hh with
 |[.pointer (aa ⟨0,0,aj⟩),.int .i64 p],[aa (.inr (.inr (.inr (.tree s))))]=>aa ⟨s.gk,.agg ⟨tkL (p_ s.l p)⟩,aj,[oT (CG s p)],[],[(0,0)]⟩
 |_,_=>aj
theorem ak3:b6 D2 Tryz.prog 109 (a9 aek):=by
 refine fj Tryz.f109 fun args hh x hx=>?_
 unfold aek at hx;split at hx
 ·rename_i p s;cases hx;refine q4 fun _ hv=>?_
  generalize hG:ch (R:=Rt) _ _=G;refine cJ (T:=TBr) Pd mixed 200 ?_;refine bK (q:=let Z1:=(S8 (mX (eK (dz s)) 0 (aH (↑(kF (ae (eK s)) p):Int))));Vc (eW s)/\Vc (eW (dz s))/\aW (G (bE (aO [.bool (Sw.lf Z1),.int ar (It.k (Sw.l Z1)),.int ar (It.i (Sw.l Z1))])) [aa (.inr (.inr (.inr (Rt.tree (acW (dz s) (0:Int) (↑(kF (ae (eK s)) p):Int)))))),aa (.inl (47,[.bool (Sw.lf Z1),.int ar (It.k (Sw.l Z1)),.int ar (It.i (Sw.l Z1))]))])) ?_ (by kernel_rfl)
  intro Z1;subst Z1;subst hG;simp only[show eK (dz s)=s.l from rfl,iF,ab2]
  exact⟨⟨hv⟩,⟨yR hv⟩,⟨⟨[0],rfl,rfl,⟨rfl,trivial⟩,rfl,rfl,rfl,rfl⟩⟩⟩
 ·cases hx
end Br
namespace Rx
open Go.RowKit State
structure G4 (R0 R:Type) where
 e:R0->R
 d:R->Option R0
 de:∀ y x,d y=aa x->y=e x
section
variable {R R0:Type}
def eB (E:G4 R0 R):SB R0->SB R
 |.inl x=>.inl x
 |.inr (.inl x)=>.inr (.inl x)
 |.inr (.inr (.inl r))=>.inr (.inr (.inl r))
 |.inr (.inr (.inr x))=>.inr (.inr (.inr (E.e x)))
def dB (E:G4 R0 R):SB R->Option (SB R0)
 |.inl x=>aa (.inl x)
 |.inr (.inl x)=>aa (.inr (.inl x))
 |.inr (.inr (.inl r))=>aa (.inr (.inr (.inl r)))
 |.inr (.inr (.inr y))=>match E.d y with
  |some x=>aa (.inr (.inr (.inr x)))
  |none=>aj
def eS (E:G4 R0 R):Option (SB R0)->Option (SB R)
 |none=>aj
 |some b=>aa (eB E b)
def eH (E:G4 R0 R):Hp R0->Hp R
 |[]=>[]
 |b::l=>eS E b::eH E l
def dH (E:G4 R0 R):Hp R->Option (Hp R0)
 |[]=>aa []
 |none::l=>match dH E l with
  |some l'=>aa (aj::l')
  |none=>aj
 |some b::l=>match dB E b with
  |some b'=>match dH E l with
   |some l'=>aa (aa b'::l')
   |none=>aj
  |none=>aj
variable {E:G4 R0 R}
theorem ang {b:SB R} {b0:SB R0} (h:dB E b=aa b0):b=eB E b0:=by
 rcases b with x|x|r|y
 ·injection h with h;subst h;rfl
 ·injection h with h;subst h;rfl
 ·injection h with h;subst h;rfl
 ·unfold dB at h;simp only at h;split at h
  ·rename_i x hx;injection h with h
   subst h;rw[E.de _ _ hx]
   rfl
  ·cases h
theorem aea:∀ {h:Hp R} {h0:Hp R0},dH E h=aa h0->h=eH E h0
 |[],h0,hh=>by injection hh with hh;subst hh;rfl
 |none::l,h0,hh=>by
  unfold dH at hh;split at hh
  ·rename_i l' hl;injection hh with hh
   subst hh;rw[aea hl];rfl
  ·cases hh
 |some b::l,h0,hh=>by
  unfold dH at hh;split at hh
  ·rename_i b' hb;split at hh
   ·rename_i l' hl;injection hh with hh
    subst hh;rw[aea hl,ang hb];rfl
   ·cases hh
  ·cases hh
theorem EB:∀ h:Hp R0,(eH E h).length=h.length
 |[]=>rfl
 |b::l=>by show(eH E l).length+1=l.length+1;rw[EB l]
theorem JX:∀ (h:Hp R0) (i:Nat),(eH E h)[i]?=(h[i]?).map (eS E)
 |[],i=>by simp[eH]
 |b::l,0=>rfl
 |b::l,i+1=>by
  show(eS E b::eH E l)[i+1]?=_
  rw[bH,bH,JX l i]
variable {D:fH R} {D0:fH R0} {P:Program} {C:Ctx} {ρ:Env} {w:World}
theorem acB (hD:∀ x p F w,D.H (E.e x) p F w↔D0.H x p F w) {i:Nat} {F:Nat->Prop} (b:SB R0):hold D C ρ i F w (eB E b)↔hold D0 C ρ i F w b:=by
 rcases b with x|x|r|x
 ·exact sk
 ·exact sk
 ·exact sk
 ·exact hD _ _ _ _
theorem TZ {n:Nat} (b:SB R0):inside n (eB E b)↔inside n b:=by
 rcases b with x|x|r|x<;>exact sk
theorem ak8 (hD:∀ x p F w,D.H (E.e x) p F w↔D0.H x p F w) {ft:Nat->Nat->Prop} {h:Hp R0}:HM D C ρ ft (eH E h) w↔HM D0 C ρ ft h w:=by
 constructor
 ·intro m;refine⟨fun i B hi=>?_,m.lt,m.fresh,m.apart,fun i k hk=>?_,m.kept⟩
  ·have h1:=m.at_ i (eB E B) (by rw[JX,hi];rfl)
   rw[acB hD,TZ,EB] at h1;exact h1
  ·obtain⟨B,hB⟩:=m.some_ i k hk;rw[JX] at hB;cases hc:h[i]? with
   |none=>rw[hc] at hB;cases hB
   |some o =>
    rw[hc] at hB;cases o with
    |none=>cases hB
    |some b=>exact⟨b,rfl⟩
 ·intro m;refine⟨fun i B hi=>?_,m.lt,m.fresh,m.apart,fun i k hk=>?_,m.kept⟩
  ·rw[JX] at hi;cases hc:h[i]? with
   |none=>rw[hc] at hi;cases hi
   |some o =>
    rw[hc] at hi;cases o with
    |none=>cases hi
    |some b =>
     have hi:aa (aa (eB E b))=aa (aa B):=hi;injection hi with hi
     injection hi with hi
     subst hi;rw[acB hD,TZ,EB];exact m.at_ i b hc
  ·obtain⟨B,hB⟩:=m.some_ i k hk;exact⟨eB E B,by rw[JX,hB];rfl⟩
def eO (E:G4 R0 R) (x:Out R0):Out R:=⟨x.vc,x.v,x.lit,eH E x.hp,x.rd,x.wr⟩
def eP (E:G4 R0 R) (p:Prim R0):Prim R:=fun args hh=>match dH E hh with
 |some h0=>match p args h0 with
  |some x=>aa (eO E x)
  |none=>aj
 |none=>aj
def eC (E:G4 R0 R) (c:jb R0):jb R:=⟨fun args hh=>match dH E hh with
 |some h0=>c.when args h0
 |none=>aj,eP E c.yes,eP E c.no⟩
theorem Lq {p:Prim R0} {args:List Value} {hh:Hp R} {x:Out R} (h:eP E p args hh=aa x):∃ h0 x0,dH E hh=aa h0/\hh=eH E h0/\p args h0=aa x0/\x=eO E x0:=by
 unfold eP at h;split at h
 ·rename_i h0 e0;split at h
  ·rename_i x0 e1;injection h with h
   exact⟨h0,x0,e0,aea e0,e1,h.symm⟩
  ·cases h
 ·cases h
theorem ali (c:jb R0) (b:Bool):(eC E c).go b=eP E (c.go b):=by cases b<;>rfl
theorem aim {f:FuncId} {c:jb R0} (hD:∀ x p F w,D.H (E.e x) p F w↔D0.H x p F w) (hc:b6 D0 P f c):b6 D P f (eC E c):=by
 intro b;have h:=hc b;rw[ali];refine⟨h.known,fun args hh x on hx C ρ ft w hm hv hi=>?_,fun args hh x hx=>?_,fun args hh x hx=>?_,fun args hh x hx hw=>?_⟩
 ·obtain⟨h0,x0,e0,e1,e2,e3⟩:=Lq hx;subst e3;subst e1;have on0:rZ c b args h0:=by
   have on:(match dH E (eH E h0) with|some h0=>c.when args h0|none=>aj)=aj/\b=ao∨(match dH E (eH E h0) with|some h0=>c.when args h0|none=>aj)=aa b:=on
   rw[e0] at on;exact on
  rw[EB] at hi;refine(h.run args h0 x0 on0 e2 C ρ ft w ((ak8 hD).1 hm) hv hi).mono fun e w' ⟨gv,ku,g1,g2,g3⟩=>?_
  exact⟨gv,ku,fun i hi=>g1 i (by rwa [EB] at hi),g2,(ak8 hD).2 g3⟩
 ·obtain⟨h0,x0,e0,e1,e2,e3⟩:=Lq hx;subst e3;subst e1;show(eH E h0).length≤(eH E x0.hp).length
  rw[EB,EB];exact h.len _ _ _ e2
 ·obtain⟨h0,x0,e0,e1,e2,e3⟩:=Lq hx;subst e3;exact h.lit _ _ _ e2
 ·obtain⟨h0,x0,e0,e1,e2,e3⟩:=Lq hx;subst e3;subst e1;show eH E x0.hp=eH E h0
  rw[h.still _ _ _ e2 hw]
end
def UY {R1 R2:Type} (D1:fH R1) (D2:fH R2):fH (R1 ⊕ R2) where
 H x p F w:=match x with
  |.inl x=>D1.H x p F w
  |.inr x=>D2.H x p F w
 HT x p F w w' h hk:=by
  cases x with
  |inl x=>exact D1.HT x p F w w' h hk
  |inr x=>exact D2.HT x p F w w' h hk
 lt x p F w k h hk:=by
  cases x with
  |inl x=>exact D1.lt x p F w k h hk
  |inr x=>exact D2.lt x p F w k h hk
def akf (R1 R2:Type):G4 R1 (R1 ⊕ R2):=⟨.inl,fun y=>match y with|.inl x=>aa x|.inr _=>aj,fun y x h=>by cases y with|inl a=>injection h with h;rw[h]|inr a=>cases h⟩
def ajz (R1 R2:Type):G4 R2 (R1 ⊕ R2):=⟨.inr,fun y=>match y with|.inr x=>aa x|.inl _=>aj,fun y x h=>by cases y with|inr a=>injection h with h;rw[h]|inl a=>cases h⟩
theorem nZ {R1 R2:Type} {D1:fH R1} {D2:fH R2} {P:Program} {f:FuncId} {c:jb R1} (hc:b6 D1 P f c):b6 (UY D1 D2) P f (eC (akf R1 R2) c):=aim (fun _ _ _ _=>sk) hc
theorem wb {R1 R2:Type} {D1:fH R1} {D2:fH R2} {P:Program} {f:FuncId} {c:jb R2} (hc:b6 D2 P f c):b6 (UY D1 D2) P f (eC (ajz R1 R2) c):=aim (fun _ _ _ _=>sk) hc
end Rx
namespace Pa
open Rx Wv Br
open Sh (rV wB mC sl nK)
abbrev T8:=G8.Ts
abbrev T9:=G9.Ts
structure QS where
 mt:T8
 pr:T9
 gn:T9
 cap:Int
def kN (t:Int):Mk:=⟨t,an,⟨0,0⟩,an,an,⟨0,0⟩⟩
def Sr (t:Int) (x:It):Mk:=⟨t,ao,x,an,an,⟨0,0⟩⟩
def yd (q:QS):QS:=⟨q.mt.seen,q.pr,q.gn,q.cap⟩
def rS (q:QS):QS:=⟨q.mt.seen.F5 0 q.mt.l.length,q.pr,q.gn,q.cap⟩
def H4 (q:QS):Int:=(vg q.mt.l).length
def nl (q:QS):QS:=⟨(rS q).mt,q.pr,q.gn.seen,q.cap⟩
def rv (q:QS):Int:=H4 q-q.gn.l.length
def mc (q:QS):QS:=⟨q.mt.seen.all,q.pr,q.gn,q.cap⟩
def mZ (q:QS) (t:Int):Int:=if(q.mt.l.length:Int)=q.cap then 10 else if(fv O8 (kN t) q.mt.l).2=ao then 11 else 0
def nO (q:QS) (t:Int):QS:=⟨if(q.mt.l.length:Int)=q.cap then q.mt.seen else q.mt.seen.find (kN t),q.pr,q.gn,q.cap⟩
def Al (q:QS) (x:It):Bool:=(fv aM (sl x) q.pr.l).2||(fv aM (sl x) q.gn.l).2
def B5 (q:QS) (x:It):QS:=⟨q.mt,q.pr.find (sl x),q.gn.find (sl x),q.cap⟩
def BA (q:QS) (m:Mk):Int:=(yF O8 m q.mt.l).length
def ZH (q:QS) (m:Mk):QS:=⟨q.mt.ky m,q.pr,q.gn,q.cap⟩
def FE (q:QS) (p:Int):Int:=E7 q.mt.l p (rv q)
def Bj (q:QS) (p:Int):QS:=⟨Wa (nl q).mt p (rv q),q.pr,(nl q).gn,q.cap⟩
def Kx (q:QS) (p:Int):Int:=O3 q.mt.l p (rv q)
def Ht (q:QS) (p:Int):QS:=⟨Er (nl q).mt p (rv q),q.pr,(nl q).gn,q.cap⟩
def E0 (s:T8) (i:Int) (b:Bool):Mk:=⟨(ml O8 i s.l).1.t,(ml O8 i s.l).1.ins,(ml O8 i s.l).1.it,b,(ml O8 i s.l).1.tf,(ml O8 i s.l).1.tk⟩
def AD (s:T8) (i:Int) (b:Bool):T8:=(s.at_ i).put (E0 s i b)
def Jl (q:QS) (f:Int):It:=(uK q.mt.l f).getD iz
def Sa (q:QS) (f:Int):T8:=(Hr q.mt f).first (qc (Jl q f)) f
def UT (q:QS) (f:Int):Int:=pj (qc (Jl q f)) (Hr q.mt f) f
def vZ (q:QS) (f:Int):QS:=if f<0 then q else⟨AD (Sa q f) (UT q f) ao,q.pr.put (sl (Jl q f)),q.gn.drop (sl (Jl q f)),q.cap⟩
def yu (q:QS) (f:Int):List It:=if f<0 then[] else[Jl q f]
def J5 (q:QS) (f:Int):Prop:=q.mt.gk/\q.pr.gk/\q.gn.gk/\(¬ f<0->((Sa q f).at_ (UT q f)).kV (E0 (Sa q f) (UT q f) ao)/\q.pr.kV (sl (Jl q f)))
def I7 (q:QS) (u:Int):It:=(p_ q.mt.l u).getD iz
def R4 (q:QS) (u:Int):T8:=(CG q.mt u).last (p8 (I7 q u)) u
def Ua (q:QS) (u:Int):Int:=tT (p8 (I7 q u)) (CG q.mt u) u
def PK (q:QS) (u:Int):Bool:=(p_ q.mt.l u).isSome
def Gc (q:QS) (u:Int):QS:=if PK q u=ao then⟨AD (R4 q u) (Ua q u) an,q.pr.drop (sl (I7 q u)),q.gn.put (sl (I7 q u)),q.cap⟩ else⟨CG q.mt u,q.pr,q.gn,q.cap⟩
def C6 (q:QS) (u:Int):List It:=if PK q u=ao then[I7 q u] else[]
def Kv (q:QS) (u:Int):Prop:=q.mt.gk/\q.pr.gk/\q.gn.gk/\(PK q u=ao->((R4 q u).at_ (Ua q u)).kV (E0 (R4 q u) (Ua q u) an)/\q.gn.kV (sl (I7 q u)))
structure MQ (q:QS) (L:List Mk) (P G:List It) (c:Int) (n:Nat) (a:QS) (k:Int):Prop where
 m0:q.mt.l=L
 p0:q.pr.l=mC P
 g0:q.gn.l=mC G
 cap:q.cap=c
 c1:q.mt.c=c
 c2:q.pr.c=c
 c3:q.gn.c=c
 f1:q.mt.n≤n
 f2:q.pr.n≤n
 f3:q.gn.n≤n
 v1:0≤q.mt.m.cX/\q.mt.m.cX≤a.mt.m.cX+k
 v2:0≤q.pr.m.cX/\q.pr.m.cX≤a.pr.m.cX+k
 v3:0≤q.gn.m.cX/\q.gn.m.cX≤a.gn.m.cX+k
def VB (a:QS):Prop:=a.mt.m.cX≤1000000000000000/\a.pr.m.cX≤1000000000000000/\a.gn.m.cX≤1000000000000000
section
variable {q:QS} {L:List Mk} {P G:List It} {c:Int} {n:Nat} {a:QS} {k:Int}
theorem MQ.lT (h:MQ q L P G c n a k) (hn:n≤99999):q.mt.gk/\q.pr.gk/\q.gn.gk :=
 ⟨iW h.f1 (by omega),iW h.f2 (by omega),iW h.f3 (by omega)⟩
theorem MQ.short (h:MQ q L P G c n a k):L.length≤60:=by rw[← h.m0];exact Sp q.mt
theorem MQ.GV (h:MQ q L P G c n a k) (hB:VB a) (hk:k≤1000000) {s:T8} {L':List Mk} {d κ:Nat} (hl:s.l=L') (hc:s.c=q.mt.c) (hn:s.n≤q.mt.n+d) (hv:Gv.m9 κ q.mt.m s.m) {e:Int} (hκ:(κ:Int)≤e) (he:e≤10000:=by omega):MQ ⟨s,q.pr,q.gn,q.cap⟩ L' P G c (n+d) a (k+e):=by
 obtain⟨b1,b2,b3⟩:=hB;have hw:=KV hv h.v1.1 h.v1.2 (by omega)
 have:=h.f1;have:=h.f2;have:=h.f3;have:=h.v2;have:=h.v3;exact⟨hl,h.p0,h.g0,h.cap,hc.trans h.c1,h.c2,h.c3,by show s.n≤_;omega,by show q.pr.n≤_;omega,by show q.gn.n≤_;omega,⟨hw.1,by show s.m.cX≤_;omega⟩,⟨h.v2.1,by show q.pr.m.cX≤_;omega⟩,⟨h.v3.1,by show q.gn.m.cX≤_;omega⟩⟩
theorem MQ.pr' (h:MQ q L P G c n a k) (hB:VB a) (hk:k≤1000000) {s:T9} {P':List It} {d κ:Nat} (hl:s.l=mC P') (hc:s.c=q.pr.c) (hn:s.n≤q.pr.n+d) (hv:Gv.m9 κ q.pr.m s.m) {e:Int} (hκ:(κ:Int)≤e) (he:e≤10000:=by omega):MQ ⟨q.mt,s,q.gn,q.cap⟩ L P' G c (n+d) a (k+e):=by
 obtain⟨b1,b2,b3⟩:=hB;have hw:=KV hv h.v2.1 h.v2.2 (by omega)
 have:=h.f1;have:=h.f2;have:=h.f3;have:=h.v1;have:=h.v3;exact⟨h.m0,hl,h.g0,h.cap,h.c1,hc.trans h.c2,h.c3,by show q.mt.n≤_;omega,by show s.n≤_;omega,by show q.gn.n≤_;omega,⟨h.v1.1,by show q.mt.m.cX≤_;omega⟩,⟨hw.1,by show s.m.cX≤_;omega⟩,⟨h.v3.1,by show q.gn.m.cX≤_;omega⟩⟩
theorem MQ.gn' (h:MQ q L P G c n a k) (hB:VB a) (hk:k≤1000000) {s:T9} {G':List It} {d κ:Nat} (hl:s.l=mC G') (hc:s.c=q.gn.c) (hn:s.n≤q.gn.n+d) (hv:Gv.m9 κ q.gn.m s.m) {e:Int} (hκ:(κ:Int)≤e) (he:e≤10000:=by omega):MQ ⟨q.mt,q.pr,s,q.cap⟩ L P G' c (n+d) a (k+e):=by
 obtain⟨b1,b2,b3⟩:=hB;have hw:=KV hv h.v3.1 h.v3.2 (by omega)
 have:=h.f1;have:=h.f2;have:=h.f3;have:=h.v1;have:=h.v2;exact⟨h.m0,h.p0,hl,h.cap,h.c1,h.c2,hc.trans h.c3,by show q.mt.n≤_;omega,by show q.pr.n≤_;omega,by show s.n≤_;omega,⟨h.v1.1,by show q.mt.m.cX≤_;omega⟩,⟨h.v2.1,by show q.pr.m.cX≤_;omega⟩,⟨hw.1,by show s.m.cX≤_;omega⟩⟩
theorem MQ.lst (h:MQ q L P G c n a k) {L':List Mk} (e:L=L'):MQ q L' P G c n a k:=e▸h
theorem MQ.up (h:MQ q L P G c n a k) {n':Nat} {k':Int} (hn:n≤n') (hk:k≤k'):MQ q L P G c n' a k' :=
 ⟨h.m0,h.p0,h.g0,h.cap,h.c1,h.c2,h.c3,jq h.f1 hn,jq h.f2 hn,jq h.f3 hn,⟨h.v1.1,by have:=h.v1;omega⟩,⟨h.v2.1,by have:=h.v2;omega⟩,⟨h.v3.1,by have:=h.v3;omega⟩⟩
theorem MQ.len_ (h:MQ q L P G c n a k) (hB:VB a) (hk:k≤1000000):MQ (yd q) L P G c n a (k+10) :=
 h.GV hB hk (s:=q.mt.seen) (e:=10) (d:=0) h.m0 rfl (a_ _) q.mt.qb (by omega)
theorem MQ.akq (h:MQ q L P G c n a k) (hB:VB a) (hk:k≤1000000):MQ (rS q) L P G c n a (k+130) :=
 h.GV hB hk (s:=(q.mt.seen.F5 0 q.mt.l.length)) (e:=130) (d:=0) h.m0 rfl (a_ _) (q.mt.qb.trans (q.mt.seen.Lo 0 q.mt.l.length)) (by have:=q.mt.seen.qy;omega)
theorem MQ.adO (h:MQ q L P G c n a k) (hB:VB a) (hk:k≤990000):MQ (nl q) L P G c n a (k+140) :=
 ((h.akq hB (by omega)).gn' hB (by omega) (e:=10) (s:=q.gn.seen) (d:=0) h.g0 rfl (a_ _) q.gn.qb (by omega)).up (a_ _) (by omega)
theorem MQ.anF (h:MQ q L P G c n a k) (hB:VB a) (hk:k≤1000000):MQ (mc q) L P G c n a (k+2100) :=
 h.GV hB hk (s:=q.mt.seen.all) (e:=2100) (d:=0) h.m0 rfl (a_ _) (q.mt.qb.trans q.mt.seen.Qv) (by have:=q.mt.seen.C4;omega)
theorem MQ.ZT (h:MQ q L P G c n a k) (hB:VB a) (hk:k≤1000000) (t:Int):MQ (nO q t) L P G c n a (k+50):=by
 unfold nO;split
 ·exact(h.len_ hB hk).up (a_ _) (by omega)
 ·exact h.GV hB hk (s:=(q.mt.seen.find (kN t))) (e:=50) (d:=0) h.m0 rfl (a_ _) (q.mt.qb.trans (q.mt.seen.HW (kN t))) (by have:=q.mt.seen.qy;omega)
theorem MQ.ahW (h:MQ q L P G c n a k) (hB:VB a) (hk:k≤990000) (x:It):MQ (B5 q x) L P G c n a (k+60) :=
 ((h.pr' hB (by omega) (e:=30) (s:=q.pr.find (sl x)) (d:=0) h.p0 rfl (a_ _) (q.pr.HW (sl x)) (by have:=q.pr.qy;omega)).gn' hB (by omega) (e:=30) (s:=q.gn.find (sl x)) (d:=0) h.g0 rfl (a_ _) (q.gn.HW (sl x)) (by have:=q.gn.qy;omega)).up (a_ _) (by omega)
theorem MQ.ahY (h:MQ q L P G c n a k) (hB:VB a) (hk:k≤1000000) (m:Mk):MQ ⟨q.mt.find m,q.pr,q.gn,q.cap⟩ L P G c n a (k+40) :=
 h.GV hB hk (s:=(q.mt.find m)) (e:=40) (d:=0) h.m0 rfl (a_ _) (q.mt.HW m) (by have:=q.mt.qy;omega)
theorem MQ.aee (h:MQ q L P G c n a k) (hB:VB a) (hk:k≤1000000) (m:Mk):MQ (ZH q m) L P G c n a (k+70) :=
 h.GV hB hk (s:=(q.mt.ky m)) (e:=70) (d:=0) h.m0 rfl (a_ _) (q.mt.adP m) (by have:=q.mt.qy;omega)
theorem agu (l:List Mk):(vg l).length≤l.length:=List.length_filter_le ..
theorem PL (q:QS):-1099511627776≤rv q/\rv q≤1099511627776:=by
 have h1:=agu q.mt.l;have h2:=Sp q.mt;have h3:=q.gn.C4;unfold rv H4;omega
theorem MQ.bu_ (h:MQ q L P G c n a k) (hB:VB a) (hk:k≤980000) (p:Int):MQ (Bj q p) L P G c n a (k+400):=by
 have h1:=h.adO hB (by omega)
 have hb:=PL q;exact(h1.GV hB (by omega) (e:=260) (s:=Wa (nl q).mt p (rv q)) (d:=0) h1.m0 rfl (a_ _) (agA rfl hb.1 hb.2) (by have:=(nl q).mt.qy;omega)).up (a_ _) (by omega)
theorem MQ.bf_ (h:MQ q L P G c n a k) (hB:VB a) (hk:k≤980000) (p:Int):MQ (Ht q p) L P G c n a (k+400):=by
 have h1:=h.adO hB (by omega)
 have hb:=PL q;exact(h1.GV hB (by omega) (e:=260) (s:=Er (nl q).mt p (rv q)) (d:=0) ((alU _ _ _).trans h1.m0) (alO _ _ _) (xo (alQ _ _ _)) (agX rfl hb.1 hb.2) (by have:=(nl q).mt.qy;omega)).up (a_ _) (by omega)
theorem Hc {s:T8} {m:Mk} (hf:s.gk) (hg:(rk O8 m s.l).length≤60):s.kV m:=⟨hf,hg⟩
theorem GR {s:T9} {x:It} {P:List It} (h:s.l=mC P) (ho:Ord P) (hf:s.gk) (hl:P.length≤100):s.kV (sl x):=⟨hf,by
 show(rk aM (sl x) s.l).length≤1000
 rw[h,Sh.UO ho];have:=Sh.adB x P;have e:(mC (rV x P)).length=(rV x P).length:=fR ..;omega⟩
theorem MQ.ad5 (h:MQ q L P G c n a k) (hB:VB a) (hk:k≤1000000) (hn:n≤99999) {m:Mk} (hg:(rk O8 m L).length≤60) (hp:(z_ O8 m L).isSome=ao∨(L.length:Int)≠c):MQ ⟨q.mt.put m,q.pr,q.gn,q.cap⟩ (rk O8 m L) P G c (n+1) a (k+1000):=by
 have ok:q.mt.kV m:=Hc (h.lT hn).1 (by rw[h.m0];exact hg)
 refine h.GV hB hk (s:=q.mt.put m) (e:=1000) (d:=1) ?_ (GF ok) (xo (GG ok)) (Dh ok) (by have:=q.mt.qy;omega)
 rw[MA ok];unfold Qj;rw[if_pos,h.m0];· rfl
 unfold I1;show((z_ O8 m q.mt.l).isSome||decide ((q.mt.l.length:Int)≠q.mt.c))=ao
 rw[h.m0,h.c1];rcases hp with hp|hp
 ·rw[hp];rfl
 ·rw[decide_eq_true hp,Ws]
theorem MQ.S3 (h:MQ q L P G c n a k) (hB:VB a) (hk:k≤1000000) (m:Mk):MQ ⟨q.mt.drop m,q.pr,q.gn,q.cap⟩ (Ca O8 m L) P G c (n+1) a (k+3500) :=
 h.GV hB hk (s:=(q.mt.drop m)) (e:=3500) (d:=1) (by show Ca O8 m q.mt.l=_;rw[h.m0]) rfl (a_ _) (q.mt.NL m) (by have:=q.mt.qy;omega)
theorem aaK {s:T9} {x:It} {P:List It} {c:Int} (h:s.l=mC P) (hc:s.c=c) (ho:Ord P) (ok:s.kV (sl x)) (hx:x∉P) (hl:(P.length:Int)≠c):(s.put (sl x)).l=mC (gZ x P):=by
 rw[MA ok];unfold Qj;rw[if_pos,h]
 ·show rk aM (sl x) (mC P)=_
  rw[Sh.UO ho,Xk ho hx]
 ·unfold I1;have e:(mC P).length=P.length:=fR ..;rw[h,hc,e,decide_eq_true hl,Ws]
theorem MQ.Ic (h:MQ q L P G c n a k) (hB:VB a) (hk:k≤1000000) (hn:n≤99999) {x:It} (ho:Ord P) (hx:x∉P) (hl:(P.length:Int)≠c) (Bo:P.length≤100):MQ ⟨q.mt,q.pr.put (sl x),q.gn,q.cap⟩ L (gZ x P) G c (n+1) a (k+1000):=by
 have ok:q.pr.kV (sl x):=GR h.p0 ho (h.lT hn).2.1 Bo;exact h.pr' hB hk (s:=(q.pr.put (sl x))) (e:=1000) (d:=1) (aaK h.p0 h.c2 ho ok hx hl) (GF ok) (xo (GG ok)) (Dh ok) (by have:=q.pr.qy;omega)
theorem MQ.Ai (h:MQ q L P G c n a k) (hB:VB a) (hk:k≤1000000) (hn:n≤99999) {x:It} (ho:Ord G) (hx:x∉G) (hl:(G.length:Int)≠c) (Bo:G.length≤100):MQ ⟨q.mt,q.pr,q.gn.put (sl x),q.cap⟩ L P (gZ x G) c (n+1) a (k+1000):=by
 have ok:q.gn.kV (sl x):=GR h.g0 ho (h.lT hn).2.2 Bo;exact h.gn' hB hk (s:=(q.gn.put (sl x))) (e:=1000) (d:=1) (aaK h.g0 h.c3 ho ok hx hl) (GF ok) (xo (GG ok)) (Dh ok) (by have:=q.gn.qy;omega)
theorem Yq {s:T9} {x:It} {P:List It} (h:s.l=mC P) (ho:Ord P):(s.drop (sl x)).l=mC (pU x P):=by
 show Ca aM (sl x) s.l=_
 rw[h,Sh.ahq ho,adJ ho]
theorem MQ.Cc (h:MQ q L P G c n a k) (hB:VB a) (hk:k≤1000000) {x:It} (ho:Ord P):MQ ⟨q.mt,q.pr.drop (sl x),q.gn,q.cap⟩ L (pU x P) G c (n+1) a (k+3500) :=
 h.pr' hB hk (s:=(q.pr.drop (sl x))) (e:=3500) (d:=1) (Yq h.p0 ho) rfl (a_ _) (q.pr.NL (sl x)) (by have:=q.pr.qy;omega)
theorem MQ.Zz (h:MQ q L P G c n a k) (hB:VB a) (hk:k≤1000000) {x:It} (ho:Ord G):MQ ⟨q.mt,q.pr,q.gn.drop (sl x),q.cap⟩ L P (pU x G) c (n+1) a (k+3500) :=
 h.gn' hB hk (s:=(q.gn.drop (sl x))) (e:=3500) (d:=1) (Yq h.g0 ho) rfl (a_ _) (q.gn.NL (sl x)) (by have:=q.gn.qy;omega)
end
theorem Xx {s:T8} {H H':List It} {l:List Op} {k:Nat} {b:Bool} (hl:s.l=gj H l) (ht:Tm l) (hn:(gx l).Nodup) (hk:k<l.length) (lP:(og l k).ins=ao) (hb:b=decide ((og l k).it∈H')) (hH:∀ z,z≠(og l k).it->(z∈H↔z∈H')) (hf:s.gk) :
  (s.at_ (k:Int)).kV (E0 s k b)/\(AD s k b).l=gj H' l/\(AD s k b).c=s.c/\(AD s k b).n=s.n+1/\Fx 1100 s.m (AD s k b).m:=by
 have e0:(ml O8 (k:Int) s.l).1=u6 H (og l k):=by
  unfold ml;rw[if_pos ⟨Int.natCast_nonneg _,by rw[hl,mI];omega⟩]
  show s.l.getD (k:Int).toNat mz=_
  rw[iF,hl,oE H hk]
 have e1:E0 s k b=u6 H' (og l k):=by
  unfold E0;rw[e0,hb];unfold u6;simp only[lP,je]
 have hp:rk O8 (E0 s k b) (gj H l)=gj H' l:=by
  rw[e1,agm ht hk rfl];exact flip hn hk lP hH
 have ok:(s.at_ (k:Int)).kV (E0 s k b):=Hc hf (by
  show(rk O8 (E0 s k b) s.l).length≤60
  rw[hl,hp];have:=Sp s;rw[hl] at this
  rwa [mI] at this ⊢)
 refine⟨ok,?_,GF ok,GG ok,?_⟩
 ·unfold AD;rw[MA ok];unfold Qj;show(if I1 (s.at_ (k:Int)) (E0 s k b)=ao then rk O8 (E0 s k b) s.l else s.l)=_
  rw[hl,hp,if_pos];unfold I1;show((z_ O8 (E0 s k b) s.l).isSome||_)=ao
  rw[hl,e1,(Ka (H:=H) (e:=u6 H' (og l k)) ht hk rfl).1]
  rfl
 ·refine((s.ai2 k).trans (Dh ok)).mono ?_;have h1:=s.qy;have h2:=(s.at_ (k:Int)).qy;omega
theorem aiU {H:List It} {l:List Op} {f:Int} {z:It} (hf:¬ f<0) (h:uK (gj H l) f=aa z) :
  ∃ k,k<l.length/\f.toNat≤k/\(og l k).ins=ao/\(og l k).it=z/\z∉H/\hi (lY an ((gj H l).drop f.toNat))=aa z:=by
 unfold uK at h;obtain⟨m,h1,h2,h3,h4⟩:=tN.1 (Ff h);obtain⟨j,hj,rfl⟩:=sS h1;rw[List.getElem_drop] at h2 h3 h4;rw[jt,mI] at hj;have hc:kF l.length f=f.toNat:=by
  unfold kF at hj ⊢;rw[tL];rcases Wt f.toNat l.length with c|c
  ·exact c
  ·rw[Od c] at hj;omega
 rw[mI,hc] at h;have hk:kF l.length f+j<l.length:=by omega
 have e:∀ hh,(gj H l)[kF (gj H l).length f+j]'hh=u6 H (og l (kF l.length f+j)):=fun hh=>by
  have:=oE H hk;rw[av,bd (by rw[mI];exact hk)] at this
  simpa only [mI,Option.getD_some] using this
 rw[e] at h2 h3 h4;have h2:(og l (kF l.length f+j)).ins=ao:=h2;have h4:(og l (kF l.length f+j)).it=z:=h4;have h3:((og l (kF l.length f+j)).ins&&decide ((og l (kF l.length f+j)).it∈H))=an:=h3;rw[h2,je,decide_eq_false_iff_not,h4] at h3;exact⟨_,hk,by omega,h2,h4,h3,h⟩
theorem akF {H:List It} {l:List Op} {u:Int} {z:It} (h:p_ (gj H l) u=aa z) :
  ∃ k,k<l.length/\(k:Int)<u/\(og l k).ins=ao/\(og l k).it=z/\z∈H/\lo (lY ao ((gj H l).take u.toNat))=aa z:=by
 unfold p_ at h;obtain⟨m,h1,h2,h3,h4⟩:=tN.1 (Ho h);obtain⟨j,hj,rfl⟩:=sS h1;rw[List.getElem_take] at h2 h3 h4;rw[dZ,mI] at hj;have hk:j<l.length:=by omega
 have hu:j<u.toNat:=by unfold kF at hj;omega
 have e:∀ hh,(gj H l)[j]'hh=u6 H (og l j):=fun hh=>by
  have:=oE H hk
  rwa [av,bd hh] at this
 rw[e] at h2 h3 h4;have h2:(og l j).ins=ao:=h2;have h4:(og l j).it=z:=h4;have h3:((og l j).ins&&decide ((og l j).it∈H))=ao:=h3;rw[h2,je,decide_eq_true_eq,h4] at h3;refine⟨_,hk,by omega,h2,h4,h3,?_⟩
 have:(gj H l).take (kF (gj H l).length u)=(gj H l).take u.toNat:=by
  unfold kF;rcases Wt u.toNat (gj H l).length with c|c
  ·rw[tL c]
  ·rw[Od c,js,jj c]
 rw[this] at h;exact h
section
variable {q:QS} {H:List It} {l:List Op} {P G:List It} {c:Int} {n:Nat} {a:QS} {k:Int}
theorem MQ.afs (h:MQ q (gj H l) P G c n a k) (hn:n≤99999) {f:Int} (hf:f<0):vZ q f=q/\J5 q f/\yu q f=[]:=by
 unfold vZ yu J5;rw[if_pos hf,if_pos hf];exact⟨rfl,⟨(h.lT hn).1,(h.lT hn).2.1,(h.lT hn).2.2,fun c=>absurd hf c⟩,rfl⟩
theorem MQ.gb_ (h:MQ q (gj H l) P G c n a k) (hB:VB a) (hk:k≤900000) (hn:n≤99990) {f:Int} {z:It} (ht:Tm l) (hd:(gx l).Nodup) (hf:¬ f<0) (hz:uK (gj H l) f=aa z) (hoP:Ord P) (hoG:Ord G) (hzP:z∉P) (hl:(P.length:Int)≠c) (Bo:P.length≤100) :
  MQ (vZ q f) (gj (z::H) l) (gZ z P) (pU z G) c (n+3) a (k+6500)/\J5 q f/\yu q f=[z]:=by
 obtain⟨i,h1,h2,h3,h4,h5,h6⟩:=aiU hf hz;have eZ:Jl q f=z:=by unfold Jl;rw[h.m0,hz];rfl
 have lT:=h.lT (by omega)
 have hb:Gv.BS (fun j=>isG z ((Hr q.mt f).l.getD j mz)) 0 (Hr q.mt f).l.length f (UT q f):=by
  unfold UT;rw[eZ];exact RH (s:=Hr q.mt f) (f:=f) (may:=qc z) (ae3 z (Hr q.mt f).l).toAsks
 have el:(Hr q.mt f).l=gj H l:=h.m0;rw[el,show f=(f.toNat:Int) by omega] at hb
 have eP:UT q f=(i:Int):=by
  have:=agE hd h1 h3 h4 h5 h2 h6 hb
  rwa [show((f.toNat:Nat):Int)=f by omega] at this
 have eT:(Sa q f).l=gj H l:=h.m0;have T:=Xx (s:=Sa q f) (H':=z::H) (b:=ao) eT ht hd h1 h3 (by rw[h4,decide_eq_true (List.mem_cons_self)]) (fun w hw=>by rw[h4] at hw;rw[List.mem_cons];exact⟨.inr,fun c=>c.resolve_left hw⟩) lT.1
 have hv:Fx 2000 q.mt.m (AD (Sa q f) (i:Int) ao).m:=by
  have v1:=q.mt.qb;have v2:=q.mt.seen.qb;have v3:=q.mt.seen.seen.Lo (kF q.mt.l.length f) q.mt.l.length;have v4:=Qi (s:=Hr q.mt f) (f:=f) (may:=qc (Jl q f)) (ae3 _ _);refine((((v1.trans v2).trans v3).trans v4).trans T.2.2.2.2).mono ?_;have a1:=q.mt.seen.seen.qy;have a2:=(Hr q.mt f).qy;omega
 have m1:=h.GV hB (by omega) (e:=2000) (s:=AD (Sa q f) (i:Int) ao) (d:=1) T.2.1 T.2.2.1 (xo T.2.2.2.1) hv (by omega)
 have m2:=m1.Zz hB (by omega) (x:=z) hoG
 have m3:=m2.Ic hB (by omega) (by omega) (x:=z) hoP hzP hl Bo
 refine⟨?_,?_,?_⟩
 ·unfold vZ;rw[if_neg hf,eZ,eP];exact m3.up (by omega) (by omega)
 ·refine⟨lT.1,lT.2.1,lT.2.2,fun _=>⟨?_,?_⟩⟩
  ·rw[eP];exact T.1
  ·rw[eZ];exact GR h.p0 hoP lT.2.1 Bo
 ·unfold yu;rw[if_neg hf,eZ]
theorem MQ.afX (h:MQ q (gj H l) P G c n a k) (hB:VB a) (hk:k≤900000) (hn:n≤99990) {u:Int} (hz:p_ (gj H l) u=aj):MQ (Gc q u) (gj H l) P G c n a (k+6500)/\Kv q u/\C6 q u=[]:=by
 have e:PK q u=an:=by unfold PK;rw[h.m0,hz];rfl
 have lT:=h.lT (by omega)
 unfold Gc C6 Kv;simp only[e,fO,if_false];refine⟨?_,⟨lT.1,lT.2.1,lT.2.2,fun c=>c.elim⟩,trivial⟩
 exact(h.GV hB (by omega) (e:=2000) (s:=CG q.mt u) (d:=0) h.m0 rfl (a_ _) (q.mt.qb.trans (q.mt.seen.Lo 0 (kF q.mt.l.length u))) (by have:=q.mt.seen.qy;omega)).up (a_ _) (by omega)
theorem MQ.ta_ (h:MQ q (gj H l) P G c n a k) (hB:VB a) (hk:k≤900000) (hn:n≤99990) {u:Int} {z:It} (ht:Tm l) (hd:(gx l).Nodup) (hz:p_ (gj H l) u=aa z) (hoP:Ord P) (hoG:Ord G) (hzG:z∉G) (hl:(G.length:Int)≠c) (Bo:G.length≤100) :
  MQ (Gc q u) (gj (pU z H) l) (pU z P) (gZ z G) c (n+3) a (k+6500)/\Kv q u/\C6 q u=[z]:=by
 obtain⟨i,h1,h2,h3,h4,h5,h6⟩:=akF hz;have eB:PK q u=ao:=by unfold PK;rw[h.m0,hz];rfl
 have eZ:I7 q u=z:=by unfold I7;rw[h.m0,hz];rfl
 have lT:=h.lT (by omega)
 have hb:Gv.E4 (fun j=>isL z ((CG q.mt u).l.getD j mz)) 0 (CG q.mt u).l.length u (Ua q u):=by
  unfold Ua;rw[eZ];exact SX (s:=CG q.mt u) (f:=u) (may:=p8 z) (afL z (CG q.mt u).l).toAsks
 have el:(CG q.mt u).l=gj H l:=h.m0;rw[el,show u=(u.toNat:Int) by omega] at hb
 have eP:Ua q u=(i:Int):=by
  have:=ah1 hd h1 h3 h4 h5 (by omega:i<u.toNat) h6 hb
  rwa [show((u.toNat:Nat):Int)=u by omega] at this
 have eT:(R4 q u).l=gj H l:=h.m0;have T:=Xx (s:=R4 q u) (H':=pU z H) (b:=an) eT ht hd h1 h3 (by rw[h4,decide_eq_false (fun c=>(po.1 c).2 rfl)]) (fun w hw=>by rw[h4] at hw;rw[po];exact⟨fun c=>⟨c,hw⟩,fun c=>c.1⟩) lT.1
 have hv:Fx 2000 q.mt.m (AD (R4 q u) (i:Int) an).m:=by
  have v1:=q.mt.qb;have v3:=q.mt.seen.Lo 0 (kF q.mt.l.length u);have v4:=RG (s:=CG q.mt u) (f:=u) (may:=p8 (I7 q u)) (afL _ _);refine(((v1.trans v3).trans v4).trans T.2.2.2.2).mono ?_;have a1:=q.mt.seen.qy;have a2:=(CG q.mt u).qy;omega
 have m1:=h.GV hB (by omega) (e:=2000) (s:=AD (R4 q u) (i:Int) an) (d:=1) T.2.1 T.2.2.1 (xo T.2.2.2.1) hv (by omega)
 have m2:=m1.Cc hB (by omega) (x:=z) hoP
 have m3:=m2.Ai hB (by omega) (by omega) (x:=z) hoG hzG hl Bo
 refine⟨?_,?_,?_⟩
 ·unfold Gc;rw[if_pos eB,eZ,eP];exact m3.up (by omega) (by omega)
 ·refine⟨lT.1,lT.2.1,lT.2.2,fun _=>⟨?_,?_⟩⟩
  ·rw[eP];exact T.1
  ·rw[eZ];exact GR h.g0 hoG lT.2.2 Bo
 ·unfold C6;rw[if_pos eB,eZ]
end
end Pa
end Go.Proofs.YtjlomlgdgpoepaaGreat
