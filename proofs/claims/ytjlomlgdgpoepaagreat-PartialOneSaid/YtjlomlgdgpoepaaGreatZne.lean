import Derived.Test.YtjlomlgdgpoepaaGreatZnd
import Derived.Test.YtjlomlgdgpoepaaGreatZnc
import Derived.Test.YtjlomlgdgpoepaaGreatZnb
set_option linter.unusedVariables false
set_option linter.unusedSimpArgs false
namespace Go.Proofs.YtjlomlgdgpoepaaGreat
open Gv renaming AZ→Dh,Ah→Dg,BL→Cf,DT→Bf,Deep→jb,Dx→Fs,Part→HJ,Ref→bk,W→mY,YD→KT,aE→aK,cv→bW,df→jc,drop→wg,ed→eD,fX→gT,find→iF,glue→sf,has→yz,iL→kf,iw→fw,jI→KS,jL→jR,ji→gH,jx→z8,kB→lQ,kY→lM,kZ→nE,last→jZ,level→gv,link→kC,lk→br,look→jQ,lx→q7,mX→ja,mZ→Fx,me→lu,ml→mA,nL→uP,na→Cg,nc→uR,nextIdx→vw,oQ→vx,oU→vy,om→yA,one→nK,pE→th,pX→mo,pick→jt,put→tD,qH→lC,q_→oL,qa→n3,qk→sH,replace→nF,seen→HK,sm→qw,sn→D5,sub→mV,sw→xh,tX→vC,tie→sG,tj→vz,tq→vD
open Gv.Node renaming all→bt,e→bY,h→cu,l→bc,mk→fy,r→bn
open Gv.PM renaming cW→gU,cap→ic,dE→dN,free→dT,held→fM,live→eV,vs→cH
open Gv.Part renaming mk→my,n→bM,sum→bG
open Gv.Ref renaming g→cC,i→cB,mk→aO
open Gv.TS renaming AT→tM,FY→acO,Kr→I4,Lv→Di,MX→Qo,Sa→Qn,Tg→GH,Tn→GG,V1→KU,VG→RU,Vg→RT,Xs→Tc,Zx→MA,all→tG,first→yB,gj→eW,last→DL,l→eM,new→qO,put_eq→WB,seen→dF,tu→Fw,ur→pj
open Gv.iO renaming cmp→gV,sum→IZ
open Pa renaming iH→j3,p9→qf
open Rx renaming Ends→cj
open Sh renaming F0→I3,O9→aN,Sl→jF,Sz→Qm,zR→xT
open Sh.Sl renaming it→lO,kD→oZ,mk→js,time→qx
open Sh.Sz renaming mk→aeC,n→px
open Ti.Td renaming mk→iP
open Wv renaming Mk→h_,O8→aw,S8→tZ
open Wv.It renaming i→m9,k→m8,mk→cU
open Wv.Sw renaming mk→xj
open _root_.And renaming intro→cX,right→ig
open _root_.Array renaming mk→aJ,toList→dv
open _root_.Bool renaming and_false→uM,and_true→Tb,false_eq_true→fP,false→an,or_true→WC,true_and→jh,true→ao
open _root_.Eq renaming symm→qY
open _root_.False renaming elim→kL
open _root_.Go.Addr renaming mk→RR
open _root_.Go.Func renaming ntmps→pf,results→dw
open _root_.Go.IntKind renaming i64→ar,wrap→ck
open _root_.Go.Value renaming agg→bz,bool→aC,int→bm,pointer→aB,slice→bD,tuple→cq
open _root_.Iff renaming rfl→r9
open _root_.Int renaming toNat_natCast→iJ,toNat→aG
open _root_.List renaming ext_getElem→Ob,getD_eq_getElem?_getD→au,getD→aI,getElem?_cons_succ→bH,getElem?_cons_zero→cd,getElem?_eq_getElem→bd,getElem?_map→fh,getElem_of_mem→sM,length_append→bF,length_cons→cy,length_drop→jr,length_map→fS,length_nil→jM,length_set→fb,length_take→dQ,length→ae,map_append→dJ,map_cons→gw,map_drop→mJ,map_nil→uK,map_set→Fq,map_take→nw,map→ay,range→n9,set→qc,take_length→jP,take_of_length_le→jl,take→gY
open _root_.Nat renaming le_add_left→tF,le_of_eq→xm,le_refl→a_,le_succ→ma,le_total→WD,le_trans→jo,lt_of_le_of_lt→iZ,lt_or_ge→cr,lt_succ_self→fC,min_eq_left→tE,min_eq_right→Oc,sub_le→Be,succ_pos→sF,zero_add→bU,zero_le→dh
open _root_.Option renaming none→aj,some_ne_none→wv,some→aa
open _root_.Option.some renaming injEq→ct,inj→pa
open _root_.Prod renaming ext→kd,fst→ax,snd→av
namespace G8
open Rx
set_option maxRecDepth 100000
set_option maxHeartbeats 16000000
def KD  (k:Nat):Prim Rs:=fun args hh=>match args,hh with
 |[.pointer (aa ⟨0,0,aj⟩),.agg ⟨xN⟩,.agg ⟨pP⟩,.int .i64 f_,.func (.func 110) ⟨[]⟩ ⟨[.pointer (aa ⟨1,0,aj⟩)]⟩],[aa (.inl (110,[.pointer (aa ⟨2,0,aj⟩),.int .i64 ti,.int .i64 tg])),aa (.inl (75,[.int .i64 xk,.int .i64 xi,.bool xe,.int .i64 xt])),aa (.inr (.inr (.inr (.da m))))]=>aa ⟨xN=bj (fU xN)/\pP=bV (o_ pP)/\(PP m/\gH aw k m (fU xN)),.int .i64 (jZ aw (qf ⟨xk,xi⟩) k m (fU xN) (o_ pP) f_).1,aj,[aa (.inl (110,[.pointer (aa ⟨2,0,aj⟩),.int .i64 ti,.int .i64 tg])),aa (.inl (75,[.int .i64 xk,.int .i64 xi,.bool xe,.int .i64 xt])),aa (.inr (.inr (.inr (.da (jZ aw (qf ⟨xk,xi⟩) k m (fU xN) (o_ pP) f_).2))))],[],[(0,0)]⟩
 |_,_=>aj
def aau (k:Nat):eJ Rs:=[(1000000000,lP),(110,bJ zN 2 (a9 YX)),(80,bJ zN 2 (a9 j9)),(98,bJ zN 2 (a9 Ag)),(148,bJ zN 2 (a9 ed)),(143,bJ zN 2 (a9 (KD k)))]
theorem UB:∀ k:Nat,b9 D Tryz.prog 143 (a9 (KD k))
 |0=>by
  refine fu Tryz.f143 fun args hh x hx=>?_
  unfold KD at hx;split at hx
  ·rename_i xN pP f_ ti tg xk xi xe xt m;cases hx;refine q4 fun _ hv=>?_
   exact kL (ig (ig (ig hv)))
  ·cases hx
 |k+1=>by
  have ih:=UB k;refine fu Tryz.f143 fun args hh x hx=>?_
  unfold KD at hx;split at hx
  ·rename_i xN pP f_ ti tg xk xi xe xt m;cases hx;refine q4 fun _ hv=>?_
   obtain⟨jT,sh,hv⟩:=hv;generalize fU xN=xn at *;subst jT;generalize o_ pP=pp at *;subst sh;obtain⟨hp,hd⟩:=hv
   generalize hG:cj (R:=Rs) _ _=G;refine cL (T:=(aau k)) (show cN D Tryz.prog (aau k) from⟨ix,aU _ _ agI,aU _ _ look_ok,aU _ _ yy,aU _ _ uy,aU _ _ ih,trivial⟩) mixed 200 ?_
   refine bK (q:=let Z9:=bm ar;let Z1:=(ck ar (bM pp+bM (bt xn))≤f_);let Z2:=(br aw m (bc xn));let Z3:=(eD aw pp (bt Z2));let Z4:=(nK aw (bY xn));let Z5:=(br aw (aK m (bc xn)) (bn xn));let Z6:=(aK (aK m (bc xn)) (bn xn));let Z7:=(jZ aw (qf (cU xk xi)) k Z6 Z5 (eD aw Z3 Z4) f_);let Z8:=(jZ aw (qf (cU xk xi)) k (av Z7) Z2 pp f_);((cu xn==(0:Int))=an->(decide (bM pp≥f_)=ao->aX (G (Z9 (-1:Int)) [dD 2 ti tg,aa (.inl (75,[Z9 xk,Z9 xi,.bool xe,Z9 xt])),oP m,aa (.inl (136,(bj xn))),aa (.inl (134,(bV pp)))]))/\(decide (bM pp≥f_)=an->Vc True/\(decide Z1=ao->Vc ((ko (bG pp))=ko (bG pp)/\(ko (bG (bt xn)))=ko (bG (bt xn)))/\((!qf (cU xk xi) (bG pp) (bG (bt xn)))=ao->aX (G (Z9 (-1:Int)) [dD 2 ti tg,aa (.inl (75,[Z9 xk,Z9 xi,.bool xe,Z9 xt])),oP m,aa (.inl (136,(bj xn))),aa (.inl (134,(bV pp)))]))/\((!qf (cU xk xi) (bG pp) (bG (bt xn)))=an->Vc (PP m)/\Vc ((bV pp)=bV pp/\(bV (bt Z2))=bV (bt Z2)/\True)/\Vc ((du (bY xn))=du (bY xn)/\True)/\Vc (PP (aK m (bc xn)))/\Vc ((bV Z3)=bV Z3/\(bV Z4)=bV Z4/\True)/\Vc ((bj Z5)=bj Z5/\(bV (eD aw Z3 Z4))=bV (eD aw Z3 Z4)/\PP Z6/\gH aw k Z6 Z5)/\(decide (ax Z7≥(0:Int))=ao->aX (G (Z9 (ax Z7)) [dD 2 ti tg,aa (.inl (75,[Z9 xk,Z9 xi,.bool xe,Z9 xt])),oP (av Z7),aa (.inl (136,(bj xn))),aa (.inl (134,(bV pp))),aa (.inl (136,(bj Z2))),aa (.inl (134,(bV Z3))),aa (.inl (134,(bV Z4)))]))/\(decide (ax Z7≥(0:Int))=an->(decide (bM Z3<f_)=ao->Vc ((ko (bG Z3))=ko (bG Z3)/\(ko (bG Z4))=ko (bG Z4))/\(qf (cU xk xi) (bG Z3) (bG Z4)=ao->aX (G (Z9 (bM Z3)) [dD 2 ti tg,aa (.inl (75,[Z9 xk,Z9 xi,.bool xe,Z9 xt])),oP (av Z7),aa (.inl (136,(bj xn))),aa (.inl (134,(bV pp))),aa (.inl (136,(bj Z2))),aa (.inl (134,(bV Z3))),aa (.inl (134,(bV Z4)))]))/\(qf (cU xk xi) (bG Z3) (bG Z4)=an->Vc ((bj Z2)=bj Z2/\(bV pp)=bV pp/\PP (av Z7)/\gH aw k (av Z7) Z2)/\aX (G (Z9 (ax Z8)) [dD 2 ti tg,aa (.inl (75,[Z9 xk,Z9 xi,.bool xe,Z9 xt])),oP (av Z8),aa (.inl (136,(bj xn))),aa (.inl (134,(bV pp))),aa (.inl (136,(bj Z2))),aa (.inl (134,(bV Z3))),aa (.inl (134,(bV Z4)))])))/\(decide (bM Z3<f_)=an->Vc ((bj Z2)=bj Z2/\(bV pp)=bV pp/\PP (av Z7)/\gH aw k (av Z7) Z2)/\aX (G (Z9 (ax Z8)) [dD 2 ti tg,aa (.inl (75,[Z9 xk,Z9 xi,.bool xe,Z9 xt])),oP (av Z8),aa (.inl (136,(bj xn))),aa (.inl (134,(bV pp))),aa (.inl (136,(bj Z2))),aa (.inl (134,(bV Z3))),aa (.inl (134,(bV Z4)))])))))/\(decide Z1=an->Vc (PP m)/\Vc ((bV pp)=bV pp/\(bV (bt Z2))=bV (bt Z2)/\True)/\Vc ((du (bY xn))=du (bY xn)/\True)/\Vc (PP (aK m (bc xn)))/\Vc ((bV Z3)=bV Z3/\(bV Z4)=bV Z4/\True)/\Vc ((bj Z5)=bj Z5/\(bV (eD aw Z3 Z4))=bV (eD aw Z3 Z4)/\PP Z6/\gH aw k Z6 Z5)/\(decide (ax Z7≥(0:Int))=ao->aX (G (Z9 (ax Z7)) [dD 2 ti tg,aa (.inl (75,[Z9 xk,Z9 xi,.bool xe,Z9 xt])),oP (av Z7),aa (.inl (136,(bj xn))),aa (.inl (134,(bV pp))),aa (.inl (136,(bj Z2))),aa (.inl (134,(bV Z3))),aa (.inl (134,(bV Z4)))]))/\(decide (ax Z7≥(0:Int))=an->(decide (bM Z3<f_)=ao->Vc ((ko (bG Z3))=ko (bG Z3)/\(ko (bG Z4))=ko (bG Z4))/\(qf (cU xk xi) (bG Z3) (bG Z4)=ao->aX (G (Z9 (bM Z3)) [dD 2 ti tg,aa (.inl (75,[Z9 xk,Z9 xi,.bool xe,Z9 xt])),oP (av Z7),aa (.inl (136,(bj xn))),aa (.inl (134,(bV pp))),aa (.inl (136,(bj Z2))),aa (.inl (134,(bV Z3))),aa (.inl (134,(bV Z4)))]))/\(qf (cU xk xi) (bG Z3) (bG Z4)=an->Vc ((bj Z2)=bj Z2/\(bV pp)=bV pp/\PP (av Z7)/\gH aw k (av Z7) Z2)/\aX (G (Z9 (ax Z8)) [dD 2 ti tg,aa (.inl (75,[Z9 xk,Z9 xi,.bool xe,Z9 xt])),oP (av Z8),aa (.inl (136,(bj xn))),aa (.inl (134,(bV pp))),aa (.inl (136,(bj Z2))),aa (.inl (134,(bV Z3))),aa (.inl (134,(bV Z4)))])))/\(decide (bM Z3<f_)=an->Vc ((bj Z2)=bj Z2/\(bV pp)=bV pp/\PP (av Z7)/\gH aw k (av Z7) Z2)/\aX (G (Z9 (ax Z8)) [dD 2 ti tg,aa (.inl (75,[Z9 xk,Z9 xi,.bool xe,Z9 xt])),oP (av Z8),aa (.inl (136,(bj xn))),aa (.inl (134,(bV pp))),aa (.inl (136,(bj Z2))),aa (.inl (134,(bV Z3))),aa (.inl (134,(bV Z4)))]))))))/\((cu xn==(0:Int))=ao->aX (G (Z9 (-1:Int)) [dD 2 ti tg,aa (.inl (75,[Z9 xk,Z9 xi,.bool xe,Z9 xt])),oP m,aa (.inl (136,(bj xn))),aa (.inl (134,(bV pp)))]))) ?_ (by kernel_rfl)
   intro Z9 Z1 Z2 Z3 Z4 Z5 Z6 Z7 Z8;subst Z8 Z7 Z6 Z5 Z4 Z3 Z2 Z1 Z9;simp only[gH] at hd;have e1:∀ e,(nK aw e).sum=aw.sum e:=fun _=>rfl
   have done:∀ (i:Int) (m':Pl) (rest:Hp Rs),jZ aw (qf ⟨xk,xi⟩) (k+1) m xn pp f_=(i,m')->G (.int .i64 i) ([aa (.inl (110,[.pointer (aa ⟨2,0,aj⟩),.int .i64 ti,.int .i64 tg])),aa (.inl (75,[.int .i64 xk,.int .i64 xi,.bool xe,.int .i64 xt])),aa (.inr (.inr (.inr (.da m'))))]++rest):=by
    intro i m' rest e;subst hG;refine⟨[0,1,2],?_,rfl,⟨.inl rfl,.inl rfl,?_,trivial⟩,rfl,rfl,rfl,rfl⟩
    ·simp only[e];rfl
    ·simp only[e];rfl
   clear hG;rw[jZ] at done
   dsimp only [mY] at done
   simp only[e1]
   repeat' (first|apply cX|apply Vc.mk|apply fits.mk|intro h|apply aX.mk)
   all_goals (try simp only[sB] at *)
   all_goals first|contradiction|omega|exact jv ‹_›|exact jw ‹_›|exact ju ‹_›|exact⟨rfl,by omega⟩|exact rfl|(simp[*,-au];done)|skip
   all_goals first|assumption|(simp only[ja];assumption)|skip
   all_goals first|exact n3 (hd.resolve_left (by omega)).1 (fun s=>by simp only[Gv.ir,lM,mA])|(simp only[lM,mA,Gv.ir];first|exact n3 (hd.resolve_left (by omega)).2 (fun s=>by simp only[Gv.ir,lM,mA])|exact n3 (hd.resolve_left (by omega)).1 (fun s=>by simp only[Gv.ir,lM,mA]))|skip
   all_goals (refine done _ _ _ ?_;repeat' split)
   all_goals first|rfl|(exfalso;omega)|(exfalso;simp_all;done)|(exfalso;simp_all;omega)
  ·cases hx
def RJ (K:Nat):Prim Rs:=fun args hh=>match args,hh with
 |[.pointer (aa ⟨0,0,aj⟩),.int .i64 f_,.func (.func 110) ⟨[]⟩ ⟨[.pointer (aa ⟨1,0,aj⟩)]⟩],[aa (.inl (110,[.pointer (aa ⟨2,0,aj⟩),.int .i64 ti,.int .i64 tg])),aa (.inl (75,[.int .i64 xk,.int .i64 xi,.bool xe,.int .i64 xt])),aa (.inr (.inr (.inr (.da m))))]=>aa ⟨PP m/\gH aw K (aK m (⟨ti,tg⟩:bk)) (br aw m (⟨ti,tg⟩:bk)),.int .i64 (jZ aw (qf ⟨xk,xi⟩) K (aK m (⟨ti,tg⟩:bk)) (br aw m (⟨ti,tg⟩:bk)) ⟨0,aw.a0⟩ f_).1,aj,[aa (.inl (110,[.pointer (aa ⟨2,0,aj⟩),.int .i64 ti,.int .i64 tg])),aa (.inl (75,[.int .i64 xk,.int .i64 xi,.bool xe,.int .i64 xt])),aa (.inr (.inr (.inr (.da (jZ aw (qf ⟨xk,xi⟩) K (aK m (⟨ti,tg⟩:bk)) (br aw m (⟨ti,tg⟩:bk)) ⟨0,aw.a0⟩ f_).2))))],[],[(0,0)]⟩
 |_,_=>aj
def X5 (K:Nat):eJ Rs:=[(80,bJ zN 2 (a9 j9)),(143,bJ zN 2 (a9 (KD K)))]
theorem ab' (K:Nat):b9 D Tryz.prog 111 (a9 (RJ K)):=by
 refine fu Tryz.f111 fun args hh x hx=>?_
 unfold RJ at hx;split at hx
 ·rename_i f_ ti tg xk xi xe xt m;cases hx;refine q4 fun _ hv=>?_
  obtain⟨hp,hd⟩:=hv;generalize hG:cj (R:=Rs) _ _=G;refine cL (T:=(X5 K)) (show cN D Tryz.prog (X5 K) from⟨aU _ _ look_ok,aU _ _ (UB K),trivial⟩) mixed 200 ?_
  refine bK (q:=let Z1:=(br aw m (aO ti tg));let Z2:=(bV (my 0 (xj (iP 0 0 0) (iP 0 0 0) 0 0 (cU 0 0) an (cU 0 0) an (cU 0 0))));let Z3:=(jZ aw (qf (cU xk xi)) K (aK m (aO ti tg)) Z1 (my (0:Int) (xj (iP (0:Int) (0:Int) (0:Int)) (iP (0:Int) (0:Int) (0:Int)) (0:Int) (0:Int) (cU (0:Int) (0:Int)) an (cU (0:Int) (0:Int)) an (cU (0:Int) (0:Int)))) f_);Vc (PP m)/\Vc ((bj Z1)=bj Z1/\Z2=Z2/\PP (aK m (aO ti tg))/\gH aw K (aK m (aO ti tg)) Z1)/\aX (G (bm ar (ax Z3)) [dD 2 ti tg,aa (.inl (75,[.int ar xk,.int ar xi,.bool xe,.int ar xt])),oP (av Z3)])) ?_ (by kernel_rfl)
  intro Z1 Z2 Z3;subst Z3 Z2 Z1;subst hG
  repeat' (first|apply cX|apply Vc.mk|apply fits.mk|intro h|apply aX.mk)
  all_goals (try simp only[sB] at *)
  all_goals first|contradiction|omega|exact jv ‹_›|exact jw ‹_›|exact ju ‹_›|exact⟨rfl,by omega⟩|exact rfl|(simp[*,-au];done)|skip
  all_goals first|assumption|(simp only[ja];assumption)|skip
  exact⟨[0,1,2],rfl,rfl,⟨.inl rfl,.inl rfl,rfl,trivial⟩,rfl,rfl,rfl,rfl⟩
 ·cases hx
end G8
namespace G8
open Rx
open Gv (KK)
set_option maxRecDepth 100000
set_option maxHeartbeats 8000000
def IK:Prim Rt:=fun args hh=>match args,hh with
 |[.int .i64 c],[]=>aa ⟨True,.pointer (aa ⟨0,0,aj⟩),aj,[oT (qO k8 c)],[],[(0,0)]⟩
 |_,_=>aj
theorem QP:b9 D2 Tryz.prog 90 (a9 IK):=by
 refine np (c:=a9 Iz) Rr fun args hh x hx=>?_
 unfold IK at hx;split at hx
 ·rename_i c;cases hx;refine⟨dh _,l_ rfl,(fun hw=>by cases hw),fun hv=>⟨⟨_,.inl ⟨rfl,rfl⟩,rfl,?_,?_,?_⟩,rfl,rfl⟩⟩
  ·trivial
  ·rfl
  ·rfl
 ·cases hx
def Ay:Prim Rt:=fun args hh=>match args,hh with
 |[.pointer (aa ⟨0,0,aj⟩)],[aa (.inr (.inr (.inr (.tree s))))]=>aa ⟨s.gj,.int .i64 s.l.length,aj,[oT s.seen],[],[(0,0)]⟩
 |_,_=>aj
theorem BD:b9 D2 Tryz.prog 40 (a9 Ay):=by
 refine np (c:=a9 B1) JR fun args hh x hx=>?_
 unfold Ay at hx;split at hx
 ·rename_i s;cases hx;refine⟨a_ _,l_ rfl,(fun hw=>by cases hw),fun hv=>⟨⟨_,.inl ⟨rfl,rfl⟩,rfl,?_,?_,?_⟩,rfl,rfl⟩⟩
  ·exact s.pp hv
  ·rfl
  ·exact congrArg (bm ar) s.ok.nn
 ·cases hx
def H3:Prim Rt:=fun args hh=>match args,hh with
 |[.pointer (aa ⟨0,0,aj⟩)],[aa (.inr (.inr (.inr (.tree s))))]=>aa ⟨True,.int .i64 s.m.cW,aj,hh,[],[]⟩
 |_,_=>aj
theorem QK:b9 D2 Tryz.prog 76 (a9 H3):=by
 refine np (c:=a9 yV) HR fun args hh x hx=>?_
 unfold H3 at hx;split at hx
 ·rename_i s;cases hx;refine⟨a_ _,l_ rfl,(fun _=>rfl),fun hv=>⟨⟨_,.inl ⟨rfl,rfl⟩,rfl,?_,?_,?_⟩,rfl,rfl⟩⟩
  ·trivial
  ·rfl
  ·rfl
 ·cases hx
def Dt:Prim Rt:=fun args hh=>match args,hh with
 |[.pointer (aa ⟨0,0,aj⟩),.agg ⟨[.int .i64 k0,.bool k1,.int .i64 k2,.int .i64 k3,.bool k4,.bool k5,.int .i64 k6,.int .i64 k7]⟩],[aa (.inr (.inr (.inr (.tree s))))]=>aa ⟨s.kX (⟨k0,k1,⟨k2,k3⟩,k4,k5,⟨k6,k7⟩⟩:h_),.bool (s.Kr (⟨k0,k1,⟨k2,k3⟩,k4,k5,⟨k6,k7⟩⟩:h_)),aj,[oT (s.put (⟨k0,k1,⟨k2,k3⟩,k4,k5,⟨k6,k7⟩⟩:h_))],[],[(0,0)]⟩
 |_,_=>aj
theorem Ht:b9 D2 Tryz.prog 67 (a9 Dt):=by
 refine np (c:=a9 (Ih KK)) (Qu KK) fun args hh x hx=>?_
 unfold Dt at hx;split at hx
 ·rename_i k0 k1 k2 k3 k4 k5 k6 k7 s;cases hx;refine⟨a_ _,l_ rfl,(fun hw=>by cases hw),fun hv=>⟨⟨_,.inl ⟨rfl,rfl⟩,rfl,?_,?_,?_⟩,rfl,rfl⟩⟩
  ·exact⟨rfl,s.pp hv.lj,(Fw hv).1⟩
  ·rw[WB hv];rfl
  ·exact congrArg aC (Fw hv).2.1
 ·cases hx
def CX:Prim Rt:=fun args hh=>match args,hh with
 |[.pointer (aa ⟨0,0,aj⟩),.agg ⟨[.int .i64 k0,.bool k1,.int .i64 k2,.int .i64 k3,.bool k4,.bool k5,.int .i64 k6,.int .i64 k7]⟩],[aa (.inr (.inr (.inr (.tree s))))]=>aa ⟨s.gj,.tuple #[.agg ⟨[.int .i64 (fw aw (⟨k0,k1,⟨k2,k3⟩,k4,k5,⟨k6,k7⟩⟩:h_) s.l).1.t,.bool (fw aw (⟨k0,k1,⟨k2,k3⟩,k4,k5,⟨k6,k7⟩⟩:h_) s.l).1.ins,.int .i64 (fw aw (⟨k0,k1,⟨k2,k3⟩,k4,k5,⟨k6,k7⟩⟩:h_) s.l).1.it.k,.int .i64 (fw aw (⟨k0,k1,⟨k2,k3⟩,k4,k5,⟨k6,k7⟩⟩:h_) s.l).1.it.i,.bool (fw aw (⟨k0,k1,⟨k2,k3⟩,k4,k5,⟨k6,k7⟩⟩:h_) s.l).1.here,.bool (fw aw (⟨k0,k1,⟨k2,k3⟩,k4,k5,⟨k6,k7⟩⟩:h_) s.l).1.tf,.int .i64 (fw aw (⟨k0,k1,⟨k2,k3⟩,k4,k5,⟨k6,k7⟩⟩:h_) s.l).1.tk.k,.int .i64 (fw aw (⟨k0,k1,⟨k2,k3⟩,k4,k5,⟨k6,k7⟩⟩:h_) s.l).1.tk.i]⟩,.bool (fw aw (⟨k0,k1,⟨k2,k3⟩,k4,k5,⟨k6,k7⟩⟩:h_) s.l).2],aj,[oT (s.drop (⟨k0,k1,⟨k2,k3⟩,k4,k5,⟨k6,k7⟩⟩:h_))],[],[(0,0)]⟩
 |_,_=>aj
theorem Ij:b9 D2 Tryz.prog 74 (a9 CX):=by
 refine np (c:=a9 (Et KK)) (M8 KK) fun args hh x hx=>?_
 unfold CX at hx;split at hx
 ·rename_i k0 k1 k2 k3 k4 k5 k6 k7 s;cases hx;refine⟨a_ _,l_ rfl,(fun hw=>by cases hw),fun hv=>⟨⟨_,.inl ⟨rfl,rfl⟩,rfl,?_,?_,?_⟩,rfl,rfl⟩⟩
  ·exact⟨rfl,s.pp hv,(s.tc (⟨k0,k1,⟨k2,k3⟩,k4,k5,⟨k6,k7⟩⟩:h_)).1⟩
  ·rfl
  ·obtain⟨_,h1,h2,_⟩:=s.tc (⟨k0,k1,⟨k2,k3⟩,k4,k5,⟨k6,k7⟩⟩:h_);show cq #[.agg ⟨[.int .i64 (jR aw KK s.m s.r (⟨k0,k1,⟨k2,k3⟩,k4,k5,⟨k6,k7⟩⟩:h_)).1.t,.bool (jR aw KK s.m s.r (⟨k0,k1,⟨k2,k3⟩,k4,k5,⟨k6,k7⟩⟩:h_)).1.ins,.int .i64 (jR aw KK s.m s.r (⟨k0,k1,⟨k2,k3⟩,k4,k5,⟨k6,k7⟩⟩:h_)).1.it.k,.int .i64 (jR aw KK s.m s.r (⟨k0,k1,⟨k2,k3⟩,k4,k5,⟨k6,k7⟩⟩:h_)).1.it.i,.bool (jR aw KK s.m s.r (⟨k0,k1,⟨k2,k3⟩,k4,k5,⟨k6,k7⟩⟩:h_)).1.here,.bool (jR aw KK s.m s.r (⟨k0,k1,⟨k2,k3⟩,k4,k5,⟨k6,k7⟩⟩:h_)).1.tf,.int .i64 (jR aw KK s.m s.r (⟨k0,k1,⟨k2,k3⟩,k4,k5,⟨k6,k7⟩⟩:h_)).1.tk.k,.int .i64 (jR aw KK s.m s.r (⟨k0,k1,⟨k2,k3⟩,k4,k5,⟨k6,k7⟩⟩:h_)).1.tk.i]⟩,.bool (jR aw KK s.m s.r (⟨k0,k1,⟨k2,k3⟩,k4,k5,⟨k6,k7⟩⟩:h_)).2.1]=_
   have h1:(jR aw KK s.m s.r (⟨k0,k1,⟨k2,k3⟩,k4,k5,⟨k6,k7⟩⟩:h_)).1=(fw aw (⟨k0,k1,⟨k2,k3⟩,k4,k5,⟨k6,k7⟩⟩:h_) s.l).1:=h1;have h2:(jR aw KK s.m s.r (⟨k0,k1,⟨k2,k3⟩,k4,k5,⟨k6,k7⟩⟩:h_)).2.1=(fw aw (⟨k0,k1,⟨k2,k3⟩,k4,k5,⟨k6,k7⟩⟩:h_) s.l).2:=h2;rw[h1,h2]
   rfl
 ·cases hx
def Av:Prim Rt:=fun args hh=>match args,hh with
 |[.pointer (aa ⟨0,0,aj⟩),.agg ⟨[.int .i64 k0,.bool k1,.int .i64 k2,.int .i64 k3,.bool k4,.bool k5,.int .i64 k6,.int .i64 k7]⟩],[aa (.inr (.inr (.inr (.tree s))))]=>aa ⟨s.gj,.tuple #[.agg ⟨[.int .i64 (fw aw (⟨k0,k1,⟨k2,k3⟩,k4,k5,⟨k6,k7⟩⟩:h_) s.l).1.t,.bool (fw aw (⟨k0,k1,⟨k2,k3⟩,k4,k5,⟨k6,k7⟩⟩:h_) s.l).1.ins,.int .i64 (fw aw (⟨k0,k1,⟨k2,k3⟩,k4,k5,⟨k6,k7⟩⟩:h_) s.l).1.it.k,.int .i64 (fw aw (⟨k0,k1,⟨k2,k3⟩,k4,k5,⟨k6,k7⟩⟩:h_) s.l).1.it.i,.bool (fw aw (⟨k0,k1,⟨k2,k3⟩,k4,k5,⟨k6,k7⟩⟩:h_) s.l).1.here,.bool (fw aw (⟨k0,k1,⟨k2,k3⟩,k4,k5,⟨k6,k7⟩⟩:h_) s.l).1.tf,.int .i64 (fw aw (⟨k0,k1,⟨k2,k3⟩,k4,k5,⟨k6,k7⟩⟩:h_) s.l).1.tk.k,.int .i64 (fw aw (⟨k0,k1,⟨k2,k3⟩,k4,k5,⟨k6,k7⟩⟩:h_) s.l).1.tk.i]⟩,.bool (fw aw (⟨k0,k1,⟨k2,k3⟩,k4,k5,⟨k6,k7⟩⟩:h_) s.l).2],aj,[oT (s.find (⟨k0,k1,⟨k2,k3⟩,k4,k5,⟨k6,k7⟩⟩:h_))],[],[(0,0)]⟩
 |_,_=>aj
theorem Ek:b9 D2 Tryz.prog 73 (a9 Av):=by
 refine np (c:=a9 (Em KK)) (NH KK) fun args hh x hx=>?_
 unfold Av at hx;split at hx
 ·rename_i k0 k1 k2 k3 k4 k5 k6 k7 s;cases hx;refine⟨a_ _,l_ rfl,(fun hw=>by cases hw),fun hv=>⟨⟨_,.inl ⟨rfl,rfl⟩,rfl,?_,?_,?_⟩,rfl,rfl⟩⟩
  ·exact⟨rfl,s.pp hv,(s.ok.find (e:=(⟨k0,k1,⟨k2,k3⟩,k4,k5,⟨k6,k7⟩⟩:h_)) s.k1).1⟩
  ·rfl
  ·obtain⟨_,m',h1,_⟩:=s.ok.find (K:=KK) (e:=(⟨k0,k1,⟨k2,k3⟩,k4,k5,⟨k6,k7⟩⟩:h_)) s.k1;have h1:(iF aw KK (aK s.m s.r) (br aw s.m s.r) (⟨k0,k1,⟨k2,k3⟩,k4,k5,⟨k6,k7⟩⟩:h_))=((fw aw (⟨k0,k1,⟨k2,k3⟩,k4,k5,⟨k6,k7⟩⟩:h_) s.l),m'):=h1;show cq #[.agg ⟨[.int .i64 (iF aw KK (aK s.m s.r) (br aw s.m s.r) (⟨k0,k1,⟨k2,k3⟩,k4,k5,⟨k6,k7⟩⟩:h_)).1.1.t,.bool (iF aw KK (aK s.m s.r) (br aw s.m s.r) (⟨k0,k1,⟨k2,k3⟩,k4,k5,⟨k6,k7⟩⟩:h_)).1.1.ins,.int .i64 (iF aw KK (aK s.m s.r) (br aw s.m s.r) (⟨k0,k1,⟨k2,k3⟩,k4,k5,⟨k6,k7⟩⟩:h_)).1.1.it.k,.int .i64 (iF aw KK (aK s.m s.r) (br aw s.m s.r) (⟨k0,k1,⟨k2,k3⟩,k4,k5,⟨k6,k7⟩⟩:h_)).1.1.it.i,.bool (iF aw KK (aK s.m s.r) (br aw s.m s.r) (⟨k0,k1,⟨k2,k3⟩,k4,k5,⟨k6,k7⟩⟩:h_)).1.1.here,.bool (iF aw KK (aK s.m s.r) (br aw s.m s.r) (⟨k0,k1,⟨k2,k3⟩,k4,k5,⟨k6,k7⟩⟩:h_)).1.1.tf,.int .i64 (iF aw KK (aK s.m s.r) (br aw s.m s.r) (⟨k0,k1,⟨k2,k3⟩,k4,k5,⟨k6,k7⟩⟩:h_)).1.1.tk.k,.int .i64 (iF aw KK (aK s.m s.r) (br aw s.m s.r) (⟨k0,k1,⟨k2,k3⟩,k4,k5,⟨k6,k7⟩⟩:h_)).1.1.tk.i]⟩,.bool (iF aw KK (aK s.m s.r) (br aw s.m s.r) (⟨k0,k1,⟨k2,k3⟩,k4,k5,⟨k6,k7⟩⟩:h_)).1.2]=_
   rw[h1]
   rfl
 ·cases hx
def Hh:Prim Rt:=fun args hh=>match args,hh with
 |[.pointer (aa ⟨0,0,aj⟩),.agg ⟨[.int .i64 k0,.bool k1,.int .i64 k2,.int .i64 k3,.bool k4,.bool k5,.int .i64 k6,.int .i64 k7]⟩],[aa (.inr (.inr (.inr (.tree s))))]=>aa ⟨s.gj,.int .i64 (yA aw (⟨k0,k1,⟨k2,k3⟩,k4,k5,⟨k6,k7⟩⟩:h_) s.l).length,aj,[oT (s.kB (⟨k0,k1,⟨k2,k3⟩,k4,k5,⟨k6,k7⟩⟩:h_))],[],[(0,0)]⟩
 |_,_=>aj
theorem VC:b9 D2 Tryz.prog 65 (a9 Hh):=by
 refine np (c:=a9 (Fi KK)) (NJ KK) fun args hh x hx=>?_
 unfold Hh at hx;split at hx
 ·rename_i k0 k1 k2 k3 k4 k5 k6 k7 s;cases hx;refine⟨a_ _,l_ rfl,(fun hw=>by cases hw),fun hv=>⟨⟨_,.inl ⟨rfl,rfl⟩,rfl,?_,?_,?_⟩,rfl,rfl⟩⟩
  ·exact⟨rfl,s.pp hv,(s.ok.kB (e:=(⟨k0,k1,⟨k2,k3⟩,k4,k5,⟨k6,k7⟩⟩:h_)) s.k1).1⟩
  ·rfl
  ·obtain⟨_,m',h1,_⟩:=s.ok.kB (K:=KK) (e:=(⟨k0,k1,⟨k2,k3⟩,k4,k5,⟨k6,k7⟩⟩:h_)) s.k1;have h1:(lQ aw KK (aK s.m s.r) (br aw s.m s.r) (⟨k0,k1,⟨k2,k3⟩,k4,k5,⟨k6,k7⟩⟩:h_) 0)=(((yA aw (⟨k0,k1,⟨k2,k3⟩,k4,k5,⟨k6,k7⟩⟩:h_) s.l).length:Int),m'):=h1;show bm ar (lQ aw KK (aK s.m s.r) (br aw s.m s.r) (⟨k0,k1,⟨k2,k3⟩,k4,k5,⟨k6,k7⟩⟩:h_) 0).1=_
   rw[h1]
   rfl
 ·cases hx
def Iy:Prim Rt:=fun args hh=>match args,hh with
 |[.pointer (aa ⟨0,0,aj⟩)],[aa (.inr (.inr (.inr (.tree s))))]=>aa ⟨s.gj,.slice (aa ⟨1,0,aa 8000⟩) s.l.length 0,aj,[oT s.all,aa (.inr (.inl (49,⟨[.int .i64 0,.bool an,.int .i64 0,.int .i64 0,.bool an,.bool an,.int .i64 0,.int .i64 0],s.l.length,[⟨s.l.map fun e=>e.t,[],[]⟩,⟨[],s.l.map fun e=>e.ins,[]⟩,⟨s.l.map fun e=>e.it.k,[],[]⟩,⟨s.l.map fun e=>e.it.i,[],[]⟩,⟨[],s.l.map fun e=>e.here,[]⟩,⟨[],s.l.map fun e=>e.tf,[]⟩,⟨s.l.map fun e=>e.tk.k,[],[]⟩,⟨s.l.map fun e=>e.tk.i,[],[]⟩]⟩)))],[],[(0,0)]⟩
 |_,_=>aj
theorem RE:b9 D2 Tryz.prog 21 (a9 Iy):=by
 refine np (c:=a9 (HS KK)) (Rz KK) fun args hh x hx=>?_
 unfold Iy at hx;split at hx
 ·rename_i s;cases hx;refine⟨ma _,l_ rfl,(fun hw=>by cases hw),fun hv=>⟨⟨_,.inl ⟨rfl,rfl⟩,rfl,?_,?_,?_⟩,rfl,rfl⟩⟩
  ·exact⟨s.pp hv,(s.ok.all (K:=KK) s.k1).1⟩
  ·obtain⟨_,m',h1,_⟩:=s.ok.all (K:=KK) s.k1;have h1:(bW aw KK (aK s.m s.r) s.r)=(s.l,m'):=h1;show([aa (.inl (110,[.pointer (aa ⟨1,0,aj⟩),.int .i64 s.r.i,.int .i64 s.r.g])),aa (.inr (.inr (.inr (.da (bW aw KK (aK s.m s.r) s.r).2)))),aa (.inr (.inl (49,⟨[.int .i64 0,.bool an,.int .i64 0,.int .i64 0,.bool an,.bool an,.int .i64 0,.int .i64 0],(bW aw KK (aK s.m s.r) s.r).1.length,[⟨(bW aw KK (aK s.m s.r) s.r).1.map fun e=>e.t,[],[]⟩,⟨[],(bW aw KK (aK s.m s.r) s.r).1.map fun e=>e.ins,[]⟩,⟨(bW aw KK (aK s.m s.r) s.r).1.map fun e=>e.it.k,[],[]⟩,⟨(bW aw KK (aK s.m s.r) s.r).1.map fun e=>e.it.i,[],[]⟩,⟨[],(bW aw KK (aK s.m s.r) s.r).1.map fun e=>e.here,[]⟩,⟨[],(bW aw KK (aK s.m s.r) s.r).1.map fun e=>e.tf,[]⟩,⟨(bW aw KK (aK s.m s.r) s.r).1.map fun e=>e.tk.k,[],[]⟩,⟨(bW aw KK (aK s.m s.r) s.r).1.map fun e=>e.tk.i,[],[]⟩]⟩)))]:Hp Rs)=[aa (.inl (110,[.pointer (aa ⟨1,0,aj⟩),.int .i64 s.r.i,.int .i64 s.r.g])),aa (.inr (.inr (.inr (.da (bW aw KK (aK s.m s.r) s.r).2)))),aa (.inr (.inl (49,⟨[.int .i64 0,.bool an,.int .i64 0,.int .i64 0,.bool an,.bool an,.int .i64 0,.int .i64 0],s.l.length,[⟨s.l.map fun e=>e.t,[],[]⟩,⟨[],s.l.map fun e=>e.ins,[]⟩,⟨s.l.map fun e=>e.it.k,[],[]⟩,⟨s.l.map fun e=>e.it.i,[],[]⟩,⟨[],s.l.map fun e=>e.here,[]⟩,⟨[],s.l.map fun e=>e.tf,[]⟩,⟨s.l.map fun e=>e.tk.k,[],[]⟩,⟨s.l.map fun e=>e.tk.i,[],[]⟩]⟩)))]
   rw[h1]
  ·obtain⟨_,m',h1,_⟩:=s.ok.all (K:=KK) s.k1;have h1:(bW aw KK (aK s.m s.r) s.r)=(s.l,m'):=h1;show bD (aa ⟨2,0,aa 8000⟩) (bW aw KK (aK s.m s.r) s.r).1.length 0=_
   rw[h1]
   rfl
 ·cases hx
def Rq:Prim Rt:=fun args hh=>match args,hh with
 |[.pointer (aa ⟨0,0,aj⟩),.int .i64 i_],[aa (.inr (.inr (.inr (.tree s))))]=>aa ⟨s.gj,.tuple #[.agg ⟨[.int .i64 (mo aw i_ s.l).1.t,.bool (mo aw i_ s.l).1.ins,.int .i64 (mo aw i_ s.l).1.it.k,.int .i64 (mo aw i_ s.l).1.it.i,.bool (mo aw i_ s.l).1.here,.bool (mo aw i_ s.l).1.tf,.int .i64 (mo aw i_ s.l).1.tk.k,.int .i64 (mo aw i_ s.l).1.tk.i]⟩,.bool (mo aw i_ s.l).2],aj,[oT (s.at_ i_)],[],[(0,0)]⟩
 |_,_=>aj
theorem acI:b9 D2 Tryz.prog 141 (a9 Rq):=by
 refine np (c:=a9 (MV KK)) (UM KK) fun args hh x hx=>?_
 unfold Rq at hx;split at hx
 ·rename_i i_ s;cases hx;refine⟨a_ _,l_ rfl,(fun hw=>by cases hw),fun hv=>⟨⟨_,.inl ⟨rfl,rfl⟩,rfl,?_,?_,?_⟩,rfl,rfl⟩⟩
  ·exact⟨s.pp hv,(s.ok.at_ (i:=i_) s.k1).1⟩
  ·rfl
  ·obtain⟨_,m',h1,_⟩:=s.ok.at_ (K:=KK) (i:=i_) s.k1;have h1:(lC aw KK s.m s.r i_)=((mo aw i_ s.l),m'):=h1;show cq #[.agg ⟨[.int .i64 (lC aw KK s.m s.r i_).1.1.t,.bool (lC aw KK s.m s.r i_).1.1.ins,.int .i64 (lC aw KK s.m s.r i_).1.1.it.k,.int .i64 (lC aw KK s.m s.r i_).1.1.it.i,.bool (lC aw KK s.m s.r i_).1.1.here,.bool (lC aw KK s.m s.r i_).1.1.tf,.int .i64 (lC aw KK s.m s.r i_).1.1.tk.k,.int .i64 (lC aw KK s.m s.r i_).1.1.tk.i]⟩,.bool (lC aw KK s.m s.r i_).1.2]=_
   rw[h1]
   rfl
 ·cases hx
def PH:Prim Rt:=fun args hh=>match args,hh with
 |[.pointer (aa ⟨0,0,aj⟩),.int .i64 x_,.int .i64 y_],[aa (.inr (.inr (.inr (.tree s))))]=>aa ⟨s.gj,.agg ⟨[.int .i64 (tZ (mV s.l x_.toNat y_.toNat)).c.n,.int .i64 (tZ (mV s.l x_.toNat y_.toNat)).c.s,.int .i64 (tZ (mV s.l x_.toNat y_.toNat)).c.l,.int .i64 (tZ (mV s.l x_.toNat y_.toNat)).w.n,.int .i64 (tZ (mV s.l x_.toNat y_.toNat)).w.s,.int .i64 (tZ (mV s.l x_.toNat y_.toNat)).w.l,.int .i64 (tZ (mV s.l x_.toNat y_.toNat)).d,.int .i64 (tZ (mV s.l x_.toNat y_.toNat)).f,.int .i64 (tZ (mV s.l x_.toNat y_.toNat)).m.k,.int .i64 (tZ (mV s.l x_.toNat y_.toNat)).m.i,.bool (tZ (mV s.l x_.toNat y_.toNat)).gf,.int .i64 (tZ (mV s.l x_.toNat y_.toNat)).g.k,.int .i64 (tZ (mV s.l x_.toNat y_.toNat)).g.i,.bool (tZ (mV s.l x_.toNat y_.toNat)).lf,.int .i64 (tZ (mV s.l x_.toNat y_.toNat)).l.k,.int .i64 (tZ (mV s.l x_.toNat y_.toNat)).l.i]⟩,aj,[oT (s.FY x_ y_)],[],[(0,0)]⟩
 |_,_=>aj
theorem Q6:b9 D2 Tryz.prog 78 (a9 PH):=by
 refine np (c:=a9 (ZR KK)) (ahc KK) fun args hh x hx=>?_
 unfold PH at hx;split at hx
 ·rename_i x_ y_ s;cases hx;refine⟨a_ _,l_ rfl,(fun hw=>by cases hw),fun hv=>⟨⟨_,.inl ⟨rfl,rfl⟩,rfl,?_,?_,?_⟩,rfl,rfl⟩⟩
  ·exact⟨s.pp hv,(s.ok.FY (f:=x_) (u:=y_) s.k1).1⟩
  ·rfl
  ·obtain⟨_,m',h1,_⟩:=s.ok.FY (K:=KK) (f:=x_) (u:=y_) s.k1;have h1:(gT aw KK (aK s.m s.r) (br aw s.m s.r) x_ y_)=(⟨(mV s.l x_.toNat y_.toNat).length,(tZ (mV s.l x_.toNat y_.toNat))⟩,m'):=h1;show(.agg ⟨[.int .i64 (gT aw KK (aK s.m s.r) (br aw s.m s.r) x_ y_).1.sum.c.n,.int .i64 (gT aw KK (aK s.m s.r) (br aw s.m s.r) x_ y_).1.sum.c.s,.int .i64 (gT aw KK (aK s.m s.r) (br aw s.m s.r) x_ y_).1.sum.c.l,.int .i64 (gT aw KK (aK s.m s.r) (br aw s.m s.r) x_ y_).1.sum.w.n,.int .i64 (gT aw KK (aK s.m s.r) (br aw s.m s.r) x_ y_).1.sum.w.s,.int .i64 (gT aw KK (aK s.m s.r) (br aw s.m s.r) x_ y_).1.sum.w.l,.int .i64 (gT aw KK (aK s.m s.r) (br aw s.m s.r) x_ y_).1.sum.d,.int .i64 (gT aw KK (aK s.m s.r) (br aw s.m s.r) x_ y_).1.sum.f,.int .i64 (gT aw KK (aK s.m s.r) (br aw s.m s.r) x_ y_).1.sum.m.k,.int .i64 (gT aw KK (aK s.m s.r) (br aw s.m s.r) x_ y_).1.sum.m.i,.bool (gT aw KK (aK s.m s.r) (br aw s.m s.r) x_ y_).1.sum.gf,.int .i64 (gT aw KK (aK s.m s.r) (br aw s.m s.r) x_ y_).1.sum.g.k,.int .i64 (gT aw KK (aK s.m s.r) (br aw s.m s.r) x_ y_).1.sum.g.i,.bool (gT aw KK (aK s.m s.r) (br aw s.m s.r) x_ y_).1.sum.lf,.int .i64 (gT aw KK (aK s.m s.r) (br aw s.m s.r) x_ y_).1.sum.l.k,.int .i64 (gT aw KK (aK s.m s.r) (br aw s.m s.r) x_ y_).1.sum.l.i]⟩:Value)=_
   rw[h1]
   rfl
 ·cases hx
def Nl:Prim Rt:=fun args hh=>match args,hh with
 |[.pointer (aa ⟨0,0,aj⟩),.int .i64 f_,.func (.func 154) ⟨[]⟩ ⟨[.pointer (aa ⟨1,0,aj⟩)]⟩],[aa (.inr (.inr (.inr (.tree s)))),aa (.inl (3,[.int .i64 xx]))]=>aa ⟨s.gj,.int .i64 (pj (j3 xx) s f_),aj,[oT (yB (j3 xx) s f_),aa (.inl (3,[.int .i64 xx]))],[],[(0,0)]⟩
 |_,_=>aj
theorem Zn:b9 D2 Tryz.prog 108 (a9 Nl):=by
 refine np (c:=bJ zN 2 (a9 (NQ KK))) (aU _ _ (Y4 KK)).ok fun args hh x hx=>?_
 unfold Nl at hx;split at hx
 ·rename_i f_ s xx;cases hx;refine⟨a_ _,l_ rfl,(fun hw=>by cases hw),fun hv=>⟨⟨_,.inl ⟨rfl,rfl⟩,rfl,?_,?_,?_⟩,rfl,rfl⟩⟩
  ·exact⟨s.pp hv,s.Lc⟩
  ·rfl
  ·rfl
 ·cases hx
def Qw:Prim Rt:=fun args hh=>match args,hh with
 |[.pointer (aa ⟨0,0,aj⟩),.int .i64 f_,.func (.func 154) ⟨[]⟩ ⟨[.pointer (aa ⟨1,0,aj⟩)]⟩],[aa (.inr (.inr (.inr (.tree s)))),aa (.inl (3,[.int .i64 xx]))]=>aa ⟨s.gj,.int .i64 (tM (j3 xx) s f_),aj,[oT (DL (j3 xx) s f_),aa (.inl (3,[.int .i64 xx]))],[],[(0,0)]⟩
 |_,_=>aj
theorem abN:b9 D2 Tryz.prog 111 (a9 Qw):=by
 refine np (c:=bJ zN 2 (a9 (Rh KK))) (aU _ _ (abE KK)).ok fun args hh x hx=>?_
 unfold Qw at hx;split at hx
 ·rename_i f_ s xx;cases hx;refine⟨a_ _,l_ rfl,(fun hw=>by cases hw),fun hv=>⟨⟨_,.inl ⟨rfl,rfl⟩,rfl,?_,?_,?_⟩,rfl,rfl⟩⟩
  ·exact⟨s.pp hv,s.Lc⟩
  ·rfl
  ·rfl
 ·cases hx
def Nm:Prim Rt:=fun args hh=>match args,hh with
 |[.pointer (aa ⟨0,0,aj⟩),.int .i64 f_,.func (.func 105) ⟨[]⟩ ⟨[.pointer (aa ⟨1,0,aj⟩)]⟩],[aa (.inr (.inr (.inr (.tree s)))),aa (.inl (75,[.int .i64 xk,.int .i64 xi,.bool xe,.int .i64 xt]))]=>aa ⟨s.gj,.int .i64 (pj (Pa.pY ⟨xk,xi⟩) s f_),aj,[oT (yB (Pa.pY ⟨xk,xi⟩) s f_),aa (.inl (75,[.int .i64 xk,.int .i64 xi,.bool xe,.int .i64 xt]))],[],[(0,0)]⟩
 |_,_=>aj
theorem YP:b9 D2 Tryz.prog 108 (a9 Nm):=by
 refine np (c:=bJ zN 2 (a9 (Nc KK))) (aU _ _ (Z' KK)).ok fun args hh x hx=>?_
 unfold Nm at hx;split at hx
 ·rename_i f_ s xk xi xe xt;cases hx;refine⟨a_ _,l_ rfl,(fun hw=>by cases hw),fun hv=>⟨⟨_,.inl ⟨rfl,rfl⟩,rfl,?_,?_,?_⟩,rfl,rfl⟩⟩
  ·exact⟨s.pp hv,s.Lc⟩
  ·rfl
  ·rfl
 ·cases hx
def Rv:Prim Rt:=fun args hh=>match args,hh with
 |[.pointer (aa ⟨0,0,aj⟩),.int .i64 f_,.func (.func 110) ⟨[]⟩ ⟨[.pointer (aa ⟨1,0,aj⟩)]⟩],[aa (.inr (.inr (.inr (.tree s)))),aa (.inl (75,[.int .i64 xk,.int .i64 xi,.bool xe,.int .i64 xt]))]=>aa ⟨s.gj,.int .i64 (tM (qf ⟨xk,xi⟩) s f_),aj,[oT (DL (qf ⟨xk,xi⟩) s f_),aa (.inl (75,[.int .i64 xk,.int .i64 xi,.bool xe,.int .i64 xt]))],[],[(0,0)]⟩
 |_,_=>aj
theorem aap:b9 D2 Tryz.prog 111 (a9 Rv):=by
 refine np (c:=bJ zN 2 (a9 (RJ KK))) (aU _ _ (ab' KK)).ok fun args hh x hx=>?_
 unfold Rv at hx;split at hx
 ·rename_i f_ s xk xi xe xt;cases hx;refine⟨a_ _,l_ rfl,(fun hw=>by cases hw),fun hv=>⟨⟨_,.inl ⟨rfl,rfl⟩,rfl,?_,?_,?_⟩,rfl,rfl⟩⟩
  ·exact⟨s.pp hv,s.Lc⟩
  ·rfl
  ·rfl
 ·cases hx
end G8
namespace G9
open Rx
set_option maxRecDepth 100000
abbrev Nd:=Gv.Node jF Qm
abbrev Pl:=Gv.PM Nd
def bj (n:Nd):List Value:=[.int .i64 n.e.it.k,.int .i64 n.e.it.i,.bool n.e.kD,.int .i64 n.e.time,.int .i64 n.l.i,.int .i64 n.l.g,.int .i64 n.r.i,.int .i64 n.r.g,.int .i64 n.all.n,.int .i64 n.all.sum.n,.int .i64 n.h]
def bV (p:HJ Qm):List Value:=[.int .i64 p.n,.int .i64 p.sum.n]
def du (e:jF):List Value:=[.int .i64 e.it.k,.int .i64 e.it.i,.bool e.kD,.int .i64 e.time]
def ko (s:Qm):List Value:=[.int .i64 s.n]
def fR (l:List Value):jF:=⟨⟨(vI (gm l 0)),(vI (gm l 1))⟩,(vB (gm l 2)),(vI (gm l 3))⟩
def o_ (l:List Value):HJ Qm:=⟨(vI (gm l 0)),⟨(vI (gm l 1))⟩⟩
def fU (l:List Value):Nd:=⟨⟨⟨(vI (gm l 0)),(vI (gm l 1))⟩,(vB (gm l 2)),(vI (gm l 3))⟩,⟨(vI (gm l 4)),(vI (gm l 5))⟩,⟨(vI (gm l 6)),(vI (gm l 7))⟩,⟨(vI (gm l 8)),⟨(vI (gm l 9))⟩⟩,(vI (gm l 10))⟩
def di:List Value:=[.int .i64 0,.int .i64 0,.bool an,.int .i64 0,.int .i64 0,.int .i64 0,.int .i64 0,.int .i64 0,.int .i64 0,.int .i64 0,.int .i64 0,.int .i64 0,.bool an]
abbrev zd:Nd:=Gv.zn aN
def cV (a:List Int) (b:List Int) (c:List Bool) (d:List Int) (e:List Int) (f:List Int) (g:List Int) (h:List Int) (i:List Int) (j:List Int) (k:List Int) (l:List Int) (m:List Bool):List aW:=[⟨a,[],[]⟩,⟨b,[],[]⟩,⟨[],c,[]⟩,⟨d,[],[]⟩,⟨e,[],[]⟩,⟨f,[],[]⟩,⟨g,[],[]⟩,⟨h,[],[]⟩,⟨i,[],[]⟩,⟨j,[],[]⟩,⟨k,[],[]⟩,⟨l,[],[]⟩,⟨[],m,[]⟩]
def cM (v:List Nd) (g:List Int) (b:List Bool):List aW:=cV (v.map fun n:Nd=>n.e.it.k) (v.map fun n:Nd=>n.e.it.i) (v.map fun n:Nd=>n.e.kD) (v.map fun n:Nd=>n.e.time) (v.map fun n:Nd=>n.l.i) (v.map fun n:Nd=>n.l.g) (v.map fun n:Nd=>n.r.i) (v.map fun n:Nd=>n.r.g) (v.map fun n:Nd=>n.all.n) (v.map fun n:Nd=>n.all.sum.n) (v.map fun n:Nd=>n.h) g b
def cS (v:List Nd) (k:Nat) (x:Nd) (g:List Int) (b:List Bool):List aW:=cV ((v.map fun n:Nd=>n.e.it.k).set k x.e.it.k) ((v.map fun n:Nd=>n.e.it.i).set k x.e.it.i) ((v.map fun n:Nd=>n.e.kD).set k x.e.kD) ((v.map fun n:Nd=>n.e.time).set k x.e.time) ((v.map fun n:Nd=>n.l.i).set k x.l.i) ((v.map fun n:Nd=>n.l.g).set k x.l.g) ((v.map fun n:Nd=>n.r.i).set k x.r.i) ((v.map fun n:Nd=>n.r.g).set k x.r.g) ((v.map fun n:Nd=>n.all.n).set k x.all.n) ((v.map fun n:Nd=>n.all.sum.n).set k x.all.sum.n) ((v.map fun n:Nd=>n.h).set k x.h) g b
def cG (v:List Nd) (k:Nat) (x:Nd) (g:List Int) (b:List Bool):List aW:=cV (((v.map fun n:Nd=>n.e.it.k)++[0]).set k x.e.it.k) (((v.map fun n:Nd=>n.e.it.i)++[0]).set k x.e.it.i) (((v.map fun n:Nd=>n.e.kD)++[an]).set k x.e.kD) (((v.map fun n:Nd=>n.e.time)++[0]).set k x.e.time) (((v.map fun n:Nd=>n.l.i)++[0]).set k x.l.i) (((v.map fun n:Nd=>n.l.g)++[0]).set k x.l.g) (((v.map fun n:Nd=>n.r.i)++[0]).set k x.r.i) (((v.map fun n:Nd=>n.r.g)++[0]).set k x.r.g) (((v.map fun n:Nd=>n.all.n)++[0]).set k x.all.n) (((v.map fun n:Nd=>n.all.sum.n)++[0]).set k x.all.sum.n) (((v.map fun n:Nd=>n.h)++[0]).set k x.h) g b
def gM (v:List Nd) (k:Nat):List Value:=[.int .i64 ((v.map fun n:Nd=>n.e.it.k).getD k 0),.int .i64 ((v.map fun n:Nd=>n.e.it.i).getD k 0),.bool ((v.map fun n:Nd=>n.e.kD).getD k an),.int .i64 ((v.map fun n:Nd=>n.e.time).getD k 0),.int .i64 ((v.map fun n:Nd=>n.l.i).getD k 0),.int .i64 ((v.map fun n:Nd=>n.l.g).getD k 0),.int .i64 ((v.map fun n:Nd=>n.r.i).getD k 0),.int .i64 ((v.map fun n:Nd=>n.r.g).getD k 0),.int .i64 ((v.map fun n:Nd=>n.all.n).getD k 0),.int .i64 ((v.map fun n:Nd=>n.all.sum.n).getD k 0),.int .i64 ((v.map fun n:Nd=>n.h).getD k 0)]
def Ru (m:Pl):Hp Empty :=
 [aa (.inl (194,[.slice (aa ⟨1,0,aa 13000⟩) m.vs.length 0,.slice (aa ⟨2,0,aa 1000⟩) m.free.length 0,.int .i64 m.held,.int .i64 m.cap,.int .i64 m.cW])),
 aa (.inr (.inl (197,⟨di,m.vs.length,cM m.vs m.dE m.live⟩))),
 aa (.inr (.inl (3,⟨[.int .i64 0],m.free.length,[⟨m.free,[],[]⟩]⟩)))]
end G9
namespace G9
open Rx
inductive Rs
 |da (m:Pl)
def lay:Rs->Hp Empty
 |.da m=>Ru m
def L:EP Rs Empty where
 lay:=lay
 ne x:=by cases x<;>exact sF _
 own x b X h:=by cases x<;>exact Cm rfl h
 ins x:=by cases x<;>rfl
def D:fJ Rs:=F9 sR L
set_option maxRecDepth 100000
abbrev k9:Gv.Kd jF Qm:=Sh.k9
abbrev Ts:=Gv.TS k9
inductive Rt
 |tree (s:Ts)
def H4:Rt->Hp Rs
 |.tree s=>[aa (.inl (132,[.pointer (aa ⟨1,0,aj⟩),.int .i64 s.r.i,.int .i64 s.r.g])),aa (.inr (.inr (.inr (.da s.m))))]
def L2:EP Rt Rs where
 lay:=H4
 ne x:=by cases x<;>exact sF _
 own x b X h:=by
  cases x with
  |tree s =>
   match b,h with
   |0,h=>simp only[H4,cd,ct] at h;subst h;rfl
   |1,h=>simp only[H4,bH,cd,ct] at h;subst h;rfl
   |b+2,h=>simp[H4] at h
 ins x:=by cases x<;>rfl
def D2:fJ Rt:=F9 D L2
abbrev oT (s:Ts):Option (SB Rt):=aa (.inr (.inr (.inr (.tree s))))
def pC (n:Nat) (c:aW):Prop:=∃ l:List Int,c=⟨l,[],[]⟩/\l.length=n
def Pw (n:Nat) (c:aW):Prop:=∃ l:List Bool,c=⟨[],l,[]⟩/\l.length=n
def q9 (n:Nat) (gs:List Int) (lv:List Bool) (i g:Int):Bool:=decide (0≤i)&&decide (i<n)&&lv.getD i.toNat an&&decide (gs.getD i.toNat 0=g)
structure ac9 (n:Nat) (c0 c1 c2 c3 c4 c5 c6 c7 c8 c9 oq ob oa:aW):Prop where
 Dj:pC n c0
 OQ:pC n c1
 pT:Pw n c2
 SI:pC n c3
 hc4:pC n c4
 hc5:pC n c5
 hc6:pC n c6
 hc7:pC n c7
 hc8:pC n c8
 hc9:pC n c9
 amT:pC n oq
 anq:pC n ob
 am8:Pw n oa
def mS (n:Nat):List aW->Prop
 |[c0,c1,c2,c3,c4,c5,c6,c7,c8,c9,oq,ob,oa]=>ac9 n c0 c1 c2 c3 c4 c5 c6 c7 c8 c9 oq ob oa
 |_=>False
def Us:List Value->Hp Empty->Option Bool:=fun args hh=>match args,hh with
 |[.pointer (aa ⟨0,0,aj⟩),.agg ⟨[.int .i64 i,.int .i64 g]⟩],[aa (.inl (194,[.slice (aa ⟨1,0,aa 13000⟩) n cp,.slice (aa ⟨2,0,aa 1000⟩) fn fc,.int .i64 hd,.int .i64 ca,.int .i64 vi])),aa (.inr (.inl (197,⟨tm,n2,[c0,c1,c2,c3,c4,c5,c6,c7,c8,c9,oq,ob,oa]⟩))),aa (.inr (.inl (3,⟨[.int .i64 0],f2,[⟨fr,[],[]⟩]⟩)))]=>aa (q9 n ob.i oa.b i g)
 |_,_=>aj
def J1:Prim Empty:=fun args hh=>match args,hh with
 |[.pointer (aa ⟨0,0,aj⟩),.agg ⟨[.int .i64 i,.int .i64 g]⟩],[aa (.inl (194,[.slice (aa ⟨1,0,aa 13000⟩) n cp,.slice (aa ⟨2,0,aa 1000⟩) fn fc,.int .i64 hd,.int .i64 ca,.int .i64 vi])),aa (.inr (.inl (197,⟨tm,n2,[c0,c1,c2,c3,c4,c5,c6,c7,c8,c9,oq,ob,oa]⟩))),aa (.inr (.inl (3,⟨[.int .i64 0],f2,[⟨fr,[],[]⟩]⟩)))]=>aa ⟨tm=di/\n2=n/\n<1000000/\mS n [c0,c1,c2,c3,c4,c5,c6,c7,c8,c9,oq,ob,oa],.pointer (aa ⟨1,i.toNat,aa 13000⟩),aj,[aa (.inl (194,[.slice (aa ⟨1,0,aa 13000⟩) n cp,.slice (aa ⟨2,0,aa 1000⟩) fn fc,.int .i64 hd,.int .i64 ca,.int .i64 (ar.wrap (vi+1))])),aa (.inr (.inl (197,⟨tm,n2,[c0,c1,c2,c3,c4,c5,c6,c7,c8,c9,oq,ob,oa]⟩))),aa (.inr (.inl (3,⟨[.int .i64 0],f2,[⟨fr,[],[]⟩]⟩)))],[],[(0,0)]⟩
 |_,_=>aj
def Kw:Prim Empty:=fun args hh=>match args,hh with
 |[.pointer (aa ⟨0,0,aj⟩),.agg ⟨[.int .i64 i,.int .i64 g]⟩],[aa (.inl (194,[.slice (aa ⟨1,0,aa 13000⟩) n cp,.slice (aa ⟨2,0,aa 1000⟩) fn fc,.int .i64 hd,.int .i64 ca,.int .i64 vi])),aa (.inr (.inl (197,⟨tm,n2,[c0,c1,c2,c3,c4,c5,c6,c7,c8,c9,oq,ob,oa]⟩))),aa (.inr (.inl (3,⟨[.int .i64 0],f2,[⟨fr,[],[]⟩]⟩)))]=>aa ⟨tm=di/\n2=n/\n<1000000/\mS n [c0,c1,c2,c3,c4,c5,c6,c7,c8,c9,oq,ob,oa],.pointer aj,aj,hh,[],[]⟩
 |_,_=>aj
def qy:je Empty:=⟨Us,J1,Kw⟩
def Vw:eJ Empty:=[(1000000000,lP)]
theorem J4:cN sR Tryz.prog Vw:=⟨ix,trivial⟩
theorem JU:rz sR Tryz.prog 147 (rU qy ao) (qy.go ao):=by
 refine wa (fn:=Tryz.f147) (root:=dC Tryz.f147) (by kernel_rfl) (by kernel_rfl) (by kernel_rfl) fun args hh x hx=>?_
 unfold qy je.go J1 at hx;simp only at hx;split at hx
 ·rename_i i g n cp fn fc hd ca vi tm n2 c0 c1 c2 c3 c4 c5 c6 c7 c8 c9 oq ob oa f2 fr;cases hx;refine⟨a_ _,(fun b hb=>by cases hb),(fun hw=>by first|rfl|cases hw),fun mO hv=>?_⟩
  obtain⟨rfl,rfl,u_,⟨⟨l0,rfl,nZ⟩,⟨l1,rfl,zk⟩,⟨l2,rfl,Bo⟩,⟨l3,rfl,yf⟩,⟨l4,rfl,yr⟩,⟨l5,rfl,Fe⟩,⟨l6,rfl,Ef⟩,⟨l7,rfl,EK⟩,⟨l8,rfl,E6⟩,⟨l9,rfl,Ec⟩,⟨qI,rfl,yQ⟩,⟨nG,rfl,yH⟩,⟨mT,rfl,yL⟩⟩⟩:=hv;have hw:q9 n2 nG mT i g=ao:=by
   rcases mO with⟨h,_⟩|h
   ·exact(wv _ h).elim
   ·exact pa h
  clear mO;generalize hG:cj (R:=Empty) _ _=G;refine cL (T:=Vw) J4 mixed 200 ?_;refine bK (q:=let Z1:=bm ar;(decide (i<(0:Int))=ao->Vc (aC (decide (i<(0:Int)))=aC ao)/\aX (G (aB aj) [aa (.inl (194,[.slice (aa ⟨1,0,aa 13000⟩) n2 cp,.slice (aa ⟨2,0,aa 1000⟩) fn fc,Z1 hd,Z1 ca,Z1 vi])),aa (.inr (.inl (197,Row.mk di n2 (cV l0 l1 l2 l3 l4 l5 l6 l7 l8 l9 qI nG mT)))),aa (.inr (.inl (3,Row.mk [Z1 0] f2 [aW.mk fr [] []]))),aa (.inl (108,[Z1 i,Z1 g]))]))/\(decide (i<(0:Int))=an->Vc (aC (decide (i<(0:Int)))=aC an)/\(decide (i≥(↑n2:Int))=ao->aX (G (aB aj) [aa (.inl (194,[.slice (aa ⟨1,0,aa 13000⟩) n2 cp,.slice (aa ⟨2,0,aa 1000⟩) fn fc,Z1 hd,Z1 ca,Z1 vi])),aa (.inr (.inl (197,Row.mk di n2 (cV l0 l1 l2 l3 l4 l5 l6 l7 l8 l9 qI nG mT)))),aa (.inr (.inl (3,Row.mk [Z1 0] f2 [aW.mk fr [] []]))),aa (.inl (108,[Z1 i,Z1 g]))]))/\(decide (i≥(↑n2:Int))=an->Vc ((0:Int)≤i/\i<(↑n2:Int)/\0+n2≤n2)/\Vc (0+aG i<n2)/\((!aI mT (0+aG i) an)=ao->Vc (0+aG i<n2)/\Vc ((aC !aI mT (0+aG i) an)=aC ao)/\aX (G (aB aj) [aa (.inl (194,[.slice (aa ⟨1,0,aa 13000⟩) n2 cp,.slice (aa ⟨2,0,aa 1000⟩) fn fc,Z1 hd,Z1 ca,Z1 vi])),aa (.inr (.inl (197,Row.mk di n2 (cV l0 l1 l2 l3 l4 l5 l6 l7 l8 l9 qI nG mT)))),aa (.inr (.inl (3,Row.mk [Z1 0] f2 [aW.mk fr [] []]))),aa (.inl (108,[Z1 i,Z1 g]))]))/\((!aI mT (0+aG i) an)=an->Vc (0+aG i<n2)/\Vc ((aC !aI mT (0+aG i) an)=aC an)/\Vc (0+aG i<n2)/\((aI nG (0+aG i) (0:Int) != g)=ao->aX (G (aB aj) [aa (.inl (194,[.slice (aa ⟨1,0,aa 13000⟩) n2 cp,.slice (aa ⟨2,0,aa 1000⟩) fn fc,Z1 hd,Z1 ca,Z1 vi])),aa (.inr (.inl (197,Row.mk di n2 (cV l0 l1 l2 l3 l4 l5 l6 l7 l8 l9 qI nG mT)))),aa (.inr (.inl (3,Row.mk [Z1 0] f2 [aW.mk fr [] []]))),aa (.inl (108,[Z1 i,Z1 g]))]))/\((aI nG (0+aG i) (0:Int) != g)=an->Vc True/\aX (G (aB (aa (RR 1 (0+aG i) (aa 13000)))) [aa (.inl (194,[.slice (aa ⟨1,0,aa 13000⟩) n2 cp,.slice (aa ⟨2,0,aa 1000⟩) fn fc,Z1 hd,Z1 ca,Z1 (ck ar (vi+(1:Int)))])),aa (.inr (.inl (197,Row.mk di n2 (cV l0 l1 l2 l3 l4 l5 l6 l7 l8 l9 qI nG mT)))),aa (.inr (.inl (3,Row.mk [Z1 0] f2 [aW.mk fr [] []]))),aa (.inl (108,[Z1 i,Z1 g]))])))))) ?_ (by kernel_rfl)
  intro Z1;subst Z1;have e0:0+i.toNat=i.toNat:=bU _;rw[e0];clear nZ zk Bo yf yr Fe Ef EK E6 Ec yQ yH yL;subst hG;have rR:q9 n2 nG mT i g=(decide (0≤i)&&decide (i<n2)&&(mT).getD i.toNat an&&decide ((nG).getD i.toNat 0=g)):=rfl;refine⟨fun h=>⟨⟨congrArg aC h⟩,⟨?_⟩⟩,fun h=>⟨⟨congrArg aC h⟩,fun h2=>⟨?_⟩,fun h2=>?_⟩⟩
  rotate_left 2
  ·have i0:=of_decide_eq_false h;have i1:=of_decide_eq_false h2;rw[decide_eq_true (by omega),decide_eq_true (by omega),jh,jh] at rR
   refine⟨⟨by omega,by omega,by omega⟩,⟨by omega⟩,fun h3=>⟨⟨by omega⟩,⟨congrArg aC h3⟩,⟨?_⟩⟩,fun h3=>⟨⟨by omega⟩,⟨congrArg aC h3⟩,⟨by omega⟩,fun h4=>⟨?_⟩,fun h4=>⟨⟨trivial⟩,⟨?_⟩⟩⟩⟩
   ·rw[Bool.not_eq_true'] at h3;rw[hw,h3] at rR;cases rR
   ·rw[hw,decide_eq_false (ne_of_beq_false (by simpa using h4)),uM] at rR;cases rR
   ·exact⟨[0,1,2],rfl,rfl,⟨.inl rfl,⟨_,rfl,.inl rfl⟩,⟨_,rfl,.inl rfl⟩,trivial⟩,rfl,rfl,rfl,rfl⟩
  ·have:=of_decide_eq_true h;rw[hw,decide_eq_false (by omega)] at rR;cases rR
  ·have:=of_decide_eq_true h2;rw[hw,decide_eq_false (p:=i<n2) (by omega),uM] at rR;cases rR
 ·cases hx
theorem JN:rz sR Tryz.prog 147 (rU qy an) (qy.go an):=by
 refine wa (fn:=Tryz.f147) (root:=dC Tryz.f147) (by kernel_rfl) (by kernel_rfl) (by kernel_rfl) fun args hh x hx=>?_
 unfold qy je.go Kw at hx;simp only at hx;split at hx
 ·rename_i i g n cp fn fc hd ca vi tm n2 c0 c1 c2 c3 c4 c5 c6 c7 c8 c9 oq ob oa f2 fr;cases hx;refine⟨a_ _,(fun b hb=>by cases hb),(fun hw=>by first|rfl|cases hw),fun mO hv=>?_⟩
  obtain⟨rfl,rfl,u_,⟨⟨l0,rfl,nZ⟩,⟨l1,rfl,zk⟩,⟨l2,rfl,Bo⟩,⟨l3,rfl,yf⟩,⟨l4,rfl,yr⟩,⟨l5,rfl,Fe⟩,⟨l6,rfl,Ef⟩,⟨l7,rfl,EK⟩,⟨l8,rfl,E6⟩,⟨l9,rfl,Ec⟩,⟨qI,rfl,yQ⟩,⟨nG,rfl,yH⟩,⟨mT,rfl,yL⟩⟩⟩:=hv;have hw:q9 n2 nG mT i g=an:=by
   rcases mO with⟨h,_⟩|h
   ·exact(wv _ h).elim
   ·exact pa h
  clear mO;generalize hG:cj (R:=Empty) _ _=G;refine cL (T:=Vw) J4 mixed 200 ?_;refine bK (q:=let Z1:=bm ar;(decide (i<(0:Int))=ao->Vc (aC (decide (i<(0:Int)))=aC ao)/\aX (G (aB aj) [aa (.inl (194,[.slice (aa ⟨1,0,aa 13000⟩) n2 cp,.slice (aa ⟨2,0,aa 1000⟩) fn fc,Z1 hd,Z1 ca,Z1 vi])),aa (.inr (.inl (197,Row.mk di n2 (cV l0 l1 l2 l3 l4 l5 l6 l7 l8 l9 qI nG mT)))),aa (.inr (.inl (3,Row.mk [Z1 0] f2 [aW.mk fr [] []]))),aa (.inl (108,[Z1 i,Z1 g]))]))/\(decide (i<(0:Int))=an->Vc (aC (decide (i<(0:Int)))=aC an)/\(decide (i≥(↑n2:Int))=ao->aX (G (aB aj) [aa (.inl (194,[.slice (aa ⟨1,0,aa 13000⟩) n2 cp,.slice (aa ⟨2,0,aa 1000⟩) fn fc,Z1 hd,Z1 ca,Z1 vi])),aa (.inr (.inl (197,Row.mk di n2 (cV l0 l1 l2 l3 l4 l5 l6 l7 l8 l9 qI nG mT)))),aa (.inr (.inl (3,Row.mk [Z1 0] f2 [aW.mk fr [] []]))),aa (.inl (108,[Z1 i,Z1 g]))]))/\(decide (i≥(↑n2:Int))=an->Vc ((0:Int)≤i/\i<(↑n2:Int)/\0+n2≤n2)/\Vc (0+aG i<n2)/\((!aI mT (0+aG i) an)=ao->Vc (0+aG i<n2)/\Vc ((aC !aI mT (0+aG i) an)=aC ao)/\aX (G (aB aj) [aa (.inl (194,[.slice (aa ⟨1,0,aa 13000⟩) n2 cp,.slice (aa ⟨2,0,aa 1000⟩) fn fc,Z1 hd,Z1 ca,Z1 vi])),aa (.inr (.inl (197,Row.mk di n2 (cV l0 l1 l2 l3 l4 l5 l6 l7 l8 l9 qI nG mT)))),aa (.inr (.inl (3,Row.mk [Z1 0] f2 [aW.mk fr [] []]))),aa (.inl (108,[Z1 i,Z1 g]))]))/\((!aI mT (0+aG i) an)=an->Vc (0+aG i<n2)/\Vc ((aC !aI mT (0+aG i) an)=aC an)/\Vc (0+aG i<n2)/\((aI nG (0+aG i) (0:Int) != g)=ao->aX (G (aB aj) [aa (.inl (194,[.slice (aa ⟨1,0,aa 13000⟩) n2 cp,.slice (aa ⟨2,0,aa 1000⟩) fn fc,Z1 hd,Z1 ca,Z1 vi])),aa (.inr (.inl (197,Row.mk di n2 (cV l0 l1 l2 l3 l4 l5 l6 l7 l8 l9 qI nG mT)))),aa (.inr (.inl (3,Row.mk [Z1 0] f2 [aW.mk fr [] []]))),aa (.inl (108,[Z1 i,Z1 g]))]))/\((aI nG (0+aG i) (0:Int) != g)=an->Vc True/\aX (G (aB (aa (RR 1 (0+aG i) (aa 13000)))) [aa (.inl (194,[.slice (aa ⟨1,0,aa 13000⟩) n2 cp,.slice (aa ⟨2,0,aa 1000⟩) fn fc,Z1 hd,Z1 ca,Z1 (ck ar (vi+(1:Int)))])),aa (.inr (.inl (197,Row.mk di n2 (cV l0 l1 l2 l3 l4 l5 l6 l7 l8 l9 qI nG mT)))),aa (.inr (.inl (3,Row.mk [Z1 0] f2 [aW.mk fr [] []]))),aa (.inl (108,[Z1 i,Z1 g]))])))))) ?_ (by kernel_rfl)
  intro Z1;subst Z1;have e0:0+i.toNat=i.toNat:=bU _;rw[e0];clear nZ zk Bo yf yr Fe Ef EK E6 Ec yQ yH yL;subst hG;have rR:q9 n2 nG mT i g=(decide (0≤i)&&decide (i<n2)&&(mT).getD i.toNat an&&decide ((nG).getD i.toNat 0=g)):=rfl;refine⟨fun h=>⟨⟨congrArg aC h⟩,⟨?_⟩⟩,fun h=>⟨⟨congrArg aC h⟩,fun h2=>⟨?_⟩,fun h2=>?_⟩⟩
  rotate_left 2
  ·have i0:=of_decide_eq_false h;have i1:=of_decide_eq_false h2;rw[decide_eq_true (by omega),decide_eq_true (by omega),jh,jh] at rR
   refine⟨⟨by omega,by omega,by omega⟩,⟨by omega⟩,fun h3=>⟨⟨by omega⟩,⟨congrArg aC h3⟩,⟨?_⟩⟩,fun h3=>⟨⟨by omega⟩,⟨congrArg aC h3⟩,⟨by omega⟩,fun h4=>⟨?_⟩,fun h4=>⟨⟨trivial⟩,⟨?_⟩⟩⟩⟩
   ·exact⟨[0,1,2],rfl,rfl,⟨.inl rfl,⟨_,rfl,.inl rfl⟩,⟨_,rfl,.inl rfl⟩,trivial⟩,rfl,rfl,rfl,rfl⟩
   ·exact⟨[0,1,2],rfl,rfl,⟨.inl rfl,⟨_,rfl,.inl rfl⟩,⟨_,rfl,.inl rfl⟩,trivial⟩,rfl,rfl,rfl,rfl⟩
   ·rw[hw,decide_eq_true (by simpa using h4),Tb] at rR;rw[Bool.not_eq_false'] at h3;rw[h3] at rR;cases rR
  ·exact⟨[0,1,2],rfl,rfl,⟨.inl rfl,⟨_,rfl,.inl rfl⟩,⟨_,rfl,.inl rfl⟩,trivial⟩,rfl,rfl,rfl,rfl⟩
  ·exact⟨[0,1,2],rfl,rfl,⟨.inl rfl,⟨_,rfl,.inl rfl⟩,⟨_,rfl,.inl rfl⟩,trivial⟩,rfl,rfl,rfl,rfl⟩
 ·cases hx
theorem MJ:b9 sR Tryz.prog 147 qy:=fun b=>by cases b;exact JN;exact JU
theorem RH:Vc (fits (-1)):=⟨⟨by omega,by omega⟩⟩
theorem Vk {n:Nat} (h:n<1000000):Vc (0+n≤n/\1≤1/\(n+1)*104≤140737488355328/\n+1≤140737488355328):=⟨by omega,by omega,by omega,by omega⟩
theorem Q7 {n:Nat} (h:n<1000000):Vc (fits (((n+1:Nat):Int)-1)):=⟨⟨by omega,by omega⟩⟩
theorem ZU (n:Nat):((n+1:Nat):Int)-1=n:=by omega
def Zo:List Value->Hp Empty->Option Bool:=fun args hh=>match args,hh with
 |[.pointer (aa ⟨0,0,aj⟩)],[aa (.inl (194,[.slice (aa ⟨1,0,aa 13000⟩) n cp,.slice (aa ⟨2,0,aa 1000⟩) fn fc,.int .i64 hd,.int .i64 ca,.int .i64 vi])),aa (.inr (.inl (197,⟨tm,n2,[c0,c1,c2,c3,c4,c5,c6,c7,c8,c9,oq,ob,oa]⟩))),aa (.inr (.inl (3,⟨[.int .i64 0],f2,[⟨fr,[],[]⟩]⟩)))]=>aa (decide (fn=0))
 |_,_=>aj
def PT:Prim Empty:=fun args hh=>match args,hh with
 |[.pointer (aa ⟨0,0,aj⟩)],[aa (.inl (194,[.slice (aa ⟨1,0,aa 13000⟩) n cp,.slice (aa ⟨2,0,aa 1000⟩) fn fc,.int .i64 hd,.int .i64 ca,.int .i64 vi])),aa (.inr (.inl (197,⟨tm,n2,[c0,c1,c2,c3,c4,c5,c6,c7,c8,c9,oq,ob,oa]⟩))),aa (.inr (.inl (3,⟨[.int .i64 0],f2,[⟨fr,[],[]⟩]⟩)))]=>aa ⟨fn=0/\f2=fn/\fc=0/\cp=0/\tm=di/\n2=n/\n<1000000/\mS n [c0,c1,c2,c3,c4,c5,c6,c7,c8,c9,oq,ob,oa],.int .i64 n,aj,[aa (.inl (194,[.slice (aa ⟨3,0,aa 13000⟩) (n+1) 0,.slice (aa ⟨2,0,aa 1000⟩) fn fc,.int .i64 hd,.int .i64 ca,.int .i64 vi])),aj,aa (.inr (.inl (3,⟨[.int .i64 0],f2,[⟨fr,[],[]⟩]⟩))),aa (.inr (.inl (197,⟨tm,(n+1),[⟨c0.i++[0],[],[]⟩,⟨c1.i++[0],[],[]⟩,⟨[],c2.b++[an],[]⟩,⟨c3.i++[0],[],[]⟩,⟨c4.i++[0],[],[]⟩,⟨c5.i++[0],[],[]⟩,⟨c6.i++[0],[],[]⟩,⟨c7.i++[0],[],[]⟩,⟨c8.i++[0],[],[]⟩,⟨c9.i++[0],[],[]⟩,⟨oq.i++[0],[],[]⟩,⟨ob.i++[0],[],[]⟩,⟨[],oa.b++[an],[]⟩]⟩)))],[],[(0,0)]⟩
 |_,_=>aj
def Pd:Prim Empty:=fun args hh=>match args,hh with
 |[.pointer (aa ⟨0,0,aj⟩)],[aa (.inl (194,[.slice (aa ⟨1,0,aa 13000⟩) n cp,.slice (aa ⟨2,0,aa 1000⟩) fn fc,.int .i64 hd,.int .i64 ca,.int .i64 vi])),aa (.inr (.inl (197,⟨tm,n2,[c0,c1,c2,c3,c4,c5,c6,c7,c8,c9,oq,ob,oa]⟩))),aa (.inr (.inl (3,⟨[.int .i64 0],f2,[⟨fr,[],[]⟩]⟩)))]=>aa ⟨fn≠0/\f2=fn/\fr.length=fn/\fc=0/\cp=0/\fn<1000000/\tm=di/\n2=n/\n<1000000/\mS n [c0,c1,c2,c3,c4,c5,c6,c7,c8,c9,oq,ob,oa],.int .i64 (fr.getD (fn-1) 0),aj,[aa (.inl (194,[.slice (aa ⟨1,0,aa 13000⟩) n 0,.slice (aa ⟨2,0,aa 1000⟩) (fn-1) 0,.int .i64 hd,.int .i64 ca,.int .i64 vi])),aa (.inr (.inl (197,⟨tm,n2,[c0,c1,c2,c3,c4,c5,c6,c7,c8,c9,oq,ob,oa]⟩))),aa (.inr (.inl (3,⟨[.int .i64 0],(fn-1),[⟨(fr.take (fn-1)),[],[]⟩]⟩)))],[],[(0,0)]⟩
 |_,_=>aj
def tw:je Empty:=⟨Zo,PT,Pd⟩
theorem NO:rz sR Tryz.prog 138 (rU tw ao) (tw.go ao):=by
 refine wa (fn:=Tryz.f138) (root:=dC Tryz.f138) (by kernel_rfl) (by kernel_rfl) (by kernel_rfl) fun args hh x hx=>?_
 unfold tw je.go PT at hx;simp only at hx;split at hx
 ·rename_i n cp fn fc hd ca vi tm n2 c0 c1 c2 c3 c4 c5 c6 c7 c8 c9 oq ob oa f2 fr;cases hx;refine⟨by first|exact a_ _|exact ma _,(fun b hb=>by cases hb),(fun hw=>by first|rfl|cases hw),fun mO hv=>?_⟩
  obtain⟨rfl,rfl,rfl,rfl,hv⟩:=hv;obtain⟨rfl,rfl,u_,⟨⟨l0,rfl,nZ⟩,⟨l1,rfl,zk⟩,⟨l2,rfl,Bo⟩,⟨l3,rfl,yf⟩,⟨l4,rfl,yr⟩,⟨l5,rfl,Fe⟩,⟨l6,rfl,Ef⟩,⟨l7,rfl,EK⟩,⟨l8,rfl,E6⟩,⟨l9,rfl,Ec⟩,⟨qI,rfl,yQ⟩,⟨nG,rfl,yH⟩,⟨mT,rfl,yL⟩⟩⟩:=hv;clear mO;generalize hG:cj (R:=Empty) _ _=G;refine cL (T:=[]) trivial mixed 200 ?_;refine bK (q:=let Z2:=bm ar;let Z1:=(0:Int);Vc (fits (-1:Int))/\(ao=ao->Vc (0+n2≤n2/\1≤1/\(n2+1)*104≤140737488355328/\n2+1≤140737488355328)/\Vc (fits ((↑(n2+1):Int)-(1:Int)))/\aX (G (Z2 ((↑(n2+1):Int)-(1:Int))) [aa (.inl (194,[.slice (aa ⟨4,0,aa 13000⟩) (n2+1) 0,.slice (aa ⟨2,0,aa 1000⟩) 0 0,Z2 hd,Z2 ca,Z2 vi])),aj,aa (.inr (.inl (3,Row.mk [Z2 0] 0 [aW.mk fr [] []]))),aa (.inr (.inl (197,Row.mk di 1 [aW.mk [Z1] [] [],aW.mk [Z1] [] [],aW.mk [] [an] [],aW.mk [Z1] [] [],aW.mk [Z1] [] [],aW.mk [Z1] [] [],aW.mk [Z1] [] [],aW.mk [Z1] [] [],aW.mk [Z1] [] [],aW.mk [Z1] [] [],aW.mk [Z1] [] [],aW.mk [Z1] [] [],aW.mk [] [an] []]))),aa (.inr (.inl (197,Row.mk di (n2+1) (cV (cut l0 0 n2++[Z1]) (cut l1 0 n2++[Z1]) (cut l2 0 n2++[an]) (cut l3 0 n2++[Z1]) (cut l4 0 n2++[Z1]) (cut l5 0 n2++[Z1]) (cut l6 0 n2++[Z1]) (cut l7 0 n2++[Z1]) (cut l8 0 n2++[Z1]) (cut l9 0 n2++[Z1]) (cut qI 0 n2++[Z1]) (cut nG 0 n2++[Z1]) (cut mT 0 n2++[an])))))]))/\(ao=an->Vc (Z1≤(-1:Int)/\(-1:Int)<Z1/\0≤0)/\Vc (0<0)/\Vc (Z1≤(-1:Int)/\(-1:Int)≤Z1/\0≤0)/\aX (G (Z2 (aI fr 0 Z1)) [aa (.inl (194,[.slice (aa ⟨1,0,aa 13000⟩) n2 0,.slice (aa ⟨2,0,aa 1000⟩) 0 0,Z2 hd,Z2 ca,Z2 vi])),aa (.inr (.inl (197,Row.mk di n2 (cV l0 l1 l2 l3 l4 l5 l6 l7 l8 l9 qI nG mT)))),aa (.inr (.inl (3,Row.mk [Z2 0] 0 [aW.mk fr [] []])))]))) ?_ (by kernel_rfl)
  intro Z2 Z1;subst Z1 Z2;subst hG;refine⟨RH,fun _=>⟨Vk u_,Q7 u_,⟨?_⟩⟩,fun h=>by cases h⟩
  simp only[fE nZ,fE zk,fE Bo,fE yf,fE yr,fE Fe,fE Ef,fE EK,fE E6,fE Ec,fE yQ,fE yH,fE yL,ZU];exact⟨[0,1,2,4],rfl,rfl,⟨.inl rfl,⟨_,rfl,.inl rfl⟩,⟨_,rfl,.inl rfl⟩,trivial⟩,rfl,rfl,rfl,(by kernel_rfl)⟩
 ·cases hx
theorem NY:rz sR Tryz.prog 138 (rU tw an) (tw.go an):=by
 refine wa (fn:=Tryz.f138) (root:=dC Tryz.f138) (by kernel_rfl) (by kernel_rfl) (by kernel_rfl) fun args hh x hx=>?_
 unfold tw je.go Pd at hx;simp only at hx;split at hx
 ·rename_i n cp fn fc hd ca vi tm n2 c0 c1 c2 c3 c4 c5 c6 c7 c8 c9 oq ob oa f2 fr;cases hx;refine⟨by first|exact a_ _|exact ma _,(fun b hb=>by cases hb),(fun hw=>by first|rfl|cases hw),fun mO hv=>?_⟩
  obtain⟨h0,rfl,hf,rfl,rfl,Vs,hv⟩:=hv;obtain⟨rfl,rfl,u_,⟨⟨l0,rfl,nZ⟩,⟨l1,rfl,zk⟩,⟨l2,rfl,Bo⟩,⟨l3,rfl,yf⟩,⟨l4,rfl,yr⟩,⟨l5,rfl,Fe⟩,⟨l6,rfl,Ef⟩,⟨l7,rfl,EK⟩,⟨l8,rfl,E6⟩,⟨l9,rfl,Ec⟩,⟨qI,rfl,yQ⟩,⟨nG,rfl,yH⟩,⟨mT,rfl,yL⟩⟩⟩:=hv;clear mO;generalize hG:cj (R:=Empty) _ _=G;refine cL (T:=[]) trivial mixed 200 ?_;refine bK (q:=let Z2:=bm ar;let Z1:=(0:Int);Vc (fits ((↑f2:Int)-(1:Int)))/\(decide ((↑f2:Int)-(1:Int)<Z1)=ao->Vc (0+n2≤n2/\1≤1/\(n2+1)*104≤140737488355328/\n2+1≤140737488355328)/\Vc (fits ((↑(n2+1):Int)-(1:Int)))/\aX (G (Z2 ((↑(n2+1):Int)-(1:Int))) [aa (.inl (194,[.slice (aa ⟨4,0,aa 13000⟩) (n2+1) 0,.slice (aa ⟨2,0,aa 1000⟩) f2 0,Z2 hd,Z2 ca,Z2 vi])),aj,aa (.inr (.inl (3,Row.mk [Z2 0] f2 [aW.mk fr [] []]))),aa (.inr (.inl (197,Row.mk di 1 [aW.mk [Z1] [] [],aW.mk [Z1] [] [],aW.mk [] [an] [],aW.mk [Z1] [] [],aW.mk [Z1] [] [],aW.mk [Z1] [] [],aW.mk [Z1] [] [],aW.mk [Z1] [] [],aW.mk [Z1] [] [],aW.mk [Z1] [] [],aW.mk [Z1] [] [],aW.mk [Z1] [] [],aW.mk [] [an] []]))),aa (.inr (.inl (197,Row.mk di (n2+1) (cV (cut l0 0 n2++[Z1]) (cut l1 0 n2++[Z1]) (cut l2 0 n2++[an]) (cut l3 0 n2++[Z1]) (cut l4 0 n2++[Z1]) (cut l5 0 n2++[Z1]) (cut l6 0 n2++[Z1]) (cut l7 0 n2++[Z1]) (cut l8 0 n2++[Z1]) (cut l9 0 n2++[Z1]) (cut qI 0 n2++[Z1]) (cut nG 0 n2++[Z1]) (cut mT 0 n2++[an])))))]))/\(decide ((↑f2:Int)-(1:Int)<Z1)=an->Vc (Z1≤(↑f2:Int)-(1:Int)/\(↑f2:Int)-(1:Int)<(↑f2:Int)/\0+f2≤f2)/\Vc (0+aG ((↑f2:Int)-(1:Int))<f2)/\Vc (Z1≤(↑f2:Int)-(1:Int)/\(↑f2:Int)-(1:Int)≤(↑f2:Int)/\0+f2≤f2)/\aX (G (Z2 (aI fr (0+aG ((↑f2:Int)-(1:Int))) Z1)) [aa (.inl (194,[.slice (aa ⟨1,0,aa 13000⟩) n2 0,.slice (aa ⟨2,0,aa 1000⟩) (aG ((↑f2:Int)-(1:Int))) 0,Z2 hd,Z2 ca,Z2 vi])),aa (.inr (.inl (197,Row.mk di n2 (cV l0 l1 l2 l3 l4 l5 l6 l7 l8 l9 qI nG mT)))),aa (.inr (.inl (3,Row.mk [Z2 0] f2 [aW.mk fr [] []])))]))) ?_ (by kernel_rfl)
  intro Z2 Z1;subst Z1 Z2;subst hG;clear nZ zk Bo yf yr Fe Ef EK E6 Ec yQ yH yL;have e1:((f2:Int)-1).toNat=f2-1:=by omega
  simp only[e1,bU];refine⟨⟨by omega,by omega⟩,fun h=>absurd (of_decide_eq_true h) (by omega),fun _=>⟨⟨by omega,by omega,by omega⟩,⟨by omega⟩,⟨by omega,by omega,by omega⟩,⟨?_⟩⟩⟩
  exact⟨[0,1,2],rfl,rfl,⟨.inl rfl,⟨_,rfl,.inl rfl⟩,⟨_,rfl,.inr ⟨rfl,Be _ _,by simp[BJ]⟩⟩,trivial⟩,rfl,rfl,rfl,(by kernel_rfl)⟩
 ·cases hx
theorem Rw:b9 sR Tryz.prog 138 tw:=fun b=>by cases b;exact NY;exact NO
def TA:eJ Empty:=[(138,bJ zN 2 tw),(147,bJ zN 2 qy)]
theorem xK:cN sR Tryz.prog TA:=⟨aU _ _ Rw,aU _ _ MJ,trivial⟩
abbrev PP (m:Pl):Prop:=Gv.fY 100000 m
theorem BC (m:Pl) (i g:Int):q9 m.vs.length m.dE m.live i g=yz m ⟨i,g⟩:=rfl
theorem Ep {m:Pl} {i g:Int} (h:yz m ⟨i,g⟩=ao):0≤i/\i<m.vs.length/\m.live.getD i.toNat an=ao/\m.dE.getD i.toNat 0=g:=Gv.sx h
theorem gP {α:Type} (f:Nd->α) (m:Pl) (k:Nat) (a:α) (ha:f zd=a):(m.vs.map f).getD k a=f (m.vs.getD k zd):=by
 subst ha;simp only[au,fh];cases m.vs[k]?<;>rfl
theorem Hr (m:Pl) (k:Nat):gM m.vs k=bj (m.vs.getD k zd):=by
 unfold gM bj;simp only[gP (fun n:Nd=>n.e.it.k) m _ 0 rfl,gP (fun n:Nd=>n.e.it.i) m _ 0 rfl,gP (fun n:Nd=>n.e.kD) m _ an rfl,gP (fun n:Nd=>n.e.time) m _ 0 rfl,gP (fun n:Nd=>n.l.i) m _ 0 rfl,gP (fun n:Nd=>n.l.g) m _ 0 rfl,gP (fun n:Nd=>n.r.i) m _ 0 rfl,gP (fun n:Nd=>n.r.g) m _ 0 rfl,gP (fun n:Nd=>n.all.n) m _ 0 rfl,gP (fun n:Nd=>n.all.sum.n) m _ 0 rfl,gP (fun n:Nd=>n.h) m _ 0 rfl]
theorem BA (m:Pl) (k:Nat) (x:Nd) (g:List Int) (b:List Bool):(⟨di,m.vs.length,cS m.vs k x g b⟩:Row)=⟨di,(m.vs.set k x).length,cM (m.vs.set k x) g b⟩:=by
 unfold cS cM;simp only[Fq,fb]
theorem gN {α:Type} (f:Nd->α) (m:Pl):(m.vs.map f).length=m.vs.length:=fS ..
theorem BQ {m:Pl} (hv:PP m):mS m.vs.length (cM m.vs m.dE m.live):=⟨⟨_,rfl,gN _ m⟩,⟨_,rfl,gN _ m⟩,⟨_,rfl,gN _ m⟩,⟨_,rfl,gN _ m⟩,⟨_,rfl,gN _ m⟩,⟨_,rfl,gN _ m⟩,⟨_,rfl,gN _ m⟩,⟨_,rfl,gN _ m⟩,⟨_,rfl,gN _ m⟩,⟨_,rfl,gN _ m⟩,⟨_,rfl,gN _ m⟩,⟨_,rfl,hv.dE⟩,⟨_,rfl,hv.live⟩⟩
theorem uw {m:Pl} (hv:PP m):True/\True/\m.vs.length<1000000/\mS m.vs.length (cM m.vs m.dE m.live):=⟨trivial,trivial,by have:=hv.cells;omega,BQ hv⟩
def Nu:Prim Rs:=fun args hh=>match args,hh with
 |[.int .i64 c],[]=>aa ⟨True,.pointer (aa ⟨0,0,aj⟩),aj,[aa (.inr (.inr (.inr (.da ⟨[],[],[],[],0,min (max c 0) 16777216,0⟩))))],[],[(0,0)]⟩
 |_,_=>aj
theorem UI:b9 D Tryz.prog 131 (a9 Nu):=by
 refine pZ (rh (L:=L) (D0:=sR) (fn:=Tryz.f131) (root:=dC Tryz.f131) (by kernel_rfl) (by kernel_rfl) (by kernel_rfl) fun args hh x hx=>?_)
 unfold Nu at hx;split at hx
 ·rename_i c;cases hx;refine q4 fun _ hv=>?_
  generalize hG:xB (R:=Rs) (R0:=Empty) _ _ _=G;refine cL (T:=TA) xK mixed 200 ?_;refine bK (q:=aX (G (aB (aa ⟨0,0,aj⟩)) [aa (.inl (194,[.slice aj 0 0,.slice aj 0 0,.int ar 0,.int ar (if(16777216:Int)<if(0:Int)>c then(0:Int) else c then(16777216:Int) else if(0:Int)>c then(0:Int) else c),.int ar 0]))])) ?_ (by kernel_rfl)
  subst hG;have e:(if 16777216<if 0>c then 0 else c then 16777216 else if 0>c then 0 else c)=min (max c 0) 16777216:=by
   by_cases h1:0>c
   ·rw[if_pos h1];simp;omega
   ·rw[if_neg h1];split<;>omega
  rw[e];refine⟨⟨[0,1,1],rfl,rfl,⟨.inl rfl,⟨rfl,sF _,rfl⟩,⟨rfl,sF _,rfl⟩,trivial⟩,rfl,rfl,rfl,rfl,rfl⟩⟩
 ·cases hx
def NN:Prim Rs:=fun args hh=>match args,hh with
 |[.pointer (aa ⟨0,0,aj⟩),.agg ⟨[.int .i64 i,.int .i64 g]⟩],[aa (.inr (.inr (.inr (.da m))))]=>aa ⟨PP m,.tuple #[.agg ⟨bj (jQ zd m ⟨i,g⟩)⟩,.bool (yz m ⟨i,g⟩)],aj,[aa (.inr (.inr (.inr (.da (aK m ⟨i,g⟩)))))],[],[(0,0)]⟩
 |_,_=>aj
theorem V3:b9 D Tryz.prog 120 (a9 NN):=by
 refine pZ (rh (L:=L) (D0:=sR) (fn:=Tryz.f120) (root:=dC Tryz.f120) (by kernel_rfl) (by kernel_rfl) (by kernel_rfl) fun args hh x hx=>?_)
 unfold NN at hx;split at hx
 ·rename_i i g m;cases hx;refine q4 fun _ hv=>?_
  generalize hG:xB (R:=Rs) (R0:=Empty) _ _ _=G;refine cL (T:=TA) xK mixed 200 ?_;refine bK (q:=let Z3:=bm ar;let Z1:=(ae (cH m));let Z2:=(bj (fy (js (cU 0 0) an 0) (aO 0 0) (aO 0 0) (my 0 (aeC 0)) 0));(q9 Z1 (dN m) (eV m) i g=ao->Vc (di=di/\ae (cH m)=ae (cH m)/\ae (cH m)<1000000/\mS Z1 (cM (cH m) (dN m) (eV m)))/\Vc (aG i<ae (cH m))/\aX (G (cq (aJ [.agg (aJ (gM (cH m) (aG i))),.bool ao])) [aa (.inl (194,[.slice (aa ⟨1,0,aa 13000⟩) Z1 0,.slice (aa ⟨2,0,aa 1000⟩) (ae (dT m)) 0,Z3 (fM m),Z3 (ic m),Z3 (ck ar (gU m+(1:Int)))])),aa (.inr (.inl (197,Row.mk di Z1 (cM (cH m) (dN m) (eV m))))),aa (.inr (.inl (3,Row.mk [Z3 0] (ae (dT m)) [aW.mk (dT m) [] []]))),aa (.inl (108,[Z3 i,Z3 g])),aa (.inl (128,(gM (cH m) (aG i))))]))/\(q9 Z1 (dN m) (eV m) i g=an->Vc (di=di/\ae (cH m)=ae (cH m)/\ae (cH m)<1000000/\mS Z1 (cM (cH m) (dN m) (eV m)))/\aX (G (cq (aJ [.agg (aJ Z2),.bool an])) [aa (.inl (194,[.slice (aa ⟨1,0,aa 13000⟩) Z1 0,.slice (aa ⟨2,0,aa 1000⟩) (ae (dT m)) 0,Z3 (fM m),Z3 (ic m),Z3 (gU m)])),aa (.inr (.inl (197,Row.mk di Z1 (cM (cH m) (dN m) (eV m))))),aa (.inr (.inl (3,Row.mk [Z3 0] (ae (dT m)) [aW.mk (dT m) [] []]))),aa (.inl (108,[Z3 i,Z3 g])),aa (.inl (128,Z2)),aa (.inl (128,Z2))]))) ?_ (by kernel_rfl)
  intro Z3 Z1 Z2;subst Z2 Z1 Z3;subst hG;simp only[BC,bU];refine⟨fun h=>⟨⟨uw hv⟩,⟨by have:=Ep h;omega⟩,⟨?_⟩⟩,fun h=>⟨⟨uw hv⟩,⟨?_⟩⟩⟩
  ·have e1:jQ zd m ⟨i,g⟩=m.vs.getD i.toNat zd:=by unfold jQ;rw[if_pos h]
   have e2:aK m ⟨i,g⟩=HK m:=by unfold aK;rw[if_pos h]
   rw[Hr m i.toNat,e1,e2,h];exact⟨[0,1,2],rfl,rfl,⟨.inl rfl,⟨_,rfl,.inl rfl⟩,⟨_,rfl,.inl rfl⟩,trivial⟩,rfl,rfl,rfl,rfl,rfl⟩
  ·have e1:jQ zd m ⟨i,g⟩=zd:=by unfold jQ;rw[if_neg (by rw[h];decide)]
   have e2:aK m ⟨i,g⟩=m:=by unfold aK;rw[if_neg (by rw[h];decide)]
   rw[e1,e2,h];exact⟨[0,1,2],rfl,rfl,⟨.inl rfl,⟨_,rfl,.inl rfl⟩,⟨_,rfl,.inl rfl⟩,trivial⟩,rfl,rfl,rfl,rfl,rfl⟩
 ·cases hx
def MB:Prim Rs:=fun args hh=>match args,hh with
 |[.pointer (aa ⟨0,0,aj⟩),.agg ⟨[.int .i64 i,.int .i64 g]⟩,.agg ⟨xN⟩],[aa (.inr (.inr (.inr (.da m))))]=>aa ⟨xN=bj (fU xN)/\PP m,.bool (yz m ⟨i,g⟩),aj,[aa (.inr (.inr (.inr (.da (th m ⟨i,g⟩ (fU xN))))))],[],[(0,0)]⟩
 |_,_=>aj
theorem VZ:b9 D Tryz.prog 175 (a9 MB):=by
 refine pZ (rh (L:=L) (D0:=sR) (fn:=Tryz.f175) (root:=dC Tryz.f175) (by kernel_rfl) (by kernel_rfl) (by kernel_rfl) fun args hh x hx=>?_)
 unfold MB at hx;split at hx
 ·rename_i i g xN m;cases hx;refine q4 fun _ hv=>?_
  obtain⟨hq,hv⟩:=hv;generalize fU xN=x at *;subst hq
  generalize hG:xB (R:=Rs) (R0:=Empty) _ _ _=G;refine cL (T:=TA) xK mixed 200 ?_;refine bK (q:=let Z2:=bm ar;let Z1:=(ae (cH m));(q9 Z1 (dN m) (eV m) i g=ao->Vc (di=di/\ae (cH m)=ae (cH m)/\ae (cH m)<1000000/\mS Z1 (cM (cH m) (dN m) (eV m)))/\Vc (aG i<ae (cH m))/\aX (G (aC ao) [aa (.inl (194,[.slice (aa ⟨1,0,aa 13000⟩) Z1 0,.slice (aa ⟨2,0,aa 1000⟩) (ae (dT m)) 0,Z2 (fM m),Z2 (ic m),Z2 (ck ar (gU m+(1:Int)))])),aa (.inr (.inl (197,Row.mk di Z1 (cS (cH m) (aG i) x (dN m) (eV m))))),aa (.inr (.inl (3,Row.mk [Z2 0] (ae (dT m)) [aW.mk (dT m) [] []]))),aa (.inl (108,[Z2 i,Z2 g])),aa (.inl (128,(bj x)))]))/\(q9 Z1 (dN m) (eV m) i g=an->Vc (di=di/\ae (cH m)=ae (cH m)/\ae (cH m)<1000000/\mS Z1 (cM (cH m) (dN m) (eV m)))/\aX (G (aC an) [aa (.inl (194,[.slice (aa ⟨1,0,aa 13000⟩) Z1 0,.slice (aa ⟨2,0,aa 1000⟩) (ae (dT m)) 0,Z2 (fM m),Z2 (ic m),Z2 (gU m)])),aa (.inr (.inl (197,Row.mk di Z1 (cM (cH m) (dN m) (eV m))))),aa (.inr (.inl (3,Row.mk [Z2 0] (ae (dT m)) [aW.mk (dT m) [] []]))),aa (.inl (108,[Z2 i,Z2 g])),aa (.inl (128,(bj x)))]))) ?_ (by kernel_rfl)
  intro Z2 Z1;subst Z1 Z2;subst hG;simp only[BC,bU];refine⟨fun h=>⟨⟨uw hv⟩,⟨by have:=Ep h;omega⟩,⟨?_⟩⟩,fun h=>⟨⟨uw hv⟩,⟨?_⟩⟩⟩
  ·have e2:∀ y,th m ⟨i,g⟩ y={ HK m with vs:=m.vs.set i.toNat y }:=fun y=>by unfold th;rw[if_pos h]
   rw[e2,h];exact⟨[0,1,2],rfl,rfl,⟨.inl (by rw[fb];rfl),⟨_,rfl,.inl (BA m i.toNat x _ _).symm⟩,⟨_,rfl,.inl rfl⟩,trivial⟩,rfl,rfl,rfl,rfl,rfl⟩
  ·have e2:∀ y,th m ⟨i,g⟩ y=m:=fun y=>by unfold th;rw[if_neg (by rw[h];decide)]
   rw[e2,h];exact⟨[0,1,2],rfl,rfl,⟨.inl rfl,⟨_,rfl,.inl rfl⟩,⟨_,rfl,.inl rfl⟩,trivial⟩,rfl,rfl,rfl,rfl,rfl⟩
 ·cases hx
def B7:Prim Rs:=fun args hh=>match args,hh with
 |[.pointer (aa ⟨0,0,aj⟩)],[aa (.inr (.inr (.inr (.da m))))]=>aa ⟨True,.int .i64 m.cW,aj,hh,[],[]⟩
 |_,_=>aj
theorem Kb:b9 D Tryz.prog 118 (a9 B7):=by
 refine pZ (rh (L:=L) (D0:=sR) (fn:=Tryz.f118) (root:=dC Tryz.f118) (by kernel_rfl) (by kernel_rfl) (by kernel_rfl) fun args hh x hx=>?_)
 unfold B7 at hx;split at hx
 ·rename_i m;cases hx;refine q4 fun _ hv=>?_
  generalize hG:xB (R:=Rs) (R0:=Empty) _ _ _=G;refine cL (T:=TA) xK mixed 200 ?_;refine bK (q:=let Z1:=bm ar;aX (G (Z1 (gU m)) [aa (.inl (194,[.slice (aa ⟨1,0,aa 13000⟩) (ae (cH m)) 0,.slice (aa ⟨2,0,aa 1000⟩) (ae (dT m)) 0,Z1 (fM m),Z1 (ic m),Z1 (gU m)])),aa (.inr (.inl (197,Row.mk di (ae (cH m)) (cM (cH m) (dN m) (eV m))))),aa (.inr (.inl (3,Row.mk [Z1 0] (ae (dT m)) [aW.mk (dT m) [] []])))])) ?_ (by kernel_rfl)
  intro Z1;subst Z1;subst hG;exact⟨⟨[0,1,2],rfl,rfl,⟨.inl rfl,⟨_,rfl,.inl rfl⟩,⟨_,rfl,.inl rfl⟩,trivial⟩,rfl,rfl,rfl,rfl,rfl⟩⟩
 ·cases hx
def Cr:Prim Rs:=fun args hh=>match args,hh with
 |[.pointer (aa ⟨0,0,aj⟩),.agg ⟨[.int .i64 i,.int .i64 g]⟩],[aa (.inr (.inr (.inr (.da m))))]=>aa ⟨PP m,.tuple #[.agg ⟨bj (jQ zd m ⟨i,g⟩)⟩,.bool (yz m ⟨i,g⟩)],aj,[aa (.inr (.inr (.inr (.da (wg zd m ⟨i,g⟩)))))],[],[(0,0)]⟩
 |_,_=>aj
theorem tc:b9 D Tryz.prog 116 (a9 Cr):=by
 refine pZ (rh (L:=L) (D0:=sR) (fn:=Tryz.f116) (root:=dC Tryz.f116) (by kernel_rfl) (by kernel_rfl) (by kernel_rfl) fun args hh x hx=>?_)
 unfold Cr at hx;split at hx
 ·rename_i i g m;cases hx;refine q4 fun _ hv=>?_
  generalize hG:xB (R:=Rs) (R0:=Empty) _ _ _=G;refine cL (T:=TA) xK mixed 200 ?_;refine bK (q:=let Z7:=bm ar;let Z1:=(ae (cH m));let Z2:=(aG i<ae (cH m));let Z3:=(aI (dN m) (aG i) (0:Int)<(4294967295:Int));let Z4:=(cq (aJ [.agg (aJ (gM (cH m) (aG i))),.bool ao]));let Z5:=(bj (fy (js (cU 0 0) an 0) (aO 0 0) (aO 0 0) (my 0 (aeC 0)) 0));let Z6:=(ae (dT m));(q9 Z1 (dN m) (eV m) i g=ao->Vc (di=di/\ae (cH m)=ae (cH m)/\ae (cH m)<1000000/\mS Z1 (cM (cH m) (dN m) (eV m)))/\Vc Z2/\Vc Z2/\Vc Z2/\Vc (fits (fM m-(1:Int)))/\Vc Z2/\(decide Z3=ao->Vc (0+ae (dT m)≤ae (dT m)/\1≤1/\(ae (dT m)+1)*8≤140737488355328/\ae (dT m)+1≤140737488355328)/\aX (G Z4 [aa (.inl (194,[.slice (aa ⟨1,0,aa 13000⟩) Z1 0,.slice (aa ⟨8,0,aa 1000⟩) (ae (dT m)+1) 0,Z7 (fM m-(1:Int)),Z7 (ic m),Z7 (ck ar (gU m+(1:Int)))])),aa (.inr (.inl (197,Row.mk di Z1 (cS (cH m) (aG i) zd (dN m) (qc (eV m) (aG i) an))))),aj,aa (.inl (108,[Z7 i,Z7 g])),aa (.inl (128,(gM (cH m) (aG i)))),aa (.inl (128,Z5)),aa (.inl (128,(gM (cH m) (aG i)))),aa (.inr (.inl (3,Row.mk [Z7 0] 1 [aW.mk [i] [] []]))),aa (.inr (.inl (3,Row.mk [Z7 0] (ae (dT m)+1) [aW.mk (cut (dT m) 0 Z6++cut [i] 0 1) [] []])))]))/\(decide Z3=an->aX (G Z4 [aa (.inl (194,[.slice (aa ⟨1,0,aa 13000⟩) Z1 0,.slice (aa ⟨2,0,aa 1000⟩) Z6 0,Z7 (fM m-(1:Int)),Z7 (ic m),Z7 (ck ar (gU m+(1:Int)))])),aa (.inr (.inl (197,Row.mk di Z1 (cS (cH m) (aG i) zd (dN m) (qc (eV m) (aG i) an))))),aa (.inr (.inl (3,Row.mk [Z7 0] Z6 [aW.mk (dT m) [] []]))),aa (.inl (108,[Z7 i,Z7 g])),aa (.inl (128,(gM (cH m) (aG i)))),aa (.inl (128,Z5)),aa (.inl (128,(gM (cH m) (aG i))))])))/\(q9 Z1 (dN m) (eV m) i g=an->Vc (di=di/\ae (cH m)=ae (cH m)/\ae (cH m)<1000000/\mS Z1 (cM (cH m) (dN m) (eV m)))/\aX (G (cq (aJ [.agg (aJ Z5),.bool an])) [aa (.inl (194,[.slice (aa ⟨1,0,aa 13000⟩) Z1 0,.slice (aa ⟨2,0,aa 1000⟩) Z6 0,Z7 (fM m),Z7 (ic m),Z7 (gU m)])),aa (.inr (.inl (197,Row.mk di Z1 (cM (cH m) (dN m) (eV m))))),aa (.inr (.inl (3,Row.mk [Z7 0] Z6 [aW.mk (dT m) [] []]))),aa (.inl (108,[Z7 i,Z7 g])),aa (.inl (128,Z5)),aa (.inl (128,Z5))]))) ?_ (by kernel_rfl)
  intro Z7 Z1 Z2 Z3 Z4 Z5 Z6;subst Z6 Z5 Z4 Z3 Z2 Z1 Z7;subst hG;simp only[BC,bU];have hgb:=Dg (i:=i.toNat) hv.gen;have hhl:=hv.SF;have hfr:=hv.pJ;refine⟨fun h=>?_,fun h=>⟨⟨uw hv⟩,⟨?_⟩⟩⟩
  ·have ch:i.toNat<m.vs.length:=by have:=Ep h;omega
   have g3:m.dE.getD i.toNat 0<4294967295:=by omega
   have e1:jQ zd m ⟨i,g⟩=m.vs.getD i.toNat zd:=by unfold jQ;rw[if_pos h]
   have e2:wg zd m ⟨i,g⟩={ HK m with vs:=m.vs.set i.toNat zd,live:=m.live.set i.toNat an,held:=m.held-1,free:=m.free++[i] }:=by unfold wg;rw[if_pos h,if_pos g3]
   have ec:cut m.free 0 m.free.length++cut [i] 0 1=m.free++[i]:=by rw[fE rfl];rfl
   rw[ec];refine⟨⟨uw hv⟩,⟨ch⟩,⟨ch⟩,⟨ch⟩,⟨⟨by omega,by omega⟩⟩,⟨ch⟩,fun _=>⟨⟨by omega,by omega,by omega,by omega⟩,⟨?_⟩⟩,fun h2=>absurd g3 (of_decide_eq_false h2)⟩
   rw[Hr m i.toNat,e1,e2,h];exact⟨[0,1,8],rfl,rfl,⟨.inl (by rw[fb,bF];rfl),⟨_,rfl,.inl (BA m i.toNat zd _ _).symm⟩,⟨_,rfl,.inl (by rw[bF];rfl)⟩,trivial⟩,rfl,rfl,rfl,rfl,rfl⟩
  ·have e1:jQ zd m ⟨i,g⟩=zd:=by unfold jQ;rw[if_neg (by rw[h];decide)]
   have e2:wg zd m ⟨i,g⟩=m:=by unfold wg;rw[if_neg (by rw[h];decide)]
   rw[e1,e2,h];exact⟨[0,1,2],rfl,rfl,⟨.inl rfl,⟨_,rfl,.inl rfl⟩,⟨_,rfl,.inl rfl⟩,trivial⟩,rfl,rfl,rfl,rfl,rfl⟩
 ·cases hx
theorem QQ (m:Pl) (k:Nat) (x:Nd) (g:List Int) (b:List Bool):(⟨di,m.vs.length+1,cG m.vs k x g b⟩:Row)=⟨di,((m.vs++[zd]).set k x).length,cM ((m.vs++[zd]).set k x) g b⟩:=by
 unfold cG cM;simp only[Fq,dJ,fb,bF,gw,uK,cy,jM]
 rfl
theorem Ei {m:Pl} (h0:m.held=m.cap) (x:Nd):tD zd m x=m/\lu zd m=⟨0,0⟩:=by
 unfold tD lu;rw[if_pos h0,if_pos h0];exact⟨rfl,rfl⟩
theorem E3 {m:Pl} (h0:¬ m.held=m.cap) (hf:m.free.length=0) (x:Nd):tD zd m x=⟨(m.vs++[zd]).set m.vs.length x,(m.dE++[0]).set m.vs.length ((m.dE++[0]).getD m.vs.length 0+1),(m.live++[an]).set m.vs.length ao,m.free,m.held+1,m.cap,m.cW⟩/\lu zd m=⟨m.vs.length,(m.dE++[0]).getD m.vs.length 0+1⟩:=by
 have en:vw m=m.vs.length:=by rw[vw,if_pos hf]
 unfold tD lu Gv.Ax KS;rw[if_neg h0,if_neg h0];simp only[if_pos hf,en,iJ]
 constructor<;>first|rfl|trivial
theorem E0 {m:Pl} (h0:¬ m.held=m.cap) (hf:¬ m.free.length=0) (x:Nd):tD zd m x=⟨m.vs.set (m.free.getD (m.free.length-1) 0).toNat x,m.dE.set (m.free.getD (m.free.length-1) 0).toNat (m.dE.getD (m.free.getD (m.free.length-1) 0).toNat 0+1),m.live.set (m.free.getD (m.free.length-1) 0).toNat ao,m.free.take (m.free.length-1),m.held+1,m.cap,m.cW⟩/\lu zd m=⟨m.free.getD (m.free.length-1) 0,m.dE.getD (m.free.getD (m.free.length-1) 0).toNat 0+1⟩:=by
 have en:vw m=m.free.getD (m.free.length-1) 0:=by rw[vw,if_neg hf]
 unfold tD lu Gv.Ax KS;rw[if_neg h0,if_neg h0];simp only[if_neg hf,en]
 constructor<;>first|rfl|trivial
structure Bds (m:Pl):Prop where
 dE:m.dE.length=m.vs.length
 cells:m.vs.length<1000000
 pJ:m.free.length<1000000
 held:-1000000≤m.held/\m.held<1000000
 gen:∀ i,0≤m.dE.getD i 0/\m.dE.getD i 0≤100000
 last:¬ m.free.length=0->0≤m.free.getD (m.free.length-1) 0/\m.free.getD (m.free.length-1) 0<m.vs.length
theorem bds {m:Pl} (hv:PP m):Bds m:=by
 have v1:=hv.dE;have v3:=hv.cells;have v4:=hv.pJ;have v5:=hv.SF;refine⟨v1,by omega,by omega,by omega,fun i=>?_,fun h=>?_⟩
 ·have:=Dg (i:=i) hv.gen;omega
 ·have:=hv.inn _ (yF (d:=0) (l:=m.free) (i:=m.free.length-1) (by omega))
  exact⟨this.1,this.2.1⟩
theorem Ex (l:List Int) (k:Nat) (x:Int) (h:k<l.length):(l.set k x).getD k 0=x:=by
 rw[oc,if_pos ⟨rfl,h⟩]
def Ia:Prim Rs:=fun args hh=>match args,hh with
 |[.pointer (aa ⟨0,0,aj⟩),.agg ⟨xN⟩],[aa (.inr (.inr (.inr (.da m))))]=>aa ⟨xN=bj (fU xN)/\PP m,.tuple #[.agg ⟨[.int .i64 (lu zd m).i,.int .i64 (lu zd m).g]⟩,.bool (!decide (m.held=m.cap))],aj,[aa (.inr (.inr (.inr (.da (tD zd m (fU xN))))))],[],[(0,0)]⟩
 |_,_=>aj
theorem tu:b9 D Tryz.prog 101 (a9 Ia):=by
 refine pZ (rh (L:=L) (D0:=sR) (fn:=Tryz.f101) (root:=dC Tryz.f101) (by kernel_rfl) (by kernel_rfl) (by kernel_rfl) fun args hh x hx=>?_)
 unfold Ia at hx;split at hx
 ·rename_i xN m;cases hx;refine q4 fun _ hv=>?_
  obtain⟨hq,hv⟩:=hv;generalize fU xN=x at *;subst hq
  generalize hG:xB (R:=Rs) (R0:=Empty) _ _ _=G;refine cL (T:=TA) xK mixed 200 ?_;refine bK (q:=let b6:=bm ar;let Z1:=(cH m);let Z2:=(ae Z1);let Z3:=(dT m);let Z4:=(cM Z1 (dN m) (eV m));let Z5:=(aI (dN m++[(0:Int)]) (0+(Z2:Int).toNat) (0:Int)+(1:Int));let Z6:=(qc (dN m++[(0:Int)]) (0+(Z2:Int).toNat) Z5);let Z7:=(ae Z3-1);let Z8:=(aI Z3 Z7 (0:Int));let Z9:=(aI (dN m) (0+aG Z8) (0:Int)+(1:Int));let dO:=(aI (qc (dN m) (0+aG Z8) Z9) (0+aG Z8) (0:Int));((fM m==ic m)=ao->aX (G (cq (aJ [.agg (aJ [b6 0,b6 0]),.bool an])) [aa (.inl (194,[.slice (aa ⟨1,0,aa 13000⟩) Z2 0,.slice (aa ⟨2,0,aa 1000⟩) (ae Z3) 0,b6 (fM m),b6 (ic m),b6 (gU m)])),aa (.inr (.inl (197,Row.mk di Z2 Z4))),aa (.inr (.inl (3,Row.mk [b6 0] (ae Z3) [aW.mk Z3 [] []]))),aa (.inl (128,(bj x))),aa (.inl (108,[b6 0,b6 0]))]))/\((fM m==ic m)=an->(decide (ae Z3=0)=ao->Vc (ae Z3=0/\ae Z3=ae Z3/\0=0/\0=0/\di=di/\ae Z1=ae Z1/\ae Z1<1000000/\mS Z2 Z4)/\Vc ((0:Int)≤(↑Z2:Int)/\(↑Z2:Int)<(↑(ae Z1+1):Int)/\0+(ae Z1+1)≤ae Z1+1)/\Vc (0+(Z2:Int).toNat<ae Z1+1)/\Vc (0+(Z2:Int).toNat<ae Z1+1)/\Vc (0+(Z2:Int).toNat<ae Z1+1)/\Vc (fits Z5)/\Vc (0+(Z2:Int).toNat<ae Z1+1)/\Vc (fits (fM m+(1:Int)))/\Vc (0+(Z2:Int).toNat<ae Z1+1)/\aX (G (cq (aJ [.agg (aJ [b6 (↑Z2:Int),b6 (aI Z6 (0+(Z2:Int).toNat) (0:Int))]),.bool ao])) [aa (.inl (194,[.slice (aa ⟨5,0,aa 13000⟩) (ae Z1+1) 0,.slice (aa ⟨2,0,aa 1000⟩) (ae Z3) 0,b6 (fM m+(1:Int)),b6 (ic m),b6 (gU m)])),aj,aa (.inr (.inl (3,Row.mk [b6 0] (ae Z3) [aW.mk Z3 [] []]))),aa (.inl (128,(bj x))),aa (.inl (108,[b6 (↑Z2:Int),b6 (aI Z6 (0+(Z2:Int).toNat) (0:Int))])),aa (.inr (.inl (197,Row.mk di (ae Z1+1) (cG Z1 (0+(Z2:Int).toNat) x Z6 (qc (eV m++[an]) (0+(Z2:Int).toNat) ao)))))]))/\(decide (ae Z3=0)=an->Vc (ae Z3≠0/\ae Z3=ae Z3/\ae Z3=ae Z3/\0=0/\0=0/\ae Z3<1000000/\di=di/\ae Z1=ae Z1/\ae Z1<1000000/\mS Z2 Z4)/\Vc ((0:Int)≤aI Z3 Z7 (0:Int)/\aI Z3 Z7 (0:Int)<(↑Z2:Int)/\0+ae Z1≤ae Z1)/\Vc (0+aG Z8<ae Z1)/\Vc (0+aG Z8<ae Z1)/\Vc (0+aG Z8<ae Z1)/\Vc (fits Z9)/\Vc (0+aG Z8<ae Z1)/\Vc (fits (fM m+(1:Int)))/\Vc (0+aG Z8<ae Z1)/\aX (G (cq (aJ [.agg (aJ [b6 Z8,b6 dO]),.bool ao])) [aa (.inl (194,[.slice (aa ⟨1,0,aa 13000⟩) Z2 0,.slice (aa ⟨2,0,aa 1000⟩) Z7 0,b6 (fM m+(1:Int)),b6 (ic m),b6 (gU m)])),aa (.inr (.inl (197,Row.mk di Z2 (cS Z1 (0+aG Z8) x (qc (dN m) (0+aG Z8) Z9) (qc (eV m) (0+aG Z8) ao))))),aa (.inr (.inl (3,Row.mk [b6 0] Z7 [aW.mk (gY Z7 Z3) [] []]))),aa (.inl (128,(bj x))),aa (.inl (108,[b6 Z8,b6 dO]))])))) ?_ (by kernel_rfl)
  intro b6 Z1 Z2 Z3 Z4 Z5 Z6 Z7 Z8 Z9 dO;subst dO Z9 Z8 Z7 Z6 Z5 Z4 Z3 Z2 Z1 b6;subst hG;simp only[bU,iJ];have hb:=bds hv;refine⟨fun h=>?_,fun h=>⟨fun hf=>?_,fun hf=>?_⟩⟩
  ·have h0:m.held=m.cap:=eq_of_beq h;rw[(Ei h0 x).1,(Ei h0 x).2,decide_eq_true h0];exact⟨⟨[0,1,2],rfl,rfl,⟨.inl rfl,⟨_,rfl,.inl rfl⟩,⟨_,rfl,.inl rfl⟩,trivial⟩,rfl,rfl,rfl,rfl,rfl⟩⟩
  ·have h0:¬ m.held=m.cap:=fun c=>by rw[c,beq_self_eq_true] at h;cases h
   have h1:m.free.length=0:=of_decide_eq_true hf;have hk:m.vs.length<(m.dE++[0]).length:=by rw[bF,hb.dE];exact fC _
   have e1:(m.dE++[0]).getD m.vs.length 0=0:=by rw[uD,if_pos hb.dE.symm]
   rw[(E3 h0 h1 x).1,(E3 h0 h1 x).2,decide_eq_false h0,Ex _ _ _ hk];refine⟨⟨h1,trivial,trivial,trivial,trivial,trivial,hb.cells,BQ hv⟩,⟨by omega,by omega,a_ _⟩,⟨fC _⟩,⟨fC _⟩,⟨fC _⟩,⟨by rw[e1];exact⟨by omega,by omega⟩⟩,⟨fC _⟩,⟨by have:=hb.held;exact⟨by omega,by omega⟩⟩,⟨fC _⟩,⟨[0,5,2],rfl,rfl,?_,rfl,rfl,rfl,rfl,rfl⟩⟩
   exact⟨.inl (by rw[fb,bF];rfl),⟨_,rfl,.inl (QQ m m.vs.length x _ _).symm⟩,⟨_,rfl,.inl rfl⟩,trivial⟩
  ·have h0:¬ m.held=m.cap:=fun c=>by rw[c,beq_self_eq_true] at h;cases h
   have h1:¬ m.free.length=0:=of_decide_eq_false hf;have hl:=hb.last h1;have hk:(m.free.getD (m.free.length-1) 0).toNat<m.vs.length:=by omega
   rw[(E0 h0 h1 x).1,(E0 h0 h1 x).2,decide_eq_false h0,Ex _ _ _ (by rw[hb.dE];exact hk)]
   refine⟨⟨h1,trivial,trivial,trivial,trivial,hb.pJ,trivial,trivial,hb.cells,BQ hv⟩,⟨hl.1,hl.2,a_ _⟩,⟨hk⟩,⟨hk⟩,⟨hk⟩,⟨by have:=hb.gen (m.free.getD (m.free.length-1) 0).toNat;exact⟨by omega,by omega⟩⟩,⟨hk⟩,⟨by have:=hb.held;exact⟨by omega,by omega⟩⟩,⟨hk⟩,⟨[0,1,2],rfl,rfl,?_,rfl,rfl,rfl,rfl,rfl⟩⟩
   exact⟨.inl (by rw[fb,dQ,tE (Be _ _)];rfl),⟨_,rfl,.inl (BA m _ x _ _).symm⟩,⟨_,rfl,.inl (by rw[dQ,tE (Be _ _)])⟩,trivial⟩
 ·cases hx
abbrev dD (b:Nat) (i g:Int):Option (SB Rs):=aa (.inl (132,[.pointer (aa ⟨b,0,aj⟩),.int .i64 i,.int .i64 g]))
abbrev oP (m:Pl):Option (SB Rs):=aa (.inr (.inr (.inr (.da m))))
def T' {R:Type}:eJ R:=[(241,bJ zN 2 (a9 Sh.ZK))]
theorem RA {R:Type} {D:fJ R}:cN D Tryz.prog (T':eJ R):=⟨aU _ _ Sh.ahB,trivial⟩
def OY {R:Type}:eJ R:=[(1000000000,lP),(242,bJ zN 2 (a9 Sh.VX))]
theorem M4 {R:Type} {D:fJ R}:cN D Tryz.prog (OY:eJ R):=⟨ix,aU _ _ Sh.ad3,trivial⟩
def Ag {R:Type}:Prim R:=fun args hh=>match args,hh with
 |[.agg ⟨kE⟩],[]=>aa ⟨kE=du (fR kE)/\(True),.agg ⟨bV (nK aN (fR kE))⟩,aj,hh,[],[]⟩
 |_,_=>aj
theorem yy {R:Type} {D:fJ R}:b9 D Tryz.prog 102 (a9 Ag):=by
 refine fu Tryz.f102 fun args hh x hx=>?_
 unfold Ag at hx;split at hx
 ·rename_i kE;cases hx;refine q4 fun _ hv=>?_
  obtain⟨jT,hv⟩:=hv;generalize fR kE=ke at *;subst jT
  generalize hG:cj (R:=R) _ _=G;refine cL (T:=T') RA mixed 200 ?_;refine bK (q:=Vc True/\Vc True/\aX (G (bz (aJ [.int ar 1,.int ar (px (IZ aN ke))])) [aa (.inl (75,(du ke))),aa (.inl (126,[.int ar 1,.int ar (px (IZ aN ke))]))])) ?_ (by kernel_rfl)
  subst hG
  repeat' (first|apply cX|apply Vc.mk|apply fits.mk|intro h|apply aX.mk)
  all_goals (try simp only[sB] at *)
  all_goals first|contradiction|omega|exact jv ‹_›|exact jw ‹_›|exact ju ‹_›|exact⟨rfl,by omega⟩|exact rfl|(simp[*,-au];done)|skip
  exact⟨[],rfl,rfl,trivial,rfl,rfl,rfl,rfl⟩
 ·cases hx
def ed {R:Type}:Prim R:=fun args hh=>match args,hh with
 |[.agg ⟨pP⟩,.agg ⟨qP⟩],[]=>aa ⟨pP=bV (o_ pP)/\qP=bV (o_ qP)/\(True),.agg ⟨bV (eD aN (o_ pP) (o_ qP))⟩,aj,hh,[],[]⟩
 |_,_=>aj
theorem uy {R:Type} {D:fJ R}:b9 D Tryz.prog 174 (a9 ed):=by
 refine fu Tryz.f174 fun args hh x hx=>?_
 unfold ed at hx;split at hx
 ·rename_i pP qP;cases hx;refine q4 fun _ hv=>?_
  obtain⟨jT,sh,hv⟩:=hv;generalize o_ pP=pp at *;subst jT;generalize o_ qP=qp at *;subst sh
  generalize hG:cj (R:=R) _ _=G;refine cL (T:=OY) M4 mixed 200 ?_;refine bK (q:=let Z2:=bm ar;let Z1:=(px (Gv.iO.plus aN (bG pp) (bG qp)));((bM pp==(0:Int))=ao->aX (G (bz (aJ [Z2 (bM qp),Z2 (px (bG qp))])) [aa (.inl (126,[Z2 (bM pp),Z2 (px (bG pp))])),aa (.inl (126,[Z2 (bM qp),Z2 (px (bG qp))])),aa (.inl (126,[Z2 (bM qp),Z2 (px (bG qp))]))]))/\((bM pp==(0:Int))=an->((bM qp==(0:Int))=ao->aX (G (bz (aJ [Z2 (bM pp),Z2 (px (bG pp))])) [aa (.inl (126,[Z2 (bM pp),Z2 (px (bG pp))])),aa (.inl (126,[Z2 (bM qp),Z2 (px (bG qp))])),aa (.inl (126,[Z2 (bM pp),Z2 (px (bG pp))]))]))/\((bM qp==(0:Int))=an->Vc True/\Vc True/\Vc True/\aX (G (bz (aJ [Z2 (ck ar (bM pp+bM qp)),Z2 Z1])) [aa (.inl (126,[Z2 (bM pp),Z2 (px (bG pp))])),aa (.inl (126,[Z2 (bM qp),Z2 (px (bG qp))])),aa (.inl (126,[Z2 (ck ar (bM pp+bM qp)),Z2 Z1]))])))) ?_ (by kernel_rfl)
  intro Z2 Z1;subst Z1 Z2;have done:∀ (p:HJ Qm) (hp:Hp R),p=eD aN pp qp->G (.agg ⟨bV p⟩) hp:=by
   intro p hp e;subst e;subst hG;exact⟨⟨[],rfl,rfl,trivial,rfl,rfl,rfl,rfl⟩⟩
  clear hG
  repeat' (first|apply cX|apply Vc.mk|apply fits.mk|intro h|apply aX.mk)
  all_goals (try simp only[sB] at *)
  all_goals first|contradiction|omega|exact jv ‹_›|exact jw ‹_›|exact ju ‹_›|exact⟨rfl,by omega⟩|exact rfl|(simp[*,-au];done)|skip
  ·have h:pp.n=0:=by assumption
   exact done qp _ (by rw[eD,if_pos h])
  ·have h:pp.n≠0:=by assumption
   have h2:qp.n=0:=by assumption
   exact done pp _ (by rw[eD,if_neg h,if_pos h2])
  ·have h:pp.n≠0:=by assumption
   have h2:qp.n≠0:=by assumption
   exact done ⟨mY (pp.n+qp.n),aN.plus pp.sum qp.sum⟩ _ (by rw[eD,if_neg h,if_neg h2])
 ·cases hx
def Ot:eJ Rs:=[(120,bJ zN 2 (a9 NN))]
theorem MT:cN D Tryz.prog Ot:=⟨aU _ _ V3,trivial⟩
def j9:Prim Rs:=fun args hh=>match args,hh with
 |[.pointer (aa ⟨0,0,aj⟩),.agg ⟨[.int .i64 ri,.int .i64 rg]⟩],[aa (.inl (132,[.pointer (aa ⟨1,0,aj⟩),.int .i64 ti,.int .i64 tg])),aa (.inr (.inr (.inr (.da m))))]=>aa ⟨PP m,.agg ⟨bj (br aN m ⟨ri,rg⟩)⟩,aj,[aa (.inl (132,[.pointer (aa ⟨1,0,aj⟩),.int .i64 ti,.int .i64 tg])),aa (.inr (.inr (.inr (.da (aK m ⟨ri,rg⟩)))))],[],[(0,0)]⟩
 |_,_=>aj
theorem look_ok:b9 D Tryz.prog 79 (a9 j9):=by
 refine fu Tryz.f79 fun args hh x hx=>?_
 unfold j9 at hx;split at hx
 ·rename_i ri rg ti tg m;cases hx;refine q4 fun _ hv=>?_
  generalize hG:cj (R:=Rs) _ _=G;refine cL (T:=Ot) MT mixed 200 ?_;refine bK (q:=Vc (PP m)/\aX (G (bz (aJ (bj (jQ zd m (aO ri rg))))) [dD 1 ti tg,oP (aK m (aO ri rg)),aa (.inl (108,[.int ar ri,.int ar rg])),aa (.inl (128,(bj (jQ zd m (aO ri rg))))),aa (.inl (128,(bj (jQ zd m (aO ri rg)))))])) ?_ (by kernel_rfl)
  subst hG;exact⟨⟨hv⟩,⟨⟨[0,1],rfl,rfl,⟨.inl rfl,rfl,trivial⟩,rfl,rfl,rfl,rfl⟩⟩⟩
 ·cases hx
def Ve:eJ Rs:=[(1000000000,lP),(102,bJ zN 2 (a9 Ag)),(174,bJ zN 2 (a9 ed)),(175,bJ zN 2 (a9 MB))]
theorem Q5:cN D Tryz.prog Ve:=⟨ix,aU _ _ yy,aU _ _ uy,aU _ _ VZ,trivial⟩
def AO:Prim Rs:=fun args hh=>match args,hh with
 |[.pointer (aa ⟨0,0,aj⟩),.agg ⟨[.int .i64 ri,.int .i64 rg]⟩,.agg ⟨xN⟩,.agg ⟨yN⟩,.agg ⟨zN⟩],[aa (.inl (132,[.pointer (aa ⟨1,0,aj⟩),.int .i64 ti,.int .i64 tg])),aa (.inr (.inr (.inr (.da m))))]=>aa ⟨xN=bj (fU xN)/\yN=bj (fU yN)/\zN=bj (fU zN)/\(PP m),.agg ⟨[.int .i64 ri,.int .i64 rg]⟩,aj,[aa (.inl (132,[.pointer (aa ⟨1,0,aj⟩),.int .i64 ti,.int .i64 tg])),aa (.inr (.inr (.inr (.da (D5 aN m ⟨ri,rg⟩ (fU xN) (fU yN) (fU zN))))))],[],[(0,0)]⟩
 |_,_=>aj
theorem xI:b9 D Tryz.prog 158 (a9 AO):=by
 refine fu Tryz.f158 fun args hh x hx=>?_
 unfold AO at hx;split at hx
 ·rename_i ri rg xN yN zN ti tg m;cases hx;refine q4 fun _ hv=>?_
  obtain⟨jT,sh,FP,hv⟩:=hv;generalize fU xN=xn at *;subst jT;generalize fU yN=yn at *;subst sh;generalize fU zN=zn at *;subst FP
  generalize hG:cj (R:=Rs) _ _=G;refine cL (T:=Ve) Q5 mixed 200 ?_;refine bK (q:=let Z4:=bm ar;let Z1:=(nK aN (bY xn));let Z2:=(eD aN (bt yn) Z1);let Z3:=(fy (bY xn) (bc xn) (bn xn) (eD aN Z2 (bt zn)) (ck ar ((1:Int)+if cu zn>cu yn then cu zn else cu yn)));Vc True/\Vc ((du (bY xn))=du (bY xn)/\True)/\Vc ([Z4 (bM (bt yn)),Z4 (px (bG (bt yn)))]=bV (bt yn)/\[Z4 (bM Z1),Z4 (px (bG Z1))]=bV Z1/\True)/\Vc ([Z4 (bM Z2),Z4 (px (bG Z2))]=bV Z2/\[Z4 (bM (bt zn)),Z4 (px (bG (bt zn)))]=bV (bt zn)/\True)/\Vc ((bj Z3)=bj Z3/\PP m)/\aX (G (bz (aJ [Z4 ri,Z4 rg])) [dD 1 ti tg,oP (th m (aO ri rg) Z3),aa (.inl (108,[Z4 ri,Z4 rg])),aa (.inl (128,(bj Z3))),aa (.inl (128,(bj yn))),aa (.inl (128,(bj zn))),aa (.inl (108,[Z4 ri,Z4 rg]))])) ?_ (by kernel_rfl)
  intro Z4 Z1 Z2 Z3;subst Z3 Z2 Z1 Z4;subst hG
  repeat' (first|apply cX|apply Vc.mk|apply fits.mk|intro h|apply aX.mk)
  all_goals (try simp only[sB] at *)
  all_goals first|contradiction|omega|exact jv ‹_›|exact jw ‹_›|exact ju ‹_›|exact⟨rfl,by omega⟩|exact rfl|(simp[*,-au];done)|skip
  all_goals first|assumption|exact⟨[0,1],rfl,rfl,⟨.inl rfl,rfl,trivial⟩,rfl,rfl,rfl,rfl⟩
 ·cases hx
def UC:eJ Rs:=[(79,bJ zN 2 (a9 j9)),(158,bJ zN 2 (a9 AO))]
theorem RI:cN D Tryz.prog UC:=⟨aU _ _ look_ok,aU _ _ xI,trivial⟩
def ID:Prim Rs:=fun args hh=>match args,hh with
 |[.pointer (aa ⟨0,0,aj⟩),.agg ⟨[.int .i64 ri,.int .i64 rg]⟩,.agg ⟨xN⟩],[aa (.inl (132,[.pointer (aa ⟨1,0,aj⟩),.int .i64 ti,.int .i64 tg])),aa (.inr (.inr (.inr (.da m))))]=>aa ⟨xN=bj (fU xN)/\(PP m),.agg ⟨[.int .i64 ri,.int .i64 rg]⟩,aj,[aa (.inl (132,[.pointer (aa ⟨1,0,aj⟩),.int .i64 ti,.int .i64 tg])),aa (.inr (.inr (.inr (.da (sG aN m ⟨ri,rg⟩ (fU xN))))))],[],[(0,0)]⟩
 |_,_=>aj
theorem AL:b9 D Tryz.prog 137 (a9 ID):=by
 refine fu Tryz.f137 fun args hh x hx=>?_
 unfold ID at hx;split at hx
 ·rename_i ri rg xN ti tg m;cases hx;refine q4 fun _ hv=>?_
  obtain⟨jT,hv⟩:=hv;generalize fU xN=xn at *;subst jT
  generalize hG:cj (R:=Rs) _ _=G;refine cL (T:=UC) RI mixed 200 ?_;refine bK (q:=let Z2:=bm ar;let Z1:=(br aN (aK m (bc xn)) (bn xn));Vc (PP m)/\Vc (PP (aK m (bc xn)))/\Vc ((bj xn)=bj xn/\(bj (br aN m (bc xn)))=bj (br aN m (bc xn))/\(bj Z1)=bj Z1/\PP (aK (aK m (bc xn)) (bn xn)))/\aX (G (bz (aJ [Z2 ri,Z2 rg])) [dD 1 ti tg,oP (D5 aN (aK (aK m (bc xn)) (bn xn)) (aO ri rg) xn (br aN m (bc xn)) Z1),aa (.inl (108,[Z2 ri,Z2 rg])),aa (.inl (128,(bj xn))),aa (.inl (108,[Z2 ri,Z2 rg]))])) ?_ (by kernel_rfl)
  intro Z2 Z1;subst Z1 Z2;subst hG
  repeat' (first|apply cX|apply Vc.mk|apply fits.mk|intro h|apply aX.mk)
  all_goals (try simp only[sB] at *)
  all_goals first|contradiction|omega|exact jv ‹_›|exact jw ‹_›|exact ju ‹_›|exact⟨rfl,by omega⟩|exact rfl|(simp[*,-au];done)|skip
  all_goals first|assumption|(simp only[ja];assumption)|skip
  exact⟨[0,1],rfl,rfl,⟨.inl rfl,rfl,trivial⟩,rfl,rfl,rfl,rfl⟩
 ·cases hx
def HT:eJ Rs:=[(79,bJ zN 2 (a9 j9)),(137,bJ zN 2 (a9 ID))]
theorem En:cN D Tryz.prog HT:=⟨aU _ _ look_ok,aU _ _ AL,trivial⟩
def E_:Prim Rs:=fun args hh=>match args,hh with
 |[.pointer (aa ⟨0,0,aj⟩),.agg ⟨[.int .i64 ri,.int .i64 rg]⟩,.agg ⟨xN⟩],[aa (.inl (132,[.pointer (aa ⟨1,0,aj⟩),.int .i64 ti,.int .i64 tg])),aa (.inr (.inr (.inr (.da m))))]=>aa ⟨xN=bj (fU xN)/\(PP m),.agg ⟨[.int .i64 (fU xN).r.i,.int .i64 (fU xN).r.g]⟩,aj,[aa (.inl (132,[.pointer (aa ⟨1,0,aj⟩),.int .i64 ti,.int .i64 tg])),aa (.inr (.inr (.inr (.da (vx aN m ⟨ri,rg⟩ (fU xN))))))],[],[(0,0)]⟩
 |_,_=>aj
theorem B3:b9 D Tryz.prog 159 (a9 E_):=by
 refine fu Tryz.f159 fun args hh x hx=>?_
 unfold E_ at hx;split at hx
 ·rename_i ri rg xN ti tg m;cases hx;refine q4 fun _ hv=>?_
  obtain⟨jT,hv⟩:=hv;generalize fU xN=xn at *;subst jT
  generalize hG:cj (R:=Rs) _ _=G;refine cL (T:=HT) En mixed 200 ?_;refine bK (q:=let Z5:=bm ar;let Z1:=(br aN m (bn xn));let Z2:=(fy (bY xn) (bc xn) (bc Z1) (bt xn) (cu xn));let Z3:=(fy (bY Z1) (aO ri rg) (bn Z1) (bt Z1) (cu Z1));let Z4:=(sG aN (aK m (bn xn)) (aO ri rg) Z2);Vc (PP m)/\Vc ((bj Z2)=bj Z2/\PP (aK m (bn xn)))/\Vc ((bj Z3)=bj Z3/\PP Z4)/\aX (G (bz (aJ [Z5 (cB (bn xn)),Z5 (cC (bn xn))])) [dD 1 ti tg,oP (sG aN Z4 (bn xn) Z3),aa (.inl (108,[Z5 ri,Z5 rg])),aa (.inl (128,(bj Z2))),aa (.inl (108,[Z5 (cB (bn xn)),Z5 (cC (bn xn))])),aa (.inl (108,[Z5 (cB (bn xn)),Z5 (cC (bn xn))])),aa (.inl (128,(bj Z3)))])) ?_ (by kernel_rfl)
  intro Z5 Z1 Z2 Z3 Z4;subst Z4 Z3 Z2 Z1 Z5;subst hG
  repeat' (first|apply cX|apply Vc.mk|apply fits.mk|intro h|apply aX.mk)
  all_goals (try simp only[sB] at *)
  all_goals first|contradiction|omega|exact jv ‹_›|exact jw ‹_›|exact ju ‹_›|exact⟨rfl,by omega⟩|exact rfl|(simp[*,-au];done)|skip
  all_goals first|assumption|(simp only[ja];assumption)|skip
  exact⟨[0,1],rfl,rfl,⟨.inl rfl,rfl,trivial⟩,rfl,rfl,rfl,rfl⟩
 ·cases hx
def EE:Prim Rs:=fun args hh=>match args,hh with
 |[.pointer (aa ⟨0,0,aj⟩),.agg ⟨[.int .i64 ri,.int .i64 rg]⟩,.agg ⟨xN⟩],[aa (.inl (132,[.pointer (aa ⟨1,0,aj⟩),.int .i64 ti,.int .i64 tg])),aa (.inr (.inr (.inr (.da m))))]=>aa ⟨xN=bj (fU xN)/\(PP m),.agg ⟨[.int .i64 (fU xN).l.i,.int .i64 (fU xN).l.g]⟩,aj,[aa (.inl (132,[.pointer (aa ⟨1,0,aj⟩),.int .i64 ti,.int .i64 tg])),aa (.inr (.inr (.inr (.da (vy aN m ⟨ri,rg⟩ (fU xN))))))],[],[(0,0)]⟩
 |_,_=>aj
theorem BG:b9 D Tryz.prog 160 (a9 EE):=by
 refine fu Tryz.f160 fun args hh x hx=>?_
 unfold EE at hx;split at hx
 ·rename_i ri rg xN ti tg m;cases hx;refine q4 fun _ hv=>?_
  obtain⟨jT,hv⟩:=hv;generalize fU xN=xn at *;subst jT
  generalize hG:cj (R:=Rs) _ _=G;refine cL (T:=HT) En mixed 200 ?_;refine bK (q:=let Z5:=bm ar;let Z1:=(br aN m (bc xn));let Z2:=(fy (bY xn) (bn Z1) (bn xn) (bt xn) (cu xn));let Z3:=(fy (bY Z1) (bc Z1) (aO ri rg) (bt Z1) (cu Z1));let Z4:=(sG aN (aK m (bc xn)) (aO ri rg) Z2);Vc (PP m)/\Vc ((bj Z2)=bj Z2/\PP (aK m (bc xn)))/\Vc ((bj Z3)=bj Z3/\PP Z4)/\aX (G (bz (aJ [Z5 (cB (bc xn)),Z5 (cC (bc xn))])) [dD 1 ti tg,oP (sG aN Z4 (bc xn) Z3),aa (.inl (108,[Z5 ri,Z5 rg])),aa (.inl (128,(bj Z2))),aa (.inl (108,[Z5 (cB (bc xn)),Z5 (cC (bc xn))])),aa (.inl (108,[Z5 (cB (bc xn)),Z5 (cC (bc xn))])),aa (.inl (128,(bj Z3)))])) ?_ (by kernel_rfl)
  intro Z5 Z1 Z2 Z3 Z4;subst Z4 Z3 Z2 Z1 Z5;subst hG
  repeat' (first|apply cX|apply Vc.mk|apply fits.mk|intro h|apply aX.mk)
  all_goals (try simp only[sB] at *)
  all_goals first|contradiction|omega|exact jv ‹_›|exact jw ‹_›|exact ju ‹_›|exact⟨rfl,by omega⟩|exact rfl|(simp[*,-au];done)|skip
  all_goals first|assumption|(simp only[ja];assumption)|skip
  exact⟨[0,1],rfl,rfl,⟨.inl rfl,rfl,trivial⟩,rfl,rfl,rfl,rfl⟩
 ·cases hx
def Uf:eJ Rs:=[(1000000000,lP),(79,bJ zN 2 (a9 j9)),(158,bJ zN 2 (a9 AO)),(159,bJ zN 2 (a9 E_)),(160,bJ zN 2 (a9 EE))]
theorem QM:cN D Tryz.prog Uf:=⟨ix,aU _ _ look_ok,aU _ _ xI,aU _ _ B3,aU _ _ BG,trivial⟩
def uq:Prim Rs:=fun args hh=>match args,hh with
 |[.pointer (aa ⟨0,0,aj⟩),.agg ⟨[.int .i64 ri,.int .i64 rg]⟩,.agg ⟨xN⟩],[aa (.inl (132,[.pointer (aa ⟨1,0,aj⟩),.int .i64 ti,.int .i64 tg])),aa (.inr (.inr (.inr (.da m))))]=>aa ⟨xN=bj (fU xN)/\(PP m),.agg ⟨[.int .i64 (gv aN m ⟨ri,rg⟩ (fU xN)).1.i,.int .i64 (gv aN m ⟨ri,rg⟩ (fU xN)).1.g]⟩,aj,[aa (.inl (132,[.pointer (aa ⟨1,0,aj⟩),.int .i64 ti,.int .i64 tg])),aa (.inr (.inr (.inr (.da (gv aN m ⟨ri,rg⟩ (fU xN)).2))))],[],[(0,0)]⟩
 |_,_=>aj
theorem ss:b9 D Tryz.prog 139 (a9 uq):=by
 refine fu Tryz.f139 fun args hh x hx=>?_
 unfold uq at hx;split at hx
 ·rename_i ri rg xN ti tg m;cases hx;refine q4 fun _ hv=>?_
  obtain⟨jT,hv⟩:=hv;generalize fU xN=xn at *;subst jT
  generalize hG:cj (R:=Rs) _ _=G;refine cL (T:=Uf) QM mixed 200 ?_;refine bK (q:=let dx:=bm ar;let Z1:=(br aN m (bc xn));let Z2:=(br aN (aK m (bc xn)) (bn xn));let Z3:=(cu Z1>ck ar (cu Z2+(1:Int)));let Z4:=(aK (aK m (bc xn)) (bn xn));let Z5:=(cu (br aN Z4 (bn Z1))>cu (br aN (aK Z4 (bn Z1)) (bc Z1)));let Z6:=(aK (aK Z4 (bn Z1)) (bc Z1));let Z7:=(fy (bY xn) (bn Z1) (bn xn) (bt xn) (cu xn));let Z8:=(cu Z2>ck ar (cu Z1+(1:Int)));let Z9:=(cu (br aN Z4 (bc Z2))>cu (br aN (aK Z4 (bc Z2)) (bn Z2)));let dO:=(aK (aK Z4 (bc Z2)) (bn Z2));let b6:=(fy (bY xn) (bc xn) (bc Z2) (bt xn) (cu xn));Vc (PP m)/\Vc (PP (aK m (bc xn)))/\Vc True/\(decide Z3=ao->Vc (PP Z4)/\Vc (PP (aK Z4 (bn Z1)))/\(decide Z5=ao->Vc ((bj Z1)=bj Z1/\PP Z6)/\Vc ((bj Z7)=bj Z7/\PP (vx aN Z6 (bc xn) Z1))/\aX (G (bz (aJ [dx (cB (bc Z7)),dx (cC (bc Z7))])) [dD 1 ti tg,oP (vy aN (vx aN Z6 (bc xn) Z1) (aO ri rg) Z7),aa (.inl (108,[dx ri,dx rg])),aa (.inl (128,(bj Z7))),aa (.inl (108,[dx (cB (bc Z7)),dx (cC (bc Z7))])),aa (.inl (128,(bj Z1))),aa (.inl (128,(bj Z2)))]))/\(decide Z5=an->Vc ((bj xn)=bj xn/\PP Z6)/\aX (G (bz (aJ [dx (cB (bc xn)),dx (cC (bc xn))])) [dD 1 ti tg,oP (vy aN Z6 (aO ri rg) xn),aa (.inl (108,[dx ri,dx rg])),aa (.inl (128,(bj xn))),aa (.inl (108,[dx (cB (bc xn)),dx (cC (bc xn))])),aa (.inl (128,(bj Z1))),aa (.inl (128,(bj Z2)))])))/\(decide Z3=an->Vc True/\(decide Z8=ao->Vc (PP Z4)/\Vc (PP (aK Z4 (bc Z2)))/\(decide Z9=ao->Vc ((bj Z2)=bj Z2/\PP dO)/\Vc ((bj b6)=bj b6/\PP (vy aN dO (bn xn) Z2))/\aX (G (bz (aJ [dx (cB (bn b6)),dx (cC (bn b6))])) [dD 1 ti tg,oP (vx aN (vy aN dO (bn xn) Z2) (aO ri rg) b6),aa (.inl (108,[dx ri,dx rg])),aa (.inl (128,(bj b6))),aa (.inl (108,[dx (cB (bn b6)),dx (cC (bn b6))])),aa (.inl (128,(bj Z1))),aa (.inl (128,(bj Z2)))]))/\(decide Z9=an->Vc ((bj xn)=bj xn/\PP dO)/\aX (G (bz (aJ [dx (cB (bn xn)),dx (cC (bn xn))])) [dD 1 ti tg,oP (vx aN dO (aO ri rg) xn),aa (.inl (108,[dx ri,dx rg])),aa (.inl (128,(bj xn))),aa (.inl (108,[dx (cB (bn xn)),dx (cC (bn xn))])),aa (.inl (128,(bj Z1))),aa (.inl (128,(bj Z2)))])))/\(decide Z8=an->Vc ((bj xn)=bj xn/\(bj Z1)=bj Z1/\(bj Z2)=bj Z2/\PP Z4)/\aX (G (bz (aJ [dx ri,dx rg])) [dD 1 ti tg,oP (D5 aN Z4 (aO ri rg) xn Z1 Z2),aa (.inl (108,[dx ri,dx rg])),aa (.inl (128,(bj xn))),aa (.inl (108,[dx ri,dx rg])),aa (.inl (128,(bj Z1))),aa (.inl (128,(bj Z2)))])))) ?_ (by kernel_rfl)
  intro dx Z1 Z2 Z3 Z4 Z5 Z6 Z7 Z8 Z9 dO b6;subst b6 dO Z9 Z8 Z7 Z6 Z5 Z4 Z3 Z2 Z1 dx;have done:∀ (i g:Int) (m':Pl) (rest:Hp Rs),gv aN m ⟨ri,rg⟩ xn=(⟨i,g⟩,m')->G (.agg ⟨[.int .i64 i,.int .i64 g]⟩) ([aa (.inl (132,[.pointer (aa ⟨1,0,aj⟩),.int .i64 ti,.int .i64 tg])),aa (.inr (.inr (.inr (.da m'))))]++rest):=by
   intro i g m' rest e;subst hG;refine⟨[0,1],?_,rfl,⟨.inl rfl,?_,trivial⟩,rfl,rfl,rfl,rfl⟩
   ·simp only[e];rfl
   ·simp only[e];rfl
  clear hG
  repeat' (first|apply cX|apply Vc.mk|apply fits.mk|intro h|apply aX.mk)
  all_goals (try simp only[sB] at *)
  all_goals first|contradiction|omega|exact jv ‹_›|exact jw ‹_›|exact ju ‹_›|exact⟨rfl,by omega⟩|exact rfl|(simp[*,-au];done)|skip
  all_goals first|assumption|(simp only[ja];assumption)|skip
  all_goals (refine done _ _ _ _ ?_;unfold gv;(try dsimp only [mY]);repeat' split)
  all_goals first|rfl|(exfalso;omega)
 ·cases hx
def As  (k:Nat):Prim Rs:=fun args hh=>match args,hh with
 |[.pointer (aa ⟨0,0,aj⟩),.agg ⟨[.int .i64 ri,.int .i64 rg]⟩,.agg ⟨[.int .i64 fi,.int .i64 fg]⟩,.agg ⟨kE⟩],[aa (.inl (132,[.pointer (aa ⟨1,0,aj⟩),.int .i64 ti,.int .i64 tg])),aa (.inr (.inr (.inr (.da m))))]=>aa ⟨kE=du (fR kE)/\(PP m/\jb aN k m ⟨ri,rg⟩),.agg ⟨[.int .i64 (nE aN k m ⟨ri,rg⟩ ⟨fi,fg⟩ (fR kE)).1.i,.int .i64 (nE aN k m ⟨ri,rg⟩ ⟨fi,fg⟩ (fR kE)).1.g]⟩,aj,[aa (.inl (132,[.pointer (aa ⟨1,0,aj⟩),.int .i64 ti,.int .i64 tg])),aa (.inr (.inr (.inr (.da (nE aN k m ⟨ri,rg⟩ ⟨fi,fg⟩ (fR kE)).2))))],[],[(0,0)]⟩
 |_,_=>aj
def OS (k:Nat):eJ Rs:=[(106,bJ zN 2 (a9 I3)),(79,bJ zN 2 (a9 j9)),(139,bJ zN 2 (a9 uq)),(103,bJ zN 2 (a9 (As k)))]
theorem xD:∀ k:Nat,b9 D Tryz.prog 103 (a9 (As k))
 |0=>by
  refine fu Tryz.f103 fun args hh x hx=>?_
  unfold As at hx;split at hx
  ·rename_i ri rg fi fg kE ti tg m;cases hx;refine q4 fun _ hv=>?_
   exact kL (ig (ig hv))
  ·cases hx
 |k+1=>by
  have ih:=xD k;refine fu Tryz.f103 fun args hh x hx=>?_
  unfold As at hx;split at hx
  ·rename_i ri rg fi fg kE ti tg m;cases hx;refine q4 fun _ hv=>?_
   obtain⟨jT,hv⟩:=hv;generalize fR kE=ke at *;subst jT;obtain⟨hp,hd⟩:=hv
   generalize hG:cj (R:=Rs) _ _=G;refine cL (T:=(OS k)) (show cN D Tryz.prog (OS k) from⟨aU _ _ xT,aU _ _ look_ok,aU _ _ ss,aU _ _ ih,trivial⟩) mixed 200 ?_
   refine bK (q:=let b6:=bm ar;let Z1:=(br aN m (aO ri rg));let Z2:=(aK m (aO ri rg));let Z3:=(fy (bY Z1) (ax (nE aN k Z2 (bc Z1) (aO fi fg) ke)) (bn Z1) (bt Z1) (cu Z1));let Z4:=(av (nE aN k Z2 (bc Z1) (aO fi fg) ke));let Z5:=(cB (ax (gv aN Z4 (aO ri rg) Z3)));let Z6:=(cC (ax (gv aN Z4 (aO ri rg) Z3)));let Z7:=(fy (bY Z1) (bc Z1) (ax (nE aN k Z2 (bn Z1) (aO fi fg) ke)) (bt Z1) (cu Z1));let Z8:=(av (nE aN k Z2 (bn Z1) (aO fi fg) ke));let Z9:=(cB (ax (gv aN Z8 (aO ri rg) Z7)));let dO:=(cC (ax (gv aN Z8 (aO ri rg) Z7)));Vc (PP m)/\((cu Z1==(0:Int))=ao->aX (G (bz (aJ [b6 fi,b6 fg])) [dD 1 ti tg,oP Z2,aa (.inl (108,[b6 ri,b6 rg])),aa (.inl (108,[b6 fi,b6 fg])),aa (.inl (75,(du ke))),aa (.inl (108,[b6 fi,b6 fg])),aa (.inl (128,(bj Z1)))]))/\((cu Z1==(0:Int))=an->Vc True/\Vc True/\(decide (gV aN ke (bY Z1)<(0:Int))=ao->Vc ((du ke)=du ke/\PP Z2/\jb aN k Z2 (bc Z1))/\Vc ((bj Z3)=bj Z3/\PP Z4)/\aX (G (bz (aJ [b6 Z5,b6 Z6])) [dD 1 ti tg,oP (av (gv aN Z4 (aO ri rg) Z3)),aa (.inl (108,[b6 ri,b6 rg])),aa (.inl (108,[b6 fi,b6 fg])),aa (.inl (75,(du ke))),aa (.inl (108,[b6 Z5,b6 Z6])),aa (.inl (128,(bj Z3)))]))/\(decide (gV aN ke (bY Z1)<(0:Int))=an->Vc ((du ke)=du ke/\PP Z2/\jb aN k Z2 (bn Z1))/\Vc ((bj Z7)=bj Z7/\PP Z8)/\aX (G (bz (aJ [b6 Z9,b6 dO])) [dD 1 ti tg,oP (av (gv aN Z8 (aO ri rg) Z7)),aa (.inl (108,[b6 ri,b6 rg])),aa (.inl (108,[b6 fi,b6 fg])),aa (.inl (75,(du ke))),aa (.inl (108,[b6 Z9,b6 dO])),aa (.inl (128,(bj Z7)))])))) ?_ (by kernel_rfl)
   intro b6 Z1 Z2 Z3 Z4 Z5 Z6 Z7 Z8 Z9 dO;subst dO Z9 Z8 Z7 Z6 Z5 Z4 Z3 Z2 Z1 b6;simp only[jb] at hd;have done:∀ (i g:Int) (m':Pl) (rest:Hp Rs),nE aN (k+1) m ⟨ri,rg⟩ ⟨fi,fg⟩ ke=(⟨i,g⟩,m')->G (.agg ⟨[.int .i64 i,.int .i64 g]⟩) ([aa (.inl (132,[.pointer (aa ⟨1,0,aj⟩),.int .i64 ti,.int .i64 tg])),aa (.inr (.inr (.inr (.da m'))))]++rest):=by
    intro i g m' rest e;subst hG;refine⟨[0,1],?_,rfl,⟨.inl rfl,?_,trivial⟩,rfl,rfl,rfl,rfl⟩
    ·simp only[e];rfl
    ·simp only[e];rfl
   clear hG
   repeat' (first|apply cX|apply Vc.mk|apply fits.mk|intro h|apply aX.mk)
   all_goals (try simp only[sB] at *)
   all_goals first|contradiction|omega|exact jv ‹_›|exact jw ‹_›|exact ju ‹_›|exact⟨rfl,by omega⟩|exact rfl|(simp[*,-au];done)|skip
   all_goals first|assumption|(simp only[ja];assumption)|skip
   all_goals first|(rw[qw];rcases hd with hd|hd;exfalso;omega;first|exact hd.1|exact hd.2)|skip
   all_goals (refine done _ _ _ _ ?_;rw[nE];(try dsimp only [mY]);repeat' split)
   all_goals first|rfl|(exfalso;omega)|contradiction|exact kd (qY (by assumption)) rfl|(exfalso;simp_all;done)
  ·cases hx
def su  (k:Nat):Prim Rs:=fun args hh=>match args,hh with
 |[.pointer (aa ⟨0,0,aj⟩),.agg ⟨[.int .i64 ri,.int .i64 rg]⟩,.agg ⟨kE⟩],[aa (.inl (132,[.pointer (aa ⟨1,0,aj⟩),.int .i64 ti,.int .i64 tg])),aa (.inr (.inr (.inr (.da m))))]=>aa ⟨kE=du (fR kE)/\(PP m/\jb aN k m ⟨ri,rg⟩),.bool (nF aN k m ⟨ri,rg⟩ (fR kE)).1,aj,[aa (.inl (132,[.pointer (aa ⟨1,0,aj⟩),.int .i64 ti,.int .i64 tg])),aa (.inr (.inr (.inr (.da (nF aN k m ⟨ri,rg⟩ (fR kE)).2))))],[],[(0,0)]⟩
 |_,_=>aj
def PF (k:Nat):eJ Rs:=[(106,bJ zN 2 (a9 I3)),(79,bJ zN 2 (a9 j9)),(137,bJ zN 2 (a9 ID)),(100,bJ zN 2 (a9 (su k)))]
theorem rP:∀ k:Nat,b9 D Tryz.prog 100 (a9 (su k))
 |0=>by
  refine fu Tryz.f100 fun args hh x hx=>?_
  unfold su at hx;split at hx
  ·rename_i ri rg kE ti tg m;cases hx;refine q4 fun _ hv=>?_
   exact kL (ig (ig hv))
  ·cases hx
 |k+1=>by
  have ih:=rP k;refine fu Tryz.f100 fun args hh x hx=>?_
  unfold su at hx;split at hx
  ·rename_i ri rg kE ti tg m;cases hx;refine q4 fun _ hv=>?_
   obtain⟨jT,hv⟩:=hv;generalize fR kE=ke at *;subst jT;obtain⟨hp,hd⟩:=hv
   generalize hG:cj (R:=Rs) _ _=G;refine cL (T:=(PF k)) (show cN D Tryz.prog (PF k) from⟨aU _ _ xT,aU _ _ look_ok,aU _ _ AL,aU _ _ ih,trivial⟩) mixed 200 ?_
   refine bK (q:=let Z6:=bm ar;let Z1:=(br aN m (aO ri rg));let Z2:=(aK m (aO ri rg));let Z3:=(nF aN k Z2 (bc Z1) ke);let Z4:=(nF aN k Z2 (bn Z1) ke);let Z5:=(fy ke (bc Z1) (bn Z1) (bt Z1) (cu Z1));Vc (PP m)/\((cu Z1==(0:Int))=ao->aX (G (aC an) [dD 1 ti tg,oP Z2,aa (.inl (108,[Z6 ri,Z6 rg])),aa (.inl (75,(du ke))),aa (.inl (128,(bj Z1)))]))/\((cu Z1==(0:Int))=an->Vc True/\Vc True/\(decide (gV aN ke (bY Z1)<(0:Int))=ao->Vc ((du ke)=du ke/\PP Z2/\jb aN k Z2 (bc Z1))/\(ax Z3=ao->Vc ((bj Z1)=bj Z1/\PP (av Z3))/\aX (G (aC (ax Z3)) [dD 1 ti tg,oP (sG aN (av Z3) (aO ri rg) Z1),aa (.inl (108,[Z6 ri,Z6 rg])),aa (.inl (75,(du ke))),aa (.inl (128,(bj Z1)))]))/\(ax Z3=an->aX (G (aC (ax Z3)) [dD 1 ti tg,oP (av Z3),aa (.inl (108,[Z6 ri,Z6 rg])),aa (.inl (75,(du ke))),aa (.inl (128,(bj Z1)))])))/\(decide (gV aN ke (bY Z1)<(0:Int))=an->(decide (gV aN ke (bY Z1)>(0:Int))=ao->Vc ((du ke)=du ke/\PP Z2/\jb aN k Z2 (bn Z1))/\(ax Z4=ao->Vc ((bj Z1)=bj Z1/\PP (av Z4))/\aX (G (aC (ax Z4)) [dD 1 ti tg,oP (sG aN (av Z4) (aO ri rg) Z1),aa (.inl (108,[Z6 ri,Z6 rg])),aa (.inl (75,(du ke))),aa (.inl (128,(bj Z1)))]))/\(ax Z4=an->aX (G (aC (ax Z4)) [dD 1 ti tg,oP (av Z4),aa (.inl (108,[Z6 ri,Z6 rg])),aa (.inl (75,(du ke))),aa (.inl (128,(bj Z1)))])))/\(decide (gV aN ke (bY Z1)>(0:Int))=an->Vc ((bj Z5)=bj Z5/\PP Z2)/\aX (G (aC ao) [dD 1 ti tg,oP (sG aN Z2 (aO ri rg) Z5),aa (.inl (108,[Z6 ri,Z6 rg])),aa (.inl (75,(du ke))),aa (.inl (128,(bj Z5)))]))))) ?_ (by kernel_rfl)
   intro Z6 Z1 Z2 Z3 Z4 Z5;subst Z5 Z4 Z3 Z2 Z1 Z6;simp only[jb] at hd;have done:∀ (b:Bool) (m':Pl) (rest:Hp Rs),nF aN (k+1) m ⟨ri,rg⟩ ke=(b,m')->G (.bool b) ([aa (.inl (132,[.pointer (aa ⟨1,0,aj⟩),.int .i64 ti,.int .i64 tg])),aa (.inr (.inr (.inr (.da m'))))]++rest):=by
    intro b m' rest e;subst hG;refine⟨[0,1],?_,rfl,⟨.inl rfl,?_,trivial⟩,rfl,rfl,rfl,rfl⟩
    ·simp only[e];rfl
    ·simp only[e];rfl
   clear hG
   repeat' (first|apply cX|apply Vc.mk|apply fits.mk|intro h|apply aX.mk)
   all_goals (try simp only[sB] at *)
   all_goals first|contradiction|omega|exact jv ‹_›|exact jw ‹_›|exact ju ‹_›|exact⟨rfl,by omega⟩|exact rfl|(simp[*,-au];done)|skip
   all_goals first|assumption|(simp only[ja];assumption)|skip
   all_goals first|(rw[qw];rcases hd with hd|hd;exfalso;omega;first|exact hd.1|exact hd.2)|skip
   all_goals (refine done _ _ _ ?_;rw[nF];(try dsimp only [mY]);repeat' split)
   all_goals first|rfl|(exfalso;omega)|contradiction|exact kd (qY (by assumption)) rfl|(exfalso;simp_all;done)
  ·cases hx
def wY  (k:Nat):Prim Rs:=fun args hh=>match args,hh with
 |[.pointer (aa ⟨0,0,aj⟩),.agg ⟨[.int .i64 ri,.int .i64 rg]⟩],[aa (.inl (132,[.pointer (aa ⟨1,0,aj⟩),.int .i64 ti,.int .i64 tg])),aa (.inr (.inr (.inr (.da m))))]=>aa ⟨PP m/\xh aN k m ⟨ri,rg⟩,.tuple #[.agg ⟨[.int .i64 (kf aN k m ⟨ri,rg⟩).1.i,.int .i64 (kf aN k m ⟨ri,rg⟩).1.g]⟩,.agg ⟨[.int .i64 (kf aN k m ⟨ri,rg⟩).2.1.i,.int .i64 (kf aN k m ⟨ri,rg⟩).2.1.g]⟩],aj,[aa (.inl (132,[.pointer (aa ⟨1,0,aj⟩),.int .i64 ti,.int .i64 tg])),aa (.inr (.inr (.inr (.da (kf aN k m ⟨ri,rg⟩).2.2))))],[],[(0,0)]⟩
 |_,_=>aj
def JI (k:Nat):eJ Rs:=[(79,bJ zN 2 (a9 j9)),(139,bJ zN 2 (a9 uq)),(165,bJ zN 2 (a9 (wY k)))]
theorem vk:∀ k:Nat,b9 D Tryz.prog 165 (a9 (wY k))
 |0=>by
  refine fu Tryz.f165 fun args hh x hx=>?_
  unfold wY at hx;split at hx
  ·rename_i ri rg ti tg m;cases hx;refine q4 fun _ hv=>?_
   exact kL (ig hv)
  ·cases hx
 |k+1=>by
  have ih:=vk k;refine fu Tryz.f165 fun args hh x hx=>?_
  unfold wY at hx;split at hx
  ·rename_i ri rg ti tg m;cases hx;refine q4 fun _ hv=>?_
   obtain⟨hp,hd⟩:=hv;generalize hG:cj (R:=Rs) _ _=G;refine cL (T:=(JI k)) (show cN D Tryz.prog (JI k) from⟨aU _ _ look_ok,aU _ _ ss,aU _ _ ih,trivial⟩) mixed 200 ?_
   refine bK (q:=let Z9:=bm ar;let Z1:=(br aN m (aO ri rg));let Z2:=(if an=ao then !(cB (bc Z1)==(0:Int)&&(cC (bc Z1)==(0:Int)&&ao)) else cB (bc Z1)==(0:Int)&&(cC (bc Z1)==(0:Int)&&ao));let Z3:=(aK m (aO ri rg));let Z4:=(fy (bY Z1) (ax (kf aN k Z3 (bc Z1))) (bn Z1) (bt Z1) (cu Z1));let Z5:=(av (av (kf aN k Z3 (bc Z1))));let Z6:=(cB (ax (gv aN Z5 (aO ri rg) Z4)));let Z7:=(cC (ax (gv aN Z5 (aO ri rg) Z4)));let Z8:=(ax (av (kf aN k Z3 (bc Z1))));Vc (PP m)/\(Z2=ao->aX (G (cq (aJ [.agg (aJ [Z9 (cB (bn Z1)),Z9 (cC (bn Z1))]),bz (aJ [Z9 ri,Z9 rg])])) [dD 1 ti tg,oP Z3,aa (.inl (108,[Z9 ri,Z9 rg])),aa (.inl (108,[Z9 (cB (bn Z1)),Z9 (cC (bn Z1))])),aa (.inl (108,[Z9 ri,Z9 rg])),aa (.inl (128,(bj Z1)))]))/\(Z2=an->Vc (PP Z3/\xh aN k Z3 (bc Z1))/\Vc ((bj Z4)=bj Z4/\PP Z5)/\aX (G (cq (aJ [.agg (aJ [Z9 Z6,Z9 Z7]),bz (aJ [Z9 (cB Z8),Z9 (cC Z8)])])) [dD 1 ti tg,oP (av (gv aN Z5 (aO ri rg) Z4)),aa (.inl (108,[Z9 ri,Z9 rg])),aa (.inl (108,[Z9 Z6,Z9 Z7])),aa (.inl (108,[Z9 (cB Z8),Z9 (cC Z8)])),aa (.inl (128,(bj Z4)))]))) ?_ (by kernel_rfl)
   intro Z9 Z1 Z2 Z3 Z4 Z5 Z6 Z7 Z8;subst Z8 Z7 Z6 Z5 Z4 Z3 Z2 Z1 Z9;simp only[xh] at hd;have done:∀ (i g i2 g2:Int) (m':Pl) (rest:Hp Rs),kf aN (k+1) m ⟨ri,rg⟩=(⟨i,g⟩,⟨i2,g2⟩,m')->G (.tuple #[.agg ⟨[.int .i64 i,.int .i64 g]⟩,.agg ⟨[.int .i64 i2,.int .i64 g2]⟩]) ([aa (.inl (132,[.pointer (aa ⟨1,0,aj⟩),.int .i64 ti,.int .i64 tg])),aa (.inr (.inr (.inr (.da m'))))]++rest):=by
    intro i g i2 g2 m' rest e;subst hG;refine⟨[0,1],?_,rfl,⟨.inl rfl,?_,trivial⟩,rfl,rfl,rfl,rfl⟩
    ·simp only[e];rfl
    ·simp only[e];rfl
   clear hG
   try simp only[KT,Bf]
   repeat' (first|apply cX|apply Vc.mk|apply fits.mk|intro h|apply aX.mk)
   all_goals (try simp only[sB] at *)
   all_goals first|contradiction|omega|exact jv ‹_›|exact jw ‹_›|exact ju ‹_›|exact⟨rfl,by omega⟩|exact rfl|(simp[*,-au];done)|skip
   all_goals first|assumption|(simp only[ja];assumption)|skip
   all_goals first|(rw[Dh];first|assumption|(rw[if_neg (by assumption),Dh] at hd;exact hd))|skip
   all_goals (refine done _ _ _ _ _ _ ?_;rw[kf];(try dsimp only [mY]);repeat' split)
   all_goals first|rfl|(exfalso;omega)|contradiction|exact kd (qY (by assumption)) rfl|(exfalso;simp_all;done)
  ·cases hx
def Ai  (k:Nat):Prim Rs:=fun args hh=>match args,hh with
 |[.pointer (aa ⟨0,0,aj⟩),.agg ⟨[.int .i64 ai,.int .i64 ag]⟩,.agg ⟨[.int .i64 bi,.int .i64 bg]⟩,.agg ⟨[.int .i64 ci,.int .i64 cg]⟩],[aa (.inl (132,[.pointer (aa ⟨1,0,aj⟩),.int .i64 ti,.int .i64 tg])),aa (.inr (.inr (.inr (.da m))))]=>aa ⟨PP m/\vz aN k m ⟨ai,ag⟩ ⟨bi,bg⟩ ⟨ci,cg⟩,.agg ⟨[.int .i64 (kC aN k m ⟨ai,ag⟩ ⟨bi,bg⟩ ⟨ci,cg⟩).1.i,.int .i64 (kC aN k m ⟨ai,ag⟩ ⟨bi,bg⟩ ⟨ci,cg⟩).1.g]⟩,aj,[aa (.inl (132,[.pointer (aa ⟨1,0,aj⟩),.int .i64 ti,.int .i64 tg])),aa (.inr (.inr (.inr (.da (kC aN k m ⟨ai,ag⟩ ⟨bi,bg⟩ ⟨ci,cg⟩).2))))],[],[(0,0)]⟩
 |_,_=>aj
def Pj (k:Nat):eJ Rs:=[(1000000000,lP),(79,bJ zN 2 (a9 j9)),(139,bJ zN 2 (a9 uq)),(158,bJ zN 2 (a9 AO)),(166,bJ zN 2 (a9 (Ai k)))]
theorem xy:∀ k:Nat,b9 D Tryz.prog 166 (a9 (Ai k))
 |0=>by
  refine fu Tryz.f166 fun args hh x hx=>?_
  unfold Ai at hx;split at hx
  ·rename_i ai ag bi bg ci cg ti tg m;cases hx;refine q4 fun _ hv=>?_
   exact kL (ig hv)
  ·cases hx
 |k+1=>by
  have ih:=xy k;refine fu Tryz.f166 fun args hh x hx=>?_
  unfold Ai at hx;split at hx
  ·rename_i ai ag bi bg ci cg ti tg m;cases hx;refine q4 fun _ hv=>?_
   obtain⟨hp,hd⟩:=hv;generalize hG:cj (R:=Rs) _ _=G;refine cL (T:=(Pj k)) (show cN D Tryz.prog (Pj k) from⟨ix,aU _ _ look_ok,aU _ _ ss,aU _ _ xI,aU _ _ ih,trivial⟩) mixed 200 ?_
   refine bK (q:=let gk:=bm ar;let Z1:=(aO ai ag);let Z2:=(br aN m Z1);let Z3:=(aO ci cg);let Z4:=(br aN (aK m Z1) Z3);let Z5:=(cu Z2>ck ar (cu Z4+(1:Int)));let Z6:=(aK (aK m Z1) Z3);let Z7:=(aO bi bg);let Z8:=(fy (bY Z2) (bc Z2) (ax (kC aN k Z6 (bn Z2) Z7 Z3)) (bt Z2) (cu Z2));let Z9:=(gv aN (av (kC aN k Z6 (bn Z2) Z7 Z3)) Z1 Z8);let dO:=(cu Z4>ck ar (cu Z2+(1:Int)));let b6:=(fy (bY Z4) (ax (kC aN k Z6 Z1 Z7 (bc Z4))) (bn Z4) (bt Z4) (cu Z4));let dx:=(gv aN (av (kC aN k Z6 Z1 Z7 (bc Z4))) Z3 b6);let e_:=(fy (bY (br aN Z6 Z7)) Z1 Z3 (bt (br aN Z6 Z7)) (cu (br aN Z6 Z7)));Vc (PP m)/\Vc (PP (aK m Z1))/\Vc True/\(decide Z5=ao->Vc (PP Z6/\vz aN k Z6 (bn Z2) Z7 Z3)/\Vc ((bj Z8)=bj Z8/\PP (av (kC aN k Z6 (bn Z2) Z7 Z3)))/\aX (G (bz (aJ [gk (cB (ax Z9)),gk (cC (ax Z9))])) [dD 1 ti tg,oP (av Z9),aa (.inl (108,[gk ai,gk ag])),aa (.inl (108,[gk bi,gk bg])),aa (.inl (108,[gk ci,gk cg])),aa (.inl (108,[gk (cB (ax Z9)),gk (cC (ax Z9))])),aa (.inl (128,(bj Z8))),aa (.inl (128,(bj Z4)))]))/\(decide Z5=an->Vc True/\(decide dO=ao->Vc (PP Z6/\vz aN k Z6 Z1 Z7 (bc Z4))/\Vc ((bj b6)=bj b6/\PP (av (kC aN k Z6 Z1 Z7 (bc Z4))))/\aX (G (bz (aJ [gk (cB (ax dx)),gk (cC (ax dx))])) [dD 1 ti tg,oP (av dx),aa (.inl (108,[gk ai,gk ag])),aa (.inl (108,[gk bi,gk bg])),aa (.inl (108,[gk ci,gk cg])),aa (.inl (108,[gk (cB (ax dx)),gk (cC (ax dx))])),aa (.inl (128,(bj Z2))),aa (.inl (128,(bj b6)))]))/\(decide dO=an->Vc (PP Z6)/\Vc ((bj e_)=bj e_/\(bj Z2)=bj Z2/\(bj Z4)=bj Z4/\PP (aK Z6 Z7))/\aX (G (bz (aJ [gk bi,gk bg])) [dD 1 ti tg,oP (D5 aN (aK Z6 Z7) Z7 e_ Z2 Z4),aa (.inl (108,[gk ai,gk ag])),aa (.inl (108,[gk bi,gk bg])),aa (.inl (108,[gk ci,gk cg])),aa (.inl (108,[gk bi,gk bg])),aa (.inl (128,(bj Z2))),aa (.inl (128,(bj Z4))),aa (.inl (128,(bj e_)))])))) ?_ (by kernel_rfl)
   intro gk Z1 Z2 Z3 Z4 Z5 Z6 Z7 Z8 Z9 dO b6 dx e_;subst e_ dx b6 dO Z9 Z8 Z7 Z6 Z5 Z4 Z3 Z2 Z1 gk;rw[vz] at hd
   dsimp only [mY] at hd
   have done:∀ (i g:Int) (m':Pl) (rest:Hp Rs),kC aN (k+1) m ⟨ai,ag⟩ ⟨bi,bg⟩ ⟨ci,cg⟩=(⟨i,g⟩,m')->G (.agg ⟨[.int .i64 i,.int .i64 g]⟩) ([aa (.inl (132,[.pointer (aa ⟨1,0,aj⟩),.int .i64 ti,.int .i64 tg])),aa (.inr (.inr (.inr (.da m'))))]++rest):=by
    intro i g m' rest e;subst hG;refine⟨[0,1],?_,rfl,⟨.inl rfl,?_,trivial⟩,rfl,rfl,rfl,rfl⟩
    ·simp only[e];rfl
    ·simp only[e];rfl
   clear hG
   repeat' (first|apply cX|apply Vc.mk|apply fits.mk|intro h|apply aX.mk)
   all_goals (try simp only[sB] at *)
   all_goals first|contradiction|omega|exact jv ‹_›|exact jw ‹_›|exact ju ‹_›|exact⟨rfl,by omega⟩|exact rfl|(simp[*,-au];done)|skip
   all_goals first|assumption|(simp only[ja];assumption)|skip
   all_goals first|(rw[if_pos (by assumption)] at hd;exact hd)|(rw[if_neg (by omega),if_pos (by assumption)] at hd;exact hd)|skip
   all_goals (refine done _ _ _ _ ?_;rw[kC];(try dsimp only [mY]);repeat' split)
   all_goals first|rfl|(exfalso;omega)|contradiction|exact kd (qY (by assumption)) rfl|(exfalso;simp_all;done)
  ·cases hx
def HV (K:Nat):Prim Rs:=fun args hh=>match args,hh with
 |[.pointer (aa ⟨0,0,aj⟩),.agg ⟨[.int .i64 ai,.int .i64 ag]⟩,.agg ⟨[.int .i64 ci,.int .i64 cg]⟩],[aa (.inl (132,[.pointer (aa ⟨1,0,aj⟩),.int .i64 ti,.int .i64 tg])),aa (.inr (.inr (.inr (.da m))))]=>aa ⟨PP m/\Fs aN K m ⟨ai,ag⟩ ⟨ci,cg⟩,.agg ⟨[.int .i64 (sf aN K m ⟨ai,ag⟩ ⟨ci,cg⟩).1.i,.int .i64 (sf aN K m ⟨ai,ag⟩ ⟨ci,cg⟩).1.g]⟩,aj,[aa (.inl (132,[.pointer (aa ⟨1,0,aj⟩),.int .i64 ti,.int .i64 tg])),aa (.inr (.inr (.inr (.da (sf aN K m ⟨ai,ag⟩ ⟨ci,cg⟩).2))))],[],[(0,0)]⟩
 |_,_=>aj
def P3 (K:Nat):eJ Rs:=[(165,bJ zN 2 (a9 (wY K))),(166,bJ zN 2 (a9 (Ai K)))]
theorem GP (K:Nat):b9 D Tryz.prog 146 (a9 (HV K)):=by
 refine fu Tryz.f146 fun args hh x hx=>?_
 unfold HV at hx;split at hx
 ·rename_i ai ag ci cg ti tg m;cases hx;refine q4 fun _ hv=>?_
  obtain⟨hp,hd⟩:=hv;generalize hG:cj (R:=Rs) _ _=G;refine cL (T:=(P3 K)) (show cN D Tryz.prog (P3 K) from⟨aU _ _ (vk K),aU _ _ (xy K),trivial⟩) mixed 200 ?_
  refine bK (q:=let Z7:=bm ar;let Z1:=(if an=ao then !(ci==(0:Int)&&(cg==(0:Int)&&ao)) else ci==(0:Int)&&(cg==(0:Int)&&ao));let Z2:=(av (av (kf aN K m (aO ci cg))));let Z3:=(ax (av (kf aN K m (aO ci cg))));let Z4:=(ax (kf aN K m (aO ci cg)));let Z5:=(cB (ax (kC aN K Z2 (aO ai ag) Z3 Z4)));let Z6:=(cC (ax (kC aN K Z2 (aO ai ag) Z3 Z4)));(Z1=ao->aX (G (bz (aJ [Z7 ai,Z7 ag])) [dD 1 ti tg,oP m,aa (.inl (108,[Z7 ai,Z7 ag])),aa (.inl (108,[Z7 ci,Z7 cg])),aa (.inl (108,[Z7 ai,Z7 ag]))]))/\(Z1=an->Vc (PP m/\xh aN K m (aO ci cg))/\Vc (PP Z2/\vz aN K Z2 (aO ai ag) Z3 Z4)/\aX (G (bz (aJ [Z7 Z5,Z7 Z6])) [dD 1 ti tg,oP (av (kC aN K Z2 (aO ai ag) Z3 Z4)),aa (.inl (108,[Z7 ai,Z7 ag])),aa (.inl (108,[Z7 ci,Z7 cg])),aa (.inl (108,[Z7 Z5,Z7 Z6])),aa (.inl (108,[Z7 (cB Z4),Z7 (cC Z4)])),aa (.inl (108,[Z7 (cB Z3),Z7 (cC Z3)]))]))) ?_ (by kernel_rfl)
  intro Z7 Z1 Z2 Z3 Z4 Z5 Z6;subst Z6 Z5 Z4 Z3 Z2 Z1 Z7;unfold Fs at hd;have done:∀ (i g:Int) (m':Pl) (rest:Hp Rs),sf aN K m ⟨ai,ag⟩ ⟨ci,cg⟩=(⟨i,g⟩,m')->G (.agg ⟨[.int .i64 i,.int .i64 g]⟩) ([aa (.inl (132,[.pointer (aa ⟨1,0,aj⟩),.int .i64 ti,.int .i64 tg])),aa (.inr (.inr (.inr (.da m'))))]++rest):=by
   intro i g m' rest e;subst hG;refine⟨[0,1],?_,rfl,⟨.inl rfl,?_,trivial⟩,rfl,rfl,rfl,rfl⟩
   ·simp only[e];rfl
   ·simp only[e];rfl
  clear hG
  try simp only[KT,Bf]
  repeat' (first|apply cX|apply Vc.mk|apply fits.mk|intro h|apply aX.mk)
  all_goals (try simp only[sB] at *)
  all_goals first|contradiction|omega|exact jv ‹_›|exact jw ‹_›|exact ju ‹_›|exact⟨rfl,by omega⟩|exact rfl|(simp[*,-au];done)|skip
  all_goals first|assumption|(simp only[ja];assumption)|skip
  all_goals first|(rw[if_neg (by assumption)] at hd;first|exact hd.1|exact hd.2)|skip
  all_goals (refine done _ _ _ _ ?_;unfold sf;(try dsimp only [mY]);repeat' split)
  all_goals first|rfl|(exfalso;omega)|contradiction|exact kd (qY (by assumption)) rfl|(exfalso;simp_all;done)
 ·cases hx
def A3 (K:Nat) (k:Nat):Prim Rs:=fun args hh=>match args,hh with
 |[.pointer (aa ⟨0,0,aj⟩),.agg ⟨[.int .i64 ri,.int .i64 rg]⟩,.agg ⟨kE⟩],[aa (.inl (132,[.pointer (aa ⟨1,0,aj⟩),.int .i64 ti,.int .i64 tg])),aa (.inr (.inr (.inr (.da m))))]=>aa ⟨kE=du (fR kE)/\(PP m/\sH aN K k m ⟨ri,rg⟩ (fR kE)),.tuple #[.agg ⟨[.int .i64 (jt aN K k m ⟨ri,rg⟩ (fR kE)).1.i,.int .i64 (jt aN K k m ⟨ri,rg⟩ (fR kE)).1.g]⟩,.agg ⟨[.int .i64 (jt aN K k m ⟨ri,rg⟩ (fR kE)).2.1.i,.int .i64 (jt aN K k m ⟨ri,rg⟩ (fR kE)).2.1.g]⟩],aj,[aa (.inl (132,[.pointer (aa ⟨1,0,aj⟩),.int .i64 ti,.int .i64 tg])),aa (.inr (.inr (.inr (.da (jt aN K k m ⟨ri,rg⟩ (fR kE)).2.2))))],[],[(0,0)]⟩
 |_,_=>aj
def OA (K:Nat) (k:Nat):eJ Rs:=[(106,bJ zN 2 (a9 I3)),(79,bJ zN 2 (a9 j9)),(139,bJ zN 2 (a9 uq)),(146,bJ zN 2 (a9 (HV K))),(115,bJ zN 2 (a9 (A3 K k)))]
theorem xH (K:Nat):∀ k:Nat,b9 D Tryz.prog 115 (a9 (A3 K k))
 |0=>by
  refine fu Tryz.f115 fun args hh x hx=>?_
  unfold A3 at hx;split at hx
  ·rename_i ri rg kE ti tg m;cases hx;refine q4 fun _ hv=>?_
   exact kL (ig (ig hv))
  ·cases hx
 |k+1=>by
  have ih:=xH K k;refine fu Tryz.f115 fun args hh x hx=>?_
  unfold A3 at hx;split at hx
  ·rename_i ri rg kE ti tg m;cases hx;refine q4 fun _ hv=>?_
   obtain⟨jT,hv⟩:=hv;generalize fR kE=ke at *;subst jT;obtain⟨hp,hd⟩:=hv
   generalize hG:cj (R:=Rs) _ _=G;refine cL (T:=(OA K k)) (show cN D Tryz.prog (OA K k) from⟨aU _ _ xT,aU _ _ look_ok,aU _ _ ss,aU _ _ (GP K),aU _ _ ih,trivial⟩) mixed 200 ?_
   refine bK (q:=let fx:=bm ar;let Z1:=(br aN m (aO ri rg));let Z2:=(aJ [fx ri,fx rg]);let Z3:=(aK m (aO ri rg));let Z4:=(ax (av (jt aN K k Z3 (bc Z1) ke)));let Z5:=(if an=ao then !(cB Z4==(0:Int)&&(cC Z4==(0:Int)&&ao)) else cB Z4==(0:Int)&&(cC Z4==(0:Int)&&ao));let Z6:=(av (av (jt aN K k Z3 (bc Z1) ke)));let Z7:=(fy (bY Z1) (ax (jt aN K k Z3 (bc Z1) ke)) (bn Z1) (bt Z1) (cu Z1));let Z8:=(cB (ax (gv aN Z6 (aO ri rg) Z7)));let Z9:=(cC (ax (gv aN Z6 (aO ri rg) Z7)));let dO:=(ax (av (jt aN K k Z3 (bn Z1) ke)));let b6:=(if an=ao then !(cB dO==(0:Int)&&(cC dO==(0:Int)&&ao)) else cB dO==(0:Int)&&(cC dO==(0:Int)&&ao));let dx:=(av (av (jt aN K k Z3 (bn Z1) ke)));let e_:=(fy (bY Z1) (bc Z1) (ax (jt aN K k Z3 (bn Z1) ke)) (bt Z1) (cu Z1));let gk:=(cB (ax (gv aN dx (aO ri rg) e_)));let kU:=(cC (ax (gv aN dx (aO ri rg) e_)));let jS:=(ax (sf aN K Z3 (bc Z1) (bn Z1)));Vc (PP m)/\((cu Z1==(0:Int))=ao->aX (G (cq (aJ [.agg Z2,bz (aJ [fx 0,fx 0])])) [dD 1 ti tg,oP Z3,aa (.inl (108,[fx ri,fx rg])),aa (.inl (75,(du ke))),aa (.inl (108,[fx ri,fx rg])),aa (.inl (108,[fx 0,fx 0])),aa (.inl (128,(bj Z1)))]))/\((cu Z1==(0:Int))=an->Vc True/\Vc True/\(decide (gV aN ke (bY Z1)<(0:Int))=ao->Vc ((du ke)=du ke/\PP Z3/\sH aN K k Z3 (bc Z1) ke)/\(Z5=ao->aX (G (cq (aJ [.agg Z2,bz (aJ [fx (cB Z4),fx (cC Z4)])])) [dD 1 ti tg,oP Z6,aa (.inl (108,[fx ri,fx rg])),aa (.inl (75,(du ke))),aa (.inl (108,[fx ri,fx rg])),aa (.inl (108,[fx (cB Z4),fx (cC Z4)])),aa (.inl (128,(bj Z7)))]))/\(Z5=an->Vc ((bj Z7)=bj Z7/\PP Z6)/\aX (G (cq (aJ [.agg (aJ [fx Z8,fx Z9]),bz (aJ [fx (cB Z4),fx (cC Z4)])])) [dD 1 ti tg,oP (av (gv aN Z6 (aO ri rg) Z7)),aa (.inl (108,[fx ri,fx rg])),aa (.inl (75,(du ke))),aa (.inl (108,[fx Z8,fx Z9])),aa (.inl (108,[fx (cB Z4),fx (cC Z4)])),aa (.inl (128,(bj Z7)))])))/\(decide (gV aN ke (bY Z1)<(0:Int))=an->(decide (gV aN ke (bY Z1)>(0:Int))=ao->Vc ((du ke)=du ke/\PP Z3/\sH aN K k Z3 (bn Z1) ke)/\(b6=ao->aX (G (cq (aJ [.agg Z2,bz (aJ [fx (cB dO),fx (cC dO)])])) [dD 1 ti tg,oP dx,aa (.inl (108,[fx ri,fx rg])),aa (.inl (75,(du ke))),aa (.inl (108,[fx ri,fx rg])),aa (.inl (108,[fx (cB dO),fx (cC dO)])),aa (.inl (128,(bj e_)))]))/\(b6=an->Vc ((bj e_)=bj e_/\PP dx)/\aX (G (cq (aJ [.agg (aJ [fx gk,fx kU]),bz (aJ [fx (cB dO),fx (cC dO)])])) [dD 1 ti tg,oP (av (gv aN dx (aO ri rg) e_)),aa (.inl (108,[fx ri,fx rg])),aa (.inl (75,(du ke))),aa (.inl (108,[fx gk,fx kU])),aa (.inl (108,[fx (cB dO),fx (cC dO)])),aa (.inl (128,(bj e_)))])))/\(decide (gV aN ke (bY Z1)>(0:Int))=an->Vc (PP Z3/\Fs aN K Z3 (bc Z1) (bn Z1))/\aX (G (cq (aJ [.agg (aJ [fx (cB jS),fx (cC jS)]),bz Z2])) [dD 1 ti tg,oP (av (sf aN K Z3 (bc Z1) (bn Z1))),aa (.inl (108,[fx ri,fx rg])),aa (.inl (75,(du ke))),aa (.inl (108,[fx (cB jS),fx (cC jS)])),aa (.inl (108,[fx ri,fx rg])),aa (.inl (128,(bj Z1)))]))))) ?_ (by kernel_rfl)
   intro fx Z1 Z2 Z3 Z4 Z5 Z6 Z7 Z8 Z9 dO b6 dx e_ gk kU jS;subst jS kU gk e_ dx b6 dO Z9 Z8 Z7 Z6 Z5 Z4 Z3 Z2 Z1 fx;rw[sH] at hd;have done:∀ (i g i2 g2:Int) (m':Pl) (rest:Hp Rs),jt aN K (k+1) m ⟨ri,rg⟩ ke=(⟨i,g⟩,⟨i2,g2⟩,m')->G (.tuple #[.agg ⟨[.int .i64 i,.int .i64 g]⟩,.agg ⟨[.int .i64 i2,.int .i64 g2]⟩]) ([aa (.inl (132,[.pointer (aa ⟨1,0,aj⟩),.int .i64 ti,.int .i64 tg])),aa (.inr (.inr (.inr (.da m'))))]++rest):=by
    intro i g i2 g2 m' rest e;subst hG;refine⟨[0,1],?_,rfl,⟨.inl rfl,?_,trivial⟩,rfl,rfl,rfl,rfl⟩
    ·simp only[e];rfl
    ·simp only[e];rfl
   clear hG
   try simp only[KT,Bf]
   repeat' (first|apply cX|apply Vc.mk|apply fits.mk|intro h|apply aX.mk)
   all_goals (try simp only[sB] at *)
   all_goals first|contradiction|omega|exact jv ‹_›|exact jw ‹_›|exact ju ‹_›|exact⟨rfl,by omega⟩|exact rfl|(simp[*,-au];done)|skip
   all_goals first|assumption|(simp only[ja];assumption)|skip
   all_goals first|(rw[if_neg (by assumption),if_pos (by assumption)] at hd;exact hd)|(rw[if_neg (by assumption),if_neg (by omega),if_pos (by assumption)] at hd;exact hd)|(rw[if_neg (by assumption),if_neg (by omega),if_neg (by omega)] at hd;exact hd)|skip
   all_goals (refine done _ _ _ _ _ _ ?_;rw[jt];(try dsimp only [mY]);repeat' split)
   all_goals first|rfl|(exfalso;omega)|contradiction|exact kd (qY (by assumption)) rfl|(exfalso;simp_all;done)
  ·cases hx
def uH  (k:Nat):Prim Rs:=fun args hh=>match args,hh with
 |[.pointer (aa ⟨0,0,aj⟩),.slice (aa ⟨1,0,aa 4000⟩) n cp,.agg ⟨[.int .i64 ri,.int .i64 rg]⟩],[aa (.inl (132,[.pointer (aa ⟨2,0,aj⟩),.int .i64 ti,.int .i64 tg])),aa (.inr (.inl (75,⟨[.int .i64 0,.int .i64 0,.bool an,.int .i64 0],n2,[⟨a0,[],[]⟩,⟨a1,[],[]⟩,⟨[],a2,[]⟩,⟨a3,[],[]⟩]⟩))),aa (.inr (.inr (.inr (.da m))))]=>aa ⟨(PP m/\n2=n/\a0.length=n/\a1.length=n/\a2.length=n/\a3.length=n/\n+(bW aN k m ⟨ri,rg⟩).1.length<900000)/\jb aN k m ⟨ri,rg⟩,.slice (aa ⟨3,0,aa 4000⟩) (n+(bW aN k m ⟨ri,rg⟩).1.length) (if(bW aN k m ⟨ri,rg⟩).1.length=0 then cp else 0),aj,[aa (.inl (132,[.pointer (aa ⟨2,0,aj⟩),.int .i64 ti,.int .i64 tg])),aj,aa (.inr (.inr (.inr (.da (bW aN k m ⟨ri,rg⟩).2)))),aa (.inr (.inl (75,⟨[.int .i64 0,.int .i64 0,.bool an,.int .i64 0],(n+(bW aN k m ⟨ri,rg⟩).1.length),[⟨(a0++(bW aN k m ⟨ri,rg⟩).1.map fun e=>e.it.k),[],[]⟩,⟨(a1++(bW aN k m ⟨ri,rg⟩).1.map fun e=>e.it.i),[],[]⟩,⟨[],(a2++(bW aN k m ⟨ri,rg⟩).1.map fun e=>e.kD),[]⟩,⟨(a3++(bW aN k m ⟨ri,rg⟩).1.map fun e=>e.time),[],[]⟩]⟩)))],[],[(0,0)]⟩
 |_,_=>aj
def GZ (k:Nat):eJ Rs:=[(79,bJ zN 2 (a9 j9)),(93,bJ zN 2 (a9 (uH k)))]
theorem qJ:∀ k:Nat,b9 D Tryz.prog 93 (a9 (uH k))
 |0=>by
  refine fu Tryz.f93 fun args hh x hx=>?_
  unfold uH at hx;split at hx
  ·rename_i n cp ri rg ti tg n2 a0 a1 a2 a3 m;cases hx;refine q4 fun _ hv=>?_
   exact kL (ig hv)
  ·cases hx
 |k+1=>by
  have ih:=qJ k;refine fu Tryz.f93 fun args hh x hx=>?_
  unfold uH at hx;split at hx
  ·rename_i n cp ri rg ti tg n2 a0 a1 a2 a3 m;cases hx;refine q4 fun _ hv=>?_
   obtain⟨⟨hp,rfl,ha0,ha1,ha2,ha3,hb⟩,hd⟩:=hv;generalize hG:cj (R:=Rs) _ _=G;refine cL (T:=(GZ k)) (show cN D Tryz.prog (GZ k) from⟨aU _ _ look_ok,aU _ _ ih,trivial⟩) mixed 200 ?_
   refine bK (q:=let Z1:=(br aN m (aO ri rg));let Z2:=(du (js (cU 0 0) an 0));let Z3:=(aK m (aO ri rg));let Z4:=(ax (bW aN k Z3 (bc Z1)));let Z5:=(n2+ae Z4);let Z6:=(av (bW aN k Z3 (bc Z1)));let Z7:=(bY Z1);let Z8:=(ax (bW aN k Z6 (bn Z1)));Vc (PP m)/\((cu Z1==(0:Int))=ao->aX (G (bD (aa ⟨1,0,aa 4000⟩) n2 cp) [dD 2 ti tg,aa (.inr (.inl (75,Row.mk Z2 n2 [aW.mk a0 [] [],aW.mk a1 [] [],aW.mk [] a2 [],aW.mk a3 [] []]))),oP Z3,aa (.inl (108,[.int ar ri,.int ar rg])),aa (.inr (.inl (75,Row.mk Z2 0 [aW.mk [] [] [],aW.mk [] [] [],aW.mk [] [] [],aW.mk [] [] []]))),aa (.inl (128,(bj Z1)))]))/\((cu Z1==(0:Int))=an->Vc ((PP Z3/\n2=n2/\ae a0=n2/\ae a1=n2/\ae a2=n2/\ae a3=n2/\n2+ae Z4<900000)/\jb aN k Z3 (bc Z1))/\Vc (0+Z5≤n2+ae Z4/\1≤1/\(n2+ae Z4+1)*32≤140737488355328/\n2+ae Z4+1≤140737488355328)/\Vc ((PP Z6/\n2+ae Z4+1=n2+ae Z4+1/\ae (cut (a0++ay (fun e=>m8 (lO e)) Z4) 0 Z5++cut [m8 (lO Z7)] 0 1)=n2+ae Z4+1/\ae (cut (a1++ay (fun e=>m9 (lO e)) Z4) 0 Z5++cut [m9 (lO Z7)] 0 1)=n2+ae Z4+1/\ae (cut (a2++ay (fun e=>oZ e) Z4) 0 Z5++cut [oZ Z7] 0 1)=n2+ae Z4+1/\ae (cut (a3++ay (fun e=>qx e) Z4) 0 Z5++cut [qx Z7] 0 1)=n2+ae Z4+1/\n2+ae Z4+1+ae Z8<900000)/\jb aN k Z6 (bn Z1))/\aX (G (bD (aa ⟨9,0,aa 4000⟩) (n2+ae Z4+1+ae Z8) (if ae Z8=0 then 0 else 0)) [dD 2 ti tg,aj,oP (av (bW aN k Z6 (bn Z1))),aa (.inl (108,[.int ar ri,.int ar rg])),aa (.inr (.inl (75,Row.mk Z2 0 [aW.mk [] [] [],aW.mk [] [] [],aW.mk [] [] [],aW.mk [] [] []]))),aa (.inl (128,(bj Z1))),aj,aa (.inr (.inl (75,Row.mk Z2 1 [aW.mk [m8 (lO Z7)] [] [],aW.mk [m9 (lO Z7)] [] [],aW.mk [] [oZ Z7] [],aW.mk [qx Z7] [] []]))),aj,aa (.inr (.inl (75,Row.mk Z2 (n2+ae Z4+1+ae Z8) [aW.mk (cut (a0++ay (fun e=>m8 (lO e)) Z4) 0 Z5++cut [m8 (lO Z7)] 0 1++ay (fun e=>m8 (lO e)) Z8) [] [],aW.mk (cut (a1++ay (fun e=>m9 (lO e)) Z4) 0 Z5++cut [m9 (lO Z7)] 0 1++ay (fun e=>m9 (lO e)) Z8) [] [],aW.mk [] (cut (a2++ay (fun e=>oZ e) Z4) 0 Z5++cut [oZ Z7] 0 1++ay (fun e=>oZ e) Z8) [],aW.mk (cut (a3++ay (fun e=>qx e) Z4) 0 Z5++cut [qx Z7] 0 1++ay (fun e=>qx e) Z8) [] []])))]))) ?_ (by kernel_rfl)
   intro Z1 Z2 Z3 Z4 Z5 Z6 Z7 Z8;subst Z8 Z7 Z6 Z5 Z4 Z3 Z2 Z1;simp only[jb] at hd;subst hG;have c1:∀ x:Int,cut [x] 0 1=[x]:=fun x=>rfl
   have c2:∀ x:Bool,cut [x] 0 1=[x]:=fun x=>rfl
   have e0:(br aN m (⟨ri,rg⟩:bk)).h=0->bW aN (k+1) m (⟨ri,rg⟩:bk)=([],aK m (⟨ri,rg⟩:bk)):=fun h=>by rw[bW,if_pos h]
   have e1:(br aN m (⟨ri,rg⟩:bk)).h≠0->bW aN (k+1) m (⟨ri,rg⟩:bk)=((bW aN k (aK m (⟨ri,rg⟩:bk)) (br aN m (⟨ri,rg⟩:bk)).l).1++(br aN m (⟨ri,rg⟩:bk)).e::(bW aN k (bW aN k (aK m (⟨ri,rg⟩:bk)) (br aN m (⟨ri,rg⟩:bk)).l).2 (br aN m (⟨ri,rg⟩:bk)).r).1,(bW aN k (bW aN k (aK m (⟨ri,rg⟩:bk)) (br aN m (⟨ri,rg⟩:bk)).l).2 (br aN m (⟨ri,rg⟩:bk)).r).2):=fun h=>by rw[bW,if_neg h]
   have Mq:(br aN m (⟨ri,rg⟩:bk)).h≠0->n2+((bW aN k (aK m (⟨ri,rg⟩:bk)) (br aN m (⟨ri,rg⟩:bk)).l).1.length+((bW aN k (bW aN k (aK m (⟨ri,rg⟩:bk)) (br aN m (⟨ri,rg⟩:bk)).l).2 (br aN m (⟨ri,rg⟩:bk)).r).1.length+1))<900000:=fun h=>by rw[e1 h] at hb;simpa using hb
   generalize hx:bW aN k (aK m (⟨ri,rg⟩:bk)) (br aN m (⟨ri,rg⟩:bk)).l=x at *
   generalize hy:bW aN k x.2 (br aN m (⟨ri,rg⟩:bk)).r=y at *
   have hxp:PP x.2:=by rw[← hx];exact Gv.qJ.2 (jc.2 hp)
   have xd:∀ q,jb aN k x.2 q↔jb aN k m q:=fun q=>by rw[← hx,Gv.Mv,qw]
   simp only[fE (show(a0++x.1.map fun e=>e.it.k).length=n2+x.1.length by simp[ha0]),fE (show(a1++x.1.map fun e=>e.it.i).length=n2+x.1.length by simp[ha1]),fE (show(a2++x.1.map fun e=>e.kD).length=n2+x.1.length by simp[ha2]),fE (show(a3++x.1.map fun e=>e.time).length=n2+x.1.length by simp[ha3]),c1,c2,qw,xd]
   repeat' (first|apply cX|apply Vc.mk|apply fits.mk|intro h|apply aX.mk)
   all_goals (try simp only[sB] at *)
   all_goals first|contradiction|omega|exact jv ‹_›|exact jw ‹_›|exact ju ‹_›|exact⟨rfl,by omega⟩|exact rfl|(simp[*,-au];done)|skip
   all_goals first|omega|assumption|exact jc.2 hp|(rcases hd with hd|hd;exfalso;omega;first|exact hd.1|exact hd.2)|(have:=Mq (by assumption);omega)|(simp;omega)|skip
   ·have h0:(br aN m (⟨ri,rg⟩:bk)).h=0:=by assumption
    rw[e0 h0];simp only[jM,if_true];refine⟨[0,1,2,1],?_,rfl,?_,rfl,rfl,rfl,(by kernel_rfl)⟩
    ·rfl
    ·simp[du,tW,AE,nth,fW,wI,pB,lR,gh,v7,ub,B6,zi,Gb,yP,AF]
   ·have h0:(br aN m (⟨ri,rg⟩:bk)).h≠0:=by assumption
    rw[e1 h0];have e2:n2+(x.1++(br aN m (⟨ri,rg⟩:bk)).e::y.1).length=n2+x.1.length+1+y.1.length:=by simp;omega
    have e3:(x.1++(br aN m (⟨ri,rg⟩:bk)).e::y.1).length≠0:=by simp
    simp only[e2,if_neg e3,ite_self];refine⟨[0,1,2,9],?_,rfl,?_,rfl,rfl,rfl,(by kernel_rfl)⟩
    ·rfl
    ·simp[du,tW,AE,nth,fW,wI,pB,lR,gh,v7,ub,B6,zi,Gb,yP,AF]
     all_goals first|rfl|omega|skip
  ·cases hx
set_option maxHeartbeats 16000000
def TY:eJ Rs:=[(131,bJ zN 2 (a9 Nu))]
theorem QF:cN D Tryz.prog TY:=⟨aU _ _ UI,trivial⟩
def Iz:Prim Rs:=fun args hh=>match args,hh with
 |[.int .i64 c],[]=>aa ⟨True,.pointer (aa ⟨0,0,aj⟩),aj,[aa (.inl (132,[.pointer (aa ⟨1,0,aj⟩),.int .i64 Gv.r0.i,.int .i64 Gv.r0.g])),aa (.inr (.inr (.inr (.da ⟨[],[],[],[],0,min (max c 0) 16777216,0⟩))))],[],[(0,0)]⟩
 |_,_=>aj
theorem Rr:b9 D Tryz.prog 91 (a9 Iz):=by
 refine fu Tryz.f91 fun args hh x hx=>?_
 unfold Iz at hx;split at hx
 ·rename_i c;cases hx;refine q4 fun _ hv=>?_
  generalize hG:cj (R:=Rs) _ _=G;refine cL (T:=TY) QF mixed 200 ?_;refine bK (q:=Vc True/\aX (G (aB (aa ⟨1,0,aj⟩)) [oP (Gv.PM.mk [] [] [] [] (0:Int) (min (max c (0:Int)) (16777216:Int)) (0:Int)),dD 0 0 0])) ?_ (by kernel_rfl)
  subst hG
  repeat' (first|apply cX|apply Vc.mk|apply fits.mk|intro h|apply aX.mk)
  all_goals (try simp only[sB] at *)
  all_goals first|contradiction|omega|exact jv ‹_›|exact jw ‹_›|exact ju ‹_›|exact⟨rfl,by omega⟩|exact rfl|(simp[*,-au];done)|skip
  exact⟨[1,0],rfl,rfl,⟨.inl rfl,rfl,trivial⟩,rfl,rfl,rfl,rfl⟩
 ·cases hx
def Ks:eJ Rs:=[(79,bJ zN 2 (a9 j9))]
theorem JT:cN D Tryz.prog Ks:=⟨aU _ _ look_ok,trivial⟩
def B1:Prim Rs:=fun args hh=>match args,hh with
 |[.pointer (aa ⟨0,0,aj⟩)],[aa (.inl (132,[.pointer (aa ⟨1,0,aj⟩),.int .i64 ti,.int .i64 tg])),aa (.inr (.inr (.inr (.da m))))]=>aa ⟨PP m,.int .i64 (br aN m (⟨ti,tg⟩:bk)).all.n,aj,[aa (.inl (132,[.pointer (aa ⟨1,0,aj⟩),.int .i64 ti,.int .i64 tg])),aa (.inr (.inr (.inr (.da (aK m (⟨ti,tg⟩:bk))))))],[],[(0,0)]⟩
 |_,_=>aj
theorem JR:b9 D Tryz.prog 38 (a9 B1):=by
 refine fu Tryz.f38 fun args hh x hx=>?_
 unfold B1 at hx;split at hx
 ·rename_i ti tg m;cases hx;refine q4 fun _ hv=>?_
  generalize hG:cj (R:=Rs) _ _=G;refine cL (T:=Ks) JT mixed 200 ?_;refine bK (q:=Vc (PP m)/\aX (G (bm ar (bM (bt (br aN m (aO ti tg))))) [dD 1 ti tg,oP (aK m (aO ti tg))])) ?_ (by kernel_rfl)
  subst hG
  repeat' (first|apply cX|apply Vc.mk|apply fits.mk|intro h|apply aX.mk)
  all_goals (try simp only[sB] at *)
  all_goals first|contradiction|omega|exact jv ‹_›|exact jw ‹_›|exact ju ‹_›|exact⟨rfl,by omega⟩|exact rfl|(simp[*,-au];done)|skip
  all_goals first|assumption|(simp only[ja];assumption)|skip
  exact⟨[0,1],rfl,rfl,⟨.inl rfl,rfl,trivial⟩,rfl,rfl,rfl,rfl⟩
 ·cases hx
def V':eJ Rs:=[(118,bJ zN 2 (a9 B7))]
theorem Q4:cN D Tryz.prog V':=⟨aU _ _ Kb,trivial⟩
def yV:Prim Rs:=fun args hh=>match args,hh with
 |[.pointer (aa ⟨0,0,aj⟩)],[aa (.inl (132,[.pointer (aa ⟨1,0,aj⟩),.int .i64 ti,.int .i64 tg])),aa (.inr (.inr (.inr (.da m))))]=>aa ⟨True,.int .i64 m.cW,aj,hh,[],[]⟩
 |_,_=>aj
theorem HR:b9 D Tryz.prog 77 (a9 yV):=by
 refine fu Tryz.f77 fun args hh x hx=>?_
 unfold yV at hx;split at hx
 ·rename_i ti tg m;cases hx;refine q4 fun _ hv=>?_
  generalize hG:cj (R:=Rs) _ _=G;refine cL (T:=V') Q4 mixed 200 ?_;refine bK (q:=Vc True/\aX (G (bm ar (gU m)) [dD 1 ti tg,oP m])) ?_ (by kernel_rfl)
  subst hG
  repeat' (first|apply cX|apply Vc.mk|apply fits.mk|intro h|apply aX.mk)
  all_goals (try simp only[sB] at *)
  all_goals first|contradiction|omega|exact jv ‹_›|exact jw ‹_›|exact ju ‹_›|exact⟨rfl,by omega⟩|exact rfl|(simp[*,-au];done)|skip
  exact⟨[0,1],rfl,rfl,⟨.inl rfl,rfl,trivial⟩,rfl,rfl,rfl,rfl⟩
 ·cases hx
def Ih (K:Nat):Prim Rs:=fun args hh=>match args,hh with
 |[.pointer (aa ⟨0,0,aj⟩),.agg ⟨kE⟩],[aa (.inl (132,[.pointer (aa ⟨1,0,aj⟩),.int .i64 ti,.int .i64 tg])),aa (.inr (.inr (.inr (.da m))))]=>aa ⟨kE=du (fR kE)/\(PP m/\Gv.QT aN K m (⟨ti,tg⟩:bk) (fR kE)),.bool (uP aN K m (⟨ti,tg⟩:bk) (fR kE)).1,aj,[aa (.inl (132,[.pointer (aa ⟨1,0,aj⟩),.int .i64 (uP aN K m (⟨ti,tg⟩:bk) (fR kE)).2.1.i,.int .i64 (uP aN K m (⟨ti,tg⟩:bk) (fR kE)).2.1.g])),aa (.inr (.inr (.inr (.da (uP aN K m (⟨ti,tg⟩:bk) (fR kE)).2.2))))],[],[(0,0)]⟩
 |_,_=>aj
def Om (K:Nat):eJ Rs:=[(100,bJ zN 2 (a9 (su K))),(102,bJ zN 2 (a9 Ag)),(101,bJ zN 2 (a9 Ia)),(103,bJ zN 2 (a9 (As K)))]
theorem Qu (K:Nat):b9 D Tryz.prog 68 (a9 (Ih K)):=by
 refine fu Tryz.f68 fun args hh x hx=>?_
 unfold Ih at hx;split at hx
 ·rename_i kE ti tg m;cases hx;refine q4 fun _ hv=>?_
  obtain⟨jT,hv⟩:=hv;generalize fR kE=ke at *;subst jT;obtain⟨hp,hd⟩:=hv
  generalize hG:cj (R:=Rs) _ _=G;refine cL (T:=(Om K)) (show cN D Tryz.prog (Om K) from⟨aU _ _ (rP K),aU _ _ yy,aU _ _ tu,aU _ _ (xD K),trivial⟩) mixed 200 ?_
  refine bK (q:=let Z1:=(nF aN K m (aO ti tg) ke);let Z2:=(fy ke (aO (0:Int) (0:Int)) (aO (0:Int) (0:Int)) (nK aN ke) (1:Int));let Z3:=(tD zd (av Z1) Z2);let Z4:=(aC !decide (fM (av Z1)=ic (av Z1)));let Z5:=(nE aN K Z3 (aO ti tg) (lu zd (av Z1)) ke);Vc ((du ke)=du ke/\PP m/\jb aN K m (aO ti tg))/\(ax Z1=ao->aX (G (aC ao) [dD 1 ti tg,oP (av Z1),aa (.inl (75,(du ke)))]))/\(ax Z1=an->Vc ((du ke)=du ke/\True)/\Vc ((bj (fy ke (aO 0 0) (aO 0 0) (nK aN ke) 1))=bj Z2/\PP (av Z1))/\((!decide (fM (av Z1)=ic (av Z1)))=ao->Vc ((du ke)=du ke/\PP Z3/\jb aN K Z3 (aO ti tg))/\aX (G Z4 [dD 1 (cB (ax Z5)) (cC (ax Z5)),oP (av Z5),aa (.inl (75,(du ke))),aa (.inl (108,[.int ar (cB (lu zd (av Z1))),.int ar (cC (lu zd (av Z1)))]))]))/\((!decide (fM (av Z1)=ic (av Z1)))=an->aX (G Z4 [dD 1 ti tg,oP Z3,aa (.inl (75,(du ke))),aa (.inl (108,[.int ar (cB (lu zd (av Z1))),.int ar (cC (lu zd (av Z1)))]))])))) ?_ (by kernel_rfl)
  intro Z1 Z2 Z3 Z4 Z5;subst Z5 Z4 Z3 Z2 Z1;obtain⟨T5,xd⟩:=hd;have done:∀ (b:Bool) (i g:Int) (m':Pl) (rest:Hp Rs),uP aN K m (⟨ti,tg⟩:bk) ke=(b,⟨i,g⟩,m')->G (.bool b) ([aa (.inl (132,[.pointer (aa ⟨1,0,aj⟩),.int .i64 (⟨i,g⟩:bk).i,.int .i64 (⟨i,g⟩:bk).g])),aa (.inr (.inr (.inr (.da m'))))]++rest):=by
   intro b i g m' rest e;subst hG;refine⟨[0,1],?_,rfl,⟨.inl ?_,?_,trivial⟩,rfl,rfl,rfl,rfl⟩
   ·simp only[e];rfl
   ·simp only[e];rfl
   ·simp only[e];rfl
  clear hG
  repeat' (first|apply cX|apply Vc.mk|apply fits.mk|intro h|apply aX.mk)
  all_goals (try simp only[sB] at *)
  all_goals first|contradiction|omega|exact jv ‹_›|exact jw ‹_›|exact ju ‹_›|exact⟨rfl,by omega⟩|exact rfl|(simp[*,-au];done)|skip
  all_goals first|assumption|(simp only[ja];assumption)|skip
  all_goals first|exact(xd (by assumption)).1|exact(xd (by assumption)).2|skip
  all_goals (refine done _ _ _ _ _ ?_;unfold uP;repeat' split)
  all_goals first|rfl|(exfalso;simp_all;done)|(refine kd ?_ rfl;simp[*];done)
 ·cases hx
def Et (K:Nat):Prim Rs:=fun args hh=>match args,hh with
 |[.pointer (aa ⟨0,0,aj⟩),.agg ⟨kE⟩],[aa (.inl (132,[.pointer (aa ⟨1,0,aj⟩),.int .i64 ti,.int .i64 tg])),aa (.inr (.inr (.inr (.da m))))]=>aa ⟨kE=du (fR kE)/\(PP m/\sH aN K K m (⟨ti,tg⟩:bk) (fR kE)),.tuple #[.agg ⟨du (jR aN K m (⟨ti,tg⟩:bk) (fR kE)).1⟩,.bool (jR aN K m (⟨ti,tg⟩:bk) (fR kE)).2.1],aj,[aa (.inl (132,[.pointer (aa ⟨1,0,aj⟩),.int .i64 (jR aN K m (⟨ti,tg⟩:bk) (fR kE)).2.2.1.i,.int .i64 (jR aN K m (⟨ti,tg⟩:bk) (fR kE)).2.2.1.g])),aa (.inr (.inr (.inr (.da (jR aN K m (⟨ti,tg⟩:bk) (fR kE)).2.2.2))))],[],[(0,0)]⟩
 |_,_=>aj
def KA (K:Nat):eJ Rs:=[(115,bJ zN 2 (a9 (A3 K K))),(116,bJ zN 2 (a9 Cr))]
theorem M8 (K:Nat):b9 D Tryz.prog 75 (a9 (Et K)):=by
 refine fu Tryz.f75 fun args hh x hx=>?_
 unfold Et at hx;split at hx
 ·rename_i kE ti tg m;cases hx;refine q4 fun _ hv=>?_
  obtain⟨jT,hv⟩:=hv;generalize fR kE=ke at *;subst jT;obtain⟨hp,hd⟩:=hv
  generalize hG:cj (R:=Rs) _ _=G;refine cL (T:=(KA K)) (show cN D Tryz.prog (KA K) from⟨aU _ _ (xH K K),aU _ _ tc,trivial⟩) mixed 200 ?_
  refine bK (q:=let Z1:=(av (av (jt aN K K m (aO ti tg) ke)));let Z2:=(ax (av (jt aN K K m (aO ti tg) ke)));let Z3:=(cB (ax (jt aN K K m (aO ti tg) ke)));let Z4:=(cC (ax (jt aN K K m (aO ti tg) ke)));Vc ((du ke)=du ke/\PP m/\sH aN K K m (aO ti tg) ke)/\Vc (PP Z1)/\aX (G (cq (aJ [.agg (aJ (du (bY (jQ zd Z1 Z2)))),.bool (yz Z1 Z2)])) [dD 1 Z3 Z4,oP (wg zd Z1 Z2),aa (.inl (75,(du ke))),aa (.inl (75,(du (bY (jQ zd Z1 Z2))))),aa (.inl (108,[.int ar Z3,.int ar Z4])),aa (.inl (108,[.int ar (cB Z2),.int ar (cC Z2)])),aa (.inl (128,(bj (jQ zd Z1 Z2))))])) ?_ (by kernel_rfl)
  intro Z1 Z2 Z3 Z4;subst Z4 Z3 Z2 Z1;subst hG
  repeat' (first|apply cX|apply Vc.mk|apply fits.mk|intro h|apply aX.mk)
  all_goals (try simp only[sB] at *)
  all_goals first|contradiction|omega|exact jv ‹_›|exact jw ‹_›|exact ju ‹_›|exact⟨rfl,by omega⟩|exact rfl|(simp[*,-au];done)|skip
  all_goals first|assumption|(simp only[ja];assumption)|skip
  exact⟨[0,1],rfl,rfl,⟨.inl rfl,rfl,trivial⟩,rfl,rfl,rfl,rfl⟩
 ·cases hx
theorem M9:Ll [0] (a9 B1):=by
 intro b args h x hx i hi hl;cases b with
 |false=>cases hx
 |true =>
  simp only[a9,je.go,B1] at hx;split at hx
  ·injection hx with hx
   subst hx;simp only[List.mem_singleton] at hi;subst hi
   rfl
  ·cases hx
def HS (K:Nat):Prim Rs:=fun args hh=>match args,hh with
 |[.pointer (aa ⟨0,0,aj⟩)],[aa (.inl (132,[.pointer (aa ⟨1,0,aj⟩),.int .i64 ti,.int .i64 tg])),aa (.inr (.inr (.inr (.da m))))]=>aa ⟨PP m/\jb aN K m (⟨ti,tg⟩:bk)/\(br aN m (⟨ti,tg⟩:bk)).all.n=(bW aN K (aK m (⟨ti,tg⟩:bk)) (⟨ti,tg⟩:bk)).1.length/\(bW aN K (aK m (⟨ti,tg⟩:bk)) (⟨ti,tg⟩:bk)).1.length<900000,.slice (aa ⟨2,0,aa 4000⟩) (bW aN K (aK m (⟨ti,tg⟩:bk)) (⟨ti,tg⟩:bk)).1.length 0,aj,[aa (.inl (132,[.pointer (aa ⟨1,0,aj⟩),.int .i64 ti,.int .i64 tg])),aa (.inr (.inr (.inr (.da (bW aN K (aK m (⟨ti,tg⟩:bk)) (⟨ti,tg⟩:bk)).2)))),aa (.inr (.inl (75,⟨[.int .i64 0,.int .i64 0,.bool an,.int .i64 0],(bW aN K (aK m (⟨ti,tg⟩:bk)) (⟨ti,tg⟩:bk)).1.length,[⟨((bW aN K (aK m (⟨ti,tg⟩:bk)) (⟨ti,tg⟩:bk)).1.map fun e=>e.it.k),[],[]⟩,⟨((bW aN K (aK m (⟨ti,tg⟩:bk)) (⟨ti,tg⟩:bk)).1.map fun e=>e.it.i),[],[]⟩,⟨[],((bW aN K (aK m (⟨ti,tg⟩:bk)) (⟨ti,tg⟩:bk)).1.map fun e=>e.kD),[]⟩,⟨((bW aN K (aK m (⟨ti,tg⟩:bk)) (⟨ti,tg⟩:bk)).1.map fun e=>e.time),[],[]⟩]⟩)))],[],[(0,0)]⟩
 |_,_=>aj
def Ou (K:Nat):eJ Rs:=[(38,C4 [0] 2 (a9 B1)),(93,bJ zN 2 (a9 (uH K)))]
theorem Rz (K:Nat):b9 D Tryz.prog 61 (a9 (HS K)):=by
 refine fu Tryz.f61 fun args hh x hx=>?_
 unfold HS at hx;split at hx
 ·rename_i ti tg m;cases hx;refine q4 fun _ hv=>?_
  obtain⟨hp,hd⟩:=hv;generalize hG:cj (R:=Rs) _ _=G;refine cL (T:=(Ou K)) (show cN D Tryz.prog (Ou K) from⟨C2 _ _ JR M9,aU _ _ (qJ K),trivial⟩) mixed 200 ?_
  refine bK (q:=let Z1:=(bt (br aN m (aO ti tg)));let Z2:=(bW aN K (aK m (aO ti tg)) (aO ti tg));Vc (PP m)/\Vc ((0:Int)≤(0:Int)/\(0:Int)≤bM Z1/\bM Z1*(32:Int)≤(140737488355328:Int)/\bM Z1≤(140737488355328:Int))/\Vc ((PP (aK m (aO ti tg))/\0=0/\0=0/\0=0/\0=0/\0=0/\0+ae (ax Z2)<900000)/\jb aN K (aK m (aO ti tg)) (aO ti tg))/\aX (G (bD (aa ⟨4,0,aa 4000⟩) (0+ae (ax Z2)) (if ae (ax Z2)=0 then aG (bM Z1) else 0)) [dD 1 ti tg,oP (av Z2),aa (.inr (.inl (75,Row.mk (du (js (cU 0 0) an 0)) 0 [aW.mk [] [] [],aW.mk [] [] [],aW.mk [] [] [],aW.mk [] [] []]))),aj,aa (.inr (.inl (75,Row.mk (du (js (cU 0 0) an 0)) (0+ae (ax Z2)) [aW.mk ([]++ay (fun e=>m8 (lO e)) (ax Z2)) [] [],aW.mk ([]++ay (fun e=>m9 (lO e)) (ax Z2)) [] [],aW.mk [] ([]++ay (fun e=>oZ e) (ax Z2)) [],aW.mk ([]++ay (fun e=>qx e) (ax Z2)) [] []])))])) ?_ (by kernel_rfl)
  intro Z1 Z2;subst Z2 Z1;subst hG;obtain⟨T5,xd,hd4⟩:=hd;have hd5:=(qw (s:=(⟨ti,tg⟩:bk))).2 T5;have e2:(if(bW aN K (aK m (⟨ti,tg⟩:bk)) (⟨ti,tg⟩:bk)).1.length=0 then(br aN m (⟨ti,tg⟩:bk)).all.n.toNat else 0)=0:=by rw[xd];split<;>omega
  simp only[e2,bU,List.nil_append]
  repeat' (first|apply cX|apply Vc.mk|apply fits.mk|intro h|apply aX.mk)
  all_goals (try simp only[sB] at *)
  all_goals first|contradiction|omega|exact jv ‹_›|exact jw ‹_›|exact ju ‹_›|exact⟨rfl,by omega⟩|exact rfl|(simp[*,-au];done)|skip
  all_goals first|omega|assumption|exact jc.2 hp|(simp;done)|skip
  refine⟨[0,1,4],?_,rfl,?_,rfl,rfl,rfl,rfl⟩
  ·rfl
  ·simp[du,tW,AE,nth,fW,wI,pB,lR,gh,v7,ub,B6,zi,Gb,yP,AF]
   all_goals first|rfl|skip
 ·cases hx
def Em (K:Nat):Prim Rs:=fun args hh=>match args,hh with
 |[.pointer (aa ⟨0,0,aj⟩),.agg ⟨kE⟩],[aa (.inl (132,[.pointer (aa ⟨1,0,aj⟩),.int .i64 ti,.int .i64 tg])),aa (.inr (.inr (.inr (.da m))))]=>aa ⟨kE=du (fR kE)/\(PP m/\vC aN K (aK m (⟨ti,tg⟩:bk)) (br aN m (⟨ti,tg⟩:bk)) (fR kE)),.tuple #[.agg ⟨du (iF aN K (aK m (⟨ti,tg⟩:bk)) (br aN m (⟨ti,tg⟩:bk)) (fR kE)).1.1⟩,.bool (iF aN K (aK m (⟨ti,tg⟩:bk)) (br aN m (⟨ti,tg⟩:bk)) (fR kE)).1.2],aj,[aa (.inl (132,[.pointer (aa ⟨1,0,aj⟩),.int .i64 ti,.int .i64 tg])),aa (.inr (.inr (.inr (.da (iF aN K (aK m (⟨ti,tg⟩:bk)) (br aN m (⟨ti,tg⟩:bk)) (fR kE)).2))))],[],[(0,0)]⟩
 |_,_=>aj
def Aq (K:Nat):eJ Rs:=[(79,bJ zN 2 (a9 j9)),(106,bJ zN 2 (a9 I3))]
theorem NH (K:Nat):b9 D Tryz.prog 94 (a9 (Em K)):=by
 refine fu Tryz.f94 fun args hh x hx=>?_
 unfold Em at hx;split at hx
 ·rename_i kE ti tg m;cases hx;refine q4 fun _ hv=>?_
  obtain⟨jT,hv⟩:=hv;generalize fR kE=ke at *;subst jT;obtain⟨hp,hd⟩:=hv
  generalize hG:cj (R:=Rs) _ _=G;refine cL (T:=(Aq K)) (show cN D Tryz.prog (Aq K) from⟨aU _ _ look_ok,aU _ _ xT,trivial⟩) mixed 200 ?_
  refine bK (q:=let Z1:=(aB (aa ⟨0,0,aj⟩));Vc (PP m)/\At D Tryz.prog (dC Tryz.f94) 2 (ia Tryz.prog (dv (dw Tryz.f94)) G) [.inl [1,1,0,0],.inr (.inl 0),.inl [1,1,1]] (SS.mk (aa Z1::aa (bz (aJ (du ke)))::aj::aa (aB (aa ⟨2,0,aj⟩))::aa (aB (aa ⟨3,0,aj⟩))::aa (aC an)::aa (aB (aa ⟨4,0,aj⟩))::aj::aj::aa Z1::aa Z1::aa Z1::aa (aB (aa ⟨0,1,aj⟩))::aa (bz (aJ [.int ar ti,.int ar tg]))::aa (bz (aJ (bj (br aN m (aO ti tg)))))::nH (n4 (aj::aj::aj::[]))) [(5,an)] [dD 1 ti tg,oP (aK m (aO ti tg)),aa (.inl (75,(du ke))),aa (.inl (75,(du (js (cU 0 0) an 0)))),aa (.inl (128,(bj (br aN m (aO ti tg)))))])) ?_ (by kernel_rfl)
  intro Z1;subst Z1;refine⟨⟨hp⟩,?_⟩;refine ld (by kernel_rfl) (ι:=Nat×Nd×Pl) (fun s=>PP s.2.2/\vC aN s.1 s.2.2 s.2.1 ke/\iF aN s.1 s.2.2 s.2.1 ke=iF aN K (aK m (⟨ti,tg⟩:bk)) (br aN m (⟨ti,tg⟩:bk)) ke) [0,3,4,5,6] (fun s=>[.pointer (aa ⟨0,0,aj⟩),.pointer (aa ⟨2,0,aj⟩),.pointer (aa ⟨3,0,aj⟩),.bool an,.pointer (aa ⟨4,0,aj⟩)]) (fun s=>[aa (.inl (132,[.pointer (aa ⟨1,0,aj⟩),.int .i64 ti,.int .i64 tg])),aa (.inr (.inr (.inr (.da s.2.2)))),aa (.inl (75,du ke)),aa (.inl (75,[.int .i64 0,.int .i64 0,.bool an,.int .i64 0])),aa (.inl (128,bj s.2.1))]) (fun s=>s.1) (Tryz.f94).ntmps (fun s hs=>⟨rfl,rfl,tF _ _⟩) ⟨(K,br aN m (⟨ti,tg⟩:bk),aK m (⟨ti,tg⟩:bk)),⟨jc.2 hp,hd,rfl⟩,⟨[0,1,2,3,4],rfl,⟨.inl rfl,rfl,.inl rfl,.inl rfl,.inl rfl,trivial⟩,rfl,rfl,rfl,rfl⟩⟩ fun s hs=>?_
  obtain⟨k,n,m2⟩:=s;obtain⟨s1,s2,s3⟩:=hs;simp only at s1 s2 s3;rcases k with _|k
  ·exact s2.elim
  refine cL (T:=Aq K) (show cN D Tryz.prog (Aq K) from⟨aU _ _ look_ok,aU _ _ xT,trivial⟩) mixed 200 ?_
  refine bK (q:=let Z5:=aB (aa ⟨4,0,aj⟩);let Z6:=aB (aa ⟨3,0,aj⟩);let Z7:=aB (aa ⟨0,0,aj⟩);let Z8:=aB (aa ⟨2,0,aj⟩);let Z1:=(gV aN ke (bY (ax (n,m2)))==(0:Int));let Z2:=(av (n,m2));let Z3:=(gV aN ke (bY (ax (n,m2)))<(0:Int));let Z4:=(du (js (cU 0 0) an 0));(decide (cu (ax (n,m2))>(0:Int))=ao->Vc True/\Vc True/\(Z1=ao->aX (G (cq (aJ [.agg (aJ (du (bY (ax (n,m2))))),.bool ao])) [dD 1 ti tg,oP Z2,aa (.inl (75,(du ke))),aa (.inl (75,(du (bY (ax (n,m2)))))),aa (.inl (128,(bj (ax (n,m2)))))]))/\(Z1=an->(decide Z3=ao->Vc (PP Z2)/\aX (∃ j,(PP (av (av j))/\vC aN (ax j) (av (av j)) (ax (av j)) ke/\iF aN (ax j) (av (av j)) (ax (av j)) ke=iF aN K (aK m (aO ti tg)) (br aN m (aO ti tg)) ke)/\ax j<k+1/\km Rs 2 (pf Tryz.f94) [0,3,4,5,6] [Z7,Z8,Z6,.bool an,Z5] [dD 1 ti tg,oP (av (av j)),aa (.inl ((75:TypeId),du ke)),aa (.inl ((75:TypeId),Z4)),aa (.inl ((128:TypeId),bj (ax (av j))))] [aa (Z7),aa (Z8),aa (Z6),aa (aC an),aa (Z5)] [dD 1 ti tg,oP (aK Z2 (bc (ax (n,m2)))),aa (.inl (75,(du ke))),aa (.inl (75,Z4)),aa (.inl (128,(bj (br aN Z2 (bc (ax (n,m2)))))))] 38))/\(decide Z3=an->Vc (PP Z2)/\aX (∃ j,(PP (av (av j))/\vC aN (ax j) (av (av j)) (ax (av j)) ke/\iF aN (ax j) (av (av j)) (ax (av j)) ke=iF aN K (aK m (aO ti tg)) (br aN m (aO ti tg)) ke)/\ax j<k+1/\km Rs 2 (pf Tryz.f94) [0,3,4,5,6] [Z7,Z8,Z6,.bool an,Z5] [dD 1 ti tg,oP (av (av j)),aa (.inl ((75:TypeId),du ke)),aa (.inl ((75:TypeId),Z4)),aa (.inl ((128:TypeId),bj (ax (av j))))] [aa (Z7),aa (Z8),aa (Z6),aa (aC an),aa (Z5)] [dD 1 ti tg,oP (aK Z2 (bn (ax (n,m2)))),aa (.inl (75,(du ke))),aa (.inl (75,Z4)),aa (.inl (128,(bj (br aN Z2 (bn (ax (n,m2)))))))] 38))))/\(decide (cu (ax (n,m2))>(0:Int))=an->aX (G (cq (aJ [.agg (aJ Z4),.bool an])) [dD 1 ti tg,oP Z2,aa (.inl (75,(du ke))),aa (.inl (75,Z4)),aa (.inl (128,(bj (ax (n,m2))))),aa (.inl (75,Z4))]))) ?_ (by kernel_rfl)
  intro Z5 Z6 Z7 Z8 Z1 Z2 Z3 Z4;subst Z4 Z3 Z2 Z1 Z8 Z7 Z6 Z5;rw[vC] at s2;rw[iF] at s3;subst hG
  repeat' (first|apply cX|apply Vc.mk|apply fits.mk|intro h|apply aX.mk)
  all_goals (try simp only[sB] at *)
  all_goals first|contradiction|omega|exact jv ‹_›|exact jw ‹_›|exact ju ‹_›|exact⟨rfl,by omega⟩|exact rfl|(simp[*,-au];done)|skip
  all_goals first|assumption|skip
  ·have h1:n.h>0:=by assumption
   have h2:aN.cmp ke n.e=0:=by assumption
   rw[if_pos h1,if_pos h2] at s3;rw[← s3];exact⟨[0,1],rfl,rfl,⟨.inl rfl,rfl,trivial⟩,rfl,rfl,rfl,rfl⟩
  ·have h1:n.h>0:=by assumption
   have h2:aN.cmp ke n.e≠0:=by assumption
   have h3:aN.cmp ke n.e<0:=by assumption
   rw[if_pos h1,if_neg h2,if_pos h3] at s3;exact⟨(k,br aN m2 n.l,aK m2 n.l),⟨jc.2 s1,(s2 h1 h2).1 (by omega),s3⟩,fC _,⟨[0,1,2,3,4],rfl,⟨.inl rfl,rfl,.inl rfl,.inl rfl,.inl rfl,trivial⟩,rfl,rfl,rfl,rfl⟩⟩
  ·have h1:n.h>0:=by assumption
   have h2:aN.cmp ke n.e≠0:=by assumption
   have h3:¬ aN.cmp ke n.e<0:=by omega
   rw[if_pos h1,if_neg h2,if_neg h3] at s3;exact⟨(k,br aN m2 n.r,aK m2 n.r),⟨jc.2 s1,(s2 h1 h2).2 (by omega),s3⟩,fC _,⟨[0,1,2,3,4],rfl,⟨.inl rfl,rfl,.inl rfl,.inl rfl,.inl rfl,trivial⟩,rfl,rfl,rfl,rfl⟩⟩
  ·have h1:¬ n.h>0:=by omega
   rw[if_neg h1] at s3;rw[← s3];exact⟨[0,1],rfl,rfl,⟨.inl rfl,rfl,trivial⟩,rfl,rfl,rfl,rfl⟩
 ·cases hx
def Fi (K:Nat):Prim Rs:=fun args hh=>match args,hh with
 |[.pointer (aa ⟨0,0,aj⟩),.agg ⟨kE⟩],[aa (.inl (132,[.pointer (aa ⟨1,0,aj⟩),.int .i64 ti,.int .i64 tg])),aa (.inr (.inr (.inr (.da m))))]=>aa ⟨kE=du (fR kE)/\(PP m/\vD aN K (aK m (⟨ti,tg⟩:bk)) (br aN m (⟨ti,tg⟩:bk)) (fR kE) 0),.int .i64 (lQ aN K (aK m (⟨ti,tg⟩:bk)) (br aN m (⟨ti,tg⟩:bk)) (fR kE) 0).1,aj,[aa (.inl (132,[.pointer (aa ⟨1,0,aj⟩),.int .i64 ti,.int .i64 tg])),aa (.inr (.inr (.inr (.da (lQ aN K (aK m (⟨ti,tg⟩:bk)) (br aN m (⟨ti,tg⟩:bk)) (fR kE) 0).2))))],[],[(0,0)]⟩
 |_,_=>aj
def AM (K:Nat):eJ Rs:=[(1000000000,lP),(79,bJ zN 2 (a9 j9)),(106,bJ zN 2 (a9 I3))]
theorem NJ (K:Nat):b9 D Tryz.prog 129 (a9 (Fi K)):=by
 refine fu Tryz.f129 fun args hh x hx=>?_
 unfold Fi at hx;split at hx
 ·rename_i kE ti tg m;cases hx;refine q4 fun _ hv=>?_
  obtain⟨jT,hv⟩:=hv;generalize fR kE=ke at *;subst jT;obtain⟨hp,hd⟩:=hv
  generalize hG:cj (R:=Rs) _ _=G;refine cL (T:=(AM K)) (show cN D Tryz.prog (AM K) from⟨ix,aU _ _ look_ok,aU _ _ xT,trivial⟩) mixed 200 ?_
  refine bK (q:=let Z1:=(aB (aa ⟨0,0,aj⟩));Vc (PP m)/\At D Tryz.prog (dC Tryz.f129) 2 (ia Tryz.prog (dv (dw Tryz.f129)) G) [.inl [1,1,1,0,0],.inr (.inl 0),.inl [1,1,1,1]] (SS.mk (aa Z1::aa (bz (aJ (du ke)))::aj::aa (aB (aa ⟨2,0,aj⟩))::aa (bm ar 0)::aa (bm ar 0)::aa (aB (aa ⟨3,0,aj⟩))::aj::aa Z1::aa Z1::aa Z1::aa (aB (aa ⟨0,1,aj⟩))::aa (bz (aJ [.int ar ti,.int ar tg]))::aa (bz (aJ (bj (br aN m (aO ti tg)))))::nH (n4 (n4 (n4 ([]))))) [] [dD 1 ti tg,oP (aK m (aO ti tg)),aa (.inl (75,(du ke))),aa (.inl (128,(bj (br aN m (aO ti tg)))))])) ?_ (by kernel_rfl)
  intro Z1;subst Z1;refine⟨⟨hp⟩,?_⟩;refine ld (by kernel_rfl) (ι:=Nat×Nd×Pl×Int) (fun s=>PP s.2.2.1/\vD aN s.1 s.2.2.1 s.2.1 ke s.2.2.2/\lQ aN s.1 s.2.2.1 s.2.1 ke s.2.2.2=lQ aN K (aK m (⟨ti,tg⟩:bk)) (br aN m (⟨ti,tg⟩:bk)) ke 0) [0,3,5,6] (fun s=>[.pointer (aa ⟨0,0,aj⟩),.pointer (aa ⟨2,0,aj⟩),.int .i64 s.2.2.2,.pointer (aa ⟨3,0,aj⟩)]) (fun s=>[aa (.inl (132,[.pointer (aa ⟨1,0,aj⟩),.int .i64 ti,.int .i64 tg])),aa (.inr (.inr (.inr (.da s.2.2.1)))),aa (.inl (75,du ke)),aa (.inl (128,bj s.2.1))]) (fun s=>s.1) (Tryz.f129).ntmps (fun s hs=>⟨rfl,rfl,tF _ _⟩) ⟨(K,br aN m (⟨ti,tg⟩:bk),aK m (⟨ti,tg⟩:bk),0),⟨jc.2 hp,hd,rfl⟩,⟨[0,1,2,3],rfl,⟨.inl rfl,rfl,.inl rfl,.inl rfl,trivial⟩,rfl,rfl,rfl,rfl⟩⟩ fun s hs=>?_
  obtain⟨k,n,m2,c⟩:=s;obtain⟨s1,s2,s3⟩:=hs;simp only at s1 s2 s3;rcases k with _|k
  ·exact s2.elim
  refine cL (T:=AM K) (show cN D Tryz.prog (AM K) from⟨ix,aU _ _ look_ok,aU _ _ xT,trivial⟩) mixed 200 ?_
  refine bK (q:=let Z3:=aB (aa ⟨3,0,aj⟩);let Z4:=aB (aa ⟨0,0,aj⟩);let Z5:=aB (aa ⟨2,0,aj⟩);let Z6:=bm ar;let Z1:=(ax (n,m2,c));let Z2:=(ax (av (n,m2,c)));(decide (cu Z1>(0:Int))=ao->Vc True/\Vc True/\(decide (gV aN ke (bY Z1)≤(0:Int))=ao->Vc (PP Z2)/\aX (∃ j,(PP (ax (av (av j)))/\vD aN (ax j) (ax (av (av j))) (ax (av j)) ke (av (av (av j)))/\lQ aN (ax j) (ax (av (av j))) (ax (av j)) ke (av (av (av j)))=lQ aN K (aK m (aO ti tg)) (br aN m (aO ti tg)) ke (0:Int))/\ax j<k+1/\km Rs 2 (pf Tryz.f129) [0,3,5,6] [Z4,Z5,Z6 (av (av (av j))),Z3] [dD 1 ti tg,oP (ax (av (av j))),aa (.inl ((75:TypeId),du ke)),aa (.inl ((128:TypeId),bj (ax (av j))))] [aa (Z4),aa (Z5),aa (Z6 (av (av (n,m2,c)))),aa (Z3)] [dD 1 ti tg,oP (aK Z2 (bc Z1)),aa (.inl (75,(du ke))),aa (.inl (128,(bj (br aN Z2 (bc Z1)))))] 42))/\(decide (gV aN ke (bY Z1)≤(0:Int))=an->Vc (PP Z2)/\Vc True/\Vc True/\aX (∃ j,(PP (ax (av (av j)))/\vD aN (ax j) (ax (av (av j))) (ax (av j)) ke (av (av (av j)))/\lQ aN (ax j) (ax (av (av j))) (ax (av j)) ke (av (av (av j)))=lQ aN K (aK m (aO ti tg)) (br aN m (aO ti tg)) ke (0:Int))/\ax j<k+1/\km Rs 2 (pf Tryz.f129) [0,3,5,6] [Z4,Z5,Z6 (av (av (av j))),Z3] [dD 1 ti tg,oP (ax (av (av j))),aa (.inl ((75:TypeId),du ke)),aa (.inl ((128:TypeId),bj (ax (av j))))] [aa (Z4),aa (Z5),aa (Z6 (ck ar (av (av (n,m2,c))+ck ar (bM (bt Z1)-bM (bt (br aN Z2 (bn Z1))))))),aa (Z3)] [dD 1 ti tg,oP (aK Z2 (bn Z1)),aa (.inl (75,(du ke))),aa (.inl (128,(bj (br aN Z2 (bn Z1))))),aa (.inl (128,(bj (br aN Z2 (bn Z1)))))] 42)))/\(decide (cu Z1>(0:Int))=an->aX (G (Z6 (av (av (n,m2,c)))) [dD 1 ti tg,oP Z2,aa (.inl (75,(du ke))),aa (.inl (128,(bj Z1)))]))) ?_ (by kernel_rfl)
  intro Z3 Z4 Z5 Z6 Z1 Z2;subst Z2 Z1 Z6 Z5 Z4 Z3;rw[vD] at s2;rw[lQ] at s3;subst hG
  repeat' (first|apply cX|apply Vc.mk|apply fits.mk|intro h|apply aX.mk)
  all_goals (try simp only[sB] at *)
  all_goals first|contradiction|omega|exact jv ‹_›|exact jw ‹_›|exact ju ‹_›|exact⟨rfl,by omega⟩|exact rfl|(simp[*,-au];done)|skip
  all_goals first|assumption|skip
  ·have h1:n.h>0:=by assumption
   have h2:aN.cmp ke n.e≤0:=by assumption
   rw[if_pos h1,if_pos h2] at s3;exact⟨(k,br aN m2 n.l,aK m2 n.l,c),⟨jc.2 s1,(s2 h1).1 (by omega),s3⟩,fC _,⟨[0,1,2,3],rfl,⟨.inl rfl,rfl,.inl rfl,.inl rfl,trivial⟩,rfl,rfl,rfl,rfl⟩⟩
  ·have h1:n.h>0:=by assumption
   have h2:¬ aN.cmp ke n.e≤0:=by omega
   rw[if_pos h1,if_neg h2] at s3;exact⟨(k,br aN m2 n.r,aK m2 n.r,mY (c+mY (n.all.n-(br aN m2 n.r).all.n))),⟨jc.2 s1,(s2 h1).2 (by omega),s3⟩,fC _,⟨[0,1,2,3],rfl,⟨.inl rfl,rfl,.inl rfl,.inl rfl,trivial⟩,rfl,rfl,rfl,rfl⟩⟩
  ·have h1:¬ n.h>0:=by omega
   rw[if_neg h1] at s3;rw[← s3];exact⟨[0,1],rfl,rfl,⟨.inl rfl,rfl,trivial⟩,rfl,rfl,rfl,rfl⟩
 ·cases hx
def MV (K:Nat):Prim Rs:=fun args hh=>match args,hh with
 |[.pointer (aa ⟨0,0,aj⟩),.int .i64 i_],[aa (.inl (132,[.pointer (aa ⟨1,0,aj⟩),.int .i64 ti,.int .i64 tg])),aa (.inr (.inr (.inr (.da m))))]=>aa ⟨PP m/\Gv.AtD aN K m (⟨ti,tg⟩:bk) i_,.tuple #[.agg ⟨du (lC aN K m (⟨ti,tg⟩:bk) i_).1.1⟩,.bool (lC aN K m (⟨ti,tg⟩:bk) i_).1.2],aj,[aa (.inl (132,[.pointer (aa ⟨1,0,aj⟩),.int .i64 ti,.int .i64 tg])),aa (.inr (.inr (.inr (.da (lC aN K m (⟨ti,tg⟩:bk) i_).2))))],[],[(0,0)]⟩
 |_,_=>aj
def HW (K:Nat):eJ Rs:=[(1000000000,lP),(79,bJ zN 2 (a9 j9))]
theorem UM (K:Nat):b9 D Tryz.prog 122 (a9 (MV K)):=by
 refine fu Tryz.f122 fun args hh x hx=>?_
 unfold MV at hx;split at hx
 ·rename_i i_ ti tg m;cases hx;refine q4 fun _ hv=>?_
  obtain⟨hp,hd⟩:=hv;generalize hG:cj (R:=Rs) _ _=G;refine cL (T:=(HW K)) (show cN D Tryz.prog (HW K) from⟨ix,aU _ _ look_ok,trivial⟩) mixed 200 ?_
  refine bK (q:=let Z3:=bm ar;let Z1:=(i_≥bM (bt (br aN m (aO ti tg))));let Z2:=(aB (aa ⟨0,0,aj⟩));Vc (PP m)/\(decide (i_<(0:Int))=an->(decide Z1=ao->aX (G (cq (aJ [.agg (aJ (du (js (cU 0 0) an 0))),.bool an])) [dD 1 ti tg,oP (aK m (aO ti tg)),aa (.inl (75,(du (js (cU 0 0) an 0)))),aa (.inl (75,(du (js (cU 0 0) an 0)))),aa (.inl (128,(bj (br aN m (aO ti tg)))))]))/\(decide Z1=an->At D Tryz.prog (dC Tryz.f122) 2 (ia Tryz.prog (dv (dw Tryz.f122)) G) [.inl [1,1,1,1,0],.inr (.inl 0)] (SS.mk (aa Z2::aa (Z3 i_)::aj::aj::aa (aB (aa ⟨2,0,aj⟩))::aa (aC an)::aa (aB (aa ⟨3,0,aj⟩))::aa (aB (aa ⟨4,0,aj⟩))::aj::aa Z2::aa Z2::aa Z2::aa (aB (aa ⟨0,1,aj⟩))::aa (bz (aJ [Z3 ti,Z3 tg]))::aa (bz (aJ (bj (br aN m (aO ti tg)))))::aa (Z3 i_)::aa (aC (decide (i_<(0:Int))))::aa (aC an)::aa (Z3 i_)::aa (aB (aa ⟨4,8,aj⟩))::aa (aB (aa ⟨4,8,aj⟩))::aa (Z3 (bM (bt (br aN m (aO ti tg)))))::aa (aC (decide Z1))::aa (aC an)::nH (n4 (n4 (n4 ([]))))) [(23,an),(17,an),(5,an)] [dD 1 ti tg,oP (aK m (aO ti tg)),aa (.inl (75,(du (js (cU 0 0) an 0)))),aa (.inl (75,(du (js (cU 0 0) an 0)))),aa (.inl (128,(bj (br aN m (aO ti tg)))))])))/\(decide (i_<(0:Int))=ao->aX (G (cq (aJ [.agg (aJ (du (js (cU 0 0) an 0))),.bool an])) [dD 1 ti tg,oP (aK m (aO ti tg)),aa (.inl (75,(du (js (cU 0 0) an 0)))),aa (.inl (75,(du (js (cU 0 0) an 0)))),aa (.inl (128,(bj (br aN m (aO ti tg)))))]))) ?_ (by kernel_rfl)
  intro Z3 Z1 Z2;subst Z2 Z1 Z3;have n1:i_<0∨i_≥(br aN m (⟨ti,tg⟩:bk)).all.n->G (.tuple #[.agg ⟨[.int .i64 0,.int .i64 0,.bool an,.int .i64 0]⟩,.bool an])=G (.tuple #[.agg ⟨[.int .i64 0,.int .i64 0,.bool an,.int .i64 0]⟩,.bool an]):=fun _=>rfl
  have en:∀ rest,i_<0∨i_≥(br aN m (⟨ti,tg⟩:bk)).all.n->G (.tuple #[.agg ⟨[.int .i64 0,.int .i64 0,.bool an,.int .i64 0]⟩,.bool an]) ([aa (.inl (132,[.pointer (aa ⟨1,0,aj⟩),.int .i64 ti,.int .i64 tg])),aa (.inr (.inr (.inr (.da (aK m (⟨ti,tg⟩:bk))))))]++rest):=by
   intro rest h;have e:lC aN K m (⟨ti,tg⟩:bk) i_=((aN.e0,an),aK m (⟨ti,tg⟩:bk)):=by rw[lC,if_pos h]
   subst hG;rw[e];exact⟨[0,1],rfl,rfl,⟨.inl rfl,rfl,trivial⟩,rfl,rfl,rfl,rfl⟩
  refine⟨⟨hp⟩,fun h=>⟨fun h2=>⟨en _ (.inr (by simpa using h2))⟩,fun h2=>?_⟩,fun h=>⟨en _ (.inl (by simpa using h))⟩⟩
  have h3:¬ i_<0:=by simpa using h
  have h4:¬ i_≥(br aN m (⟨ti,tg⟩:bk)).all.n:=by simpa using h2
  have ee:lC aN K m (⟨ti,tg⟩:bk) i_=(((oL aN K (aK m (⟨ti,tg⟩:bk)) (br aN m (⟨ti,tg⟩:bk)) i_).1,ao),(oL aN K (aK m (⟨ti,tg⟩:bk)) (br aN m (⟨ti,tg⟩:bk)) i_).2):=by rw[lC,if_neg (by omega)]
  have xd:=hd h3 h4;refine ld (by kernel_rfl) (ι:=Nat×Nd×Pl×Int) (fun s=>PP s.2.2.1/\Cf aN s.1 s.2.2.1 s.2.1 s.2.2.2/\oL aN s.1 s.2.2.1 s.2.1 s.2.2.2=oL aN K (aK m (⟨ti,tg⟩:bk)) (br aN m (⟨ti,tg⟩:bk)) i_) [0,1,4,7] (fun s=>[.pointer (aa ⟨0,0,aj⟩),.int .i64 s.2.2.2,.pointer (aa ⟨2,0,aj⟩),.pointer (aa ⟨3,0,aj⟩)]) (fun s=>[aa (.inl (132,[.pointer (aa ⟨1,0,aj⟩),.int .i64 ti,.int .i64 tg])),aa (.inr (.inr (.inr (.da s.2.2.1)))),aa (.inl (75,[.int .i64 0,.int .i64 0,.bool an,.int .i64 0])),aa (.inl (128,bj s.2.1))]) (fun s=>s.1) (Tryz.f122).ntmps (fun s hs=>⟨rfl,rfl,tF _ _⟩) ⟨(K,br aN m (⟨ti,tg⟩:bk),aK m (⟨ti,tg⟩:bk),i_),⟨jc.2 hp,xd,rfl⟩,⟨[0,1,2,4],rfl,⟨.inl rfl,rfl,.inl rfl,.inl rfl,trivial⟩,rfl,rfl,rfl,rfl⟩⟩ fun s hs=>?_
  obtain⟨k,n,m2,c⟩:=s;obtain⟨s1,s2,s3⟩:=hs;simp only at s1 s2 s3;rcases k with _|k
  ·exact s2.elim
  refine cL (T:=HW K) (show cN D Tryz.prog (HW K) from⟨ix,aU _ _ look_ok,trivial⟩) mixed 200 ?_
  refine bK (q:=let Z4:=aB (aa ⟨3,0,aj⟩);let Z5:=aB (aa ⟨0,0,aj⟩);let Z6:=aB (aa ⟨2,0,aj⟩);let Z1:=(av (n,m2,c));let Z2:=(br aN (ax Z1) (bc (ax (n,m2,c))));let Z3:=(aK (ax Z1) (bc (ax (n,m2,c))));Vc (PP (ax Z1))/\((av Z1==bM (bt Z2))=ao->aX (G (cq (aJ [.agg (aJ (du (bY (ax (n,m2,c))))),.bool ao])) [dD 1 ti tg,oP Z3,aa (.inl (75,(du (bY (ax (n,m2,c)))))),aa (.inl (128,(bj (ax (n,m2,c))))),aa (.inl (128,(bj Z2)))]))/\((av Z1==bM (bt Z2))=an->(decide (av Z1<bM (bt Z2))=ao->aX (∃ j,(PP (ax (av (av j)))/\Cf aN (ax j) (ax (av (av j))) (ax (av j)) (av (av (av j)))/\oL aN (ax j) (ax (av (av j))) (ax (av j)) (av (av (av j)))=oL aN K (aK m (aO ti tg)) (br aN m (aO ti tg)) i_)/\ax j<k+1/\km Rs 2 (pf Tryz.f122) [0,1,4,7] [Z5,.int ar (av (av (av j))),Z6,Z4] [dD 1 ti tg,oP (ax (av (av j))),aa (.inl ((75:TypeId),(du (js (cU 0 0) an 0)))),aa (.inl ((128:TypeId),bj (ax (av j))))] [aa (Z5),aa (bm ar (av Z1)),aa (Z6),aa (Z4)] [dD 1 ti tg,oP Z3,aa (.inl (75,(du (js (cU 0 0) an 0)))),aa (.inl (128,(bj Z2))),aa (.inl (128,(bj Z2)))] 52))/\(decide (av Z1<bM (bt Z2))=an->Vc True/\Vc True/\Vc (PP Z3)/\aX (∃ j,(PP (ax (av (av j)))/\Cf aN (ax j) (ax (av (av j))) (ax (av j)) (av (av (av j)))/\oL aN (ax j) (ax (av (av j))) (ax (av j)) (av (av (av j)))=oL aN K (aK m (aO ti tg)) (br aN m (aO ti tg)) i_)/\ax j<k+1/\km Rs 2 (pf Tryz.f122) [0,1,4,7] [Z5,.int ar (av (av (av j))),Z6,Z4] [dD 1 ti tg,oP (ax (av (av j))),aa (.inl ((75:TypeId),(du (js (cU 0 0) an 0)))),aa (.inl ((128:TypeId),bj (ax (av j))))] [aa (Z5),aa (bm ar (ck ar (av Z1-ck ar (bM (bt Z2)+(1:Int))))),aa (Z6),aa (Z4)] [dD 1 ti tg,oP (aK Z3 (bn (ax (n,m2,c)))),aa (.inl (75,(du (js (cU 0 0) an 0)))),aa (.inl (128,(bj (br aN Z3 (bn (ax (n,m2,c))))))),aa (.inl (128,(bj Z2)))] 52)))) ?_ (by kernel_rfl)
  intro Z4 Z5 Z6 Z1 Z2 Z3;subst Z3 Z2 Z1 Z6 Z5 Z4;rw[Cf] at s2;rw[oL] at s3;subst hG
  repeat' (first|apply cX|apply Vc.mk|apply fits.mk|intro h|apply aX.mk)
  all_goals (try simp only[sB] at *)
  all_goals first|contradiction|omega|exact jv ‹_›|exact jw ‹_›|exact ju ‹_›|exact⟨rfl,by omega⟩|exact rfl|(simp[*,-au];done)|skip
  all_goals first|assumption|exact jc.2 s1|skip
  ·have h1:c=(br aN m2 n.l).all.n:=by assumption
   rw[if_pos h1] at s3;rw[ee,← s3];exact⟨[0,1],rfl,rfl,⟨.inl rfl,rfl,trivial⟩,rfl,rfl,rfl,rfl⟩
  ·have h1:c≠(br aN m2 n.l).all.n:=by assumption
   have h2:c<(br aN m2 n.l).all.n:=by assumption
   rw[if_neg h1,if_pos h2] at s3;exact⟨(k,br aN m2 n.l,aK m2 n.l,c),⟨jc.2 s1,(s2 h1).1 (by omega),s3⟩,fC _,⟨[0,1,2,3],rfl,⟨.inl rfl,rfl,.inl rfl,.inl rfl,trivial⟩,rfl,rfl,rfl,rfl⟩⟩
  ·have h1:c≠(br aN m2 n.l).all.n:=by assumption
   have h2:¬ c<(br aN m2 n.l).all.n:=by omega
   rw[if_neg h1,if_neg h2] at s3;exact⟨(k,br aN (aK m2 n.l) n.r,aK (aK m2 n.l) n.r,mY (c-mY ((br aN m2 n.l).all.n+1))),⟨jc.2 (jc.2 s1),(s2 h1).2 (by omega),s3⟩,fC _,⟨[0,1,2,3],rfl,⟨.inl rfl,rfl,.inl rfl,.inl rfl,trivial⟩,rfl,rfl,rfl,rfl⟩⟩
 ·cases hx
end G9
namespace G9
open Rx
open Gv (KK)
set_option maxRecDepth 100000
set_option maxHeartbeats 8000000
def IK:Prim Rt:=fun args hh=>match args,hh with
 |[.int .i64 c],[]=>aa ⟨True,.pointer (aa ⟨0,0,aj⟩),aj,[oT (qO k9 c)],[],[(0,0)]⟩
 |_,_=>aj
theorem QP:b9 D2 Tryz.prog 91 (a9 IK):=by
 refine np (c:=a9 Iz) Rr fun args hh x hx=>?_
 unfold IK at hx;split at hx
 ·rename_i c;cases hx;refine⟨dh _,l_ rfl,(fun hw=>by cases hw),fun hv=>⟨⟨_,.inl ⟨rfl,rfl⟩,rfl,?_,?_,?_⟩,rfl,rfl⟩⟩
  ·trivial
  ·rfl
  ·rfl
 ·cases hx
def Ay:Prim Rt:=fun args hh=>match args,hh with
 |[.pointer (aa ⟨0,0,aj⟩)],[aa (.inr (.inr (.inr (.tree s))))]=>aa ⟨s.gj,.int .i64 s.l.length,aj,[oT s.seen],[],[(0,0)]⟩
 |_,_=>aj
theorem BD:b9 D2 Tryz.prog 38 (a9 Ay):=by
 refine np (c:=a9 B1) JR fun args hh x hx=>?_
 unfold Ay at hx;split at hx
 ·rename_i s;cases hx;refine⟨a_ _,l_ rfl,(fun hw=>by cases hw),fun hv=>⟨⟨_,.inl ⟨rfl,rfl⟩,rfl,?_,?_,?_⟩,rfl,rfl⟩⟩
  ·exact s.pp hv
  ·rfl
  ·exact congrArg (bm ar) s.ok.nn
 ·cases hx
def H3:Prim Rt:=fun args hh=>match args,hh with
 |[.pointer (aa ⟨0,0,aj⟩)],[aa (.inr (.inr (.inr (.tree s))))]=>aa ⟨True,.int .i64 s.m.cW,aj,hh,[],[]⟩
 |_,_=>aj
theorem QK:b9 D2 Tryz.prog 77 (a9 H3):=by
 refine np (c:=a9 yV) HR fun args hh x hx=>?_
 unfold H3 at hx;split at hx
 ·rename_i s;cases hx;refine⟨a_ _,l_ rfl,(fun _=>rfl),fun hv=>⟨⟨_,.inl ⟨rfl,rfl⟩,rfl,?_,?_,?_⟩,rfl,rfl⟩⟩
  ·trivial
  ·rfl
  ·rfl
 ·cases hx
def Dt:Prim Rt:=fun args hh=>match args,hh with
 |[.pointer (aa ⟨0,0,aj⟩),.agg ⟨[.int .i64 k0,.int .i64 k1,.bool k2,.int .i64 k3]⟩],[aa (.inr (.inr (.inr (.tree s))))]=>aa ⟨s.kX (⟨⟨k0,k1⟩,k2,k3⟩:jF),.bool (s.Kr (⟨⟨k0,k1⟩,k2,k3⟩:jF)),aj,[oT (s.put (⟨⟨k0,k1⟩,k2,k3⟩:jF))],[],[(0,0)]⟩
 |_,_=>aj
theorem Ht:b9 D2 Tryz.prog 68 (a9 Dt):=by
 refine np (c:=a9 (Ih KK)) (Qu KK) fun args hh x hx=>?_
 unfold Dt at hx;split at hx
 ·rename_i k0 k1 k2 k3 s;cases hx;refine⟨a_ _,l_ rfl,(fun hw=>by cases hw),fun hv=>⟨⟨_,.inl ⟨rfl,rfl⟩,rfl,?_,?_,?_⟩,rfl,rfl⟩⟩
  ·exact⟨rfl,s.pp hv.lj,(Fw hv).1⟩
  ·rw[WB hv];rfl
  ·exact congrArg aC (Fw hv).2.1
 ·cases hx
def CX:Prim Rt:=fun args hh=>match args,hh with
 |[.pointer (aa ⟨0,0,aj⟩),.agg ⟨[.int .i64 k0,.int .i64 k1,.bool k2,.int .i64 k3]⟩],[aa (.inr (.inr (.inr (.tree s))))]=>aa ⟨s.gj,.tuple #[.agg ⟨[.int .i64 (fw aN (⟨⟨k0,k1⟩,k2,k3⟩:jF) s.l).1.it.k,.int .i64 (fw aN (⟨⟨k0,k1⟩,k2,k3⟩:jF) s.l).1.it.i,.bool (fw aN (⟨⟨k0,k1⟩,k2,k3⟩:jF) s.l).1.kD,.int .i64 (fw aN (⟨⟨k0,k1⟩,k2,k3⟩:jF) s.l).1.time]⟩,.bool (fw aN (⟨⟨k0,k1⟩,k2,k3⟩:jF) s.l).2],aj,[oT (s.drop (⟨⟨k0,k1⟩,k2,k3⟩:jF))],[],[(0,0)]⟩
 |_,_=>aj
theorem Ij:b9 D2 Tryz.prog 75 (a9 CX):=by
 refine np (c:=a9 (Et KK)) (M8 KK) fun args hh x hx=>?_
 unfold CX at hx;split at hx
 ·rename_i k0 k1 k2 k3 s;cases hx;refine⟨a_ _,l_ rfl,(fun hw=>by cases hw),fun hv=>⟨⟨_,.inl ⟨rfl,rfl⟩,rfl,?_,?_,?_⟩,rfl,rfl⟩⟩
  ·exact⟨rfl,s.pp hv,(s.tc (⟨⟨k0,k1⟩,k2,k3⟩:jF)).1⟩
  ·rfl
  ·obtain⟨_,h1,h2,_⟩:=s.tc (⟨⟨k0,k1⟩,k2,k3⟩:jF);show cq #[.agg ⟨[.int .i64 (jR aN KK s.m s.r (⟨⟨k0,k1⟩,k2,k3⟩:jF)).1.it.k,.int .i64 (jR aN KK s.m s.r (⟨⟨k0,k1⟩,k2,k3⟩:jF)).1.it.i,.bool (jR aN KK s.m s.r (⟨⟨k0,k1⟩,k2,k3⟩:jF)).1.kD,.int .i64 (jR aN KK s.m s.r (⟨⟨k0,k1⟩,k2,k3⟩:jF)).1.time]⟩,.bool (jR aN KK s.m s.r (⟨⟨k0,k1⟩,k2,k3⟩:jF)).2.1]=_
   have h1:(jR aN KK s.m s.r (⟨⟨k0,k1⟩,k2,k3⟩:jF)).1=(fw aN (⟨⟨k0,k1⟩,k2,k3⟩:jF) s.l).1:=h1;have h2:(jR aN KK s.m s.r (⟨⟨k0,k1⟩,k2,k3⟩:jF)).2.1=(fw aN (⟨⟨k0,k1⟩,k2,k3⟩:jF) s.l).2:=h2;rw[h1,h2]
   rfl
 ·cases hx
def Av:Prim Rt:=fun args hh=>match args,hh with
 |[.pointer (aa ⟨0,0,aj⟩),.agg ⟨[.int .i64 k0,.int .i64 k1,.bool k2,.int .i64 k3]⟩],[aa (.inr (.inr (.inr (.tree s))))]=>aa ⟨s.gj,.tuple #[.agg ⟨[.int .i64 (fw aN (⟨⟨k0,k1⟩,k2,k3⟩:jF) s.l).1.it.k,.int .i64 (fw aN (⟨⟨k0,k1⟩,k2,k3⟩:jF) s.l).1.it.i,.bool (fw aN (⟨⟨k0,k1⟩,k2,k3⟩:jF) s.l).1.kD,.int .i64 (fw aN (⟨⟨k0,k1⟩,k2,k3⟩:jF) s.l).1.time]⟩,.bool (fw aN (⟨⟨k0,k1⟩,k2,k3⟩:jF) s.l).2],aj,[oT (s.find (⟨⟨k0,k1⟩,k2,k3⟩:jF))],[],[(0,0)]⟩
 |_,_=>aj
theorem Ek:b9 D2 Tryz.prog 94 (a9 Av):=by
 refine np (c:=a9 (Em KK)) (NH KK) fun args hh x hx=>?_
 unfold Av at hx;split at hx
 ·rename_i k0 k1 k2 k3 s;cases hx;refine⟨a_ _,l_ rfl,(fun hw=>by cases hw),fun hv=>⟨⟨_,.inl ⟨rfl,rfl⟩,rfl,?_,?_,?_⟩,rfl,rfl⟩⟩
  ·exact⟨rfl,s.pp hv,(s.ok.find (e:=(⟨⟨k0,k1⟩,k2,k3⟩:jF)) s.k1).1⟩
  ·rfl
  ·obtain⟨_,m',h1,_⟩:=s.ok.find (K:=KK) (e:=(⟨⟨k0,k1⟩,k2,k3⟩:jF)) s.k1;have h1:(iF aN KK (aK s.m s.r) (br aN s.m s.r) (⟨⟨k0,k1⟩,k2,k3⟩:jF))=((fw aN (⟨⟨k0,k1⟩,k2,k3⟩:jF) s.l),m'):=h1;show cq #[.agg ⟨[.int .i64 (iF aN KK (aK s.m s.r) (br aN s.m s.r) (⟨⟨k0,k1⟩,k2,k3⟩:jF)).1.1.it.k,.int .i64 (iF aN KK (aK s.m s.r) (br aN s.m s.r) (⟨⟨k0,k1⟩,k2,k3⟩:jF)).1.1.it.i,.bool (iF aN KK (aK s.m s.r) (br aN s.m s.r) (⟨⟨k0,k1⟩,k2,k3⟩:jF)).1.1.kD,.int .i64 (iF aN KK (aK s.m s.r) (br aN s.m s.r) (⟨⟨k0,k1⟩,k2,k3⟩:jF)).1.1.time]⟩,.bool (iF aN KK (aK s.m s.r) (br aN s.m s.r) (⟨⟨k0,k1⟩,k2,k3⟩:jF)).1.2]=_
   rw[h1]
   rfl
 ·cases hx
def Hh:Prim Rt:=fun args hh=>match args,hh with
 |[.pointer (aa ⟨0,0,aj⟩),.agg ⟨[.int .i64 k0,.int .i64 k1,.bool k2,.int .i64 k3]⟩],[aa (.inr (.inr (.inr (.tree s))))]=>aa ⟨s.gj,.int .i64 (yA aN (⟨⟨k0,k1⟩,k2,k3⟩:jF) s.l).length,aj,[oT (s.kB (⟨⟨k0,k1⟩,k2,k3⟩:jF))],[],[(0,0)]⟩
 |_,_=>aj
theorem VC:b9 D2 Tryz.prog 129 (a9 Hh):=by
 refine np (c:=a9 (Fi KK)) (NJ KK) fun args hh x hx=>?_
 unfold Hh at hx;split at hx
 ·rename_i k0 k1 k2 k3 s;cases hx;refine⟨a_ _,l_ rfl,(fun hw=>by cases hw),fun hv=>⟨⟨_,.inl ⟨rfl,rfl⟩,rfl,?_,?_,?_⟩,rfl,rfl⟩⟩
  ·exact⟨rfl,s.pp hv,(s.ok.kB (e:=(⟨⟨k0,k1⟩,k2,k3⟩:jF)) s.k1).1⟩
  ·rfl
  ·obtain⟨_,m',h1,_⟩:=s.ok.kB (K:=KK) (e:=(⟨⟨k0,k1⟩,k2,k3⟩:jF)) s.k1;have h1:(lQ aN KK (aK s.m s.r) (br aN s.m s.r) (⟨⟨k0,k1⟩,k2,k3⟩:jF) 0)=(((yA aN (⟨⟨k0,k1⟩,k2,k3⟩:jF) s.l).length:Int),m'):=h1;show bm ar (lQ aN KK (aK s.m s.r) (br aN s.m s.r) (⟨⟨k0,k1⟩,k2,k3⟩:jF) 0).1=_
   rw[h1]
   rfl
 ·cases hx
def Iy:Prim Rt:=fun args hh=>match args,hh with
 |[.pointer (aa ⟨0,0,aj⟩)],[aa (.inr (.inr (.inr (.tree s))))]=>aa ⟨s.gj,.slice (aa ⟨1,0,aa 4000⟩) s.l.length 0,aj,[oT s.all,aa (.inr (.inl (75,⟨[.int .i64 0,.int .i64 0,.bool an,.int .i64 0],s.l.length,[⟨s.l.map fun e=>e.it.k,[],[]⟩,⟨s.l.map fun e=>e.it.i,[],[]⟩,⟨[],s.l.map fun e=>e.kD,[]⟩,⟨s.l.map fun e=>e.time,[],[]⟩]⟩)))],[],[(0,0)]⟩
 |_,_=>aj
theorem RE:b9 D2 Tryz.prog 61 (a9 Iy):=by
 refine np (c:=a9 (HS KK)) (Rz KK) fun args hh x hx=>?_
 unfold Iy at hx;split at hx
 ·rename_i s;cases hx;refine⟨ma _,l_ rfl,(fun hw=>by cases hw),fun hv=>⟨⟨_,.inl ⟨rfl,rfl⟩,rfl,?_,?_,?_⟩,rfl,rfl⟩⟩
  ·exact⟨s.pp hv,(s.ok.all (K:=KK) s.k1).1⟩
  ·obtain⟨_,m',h1,_⟩:=s.ok.all (K:=KK) s.k1;have h1:(bW aN KK (aK s.m s.r) s.r)=(s.l,m'):=h1;show([aa (.inl (132,[.pointer (aa ⟨1,0,aj⟩),.int .i64 s.r.i,.int .i64 s.r.g])),aa (.inr (.inr (.inr (.da (bW aN KK (aK s.m s.r) s.r).2)))),aa (.inr (.inl (75,⟨[.int .i64 0,.int .i64 0,.bool an,.int .i64 0],(bW aN KK (aK s.m s.r) s.r).1.length,[⟨(bW aN KK (aK s.m s.r) s.r).1.map fun e=>e.it.k,[],[]⟩,⟨(bW aN KK (aK s.m s.r) s.r).1.map fun e=>e.it.i,[],[]⟩,⟨[],(bW aN KK (aK s.m s.r) s.r).1.map fun e=>e.kD,[]⟩,⟨(bW aN KK (aK s.m s.r) s.r).1.map fun e=>e.time,[],[]⟩]⟩)))]:Hp Rs)=[aa (.inl (132,[.pointer (aa ⟨1,0,aj⟩),.int .i64 s.r.i,.int .i64 s.r.g])),aa (.inr (.inr (.inr (.da (bW aN KK (aK s.m s.r) s.r).2)))),aa (.inr (.inl (75,⟨[.int .i64 0,.int .i64 0,.bool an,.int .i64 0],s.l.length,[⟨s.l.map fun e=>e.it.k,[],[]⟩,⟨s.l.map fun e=>e.it.i,[],[]⟩,⟨[],s.l.map fun e=>e.kD,[]⟩,⟨s.l.map fun e=>e.time,[],[]⟩]⟩)))]
   rw[h1]
  ·obtain⟨_,m',h1,_⟩:=s.ok.all (K:=KK) s.k1;have h1:(bW aN KK (aK s.m s.r) s.r)=(s.l,m'):=h1;show bD (aa ⟨2,0,aa 4000⟩) (bW aN KK (aK s.m s.r) s.r).1.length 0=_
   rw[h1]
   rfl
 ·cases hx
def Rq:Prim Rt:=fun args hh=>match args,hh with
 |[.pointer (aa ⟨0,0,aj⟩),.int .i64 i_],[aa (.inr (.inr (.inr (.tree s))))]=>aa ⟨s.gj,.tuple #[.agg ⟨[.int .i64 (mo aN i_ s.l).1.it.k,.int .i64 (mo aN i_ s.l).1.it.i,.bool (mo aN i_ s.l).1.kD,.int .i64 (mo aN i_ s.l).1.time]⟩,.bool (mo aN i_ s.l).2],aj,[oT (s.at_ i_)],[],[(0,0)]⟩
 |_,_=>aj
theorem acI:b9 D2 Tryz.prog 122 (a9 Rq):=by
 refine np (c:=a9 (MV KK)) (UM KK) fun args hh x hx=>?_
 unfold Rq at hx;split at hx
 ·rename_i i_ s;cases hx;refine⟨a_ _,l_ rfl,(fun hw=>by cases hw),fun hv=>⟨⟨_,.inl ⟨rfl,rfl⟩,rfl,?_,?_,?_⟩,rfl,rfl⟩⟩
  ·exact⟨s.pp hv,(s.ok.at_ (i:=i_) s.k1).1⟩
  ·rfl
  ·obtain⟨_,m',h1,_⟩:=s.ok.at_ (K:=KK) (i:=i_) s.k1;have h1:(lC aN KK s.m s.r i_)=((mo aN i_ s.l),m'):=h1;show cq #[.agg ⟨[.int .i64 (lC aN KK s.m s.r i_).1.1.it.k,.int .i64 (lC aN KK s.m s.r i_).1.1.it.i,.bool (lC aN KK s.m s.r i_).1.1.kD,.int .i64 (lC aN KK s.m s.r i_).1.1.time]⟩,.bool (lC aN KK s.m s.r i_).1.2]=_
   rw[h1]
   rfl
 ·cases hx
end G9
namespace Wv
open Rx
set_option maxRecDepth 100000
set_option maxHeartbeats 4000000
def ads {R:Type}:Prim R:=fun args hh=>match args,hh with
 |[.agg ⟨[.int .i64 a,.int .i64 b]⟩,.agg ⟨[.int .i64 c,.int .i64 d]⟩],[]=>aa ⟨True,.bool (decide (ah ⟨a,b⟩ ⟨c,d⟩)),aj,hh,[],[]⟩
 |_,_=>aj
theorem ah2 {R:Type} {D:fJ R}:b9 D Tryz.prog 92 (a9 ads):=by
 refine fu Tryz.f92 fun args hh x hx=>?_
 unfold ads at hx;split at hx
 ·rename_i a b c d;cases hx;refine q4 fun _ hv=>?_
  generalize hG:cj (R:=R) _ _=G;refine cL (T:=[]) trivial mixed 200 ?_;refine bK (q:=let Z1:=bm ar;(decide (a<c)=an->((a==c)=ao->aX (G (aC (decide (b<d))) [aa (.inl (31,[Z1 a,Z1 b])),aa (.inl (31,[Z1 c,Z1 d]))]))/\((a==c)=an->aX (G (aC an) [aa (.inl (31,[Z1 a,Z1 b])),aa (.inl (31,[Z1 c,Z1 d]))])))/\(decide (a<c)=ao->aX (G (aC ao) [aa (.inl (31,[Z1 a,Z1 b])),aa (.inl (31,[Z1 c,Z1 d]))]))) ?_ (by kernel_rfl)
  intro Z1;subst Z1;have fin:∀ (z:Bool) (hp:Hp R),z=decide (ah ⟨a,b⟩ ⟨c,d⟩)->G (.bool z) hp:=by
   intro z hp ht;subst ht;subst hG;exact⟨⟨[],rfl,rfl,trivial,rfl,rfl,rfl,rfl⟩⟩
  clear hG
  repeat' (first|apply cX|apply Vc.mk|apply fits.mk|intro h|apply aX.mk)
  all_goals (try simp only[sB] at *)
  all_goals first|contradiction|omega|exact jv ‹_›|exact jw ‹_›|exact ju ‹_›|exact⟨rfl,by omega⟩|exact rfl|(simp[*,-au];done)|skip
  ·refine fin _ _ (decide_eq_decide.2 ?_);unfold ah;simp only;omega
  ·refine fin _ _ (decide_eq_false ?_).symm;unfold ah;simp only;omega
  ·refine fin _ _ (decide_eq_true ?_).symm;unfold ah;simp only;omega
 ·cases hx
abbrev iR (l:List It):Row:=⟨[.int .i64 0,.int .i64 0],l.length,[⟨l.map It.k,[],[]⟩,⟨l.map It.i,[],[]⟩]⟩
def fo (r:Row):List It:=match r.ez with
 |[a,b]=>(n9 r.n).map fun i=>⟨a.i.getD i 0,b.i.getD i 0⟩
 |_=>[]
theorem FJ {α:Type} {l:List α} {f:Nat->α} (h:∀ i (hi:i<l.length),f i=l[i]):(n9 l.length).map f=l:=by
 refine Ob (by simp) fun i h1 h2=>?_
 simp only[List.getElem_map,List.getElem_range];exact h i h2
theorem Iu {α β:Type} {l:List α} {i:Nat} (f:α->β) (d:β) (hi:i<l.length):(l.map f).getD i d=f l[i]:=by
 rw[au,fh,bd hi];rfl
theorem Ar (l:List It):fo (iR l)=l:=by
 unfold fo;refine FJ fun i hi=>?_
 simp only[Iu _ _ hi]
theorem XU {α β:Type} (f:α->β) (l:List α) (a b:Nat):cut (l.map f) a b=(cut l a b).map f:=by
 unfold cut;rw[nw,mJ]
theorem cm {α β:Type} (f:α->β) (l:List α):cut (l.map f) 0 l.length=l.map f:=fE (by simp)
abbrev vI {R:Type} (l:List It):Option (SB R):=aa (.inr (.inr (.inl (iR l))))
abbrev oI {R:Type} (l:List It):Option (SB R):=aa (.inr (.inl (31,iR l)))
theorem aed {α:Type} {x:List α} {a b:Nat} (h:x.length≤a+b):cut x a b=x.drop a:=by
 unfold cut;exact jl (by simp;omega)
theorem ac5 {α:Type} {x:List α} {r:Nat} (v:α) (h:r≤x.length):cut (cut ([]++cut x 0 r) 0 r++cut [v] 0 1) 0 (r+1)=x.take r++[v]:=by
 have h1:cut ([]++cut x 0 r) 0 r=x.take r:=by unfold cut;simp[List.take_take]
 rw[h1,show cut [v] 0 1=[v] from rfl]
 exact fE (by simp;omega)
theorem ER {α:Type} {x:List α} {r L:Nat} {v:α} (hL:x.length=L) (h:r≤L):cut (cut ([]++cut x 0 r) 0 r++cut [v] 0 1) 0 (r+1)++cut x r ((L:Int)-(r:Int)).toNat=x.take r++v::x.drop r:=by
 rw[ac5 v (by omega),aed (by omega)]
 simp
theorem Ui {l:List It} {i:Nat} (hi:i<l.length):oB (l.take (i+1))=ins (l.getD i iz) (oB (l.take i)):=by
 rw[xq iz hi,Ej]
theorem mF {x:It} {S:List It} {k:Nat} (h:tn x S S.length=k):(ins x S).map It.k=(S.map It.k).take k++x.k::(S.map It.k).drop k/\(ins x S).map It.i=(S.map It.i).take k++x.i::(S.map It.i).drop k/\(k≤S.length->k+1+((S.length:Int)-(k:Int)).toNat=(ins x S).length):=by
 subst h;refine⟨?_,?_,fun h=>?_⟩
 ·unfold ins;rw[dJ,gw,nw,mJ]
 ·unfold ins;rw[dJ,gw,nw,mJ]
 ·rw[Xn];omega
def TAh {R:Type}:eJ R:=[(92,bJ zN 2 (a9 ads))]
theorem Ux {R:Type} {D:fJ R}:cN D Tryz.prog (TAh:eJ R):=⟨aU _ _ ah2,trivial⟩
def Zz {R:Type}:Prim R:=fun args hh=>match args,hh with
 |[.slice (aa ⟨0,0,aa 2000⟩) n c],[aa (.inr (.inr (.inl r)))]=>aa ⟨r=iR (fo r)/\n=(fo r).length/\(fo r).length≤100000,.slice (aa ⟨1,0,aa 2000⟩) (oB (fo r)).length 0,aj,[aa (.inr (.inr (.inl r))),oI (oB (fo r))],[],[(0,0)]⟩
 |_,_=>aj
theorem agy {R:Type} {D:fJ R}:b9 D Tryz.prog 59 (a9 Zz):=by
 refine fu Tryz.f59 fun args hh x hx=>?_
 unfold Zz at hx;split at hx
 ·rename_i n c r;cases hx;refine q4 fun _ hv=>?_
  obtain⟨hr,rfl,hb⟩:=hv;generalize fo r=l at *;subst hr
  generalize hG:cj (R:=R) _ _=G;refine cL (T:=TAh) Ux mixed 200 ?_;refine bK (q:=let Z1:=bm ar;At D Tryz.prog (dC Tryz.f59) 1 (ia Tryz.prog (dv (dw Tryz.f59)) G) [.inl [1,1,0,1,0],.inr (.inl 0),.inl [1,1,1]] (SS.mk (aa (bD (aa ⟨0,0,aa 2000⟩) l.length c)::aj::aa (bD (aa ⟨1,0,aa 2000⟩) 0 0)::aa (bD (aa ⟨2,0,aa 2000⟩) 0 0)::aa (Z1 0)::nH (nH (n4 (n4 (n4 ([])))))) [] [aa (.inr (.inr (.inl (Row.mk [Z1 0,Z1 0] l.length [aW.mk (ay It.k l) [] [],aW.mk (ay It.i l) [] []])))),aa (.inr (.inl (31,Row.mk [Z1 0,Z1 0] 0 [aW.mk [] [] [],aW.mk [] [] []]))),aa (.inr (.inl (31,Row.mk [Z1 0,Z1 0] 0 [aW.mk [] [] [],aW.mk [] [] []])))])) ?_ (by kernel_rfl)
  intro Z1;subst Z1;refine ld (by kernel_rfl) (ι:=Nat×List It) (fun x=>x.1≤l.length/\x.2=oB (l.take x.1)) [0,3,4] (fun x=>[.slice (aa ⟨0,0,aa 2000⟩) l.length c,.slice (aa ⟨1,0,aa 2000⟩) x.2.length 0,.int .i64 x.1]) (fun x=>[vI l,oI x.2]) (fun x=>l.length-x.1) 49 (fun i hi=>⟨rfl,rfl,by simp⟩) ⟨(0,[]),⟨dh _,rfl⟩,⟨[0,2],rfl,⟨rfl,⟨_,rfl,.inl rfl⟩,trivial⟩,rfl,rfl,rfl,rfl⟩⟩ fun x hx=>?_
  obtain⟨i,S⟩:=x;obtain⟨hi,hS⟩:=hx;simp only at hi hS ⊢;have hSl:S.length=i:=by rw[hS,XT,dQ];omega
  refine cL (T:=TAh) Ux mixed 200 ?_;refine bK (q:=let Z3:=bm ar;let Z1:=(bD (aa ⟨0,0,aa 2000⟩) l.length c);let Z2:=(bD (aa ⟨1,0,aa 2000⟩) (ae S) 0);(decide ((↑i:Int)<(↑l.length:Int))=ao->At D Tryz.prog (dC Tryz.f59) 1 (ia Tryz.prog (dv (dw Tryz.f59)) G) [.inl [1,1,0,1,0,0,1,0,0,1,0,0],.inr (.inl 2),.inl [1,1,0,1,0,0,1,0,0,1,1],.inr (.inl 1),.inl [1,1,0,1,0,0,1,1],.inr (.inr fun ou=>∃ j,(ax j≤ae l/\av j=oB (gY (ax j) l))/\ae l-ax j<ae l-i/\km R 1 49 [0,3,4] [.slice (aa ⟨0,0,aa 2000⟩) l.length c,.slice (aa ⟨1,0,aa 2000⟩) (ae (av j)) 0,Z3 (↑(ax j):Int)] [vI l,oI (av j)] (KG (SS.tm ou) [0,3,4]) (SS.hp ou) (ae (SS.tm ou))),.inr (.inl 0),.inl [1,1,1]] (SS.mk (aa Z1::aj::aj::aa Z2::aa (Z3 (↑i:Int))::aa (Z3 (↑(ae S):Int))::aj::aa (Z3 (↑i:Int))::aa Z1::aa (Z3 (↑l.length:Int))::aa (aC ao)::aj::aj::aa Z2::aa (Z3 (↑(ae S):Int))::nH (nH (aj::aj::[]))) [(10,ao)] [aa (.inr (.inr (.inl (Row.mk [Z3 0,Z3 0] l.length [aW.mk (ay It.k l) [] [],aW.mk (ay It.i l) [] []])))),aa (.inr (.inl (31,Row.mk [Z3 0,Z3 0] (ae S) [aW.mk (ay It.k S) [] [],aW.mk (ay It.i S) [] []])))]))/\(decide ((↑i:Int)<(↑l.length:Int))=an->aX (G Z2 [aa (.inr (.inr (.inl (Row.mk [Z3 0,Z3 0] l.length [aW.mk (ay It.k l) [] [],aW.mk (ay It.i l) [] []])))),aa (.inr (.inl (31,Row.mk [Z3 0,Z3 0] (ae S) [aW.mk (ay It.k S) [] [],aW.mk (ay It.i S) [] []])))]))) ?_ (by kernel_rfl)
  intro Z3 Z1 Z2;subst Z2 Z1 Z3;refine⟨fun h=>?_,fun h=>⟨?_⟩⟩
  ·have ch:i<l.length:=by have:=of_decide_eq_true h;omega
   clear h;refine ld (by kernel_rfl) (ι:=Nat) (fun k=>k≤S.length/\tn (l.getD i iz) S k=tn (l.getD i iz) S S.length) [0,3,4,5] (fun k=>[.slice (aa ⟨0,0,aa 2000⟩) l.length c,.slice (aa ⟨1,0,aa 2000⟩) S.length 0,.int .i64 i,.int .i64 k]) (fun k=>[vI l,oI S]) (fun k=>k) 49 (fun i hi=>⟨rfl,rfl,by simp⟩) ⟨S.length,⟨a_ _,rfl⟩,⟨[0,1],rfl,⟨rfl,⟨_,rfl,.inl rfl⟩,trivial⟩,rfl,rfl,rfl,rfl⟩⟩ fun k hk=>?_
   obtain⟨XI,hk2⟩:=hk;refine cL (T:=TAh) Ux mixed 200 ?_;refine bK (q:=let Z5:=bm ar;let Z1:=(↑k:Int);let Z2:=(↑(ae S):Int);let Z3:=(ah (It.mk (aI (ay It.k l) (0+(i:Int).toNat) (0:Int)) (aI (ay It.i l) (0+(i:Int).toNat) (0:Int))) (It.mk (aI (ay It.k S) (0+aG (Z1-(1:Int))) (0:Int)) (aI (ay It.i S) (0+aG (Z1-(1:Int))) (0:Int))));let Z4:=(bD (aa ⟨0,0,aa 2000⟩) l.length c);(decide (Z1>(0:Int))=ao->Vc (aC (decide (Z1>(0:Int)))=aC ao)/\Vc ((0:Int)≤(↑i:Int)/\(↑i:Int)<(↑l.length:Int)/\0+ae l≤ae l)/\Vc (0+(i:Int).toNat<ae l)/\Vc (fits (Z1-(1:Int)))/\Vc ((0:Int)≤Z1-(1:Int)/\Z1-(1:Int)<Z2/\0+ae S≤ae S)/\Vc (0+aG (Z1-(1:Int))<ae S)/\Vc True/\(decide Z3=ao->Vc (fits (Z1-(1:Int)))/\aX (∃ j,(j≤ae S/\tn (aI l i iz) S j=tn (aI l i iz) S (ae S))/\j<k/\km R 1 49 [0,3,4,5] [.slice (aa ⟨0,0,aa 2000⟩) l.length c,.slice (aa ⟨1,0,aa 2000⟩) (ae S) 0,Z5 (↑i:Int),Z5 (↑j:Int)] [vI l,oI S] [aa Z4,aa (bD (aa ⟨1,0,aa 2000⟩) (ae S) 0),aa (Z5 (↑i:Int)),aa (Z5 (Z1-(1:Int)))] [aa (.inr (.inr (.inl (Row.mk [Z5 0,Z5 0] l.length [aW.mk (ay It.k l) [] [],aW.mk (ay It.i l) [] []])))),aa (.inr (.inl (31,Row.mk [Z5 0,Z5 0] (ae S) [aW.mk (ay It.k S) [] [],aW.mk (ay It.i S) [] []])))] 49))/\(decide Z3=an->Vc ((0:Int)≤Z1/\Z1≤Z2/\0+ae S≤ae S)/\Vc (0≤0/\0+aG Z1≤ae S/\(0+aG Z1)*16≤140737488355328/\0+aG Z1≤140737488355328)/\Vc ((0:Int)≤(↑i:Int)/\(↑i:Int)<(↑l.length:Int)/\0+ae l≤ae l)/\Vc (0+(i:Int).toNat<ae l)/\Vc (0+(0+aG Z1)≤0+aG Z1/\1≤1/\(0+aG Z1+1)*16≤140737488355328/\0+aG Z1+1≤140737488355328)/\Vc (0=0/\(0:Int)≤Z1/\Z1≤Z2/\Z2≤Z2/\0+ae S≤ae S)/\Vc (0+(0+aG Z1+1)≤0+aG Z1+1/\0+aG Z1+aG (Z2-Z1)≤ae S/\(0+aG Z1+1+aG (Z2-Z1))*16≤140737488355328/\0+aG Z1+1+aG (Z2-Z1)≤140737488355328)/\Vc (fits ((↑i:Int)+(1:Int)))/\aX (∃ j,(ax j≤ae l/\av j=oB (gY (ax j) l))/\ae l-ax j<ae l-i/\km R 1 49 [0,3,4] [.slice (aa ⟨0,0,aa 2000⟩) l.length c,.slice (aa ⟨1,0,aa 2000⟩) (ae (av j)) 0,Z5 (↑(ax j):Int)] [vI l,oI (av j)] [aa Z4,aa (bD (aa ⟨6,0,aa 2000⟩) (0+aG Z1+1+aG (Z2-Z1)) 0),aa (Z5 ((↑i:Int)+(1:Int)))] [aa (.inr (.inr (.inl (Row.mk [Z5 0,Z5 0] l.length [aW.mk (ay It.k l) [] [],aW.mk (ay It.i l) [] []])))),aa (.inr (.inl (31,Row.mk [Z5 0,Z5 0] (ae S) [aW.mk (ay It.k S) [] [],aW.mk (ay It.i S) [] []]))),aj,aj,aa (.inr (.inl (31,Row.mk [Z5 0,Z5 0] 1 [aW.mk [aI (ay It.k l) (0+(i:Int).toNat) (0:Int)] [] [],aW.mk [aI (ay It.i l) (0+(i:Int).toNat) (0:Int)] [] []]))),aj,aa (.inr (.inl (31,Row.mk [Z5 0,Z5 0] (0+aG Z1+1+aG (Z2-Z1)) [aW.mk (cut (cut ([]++cut (ay It.k S) 0 (aG Z1)) 0 (0+aG Z1)++cut [aI (ay It.k l) (0+(i:Int).toNat) (0:Int)] 0 1) 0 (0+aG Z1+1)++cut (ay It.k S) (0+aG Z1) (aG (Z2-Z1))) [] [],aW.mk (cut (cut ([]++cut (ay It.i S) 0 (aG Z1)) 0 (0+aG Z1)++cut [aI (ay It.i l) (0+(i:Int).toNat) (0:Int)] 0 1) 0 (0+aG Z1+1)++cut (ay It.i S) (0+aG Z1) (aG (Z2-Z1))) [] []])))] 49)))/\(decide (Z1>(0:Int))=an->Vc (aC (decide (Z1>(0:Int)))=aC an)/\Vc ((0:Int)≤Z1/\Z1≤Z2/\0+ae S≤ae S)/\Vc (0≤0/\0+aG Z1≤ae S/\(0+aG Z1)*16≤140737488355328/\0+aG Z1≤140737488355328)/\Vc ((0:Int)≤(↑i:Int)/\(↑i:Int)<(↑l.length:Int)/\0+ae l≤ae l)/\Vc (0+(i:Int).toNat<ae l)/\Vc (0+(0+aG Z1)≤0+aG Z1/\1≤1/\(0+aG Z1+1)*16≤140737488355328/\0+aG Z1+1≤140737488355328)/\Vc (0=0/\(0:Int)≤Z1/\Z1≤Z2/\Z2≤Z2/\0+ae S≤ae S)/\Vc (0+(0+aG Z1+1)≤0+aG Z1+1/\0+aG Z1+aG (Z2-Z1)≤ae S/\(0+aG Z1+1+aG (Z2-Z1))*16≤140737488355328/\0+aG Z1+1+aG (Z2-Z1)≤140737488355328)/\Vc (fits ((↑i:Int)+(1:Int)))/\aX (∃ j,(ax j≤ae l/\av j=oB (gY (ax j) l))/\ae l-ax j<ae l-i/\km R 1 49 [0,3,4] [.slice (aa ⟨0,0,aa 2000⟩) l.length c,.slice (aa ⟨1,0,aa 2000⟩) (ae (av j)) 0,Z5 (↑(ax j):Int)] [vI l,oI (av j)] [aa Z4,aa (bD (aa ⟨6,0,aa 2000⟩) (0+aG Z1+1+aG (Z2-Z1)) 0),aa (Z5 ((↑i:Int)+(1:Int)))] [aa (.inr (.inr (.inl (Row.mk [Z5 0,Z5 0] l.length [aW.mk (ay It.k l) [] [],aW.mk (ay It.i l) [] []])))),aa (.inr (.inl (31,Row.mk [Z5 0,Z5 0] (ae S) [aW.mk (ay It.k S) [] [],aW.mk (ay It.i S) [] []]))),aj,aj,aa (.inr (.inl (31,Row.mk [Z5 0,Z5 0] 1 [aW.mk [aI (ay It.k l) (0+(i:Int).toNat) (0:Int)] [] [],aW.mk [aI (ay It.i l) (0+(i:Int).toNat) (0:Int)] [] []]))),aj,aa (.inr (.inl (31,Row.mk [Z5 0,Z5 0] (0+aG Z1+1+aG (Z2-Z1)) [aW.mk (cut (cut ([]++cut (ay It.k S) 0 (aG Z1)) 0 (0+aG Z1)++cut [aI (ay It.k l) (0+(i:Int).toNat) (0:Int)] 0 1) 0 (0+aG Z1+1)++cut (ay It.k S) (0+aG Z1) (aG (Z2-Z1))) [] [],aW.mk (cut (cut ([]++cut (ay It.i S) 0 (aG Z1)) 0 (0+aG Z1)++cut [aI (ay It.i l) (0+(i:Int).toNat) (0:Int)] 0 1) 0 (0+aG Z1+1)++cut (ay It.i S) (0+aG Z1) (aG (Z2-Z1))) [] []])))] 49))) ?_ (by kernel_rfl)
   intro Z5 Z1 Z2 Z3 Z4;subst Z4 Z3 Z2 Z1 Z5;have e0:0+(i:Int).toNat=i:=by omega
   have gl:∀ f:It->Int,f iz=0->(l.map f).getD i 0=f (l.getD i iz):=fun f hf=>by rw[Iu f 0 ch,au,bd ch];rfl
   simp only[e0,gl It.k rfl,gl It.i rfl];have gS:∀ f:It->Int,f iz=0->((k:Int)-1).toNat<S.length->(S.map f).getD ((k:Int)-1).toNat 0=f (S.getD ((k:Int)-1).toNat iz):=fun f hf hj=>by rw[Iu f 0 hj,au,bd hj];rfl
   repeat' (first|apply cX|apply Vc.mk|apply fits.mk|intro h|apply aX.mk)
   all_goals (try simp only[sB] at *)
   all_goals first|contradiction|omega|exact jv ‹_›|exact jw ‹_›|exact ju ‹_›|exact⟨rfl,by omega⟩|exact rfl|(simp[*,-au];done)|skip
   ·have h1:(k:Int)>0:=by assumption
    rw[gS It.k rfl (by omega),gS It.i rfl (by omega)] at h
    obtain⟨n,rfl⟩:∃ n,k=n+1:=⟨k-1,by omega⟩
    have e1:((n+1:Nat):Int)-1=n:=by omega
    rw[e1,iJ] at h;rw[e1];exact⟨n,⟨by omega,by rw[← hk2,tn,if_pos h]⟩,fC _,⟨[0,1],rfl,⟨rfl,⟨_,rfl,.inl rfl⟩,trivial⟩,rfl,rfl,rfl,rfl⟩⟩
   ·have h1:(k:Int)>0:=by assumption
    rw[gS It.k rfl (by omega),gS It.i rfl (by omega)] at h
    obtain⟨n,rfl⟩:∃ n,k=n+1:=⟨k-1,by omega⟩
    have e1:((n+1:Nat):Int)-1=n:=by omega
    rw[e1,iJ] at h;have hp:tn (l.getD i iz) S S.length=n+1:=by rw[← hk2,tn,if_neg h]
    have hI:=mF hp;simp only[ER (x:=S.map It.k) (r:=n+1) (L:=S.length) (fS ..) XI,ER (x:=S.map It.i) (r:=n+1) (L:=S.length) (fS ..) XI,← hI.1,← hI.2.1,hI.2.2 XI];exact⟨(i+1,ins (l.getD i iz) S),⟨ch,by rw[hS,Ui ch]⟩,by omega,⟨[0,6],rfl,⟨rfl,⟨_,rfl,.inl rfl⟩,trivial⟩,rfl,rfl,rfl,rfl⟩⟩
   ·obtain rfl:k=0:=by omega
    have hp:tn (l.getD i iz) S S.length=0:=by rw[← hk2];rfl
    have hI:=mF hp;simp only[ER (x:=S.map It.k) (r:=0) (L:=S.length) (fS ..) XI,ER (x:=S.map It.i) (r:=0) (L:=S.length) (fS ..) XI,← hI.1,← hI.2.1,hI.2.2 XI];exact⟨(i+1,ins (l.getD i iz) S),⟨ch,by rw[hS,Ui ch]⟩,by omega,⟨[0,6],rfl,⟨rfl,⟨_,rfl,.inl rfl⟩,trivial⟩,rfl,rfl,rfl,rfl⟩⟩
  ·obtain rfl:i=l.length:=by have:=of_decide_eq_false h;omega
   subst hG;rw[hS,jP];exact⟨[0,1],rfl,rfl,⟨rfl,⟨_,rfl,.inl rfl⟩,trivial⟩,rfl,rfl,rfl,rfl⟩
 ·cases hx
end Wv
namespace Sh
open Rx Wv
set_option maxRecDepth 100000
set_option maxHeartbeats 4000000
def kM (l:List It) (a n:Nat):Row:=⟨[.int .i64 0,.int .i64 0],n,[⟨cut (l.map It.k) a n,[],[]⟩,⟨cut (l.map It.i) a n,[],[]⟩]⟩
theorem zO (l:List It):kM l 0 l.length=iR l:=by unfold kM;simp only[cm]
theorem ag2 (l:List It):(⟨[.int .i64 0,.int .i64 0],l.length,[⟨cut (l.map It.k) 0 l.length,[],[]⟩,⟨cut (l.map It.i) 0 l.length,[],[]⟩]⟩:Row)=iR l:=by simp only[cm]
theorem Mu {β:Type} {l:List It} {i:Nat} (f:It->β) (d:β) (h:f iz=d):(l.map f).getD i d=f (l.getD i iz):=by
 subst h;rw[au,au,fh];cases l[i]?<;>rfl
theorem VV (i:Nat):0+(i:Int).toNat=i:=by omega
theorem Tz {a b:It}:(a.k==b.k&&(a.i==b.i&&ao))=decide (a=b):=by
 rw[Tb,Bool.eq_iff_iff];simp only[Bool.and_eq_true,beq_iff_eq,decide_eq_true_eq];exact⟨fun h=>It.Q0 h.1 h.2,fun h=>by rw[h];exact⟨rfl,rfl⟩⟩
def Pu (l:List It) (x:It):Int:=if nI x l=ao then(pR x l:Int) else -1
abbrev bI {R:Type} (x:It):Option (SB R):=aa (.inl (31,[.int .i64 x.k,.int .i64 x.i]))
def atP {R:Type}:Prim R:=fun args hh=>match args,hh with
 |[.slice (aa ⟨0,0,aa 2000⟩) n c,.agg ⟨[.int .i64 a,.int .i64 b]⟩],[aa (.inr (.inr (.inl r)))]=>aa ⟨r=iR (fo r)/\n=(fo r).length/\(fo r).length≤100000,.int .i64 (Pu (fo r) ⟨a,b⟩),aj,hh,[],[]⟩
 |_,_=>aj
theorem alB {R:Type} {D:fJ R}:b9 D Tryz.prog 50 (a9 atP):=by
 refine fu Tryz.f50 fun args hh x hx=>?_
 unfold atP at hx;split at hx
 ·rename_i n c a b r;cases hx;refine q4 fun _ hv=>?_
  obtain⟨hr,rfl,hb⟩:=hv;generalize fo r=l at *;subst hr
  generalize hG:cj (R:=R) _ _=G;refine cL (T:=[]) trivial mixed 200 ?_;refine bK (q:=let Z1:=bm ar;At D Tryz.prog (dC Tryz.f50) 1 (ia Tryz.prog (dv (dw Tryz.f50)) G) [.inl [1,0,1,0],.inr (.inl 0),.inl [1,1]] (SS.mk (aa (bD (aa ⟨0,0,aa 2000⟩) l.length c)::aa (bz (aJ [Z1 a,Z1 b]))::aj::aa (aB (aa ⟨1,0,aj⟩))::aa (Z1 0)::aa (Z1 0)::n4 (n4 (n4 (aj::[])))) [] [aa (.inr (.inr (.inl (iR l)))),aa (.inl (31,[Z1 a,Z1 b]))])) ?_ (by kernel_rfl)
  intro Z1;subst Z1;refine ld (by kernel_rfl) (ι:=Nat) (fun i=>i≤l.length/\∀ j,j<i->l.getD j iz≠⟨a,b⟩) [0,3,5] (fun i=>[.slice (aa ⟨0,0,aa 2000⟩) l.length c,.pointer (aa ⟨1,0,aj⟩),.int .i64 i]) (fun i=>[vI l,bI ⟨a,b⟩]) (fun i=>l.length-i) 19 (fun i hi=>⟨rfl,rfl,by simp⟩) ⟨0,⟨dh _,fun j hj=>by omega⟩,⟨[0,1],rfl,⟨rfl,.inl rfl,trivial⟩,rfl,rfl,rfl,rfl⟩⟩ fun i hi=>?_
  obtain⟨hi,hn⟩:=hi;refine cL (T:=[]) trivial mixed 200 ?_;refine bK (q:=let Z3:=bm ar;let Z1:=(aI (ay It.i l) (0+(i:Int).toNat) (0:Int)==b&&ao);let Z2:=(if an=ao then !(aI (ay It.k l) (0+(i:Int).toNat) (0:Int)==a&&Z1) else aI (ay It.k l) (0+(i:Int).toNat) (0:Int)==a&&Z1);(decide ((↑i:Int)<(↑l.length:Int))=ao->Vc ((0:Int)≤(↑i:Int)/\(↑i:Int)<(↑l.length:Int)/\0+ae l≤ae l)/\Vc (0+(i:Int).toNat<ae l)/\(Z2=ao->aX (G (Z3 (↑i:Int)) [aa (.inr (.inr (.inl (iR l)))),aa (.inl (31,[Z3 a,Z3 b]))]))/\(Z2=an->Vc (fits ((↑i:Int)+(1:Int)))/\aX (∃ j,(j≤ae l/\∀ (Ma:Nat),Ma<j->aI l Ma iz≠It.mk a b)/\ae l-j<ae l-i/\km R 1 19 [0,3,5] [.slice (aa ⟨0,0,aa 2000⟩) l.length c,.pointer (aa ⟨1,0,aj⟩),Z3 (↑j:Int)] [Wv.vI l,bI (It.mk a b)] [aa (bD (aa ⟨0,0,aa 2000⟩) l.length c),aa (aB (aa ⟨1,0,aj⟩)),aa (Z3 ((↑i:Int)+(1:Int)))] [aa (.inr (.inr (.inl (iR l)))),aa (.inl (31,[Z3 a,Z3 b]))] 19)))/\(decide ((↑i:Int)<(↑l.length:Int))=an->aX (G (Z3 (-1:Int)) [aa (.inr (.inr (.inl (iR l)))),aa (.inl (31,[Z3 a,Z3 b]))]))) ?_ (by kernel_rfl)
  intro Z3 Z1 Z2;subst Z2 Z1 Z3;simp only[VV,Mu It.k 0 rfl,Mu It.i 0 rfl];simp only[fP,if_false];have hx:=Tz (a:=l.getD i iz) (b:=⟨a,b⟩);simp only at hx;simp only[hx];refine⟨fun h=>?_,fun h=>?_⟩
  ·have ch:i<l.length:=by have:=of_decide_eq_true h;omega
   refine⟨⟨by omega,by omega,by omega⟩,⟨ch⟩,fun h2=>⟨?_⟩,fun h2=>⟨⟨by omega,by omega⟩,⟨i+1,⟨ch,fun j hj=>?_⟩,by omega,⟨[0,1],rfl,⟨rfl,.inl rfl,trivial⟩,rfl,rfl,rfl,rfl⟩⟩⟩⟩
   ·have e:=ajx hn ch (of_decide_eq_true h2);subst hG;unfold Pu nI;rw[e,decide_eq_true ch,if_pos rfl];exact⟨[0],rfl,rfl,⟨rfl,trivial⟩,rfl,rfl,rfl,rfl⟩
   ·rcases cr j i with c|c
    ·exact hn j c
    ·rw[show j=i by omega];exact of_decide_eq_false h2
  ·obtain rfl:i=l.length:=by have:=of_decide_eq_false h;omega
   have e:=ahZ hn;refine⟨?_⟩;subst hG;unfold Pu nI;rw[e,decide_eq_false (Nat.lt_irrefl _),if_neg (by decide)]
   exact⟨[0],rfl,rfl,⟨rfl,trivial⟩,rfl,rfl,rfl,rfl⟩
 ·cases hx
def TG {R:Type}:Prim R:=fun args hh=>match args,hh with
 |[.slice (aa ⟨0,0,aa 2000⟩) n c,.slice (aa ⟨1,0,aa 2000⟩) n' c'],[aa (.inr (.inr (.inl r))),aa (.inr (.inr (.inl r')))]=>aa ⟨r=iR (fo r)/\n=(fo r).length/\r'=iR (fo r')/\n'=(fo r').length/\(fo r).length≤100000,.bool (decide (fo r=fo r')),aj,hh,[],[]⟩
 |_,_=>aj
theorem XL {R:Type} {D:fJ R}:b9 D Tryz.prog 26 (a9 TG):=by
 refine fu Tryz.f26 fun args hh x hx=>?_
 unfold TG at hx;split at hx
 ·rename_i n c n' c' r r';cases hx;refine q4 fun _ hv=>?_
  obtain⟨hr,rfl,tP,rfl,hb⟩:=hv;generalize fo r=l at *;generalize fo r'=l' at *;subst hr;subst tP
  generalize hG:cj (R:=R) _ _=G;refine cL (T:=[]) trivial mixed 200 ?_;refine bK (q:=let Z1:=(bD (aa ⟨0,0,aa 2000⟩) l.length c);let Z2:=(bD (aa ⟨1,0,aa 2000⟩) (ae l') c');(((↑l.length:Int) != (↑(ae l'):Int))=ao->aX (G (aC an) [aa (.inr (.inr (.inl (iR l)))),aa (.inr (.inr (.inl (iR l'))))]))/\(((↑l.length:Int) != (↑(ae l'):Int))=an->At D Tryz.prog (dC Tryz.f26) 2 (ia Tryz.prog (dv (dw Tryz.f26)) G) [.inl [1,1,0,1,0],.inr (.inl 0),.inl [1,1,1]] (SS.mk (aa Z1::aa Z2::aj::aj::aa (aC an)::aa (bm ar 0)::aa Z1::aa (bm ar (↑l.length:Int))::aa Z2::aa (bm ar (↑(ae l'):Int))::aa (aC an)::n4 (n4 (n4 (aj::aj::aj::[])))) [(10,an),(4,an)] [aa (.inr (.inr (.inl (iR l)))),aa (.inr (.inr (.inl (iR l'))))]))) ?_ (by kernel_rfl)
  intro Z1 Z2;subst Z2 Z1;refine⟨fun h=>⟨?_⟩,fun h=>?_⟩
  ·have h2:¬ l=l':=fun e=>by rw[e,bne_self_eq_false] at h;cases h
   subst hG;rw[decide_eq_false h2];exact⟨[0,1],rfl,rfl,⟨rfl,rfl,trivial⟩,rfl,rfl,rfl,rfl⟩
  have hl:l.length=l'.length:=by have:=(bne_eq_false_iff_eq).1 h;omega
  clear h;refine ld (by kernel_rfl) (ι:=Nat) (fun i=>i≤l.length/\∀ j,j<i->l.getD j iz=l'.getD j iz) [0,1,5] (fun i=>[.slice (aa ⟨0,0,aa 2000⟩) l.length c,.slice (aa ⟨1,0,aa 2000⟩) l'.length c',.int .i64 i]) (fun i=>[vI l,vI l']) (fun i=>l.length-i) 26 (fun i hi=>⟨rfl,rfl,by simp⟩) ⟨0,⟨dh _,fun j hj=>by omega⟩,⟨[0,1],rfl,⟨rfl,rfl,trivial⟩,rfl,rfl,rfl,rfl⟩⟩ fun i hi=>?_
  obtain⟨hi,hn⟩:=hi;refine cL (T:=[]) trivial mixed 200 ?_;refine bK (q:=let Z1:=(aI (ay It.i l) (0+(i:Int).toNat) (0:Int)==aI (ay It.i l') (0+(i:Int).toNat) (0:Int)&&ao);let Z2:=(if ao=ao then !(aI (ay It.k l) (0+(i:Int).toNat) (0:Int)==aI (ay It.k l') (0+(i:Int).toNat) (0:Int)&&Z1) else aI (ay It.k l) (0+(i:Int).toNat) (0:Int)==aI (ay It.k l') (0+(i:Int).toNat) (0:Int)&&Z1);(decide ((↑i:Int)<(↑l.length:Int))=ao->Vc ((0:Int)≤(↑i:Int)/\(↑i:Int)<(↑l.length:Int)/\0+ae l≤ae l)/\Vc (0+(i:Int).toNat<ae l)/\Vc ((0:Int)≤(↑i:Int)/\(↑i:Int)<(↑(ae l'):Int)/\0+ae l'≤ae l')/\Vc (0+(i:Int).toNat<ae l')/\(Z2=ao->aX (G (aC an) [aa (.inr (.inr (.inl (iR l)))),aa (.inr (.inr (.inl (iR l'))))]))/\(Z2=an->Vc (fits ((↑i:Int)+(1:Int)))/\aX (∃ j,(j≤ae l/\∀ (Ma:Nat),Ma<j->aI l Ma iz=aI l' Ma iz)/\ae l-j<ae l-i/\km R 2 26 [0,1,5] [.slice (aa ⟨0,0,aa 2000⟩) l.length c,.slice (aa ⟨1,0,aa 2000⟩) (ae l') c',.int ar (↑j:Int)] [Wv.vI l,Wv.vI l'] [aa (bD (aa ⟨0,0,aa 2000⟩) l.length c),aa (bD (aa ⟨1,0,aa 2000⟩) (ae l') c'),aa (bm ar ((↑i:Int)+(1:Int)))] [aa (.inr (.inr (.inl (iR l)))),aa (.inr (.inr (.inl (iR l'))))] 26)))/\(decide ((↑i:Int)<(↑l.length:Int))=an->aX (G (aC ao) [aa (.inr (.inr (.inl (iR l)))),aa (.inr (.inr (.inl (iR l'))))]))) ?_ (by kernel_rfl)
  intro Z1 Z2;subst Z2 Z1;simp only[VV,Mu It.k 0 rfl,Mu It.i 0 rfl];have hx:=Tz (a:=l.getD i iz) (b:=l'.getD i iz);simp only[hx,if_true,ite_true];refine⟨fun h=>?_,fun h=>?_⟩
  ·have ch:i<l.length:=by have:=of_decide_eq_true h;omega
   have VR:i<l'.length:=by omega
   refine⟨⟨by omega,by omega,by omega⟩,⟨ch⟩,⟨by omega,by omega,by omega⟩,⟨VR⟩,fun h2=>⟨?_⟩,fun h2=>⟨⟨by omega,by omega⟩,⟨i+1,⟨ch,fun j hj=>?_⟩,by omega,⟨[0,1],rfl,⟨rfl,rfl,trivial⟩,rfl,rfl,rfl,rfl⟩⟩⟩⟩
   ·have h3:¬ l.getD i iz=l'.getD i iz:=by simpa using h2
    have h4:¬ l=l':=fun e=>h3 (by rw[e])
    subst hG;rw[decide_eq_false h4];exact⟨[0,1],rfl,rfl,⟨rfl,rfl,trivial⟩,rfl,rfl,rfl,rfl⟩
   ·have h3:l.getD i iz=l'.getD i iz:=by simpa using h2
    rcases cr j i with c|c
    ·exact hn j c
    ·rw[show j=i by omega];exact h3
  ·obtain rfl:i=l.length:=by have:=of_decide_eq_false h;omega
   have e:l=l':=Ob hl fun j h1 h2=>by
    have:=hn j h1
    rwa [au,bd h1,au,bd h2] at this
   refine⟨?_⟩;subst hG;rw[decide_eq_true e];exact⟨[0,1],rfl,rfl,⟨rfl,rfl,trivial⟩,rfl,rfl,rfl,rfl⟩
 ·cases hx
theorem J7 (l:List It) (x:It):decide (Pu l x<0) = !nI x l:=by
 unfold Pu;cases nI x l
 ·rfl
 ·simp only[if_true,Bool.not_true];exact decide_eq_false (by omega)
end Sh
namespace G9
open Rx Wv Sh
set_option maxRecDepth 100000
set_option maxHeartbeats 16000000
def Vr:je Rt:=⟨fun _ _=>aa ao,fun _ _=>aj,fun _ _=>aa ⟨True,.bool an,aj,[],[],[]⟩⟩
theorem Rf:RC D2 Vr:=by
 refine⟨fun _ X p F w h=>?_,fun e X x p F w hx=>by cases hx⟩
 obtain⟨L_,O',h1,h2,h3⟩:=h;obtain⟨t,cs,tl,hl⟩:∃ t cs tl,L2.lay X=aa (.inl (t,cs))::tl:=by cases X;exact⟨_,_,_,rfl⟩
 obtain⟨g1,g2,g3⟩:=(h3.at_ 0 (.inl (t,cs)) (by rw[hl];rfl)).1
 subst h1;exact⟨(h2 _).2 ⟨0,(g2 _).2 rfl⟩,_,_,g3⟩
def h9 (s:Ts):List It:=s.l.map Sl.it
theorem Q8 {s:Ts} {l:List It} (h:s.l=mC l):h9 s=l:=by
 unfold h9;rw[h];unfold mC;rw[List.map_map];exact List.map_id'' (fun _=>rfl) l
abbrev oS (l:List Sl):Option (SB Rt):=aa (.inr (.inl (75,⟨[.int .i64 0,.int .i64 0,.bool an,.int .i64 0],l.length,[⟨l.map fun e=>e.it.k,[],[]⟩,⟨l.map fun e=>e.it.i,[],[]⟩,⟨[],l.map fun e=>e.kD,[]⟩,⟨l.map fun e=>e.time,[],[]⟩]⟩)))
theorem aic {α:Type} (v:α):cut [v] 0 1=[v]:=rfl
def TNw:eJ Rt:=[(91,bJ zN 2 (a9 IK))]
theorem TV:cN D2 Tryz.prog TNw:=⟨aU _ _ QP,trivial⟩
def NU:Prim Rt:=fun args hh=>match args,hh with
 |[.int .i64 c],[]=>aa ⟨True,.pointer (aa ⟨0,0,aj⟩),aj,[oT (qO k9 c)],[],[(0,0)]⟩
 |_,_=>aj
theorem Wh:b9 D2 Tryz.prog 53 (a9 NU):=by
 refine fu Tryz.f53 fun args hh x hx=>?_
 unfold NU at hx;split at hx
 ·rename_i c;cases hx;refine q4 fun _ hv=>?_
  generalize hG:cj (R:=Rt) _ _=G;refine cL (T:=TNw) TV mixed 200 ?_;refine bK (q:=Vc True/\aX (G (aB (aa ⟨0,0,aj⟩)) [aa (.inr (.inr (.inr (Rt.tree (qO k9 c)))))])) ?_ (by kernel_rfl)
  subst hG;exact⟨⟨trivial⟩,⟨⟨[0],rfl,rfl,⟨rfl,trivial⟩,rfl,rfl,rfl,rfl⟩⟩⟩
 ·cases hx
def TIt:eJ Rt:=[(1000000000,Vr),(61,bJ zN 2 (a9 Iy)),(38,bJ zN 2 (a9 Ay)),(94,bJ zN 2 (a9 Av)),(69,bJ zN 2 (a9 Nz))]
theorem abg:cN D2 Tryz.prog TIt:=⟨Rf,aU _ _ RE,aU _ _ BD,aU _ _ Ek,aU _ _ KF,trivial⟩
def TZ:Prim Rt:=fun args hh=>match args,hh with
 |[.pointer (aa ⟨0,0,aj⟩)],[aa (.inr (.inr (.inr (.tree s))))]=>aa ⟨s.gj,.slice (aa ⟨1,0,aa 2000⟩) s.l.length 0,aj,[oT s.seen.all,oI (h9 s)],[],[(0,0)]⟩
 |_,_=>aj
theorem aew:b9 D2 Tryz.prog 22 (a9 TZ):=by
 refine fu Tryz.f22 fun args hh x hx=>?_
 unfold TZ at hx;split at hx
 ·rename_i s;cases hx;refine q4 fun _ hv=>?_
  generalize hG:cj (R:=Rt) _ _=G;refine cL (T:=TIt) abg mixed 200 ?_;refine bK (q:=let Z5:=bm ar;let Z1:=(↑(ae (eM s)):Int);let Z2:=(aB (aa ⟨0,0,aj⟩));let Z3:=(bD (aa ⟨2,0,aa 2000⟩) 0 (aG Z1));let Z4:=(eM (dF s));Vc (eW s)/\Vc ((0:Int)≤(0:Int)/\(0:Int)≤Z1/\Z1*(16:Int)≤(140737488355328:Int)/\Z1≤(140737488355328:Int))/\Vc (eW (dF s))/\At D2 Tryz.prog (dC Tryz.f22) 1 (ia Tryz.prog (dv (dw Tryz.f22)) G) [.inl [1,1,1,0,1,0],.inr (.inl 0),.inl [1,1,1,1]] (SS.mk (aa Z2::aj::aa (bD (aa ⟨1,0,aa 2000⟩) 0 0)::aa Z3::aj::aj::aa Z2::aa (aC an)::aa Z2::aa (Z5 Z1)::aa Z3::aa Z2::aa (bD (aa ⟨3,0,aa 4000⟩) (ae Z4) 0)::aa (Z5 (↑(ae Z4):Int))::aa (Z5 0)::n4 (n4 (aj::aj::[]))) [(7,an)] [aa (.inr (.inr (.inr (Rt.tree (tG (dF s)))))),aa (.inr (.inl (31,Row.mk [Z5 0,Z5 0] 0 [aW.mk [] [] [],aW.mk [] [] []]))),aa (.inr (.inl (31,Row.mk [Z5 0,Z5 0] 0 [aW.mk [] [] [],aW.mk [] [] []]))),aa (.inr (.inl (75,Row.mk [Z5 0,Z5 0,.bool an,Z5 0] (ae Z4) [aW.mk (ay (fun e=>It.k (Sl.it e)) Z4) [] [],aW.mk (ay (fun e=>It.i (Sl.it e)) Z4) [] [],aW.mk [] (ay (fun e=>Sl.kD e) Z4) [],aW.mk (ay (fun e=>Sl.time e) Z4) [] []])))])) ?_ (by kernel_rfl)
  intro Z5 Z1 Z2 Z3 Z4;subst Z4 Z3 Z2 Z1 Z5;have hb:=s.Hk;refine⟨⟨hv⟩,⟨⟨by omega,by omega,by omega,by omega⟩⟩,⟨hv⟩,?_⟩
  have hL:(h9 s).length=s.l.length:=by unfold h9;rw[fS]
  refine ld (by kernel_rfl) (ι:=Nat×Nat) (fun x=>x.1≤s.l.length/\(x.1=s.l.length->x.2=0)) [3,12,13,14] (fun x=>[.slice (aa ⟨1,0,aa 2000⟩) ((h9 s).take x.1).length x.2,.slice (aa ⟨2,0,aa 4000⟩) s.l.length 0,.int .i64 s.l.length,.int .i64 x.1]) (fun x=>[oT s.seen.all,oI ((h9 s).take x.1),oS s.l]) (fun x=>s.l.length-x.1) 25 (fun i hi=>⟨rfl,rfl,by simp⟩) ⟨(0,(s.l.length:Int).toNat),⟨dh _,fun h=>by rw[← h];rfl⟩,⟨[0,2,3],rfl,⟨rfl,⟨_,rfl,.inl rfl⟩,⟨_,rfl,.inl rfl⟩,trivial⟩,rfl,rfl,rfl,rfl⟩⟩ fun x hx=>?_
  obtain⟨i,cp⟩:=x;obtain⟨hi,Vi⟩:=hx;simp only at hi Vi ⊢;refine cL (T:=TIt) abg mixed 200 ?_;refine bK (q:=let Z4:=bm ar;let Z1:=(eM s);let Z2:=(↑(ae Z1):Int);let Z3:=(gY i (h9 s));(decide ((↑i:Int)<Z2)=ao->Vc ((0:Int)≤(↑i:Int)/\(↑i:Int)<Z2/\0+ae Z1≤ae Z1)/\Vc (0+(i:Int).toNat<ae Z1)/\Vc (0+ae Z3≤ae Z3/\1≤1/\(ae Z3+1)*16≤140737488355328/\ae Z3+1≤140737488355328)/\Vc True/\aX (∃ j,(ax j≤ae Z1/\(ax j=ae Z1->av j=0))/\ae Z1-ax j<ae Z1-i/\km Rt 1 25 [3,12,13,14] [.slice (aa ⟨1,0,aa 2000⟩) (ae (gY (ax j) (h9 s))) (av j),.slice (aa ⟨2,0,aa 4000⟩) (ae Z1) 0,Z4 Z2,Z4 (↑(ax j):Int)] [oT (tG (dF s)),oI (gY (ax j) (h9 s)),oS Z1] [aa (bD (aa ⟨5,0,aa 2000⟩) (ae Z3+1) 0),aa (bD (aa ⟨2,0,aa 4000⟩) (ae Z1) 0),aa (Z4 Z2),aa (Z4 (ck ar ((↑i:Int)+(1:Int))))] [aa (.inr (.inr (.inr (Rt.tree (tG (dF s)))))),aj,aa (.inr (.inl (75,Row.mk [Z4 0,Z4 0,.bool an,Z4 0] (ae Z1) [aW.mk (ay (fun e=>It.k (Sl.it e)) Z1) [] [],aW.mk (ay (fun e=>It.i (Sl.it e)) Z1) [] [],aW.mk [] (ay (fun e=>Sl.kD e) Z1) [],aW.mk (ay (fun e=>Sl.time e) Z1) [] []]))),aa (.inl (75,[Z4 (aI (ay (fun e=>It.k (Sl.it e)) Z1) (0+(i:Int).toNat) (0:Int)),Z4 (aI (ay (fun e=>It.i (Sl.it e)) Z1) (0+(i:Int).toNat) (0:Int)),.bool (aI (ay (fun e=>Sl.kD e) Z1) (0+(i:Int).toNat) an),Z4 (aI (ay (fun e=>Sl.time e) Z1) (0+(i:Int).toNat) (0:Int))])),aa (.inr (.inl (31,Row.mk [Z4 0,Z4 0] 1 [aW.mk [aI (ay (fun e=>It.k (Sl.it e)) Z1) (0+(i:Int).toNat) (0:Int)] [] [],aW.mk [aI (ay (fun e=>It.i (Sl.it e)) Z1) (0+(i:Int).toNat) (0:Int)] [] []]))),aa (.inr (.inl (31,Row.mk [Z4 0,Z4 0] (ae Z3+1) [aW.mk (cut (ay It.k Z3) 0 (ae Z3)++cut [aI (ay (fun e=>It.k (Sl.it e)) Z1) (0+(i:Int).toNat) (0:Int)] 0 1) [] [],aW.mk (cut (ay It.i Z3) 0 (ae Z3)++cut [aI (ay (fun e=>It.i (Sl.it e)) Z1) (0+(i:Int).toNat) (0:Int)] 0 1) [] []])))] 25))/\(decide ((↑i:Int)<Z2)=an->aX (G (bD (aa ⟨1,0,aa 2000⟩) (ae Z3) cp) [aa (.inr (.inr (.inr (Rt.tree (tG (dF s)))))),aa (.inr (.inl (31,iR Z3))),aa (.inr (.inl (75,Row.mk [Z4 0,Z4 0,.bool an,Z4 0] (ae Z1) [aW.mk (ay (fun e=>It.k (Sl.it e)) Z1) [] [],aW.mk (ay (fun e=>It.i (Sl.it e)) Z1) [] [],aW.mk [] (ay (fun e=>Sl.kD e) Z1) [],aW.mk (ay (fun e=>Sl.time e) Z1) [] []])))]))) ?_ (by kernel_rfl)
  intro Z4 Z1 Z2 Z3;subst Z3 Z2 Z1 Z4;have gS:∀ {β:Type} (f:Sl->β) (d:β),f Yn=d->(s.l.map f).getD i d=f (s.l.getD i Yn):=fun f d h=>by
   subst h;rw[au,au,fh];cases s.l[i]?<;>rfl
  have hS:i<s.l.length->(h9 s).take (i+1)=(h9 s).take i++[(s.l.getD i Yn).it]:=fun h=>by
   rw[xq iz (by omega)]
   unfold h9;rw[au,fh,au,bd h];rfl
  have FR:=List.length_take_le i (h9 s);simp only[gS (fun e=>e.it.k) 0 rfl,gS (fun e=>e.it.i) 0 rfl,gS (fun e=>e.kD) an rfl,gS (fun e=>e.time) 0 rfl,cm,aic,VV]
  refine⟨fun h=>?_,fun h=>?_⟩
  ·have ch:i<s.l.length:=by have:=of_decide_eq_true h;omega
   have hW:ar.wrap ((i:Int)+1)=((i+1:Nat):Int):=oo ⟨by omega,by omega⟩
   refine⟨⟨by omega,by omega,by omega⟩,⟨by omega⟩,⟨by omega,by omega,by omega,by omega⟩,⟨trivial⟩,⟨(i+1,0),⟨ch,fun _=>rfl⟩,by simp only;omega,?_⟩⟩
   rw[hS ch,hW];simp only[oI,iR,bF,cy,jM,dJ,gw,uK,bU];exact⟨[0,5,2],rfl,⟨rfl,⟨_,rfl,.inl rfl⟩,⟨_,rfl,.inl rfl⟩,trivial⟩,rfl,rfl,rfl,rfl⟩
  ·obtain rfl:i=s.l.length:=by have:=of_decide_eq_false h;omega
   obtain rfl:=Vi rfl;refine⟨?_⟩;subst hG;rw[← hL,jP];exact⟨[0,1],rfl,rfl,⟨rfl,⟨_,rfl,.inl rfl⟩,trivial⟩,rfl,rfl,rfl,rfl⟩
 ·cases hx
end G9
namespace Br
open Rx Wv G8
set_option maxRecDepth 100000
def tkL (x:Option It):List Value:=[.bool x.isSome,.int .i64 (x.getD iz).k,.int .i64 (x.getD iz).i]
theorem TE {L:List Mk} {b:Int} (hl:L.length≤60) (L4:-1099511627776≤b) (On:b≤1099511627776):Gv.AB O8 S8 (j3 b) (fun i=>decide (vV L b (i+1)≤0)) L:=acW fun p l q hL kz=>by
 have hn:=congrArg ae hL;simp only[bF] at hn;have hp:p.length≤60:=by omega
 have hq:l.length≤60:=by omega
 have h1:=Ti.AN (Gc Zs hp) _ (a_ _);have h2:=Ti.Gx (Gc Zs hq) _ (a_ _);have e1:(S8 p).w.s=Ti.oW (p.map uf) (p.map uf).length:=rfl;have e2:(S8 l).w.l=Ti.qs (l.map uf) (l.map uf).length:=rfl;rw[← e1] at h1;rw[← e2] at h2;unfold j3;have w1:mY (b+(S8 p).w.s)=b+(S8 p).w.s:=Gv.ua (by omega)
 have w2:mY (b+(S8 p).w.s+(S8 l).w.l)=b+(S8 p).w.s+(S8 l).w.l:=Gv.ua (by omega)
 rw[w1,w2,decide_eq_true_eq]
theorem Sr (s:Ts):s.l.length≤60:=s.ok.dp
def CH (s:Ts) (p:Int):Ts:=s.seen.FY 0 (kH s.l.length p)
def EW (s:Ts) (p b:Int):Ts:=if kH s.l.length p=0/\b≤0 then s.seen else s.seen.first (j3 b) ((kH s.l.length p:Int)-1)
def VL (s:Ts) (p b:Int):Ts:=s.seen.last (j3 b) (kH s.l.length p)
def Hd (s:Ts) (p:Int):Ts:=s.seen.seen.FY (kH s.l.length p) s.l.length
theorem ak5 (s:Ts) (p b:Int):(EW s p b).l=s.l:=by unfold EW;split<;>rfl
theorem aln (s:Ts) (p b:Int):(EW s p b).n=s.n:=by unfold EW;split<;>rfl
theorem alc (s:Ts) (p b:Int):(EW s p b).c=s.c:=by unfold EW;split<;>rfl
theorem ag3 {s:Ts} {L:List Mk} {p b:Int} (hL:s.l=L) (L4:-1099511627776≤b) (On:b≤1099511627776):Fx (8*uR L.length+5) s.m (EW s p b).m:=by
 subst hL;have h1:=s.sy;have h3:=Qn (s:=s.seen) (f:=(kH s.l.length p:Int)-1) (may:=j3 b) (TE (L:=s.l) (Sr s) L4 On);unfold EW;split
 ·exact h1.mono (by omega)
 ·exact(h1.trans h3).mono (by show 1+(4*uR s.l.length+1)≤_;omega)
theorem agF {s:Ts} {L:List Mk} {p b:Int} (hL:s.l=L) (L4:-1099511627776≤b) (On:b≤1099511627776):Fx (8*uR L.length+5) s.m (VL s p b).m:=by
 subst hL;have h1:=s.sy;have h3:=RT (s:=s.seen) (f:=(kH s.l.length p:Int)) (may:=j3 b) (TE (L:=s.l) (Sr s) L4 On);exact(h1.trans h3).mono (by show 1+(4*uR s.l.length+1)≤_;omega)
set_option maxHeartbeats 8000000
def Vr:je Rt:=⟨fun _ _=>aa ao,fun _ _=>aj,fun _ _=>aa ⟨True,.bool an,aj,[],[],[]⟩⟩
theorem Rf:RC D2 Vr:=by
 refine⟨fun _ X p F w h=>?_,fun e X x p F w hx=>by cases hx⟩
 obtain⟨L_,O',h1,h2,h3⟩:=h;obtain⟨t,cs,tl,hl⟩:∃ t cs tl,L2.lay X=aa (.inl (t,cs))::tl:=by cases X;exact⟨_,_,_,rfl⟩
 obtain⟨g1,g2,g3⟩:=(h3.at_ 0 (.inl (t,cs)) (by rw[hl];rfl)).1
 subst h1;exact⟨(h2 _).2 ⟨0,(g2 _).2 rfl⟩,_,_,g3⟩
def TNw:eJ Rt:=[(90,bJ zN 2 (a9 IK))]
theorem TV:cN D2 Tryz.prog TNw:=⟨aU _ _ QP,trivial⟩
def NU:Prim Rt:=fun args hh=>match args,hh with
 |[.int .i64 c],[]=>aa ⟨True,.pointer (aa ⟨0,0,aj⟩),aj,[oT (qO k8 c)],[],[(0,0)]⟩
 |_,_=>aj
theorem Wh:b9 D2 Tryz.prog 52 (a9 NU):=by
 refine fu Tryz.f52 fun args hh x hx=>?_
 unfold NU at hx;split at hx
 ·rename_i c;cases hx;refine q4 fun _ hv=>?_
  generalize hG:cj (R:=Rt) _ _=G;refine cL (T:=TNw) TV mixed 200 ?_;refine bK (q:=Vc True/\aX (G (aB (aa ⟨0,0,aj⟩)) [aa (.inr (.inr (.inr (Rt.tree (qO k8 c)))))])) ?_ (by kernel_rfl)
  subst hG;exact⟨⟨trivial⟩,⟨⟨[0],rfl,rfl,⟨rfl,trivial⟩,rfl,rfl,rfl,rfl⟩⟩⟩
 ·cases hx
def TCl:eJ Rt:=[(40,bJ zN 2 (a9 Ay)),(78,bJ zN 2 (a9 PH))]
theorem ajZ:cN D2 Tryz.prog TCl:=⟨aU _ _ BD,aU _ _ Q6,trivial⟩
def ZN:Prim Rt:=fun args hh=>match args,hh with
 |[.pointer (aa ⟨0,0,aj⟩),.int .i64 p],[aa (.inr (.inr (.inr (.tree s))))]=>aa ⟨s.gj,.tuple ⟨[.pointer (aa ⟨0,0,aj⟩),.int .i64 (kH s.l.length p)]⟩,aj,[oT s.seen],[],[(0,0)]⟩
 |_,_=>aj
theorem ahD:b9 D2 Tryz.prog 132 (a9 ZN):=by
 refine fu Tryz.f132 fun args hh x hx=>?_
 unfold ZN at hx;split at hx
 ·rename_i p s;cases hx;refine q4 fun _ hv=>?_
  generalize hG:cj (R:=Rt) _ _=G;refine cL (T:=TCl) ajZ mixed 200 ?_;refine bK (q:=Vc (eW s)/\aX (G (cq (aJ [.pointer (aa ⟨0,0,aj⟩),.int ar (if(↑(ae (eM s)):Int)<if(0:Int)>p then(0:Int) else p then(↑(ae (eM s)):Int) else if(0:Int)>p then(0:Int) else p)])) [aa (.inr (.inr (.inr (Rt.tree (dF s)))))])) ?_ (by kernel_rfl)
  have e:(if(s.l.length:Int)<(if 0>p then 0 else p) then(s.l.length:Int) else(if 0>p then 0 else p))=(kH s.l.length p:Int):=by unfold kH;split<;>split at *<;>omega
  rw[e];subst hG;exact⟨⟨hv⟩,⟨⟨[0],rfl,rfl,⟨rfl,trivial⟩,rfl,rfl,rfl,rfl⟩⟩⟩
 ·cases hx
theorem aaz (l:List Mk) (p:Int):mV l (kH l.length p) l.length=l.drop (kH l.length p):=by
 show(l.drop _).take (l.length-_)=_
 rw[jl (by rw[jr];exact a_ _)]
theorem ab7 (l:List Mk) (p:Int):mV l 0 (kH l.length p)=l.take (kH l.length p):=rfl
theorem yT {s:Ts} (h:s.gj):s.seen.gj:=h
def YS:Prim Rt:=fun args hh=>match args,hh with
 |[.int .i64 b],[]=>aa ⟨True,.func (.func 154) ⟨[]⟩ ⟨[.pointer (aa ⟨0,0,aj⟩)]⟩,aj,[aa (.inl (3,[.int .i64 b]))],[],[(0,0)]⟩
 |_,_=>aj
theorem ag4:b9 D2 Tryz.prog 133 (a9 YS):=by
 refine fu Tryz.f133 fun args hh x hx=>?_
 unfold YS at hx;split at hx
 ·rename_i b;cases hx;refine q4 fun _ hv=>?_
  generalize hG:cj (R:=Rt) _ _=G;refine cL (T:=[]) trivial mixed 200 ?_;refine bK (q:=Vc True/\aX (G (Value.func (Fn.func 154) (aJ []) (aJ [.pointer (aa ⟨0,0,aj⟩)])) [aa (.inl (3,[.int ar b]))])) ?_ (by kernel_rfl)
  subst hG;exact⟨⟨trivial⟩,⟨⟨[0],rfl,rfl,⟨.inl rfl,trivial⟩,rfl,rfl,rfl,rfl⟩⟩⟩
 ·cases hx
def TBr:eJ Rt:=[(1000000000,Vr),(132,bJ zN 2 (a9 ZN)),(133,bJ zN 2 (a9 YS)),(108,bJ zN 2 (a9 Nl)),(111,bJ zN 2 (a9 Qw)),(40,bJ zN 2 (a9 Ay)),(78,bJ zN 2 (a9 PH))]
theorem Oq:cN D2 Tryz.prog TBr:=⟨Rf,aU _ _ ahD,aU _ _ ag4,aU _ _ Zn,aU _ _ abN,aU _ _ BD,aU _ _ Q6,trivial⟩
def adG:Prim Rt:=fun args hh=>match args,hh with
 |[.pointer (aa ⟨0,0,aj⟩),.int .i64 p,.int .i64 b],[aa (.inr (.inr (.inr (.tree s))))]=>aa ⟨s.gj/\-1099511627776≤b/\b≤1099511627776,.int .i64 (OI s.l p b),aj,[oT (EW s p b)],[],[(0,0)]⟩
 |_,_=>aj
theorem ajc:b9 D2 Tryz.prog 112 (a9 adG):=by
 refine fu Tryz.f112 fun args hh x hx=>?_
 unfold adG at hx;split at hx
 ·rename_i p b s;cases hx;refine q4 fun _ hv=>?_
  generalize hG:cj (R:=Rt) _ _=G;refine cL (T:=TBr) Oq mixed 200 ?_;refine bK (q:=let Z2:=bm ar;let Z1:=(ck ar ((↑(kH (ae (eM s)) p):Int)-(1:Int)));Vc (eW s)/\(((↑(kH (ae (eM s)) p):Int)==(0:Int))=ao->(decide (b≤(0:Int))=ao->aX (G (Z2 0) [aa (.inr (.inr (.inr (Rt.tree (dF s)))))]))/\(decide (b≤(0:Int))=an->Vc True/\Vc True/\Vc (eW (dF s))/\(decide (pj (j3 b) (dF s) Z1<(0:Int))=ao->aX (G (Z2 (-1:Int)) [aa (.inr (.inr (.inr (Rt.tree (yB (j3 b) (dF s) Z1))))),aa (.inl (3,[Z2 b]))]))/\(decide (pj (j3 b) (dF s) Z1<(0:Int))=an->Vc True/\aX (G (Z2 (ck ar (pj (j3 b) (dF s) Z1+(1:Int)))) [aa (.inr (.inr (.inr (Rt.tree (yB (j3 b) (dF s) Z1))))),aa (.inl (3,[Z2 b]))]))))/\(((↑(kH (ae (eM s)) p):Int)==(0:Int))=an->Vc True/\Vc True/\Vc (eW (dF s))/\(decide (pj (j3 b) (dF s) Z1<(0:Int))=ao->aX (G (Z2 (-1:Int)) [aa (.inr (.inr (.inr (Rt.tree (yB (j3 b) (dF s) Z1))))),aa (.inl (3,[Z2 b]))]))/\(decide (pj (j3 b) (dF s) Z1<(0:Int))=an->Vc True/\aX (G (Z2 (ck ar (pj (j3 b) (dF s) Z1+(1:Int)))) [aa (.inr (.inr (.inr (Rt.tree (yB (j3 b) (dF s) Z1))))),aa (.inl (3,[Z2 b]))])))) ?_ (by kernel_rfl)
  intro Z2 Z1;subst Z1 Z2;obtain⟨lj,L4,On⟩:=hv;have done:∀ (x:Int) (rest:Hp Rt),x=OI s.l p b->G (.int .i64 x) (oT (EW s p b)::rest):=by
   intro x rest e;subst e;subst hG;exact⟨[0],rfl,rfl,⟨rfl,trivial⟩,rfl,rfl,rfl,rfl⟩
  clear hG;have hl:=Sr s;have hc:=VN s.l.length p;have hN:=aco s.l p b;have hA:=TE (L:=s.l) hl L4 On;have e1:ar.wrap ((kH s.l.length p:Int)-1)=(kH s.l.length p:Int)-1:=oo ⟨by omega,by omega⟩
  simp only[e1];refine⟨⟨lj⟩,fun h0=>⟨fun h1=>⟨?_⟩,fun h1=>?_⟩,fun h0=>?_⟩
  ·have h0:kH s.l.length p=0:=by have:=eq_of_beq h0;omega
   have h1:=of_decide_eq_true h1;rw[EW,if_pos ⟨h0,h1⟩] at done;exact done _ _ (OO (.inr ⟨0,rfl,by omega,by omega,by rw[D9];exact h1,fun i g1 g2=>by omega⟩) hN)
  all_goals
   have cb:¬ (kH s.l.length p=0/\b≤0):=by
    first
    |exact fun c=>absurd c.2 (of_decide_eq_false h1)
    |exact fun c=>by have:=beq_eq_false_iff_ne.1 h0;omega
   rw[EW,if_neg cb] at done;have hF:=RU (s:=s.seen) (f:=(kH s.l.length p:Int)-1) (may:=j3 b) hA.toAsks;have hI:=Zg hc (fun c0 c1=>cb ⟨c0,c1⟩) hF
   generalize pj (j3 b) s.seen ((kH s.l.length p:Int)-1)=r at *
   have hr:-1≤r/\r<60:=by
    rcases hF with⟨h1,_⟩|⟨j,h1,_,h3,_⟩
    ·omega
    ·have h3:j<s.l.length:=h3;omega
   refine⟨⟨trivial⟩,⟨trivial⟩,⟨yT lj⟩,fun h2=>⟨?_⟩,fun h2=>⟨⟨trivial⟩,⟨?_⟩⟩⟩
   ·rw[if_pos (of_decide_eq_true h2)] at hI;exact done _ _ (OO hI hN)
   ·rw[if_neg (of_decide_eq_false h2)] at hI;rw[show ar.wrap (r+1)=r+1 from oo ⟨by omega,by omega⟩]
    exact done _ _ (OO hI hN)
 ·cases hx
def ac3:Prim Rt:=fun args hh=>match args,hh with
 |[.pointer (aa ⟨0,0,aj⟩),.int .i64 p,.int .i64 b],[aa (.inr (.inr (.inr (.tree s))))]=>aa ⟨s.gj/\-1099511627776≤b/\b≤1099511627776,.int .i64 (E5 s.l p b),aj,[oT (VL s p b)],[],[(0,0)]⟩
 |_,_=>aj
theorem akE:b9 D2 Tryz.prog 95 (a9 ac3):=by
 refine fu Tryz.f95 fun args hh x hx=>?_
 unfold ac3 at hx;split at hx
 ·rename_i p b s;cases hx;refine q4 fun _ hv=>?_
  generalize hG:cj (R:=Rt) _ _=G;refine cL (T:=TBr) Oq mixed 200 ?_;refine bK (q:=let Z2:=bm ar;let Z1:=(↑(kH (ae (eM s)) p):Int);Vc (eW s)/\Vc True/\Vc (eW (dF s))/\(decide (tM (j3 b) (dF s) Z1<(0:Int))=ao->(decide (b>(0:Int))=ao->aX (G (Z2 (-1:Int)) [aa (.inr (.inr (.inr (Rt.tree (DL (j3 b) (dF s) Z1))))),aa (.inl (3,[Z2 b]))]))/\(decide (b>(0:Int))=an->Vc True/\aX (G (Z2 (ck ar (tM (j3 b) (dF s) Z1+(1:Int)))) [aa (.inr (.inr (.inr (Rt.tree (DL (j3 b) (dF s) Z1))))),aa (.inl (3,[Z2 b]))])))/\(decide (tM (j3 b) (dF s) Z1<(0:Int))=an->Vc True/\aX (G (Z2 (ck ar (tM (j3 b) (dF s) Z1+(1:Int)))) [aa (.inr (.inr (.inr (Rt.tree (DL (j3 b) (dF s) Z1))))),aa (.inl (3,[Z2 b]))]))) ?_ (by kernel_rfl)
  intro Z2 Z1;subst Z1 Z2;obtain⟨lj,L4,On⟩:=hv;have done:∀ (x:Int) (rest:Hp Rt),x=E5 s.l p b->G (.int .i64 x) (oT (VL s p b)::rest):=by
   intro x rest e;subst e;subst hG;exact⟨[0],rfl,rfl,⟨rfl,trivial⟩,rfl,rfl,rfl,rfl⟩
  clear hG;have hl:=Sr s;have hc:=VN s.l.length p;have hN:=OJ s.l p b;have hA:=TE (L:=s.l) hl L4 On;have hF:=Tc (s:=s.seen) (f:=(kH s.l.length p:Int)) (may:=j3 b) hA.toAsks;have hI:=adf hc hF;unfold VL at done;generalize tM (j3 b) s.seen (kH s.l.length p)=r at *
  have hr:-1≤r/\r<60:=by
   rcases hF with⟨h1,_⟩|⟨j,h1,_,h3,_⟩
   ·omega
   ·have h3:j<s.l.length:=h3;omega
  refine⟨⟨lj⟩,⟨trivial⟩,⟨yT lj⟩,fun h=>⟨fun h2=>⟨?_⟩,fun h2=>⟨⟨trivial⟩,⟨?_⟩⟩⟩,fun h=>⟨⟨trivial⟩,⟨?_⟩⟩⟩
  ·have h:=of_decide_eq_true h;have h2:=of_decide_eq_true h2;rw[if_neg (by omega),if_neg (by omega)] at hI
   exact done _ _ (Uv hI hN)
  ·have h:=of_decide_eq_true h;have h2:=of_decide_eq_false h2;rw[if_neg (by omega),if_pos (by omega)] at hI
   rw[show ar.wrap (r+1)=0 from by rw[oo ⟨by omega,by omega⟩];omega]
   exact done _ _ (Uv hI hN)
  ·have h:=of_decide_eq_false h;rw[if_pos (by omega)] at hI
   rw[show ar.wrap (r+1)=r+1 from oo ⟨by omega,by omega⟩]
   exact done _ _ (Uv hI hN)
 ·cases hx
def adD:Prim Rt:=fun args hh=>match args,hh with
 |[.pointer (aa ⟨0,0,aj⟩),.int .i64 p],[aa (.inr (.inr (.inr (.tree s))))]=>aa ⟨s.gj,.agg ⟨tkL (uE s.l p)⟩,aj,[oT (Hd s p)],[],[(0,0)]⟩
 |_,_=>aj
theorem ajq:b9 D2 Tryz.prog 104 (a9 adD):=by
 refine fu Tryz.f104 fun args hh x hx=>?_
 unfold adD at hx;split at hx
 ·rename_i p s;cases hx;refine q4 fun _ hv=>?_
  generalize hG:cj (R:=Rt) _ _=G;refine cL (T:=TBr) Oq mixed 200 ?_;refine bK (q:=let Z1:=(S8 (mV (eM (dF (dF s))) (aG (↑(kH (ae (eM s)) p):Int)) (aG (↑(ae (eM (dF s))):Int))));Vc (eW s)/\Vc (eW (dF s))/\Vc (eW (dF (dF s)))/\aX (G (bz (aJ [.bool (Sw.gf Z1),.int ar (It.k (Sw.g Z1)),.int ar (It.i (Sw.g Z1))])) [aa (.inr (.inr (.inr (Rt.tree (acO (dF (dF s)) (↑(kH (ae (eM s)) p):Int) (↑(ae (eM (dF s))):Int)))))),aa (.inl (47,[.bool (Sw.gf Z1),.int ar (It.k (Sw.g Z1)),.int ar (It.i (Sw.g Z1))]))])) ?_ (by kernel_rfl)
  intro Z1;subst Z1;subst hG;simp only[show eM (dF s)=s.l from rfl,show eM (dF (dF s))=s.l from rfl,iJ,aaz]
  exact⟨⟨hv⟩,⟨yT hv⟩,⟨yT (yT hv)⟩,⟨⟨[0],rfl,rfl,⟨rfl,trivial⟩,rfl,rfl,rfl,rfl⟩⟩⟩
 ·cases hx
def ac_:Prim Rt:=fun args hh=>match args,hh with
 |[.pointer (aa ⟨0,0,aj⟩),.int .i64 p],[aa (.inr (.inr (.inr (.tree s))))]=>aa ⟨s.gj,.agg ⟨tkL (p6 s.l p)⟩,aj,[oT (CH s p)],[],[(0,0)]⟩
 |_,_=>aj
theorem akB:b9 D2 Tryz.prog 109 (a9 ac_):=by
 refine fu Tryz.f109 fun args hh x hx=>?_
 unfold ac_ at hx;split at hx
 ·rename_i p s;cases hx;refine q4 fun _ hv=>?_
  generalize hG:cj (R:=Rt) _ _=G;refine cL (T:=TBr) Oq mixed 200 ?_;refine bK (q:=let Z1:=(S8 (mV (eM (dF s)) 0 (aG (↑(kH (ae (eM s)) p):Int))));Vc (eW s)/\Vc (eW (dF s))/\aX (G (bz (aJ [.bool (Sw.lf Z1),.int ar (It.k (Sw.l Z1)),.int ar (It.i (Sw.l Z1))])) [aa (.inr (.inr (.inr (Rt.tree (acO (dF s) (0:Int) (↑(kH (ae (eM s)) p):Int)))))),aa (.inl (47,[.bool (Sw.lf Z1),.int ar (It.k (Sw.l Z1)),.int ar (It.i (Sw.l Z1))]))])) ?_ (by kernel_rfl)
  intro Z1;subst Z1;subst hG;simp only[show eM (dF s)=s.l from rfl,iJ,ab7]
  exact⟨⟨hv⟩,⟨yT hv⟩,⟨⟨[0],rfl,rfl,⟨rfl,trivial⟩,rfl,rfl,rfl,rfl⟩⟩⟩
 ·cases hx
end Br
namespace Rx
open Go.RowKit State
structure HC (R0 R:Type) where
 e:R0->R
 d:R->Option R0
 de:∀ y x,d y=aa x->y=e x
section
variable {R R0:Type}
def eB (E:HC R0 R):SB R0->SB R
 |.inl x=>.inl x
 |.inr (.inl x)=>.inr (.inl x)
 |.inr (.inr (.inl r))=>.inr (.inr (.inl r))
 |.inr (.inr (.inr x))=>.inr (.inr (.inr (E.e x)))
def dB (E:HC R0 R):SB R->Option (SB R0)
 |.inl x=>aa (.inl x)
 |.inr (.inl x)=>aa (.inr (.inl x))
 |.inr (.inr (.inl r))=>aa (.inr (.inr (.inl r)))
 |.inr (.inr (.inr y))=>match E.d y with
  |some x=>aa (.inr (.inr (.inr x)))
  |none=>aj
def eS (E:HC R0 R):Option (SB R0)->Option (SB R)
 |none=>aj
 |some b=>aa (eB E b)
def eH (E:HC R0 R):Hp R0->Hp R
 |[]=>[]
 |b::l=>eS E b::eH E l
def dH (E:HC R0 R):Hp R->Option (Hp R0)
 |[]=>aa []
 |none::l=>match dH E l with
  |some l'=>aa (aj::l')
  |none=>aj
 |some b::l=>match dB E b with
  |some b'=>match dH E l with
   |some l'=>aa (aa b'::l')
   |none=>aj
  |none=>aj
variable {E:HC R0 R}
theorem am' {b:SB R} {b0:SB R0} (h:dB E b=aa b0):b=eB E b0:=by
 rcases b with x|x|r|y
 ·injection h with h;subst h;rfl
 ·injection h with h;subst h;rfl
 ·injection h with h;subst h;rfl
 ·unfold dB at h;simp only at h;split at h
  ·rename_i x hx;injection h with h
   subst h;rw[E.de _ _ hx]
   rfl
  ·cases h
theorem adJ:∀ {h:Hp R} {h0:Hp R0},dH E h=aa h0->h=eH E h0
 |[],h0,hh=>by injection hh with hh;subst hh;rfl
 |none::l,h0,hh=>by
  unfold dH at hh;split at hh
  ·rename_i l' hl;injection hh with hh
   subst hh;rw[adJ hl];rfl
  ·cases hh
 |some b::l,h0,hh=>by
  unfold dH at hh;split at hh
  ·rename_i b' hb;split at hh
   ·rename_i l' hl;injection hh with hh
    subst hh;rw[adJ hl,am' hb];rfl
   ·cases hh
  ·cases hh
theorem EM:∀ h:Hp R0,(eH E h).length=h.length
 |[]=>rfl
 |b::l=>by show(eH E l).length+1=l.length+1;rw[EM l]
theorem Kc:∀ (h:Hp R0) (i:Nat),(eH E h)[i]?=(h[i]?).map (eS E)
 |[],i=>by simp[eH]
 |b::l,0=>rfl
 |b::l,i+1=>by
  show(eS E b::eH E l)[i+1]?=_
  rw[bH,bH,Kc l i]
variable {D:fJ R} {D0:fJ R0} {P:Program} {C:Ctx} {ρ:Env} {w:World}
theorem aby (hD:∀ x p F w,D.H (E.e x) p F w↔D0.H x p F w) {i:Nat} {F:Nat->Prop} (b:SB R0):hold D C ρ i F w (eB E b)↔hold D0 C ρ i F w b:=by
 rcases b with x|x|r|x
 ·exact r9
 ·exact r9
 ·exact r9
 ·exact hD _ _ _ _
theorem Ub {n:Nat} (b:SB R0):inside n (eB E b)↔inside n b:=by
 rcases b with x|x|r|x<;>exact r9
theorem ajG (hD:∀ x p F w,D.H (E.e x) p F w↔D0.H x p F w) {ft:Nat->Nat->Prop} {h:Hp R0}:HM D C ρ ft (eH E h) w↔HM D0 C ρ ft h w:=by
 constructor
 ·intro m;refine⟨fun i B hi=>?_,m.lt,m.fresh,m.apart,fun i k hk=>?_,m.kept⟩
  ·have h1:=m.at_ i (eB E B) (by rw[Kc,hi];rfl)
   rw[aby hD,Ub,EM] at h1;exact h1
  ·obtain⟨B,hB⟩:=m.some_ i k hk;rw[Kc] at hB;cases hc:h[i]? with
   |none=>rw[hc] at hB;cases hB
   |some o =>
    rw[hc] at hB;cases o with
    |none=>cases hB
    |some b=>exact⟨b,rfl⟩
 ·intro m;refine⟨fun i B hi=>?_,m.lt,m.fresh,m.apart,fun i k hk=>?_,m.kept⟩
  ·rw[Kc] at hi;cases hc:h[i]? with
   |none=>rw[hc] at hi;cases hi
   |some o =>
    rw[hc] at hi;cases o with
    |none=>cases hi
    |some b =>
     have hi:aa (aa (eB E b))=aa (aa B):=hi;injection hi with hi
     injection hi with hi
     subst hi;rw[aby hD,Ub,EM];exact m.at_ i b hc
  ·obtain⟨B,hB⟩:=m.some_ i k hk;exact⟨eB E B,by rw[Kc,hB];rfl⟩
def eO (E:HC R0 R) (x:Out R0):Out R:=⟨x.vc,x.v,x.lit,eH E x.hp,x.rd,x.wr⟩
def eP (E:HC R0 R) (p:Prim R0):Prim R:=fun args hh=>match dH E hh with
 |some h0=>match p args h0 with
  |some x=>aa (eO E x)
  |none=>aj
 |none=>aj
def eC (E:HC R0 R) (c:je R0):je R:=⟨fun args hh=>match dH E hh with
 |some h0=>c.when args h0
 |none=>aj,eP E c.yes,eP E c.no⟩
theorem KX {p:Prim R0} {args:List Value} {hh:Hp R} {x:Out R} (h:eP E p args hh=aa x):∃ h0 x0,dH E hh=aa h0/\hh=eH E h0/\p args h0=aa x0/\x=eO E x0:=by
 unfold eP at h;split at h
 ·rename_i h0 e0;split at h
  ·rename_i x0 e1;injection h with h
   exact⟨h0,x0,e0,adJ e0,e1,h.symm⟩
  ·cases h
 ·cases h
theorem alo (c:je R0) (b:Bool):(eC E c).go b=eP E (c.go b):=by cases b<;>rfl
theorem aiD {f:FuncId} {c:je R0} (hD:∀ x p F w,D.H (E.e x) p F w↔D0.H x p F w) (hc:b9 D0 P f c):b9 D P f (eC E c):=by
 intro b;have h:=hc b;rw[alo];refine⟨h.known,fun args hh x on hx C ρ ft w hm hv hi=>?_,fun args hh x hx=>?_,fun args hh x hx=>?_,fun args hh x hx hw=>?_⟩
 ·obtain⟨h0,x0,e0,e1,e2,e3⟩:=KX hx;subst e3;subst e1;have on0:rU c b args h0:=by
   have on:(match dH E (eH E h0) with|some h0=>c.when args h0|none=>aj)=aj/\b=ao∨(match dH E (eH E h0) with|some h0=>c.when args h0|none=>aj)=aa b:=on
   rw[e0] at on;exact on
  rw[EM] at hi;refine(h.run args h0 x0 on0 e2 C ρ ft w ((ajG hD).1 hm) hv hi).mono fun e w' ⟨gx,ky,g1,g2,g3⟩=>?_
  exact⟨gx,ky,fun i hi=>g1 i (by rwa [EM] at hi),g2,(ajG hD).2 g3⟩
 ·obtain⟨h0,x0,e0,e1,e2,e3⟩:=KX hx;subst e3;subst e1;show(eH E h0).length≤(eH E x0.hp).length
  rw[EM,EM];exact h.len _ _ _ e2
 ·obtain⟨h0,x0,e0,e1,e2,e3⟩:=KX hx;subst e3;exact h.lit _ _ _ e2
 ·obtain⟨h0,x0,e0,e1,e2,e3⟩:=KX hx;subst e3;subst e1;show eH E x0.hp=eH E h0
  rw[h.still _ _ _ e2 hw]
end
def V9 {R1 R2:Type} (D1:fJ R1) (D2:fJ R2):fJ (R1 ⊕ R2) where
 H x p F w:=match x with
  |.inl x=>D1.H x p F w
  |.inr x=>D2.H x p F w
 IJ x p F w w' h hk:=by
  cases x with
  |inl x=>exact D1.IJ x p F w w' h hk
  |inr x=>exact D2.IJ x p F w w' h hk
 lt x p F w k h hk:=by
  cases x with
  |inl x=>exact D1.lt x p F w k h hk
  |inr x=>exact D2.lt x p F w k h hk
def ai4 (R1 R2:Type):HC R1 (R1 ⊕ R2):=⟨.inl,fun y=>match y with|.inl x=>aa x|.inr _=>aj,fun y x h=>by cases y with|inl a=>injection h with h;rw[h]|inr a=>cases h⟩
def ake (R1 R2:Type):HC R2 (R1 ⊕ R2):=⟨.inr,fun y=>match y with|.inr x=>aa x|.inl _=>aj,fun y x h=>by cases y with|inr a=>injection h with h;rw[h]|inl a=>cases h⟩
theorem nU {R1 R2:Type} {D1:fJ R1} {D2:fJ R2} {P:Program} {f:FuncId} {c:je R1} (hc:b9 D1 P f c):b9 (V9 D1 D2) P f (eC (ai4 R1 R2) c):=aiD (fun _ _ _ _=>r9) hc
theorem wb {R1 R2:Type} {D1:fJ R1} {D2:fJ R2} {P:Program} {f:FuncId} {c:je R2} (hc:b9 D2 P f c):b9 (V9 D1 D2) P f (eC (ake R1 R2) c):=aiD (fun _ _ _ _=>r9) hc
end Rx
namespace Pa
open Rx Wv Br
open Sh (rN wA mC sl nI)
abbrev T8:=G8.Ts
abbrev T9:=G9.Ts
structure QS where
 mt:T8
 pr:T9
 gn:T9
 cap:Int
def kN (t:Int):Mk:=⟨t,an,⟨0,0⟩,an,an,⟨0,0⟩⟩
def SC (t:Int) (x:It):Mk:=⟨t,ao,x,an,an,⟨0,0⟩⟩
def Rl (q:QS):QS:=⟨q.mt.seen,q.pr,q.gn,q.cap⟩
def Nq (q:QS):QS:=⟨q.mt.seen.FY 0 q.mt.l.length,q.pr,q.gn,q.cap⟩
def HZ (q:QS):Int:=(wj q.mt.l).length
def o7 (q:QS):QS:=⟨(Nq q).mt,q.pr,q.gn.seen,q.cap⟩
def q8 (q:QS):Int:=HZ q-q.gn.l.length
def H0 (q:QS):QS:=⟨q.mt.seen.all,q.pr,q.gn,q.cap⟩
def mW (q:QS) (t:Int):Int:=if(q.mt.l.length:Int)=q.cap then 10 else if(fw O8 (kN t) q.mt.l).2=ao then 11 else 0
def nM (q:QS) (t:Int):QS:=⟨if(q.mt.l.length:Int)=q.cap then q.mt.seen else q.mt.seen.find (kN t),q.pr,q.gn,q.cap⟩
def AW (q:QS) (x:It):Bool:=(fw aN (sl x) q.pr.l).2||(fw aN (sl x) q.gn.l).2
def BV (q:QS) (x:It):QS:=⟨q.mt,q.pr.find (sl x),q.gn.find (sl x),q.cap⟩
def BY (q:QS) (m:Mk):Int:=(yA O8 m q.mt.l).length
def Zv (q:QS) (m:Mk):QS:=⟨q.mt.kB m,q.pr,q.gn,q.cap⟩
def F6 (q:QS) (p:Int):Int:=E5 q.mt.l p (q8 q)
def Bn (q:QS) (p:Int):QS:=⟨VL (o7 q).mt p (q8 q),q.pr,(o7 q).gn,q.cap⟩
def Km (q:QS) (p:Int):Int:=OI q.mt.l p (q8 q)
def He (q:QS) (p:Int):QS:=⟨EW (o7 q).mt p (q8 q),q.pr,(o7 q).gn,q.cap⟩
def E7 (s:T8) (i:Int) (b:Bool):Mk:=⟨(mo O8 i s.l).1.t,(mo O8 i s.l).1.ins,(mo O8 i s.l).1.it,b,(mo O8 i s.l).1.tf,(mo O8 i s.l).1.tk⟩
def Al (s:T8) (i:Int) (b:Bool):T8:=(s.at_ i).put (E7 s i b)
def Jn (q:QS) (f:Int):It:=(uE q.mt.l f).getD iz
def SG (q:QS) (f:Int):T8:=(Hd q.mt f).first (pY (Jn q f)) f
def VA (q:QS) (f:Int):Int:=pj (pY (Jn q f)) (Hd q.mt f) f
def vS (q:QS) (f:Int):QS:=if f<0 then q else⟨Al (SG q f) (VA q f) ao,q.pr.put (sl (Jn q f)),q.gn.drop (sl (Jn q f)),q.cap⟩
def wO (q:QS) (f:Int):List It:=if f<0 then[] else[Jn q f]
def KE (q:QS) (f:Int):Prop:=q.mt.gj/\q.pr.gj/\q.gn.gj/\(¬ f<0->((SG q f).at_ (VA q f)).kX (E7 (SG q f) (VA q f) ao)/\q.pr.kX (sl (Jn q f)))
def Jf (q:QS) (u:Int):It:=(p6 q.mt.l u).getD iz
def R_ (q:QS) (u:Int):T8:=(CH q.mt u).last (p9 (Jf q u)) u
def Ua (q:QS) (u:Int):Int:=tM (p9 (Jf q u)) (CH q.mt u) u
def Oy (q:QS) (u:Int):Bool:=(p6 q.mt.l u).isSome
def FF (q:QS) (u:Int):QS:=if Oy q u=ao then⟨Al (R_ q u) (Ua q u) an,q.pr.drop (sl (Jf q u)),q.gn.put (sl (Jf q u)),q.cap⟩ else⟨CH q.mt u,q.pr,q.gn,q.cap⟩
def A6 (q:QS) (u:Int):List It:=if Oy q u=ao then[Jf q u] else[]
def JF (q:QS) (u:Int):Prop:=q.mt.gj/\q.pr.gj/\q.gn.gj/\(Oy q u=ao->((R_ q u).at_ (Ua q u)).kX (E7 (R_ q u) (Ua q u) an)/\q.gn.kX (sl (Jf q u)))
structure MQ (q:QS) (L:List Mk) (P G:List It) (c:Int) (n:Nat) (a:QS) (k:Int):Prop where
 m0:q.mt.l=L
 p0:q.pr.l=mC P
 g0:q.gn.l=mC G
 cap:q.cap=c
 c1:q.mt.c=c
 c2:q.pr.c=c
 c3:q.gn.c=c
 f1:q.mt.n≤n
 f2:q.pr.n≤n
 f3:q.gn.n≤n
 v1:0≤q.mt.m.cW/\q.mt.m.cW≤a.mt.m.cW+k
 v2:0≤q.pr.m.cW/\q.pr.m.cW≤a.pr.m.cW+k
 v3:0≤q.gn.m.cW/\q.gn.m.cW≤a.gn.m.cW+k
def VB (a:QS):Prop:=a.mt.m.cW≤1000000000000000/\a.pr.m.cW≤1000000000000000/\a.gn.m.cW≤1000000000000000
section
variable {q:QS} {L:List Mk} {P G:List It} {c:Int} {n:Nat} {a:QS} {k:Int}
theorem MQ.lj (h:MQ q L P G c n a k) (hn:n≤99999):q.mt.gj/\q.pr.gj/\q.gn.gj :=
 ⟨iZ h.f1 (by omega),iZ h.f2 (by omega),iZ h.f3 (by omega)⟩
theorem MQ.short (h:MQ q L P G c n a k):L.length≤60:=by rw[← h.m0];exact Sr q.mt
theorem MQ.Jl (h:MQ q L P G c n a k) (hB:VB a) (hk:k≤1000000) {s:T8} {L':List Mk} {d κ:Nat} (hl:s.l=L') (hc:s.c=q.mt.c) (hn:s.n≤q.mt.n+d) (hv:Gv.mZ κ q.mt.m s.m) {e:Int} (hκ:(κ:Int)≤e) (he:e≤10000:=by omega):MQ ⟨s,q.pr,q.gn,q.cap⟩ L' P G c (n+d) a (k+e):=by
 obtain⟨b1,b2,b3⟩:=hB;have hw:=KU hv h.v1.1 h.v1.2 (by omega)
 have:=h.f1;have:=h.f2;have:=h.f3;have:=h.v2;have:=h.v3;exact⟨hl,h.p0,h.g0,h.cap,hc.trans h.c1,h.c2,h.c3,by show s.n≤_;omega,by show q.pr.n≤_;omega,by show q.gn.n≤_;omega,⟨hw.1,by show s.m.cW≤_;omega⟩,⟨h.v2.1,by show q.pr.m.cW≤_;omega⟩,⟨h.v3.1,by show q.gn.m.cW≤_;omega⟩⟩
theorem MQ.pr' (h:MQ q L P G c n a k) (hB:VB a) (hk:k≤1000000) {s:T9} {P':List It} {d κ:Nat} (hl:s.l=mC P') (hc:s.c=q.pr.c) (hn:s.n≤q.pr.n+d) (hv:Gv.mZ κ q.pr.m s.m) {e:Int} (hκ:(κ:Int)≤e) (he:e≤10000:=by omega):MQ ⟨q.mt,s,q.gn,q.cap⟩ L P' G c (n+d) a (k+e):=by
 obtain⟨b1,b2,b3⟩:=hB;have hw:=KU hv h.v2.1 h.v2.2 (by omega)
 have:=h.f1;have:=h.f2;have:=h.f3;have:=h.v1;have:=h.v3;exact⟨h.m0,hl,h.g0,h.cap,h.c1,hc.trans h.c2,h.c3,by show q.mt.n≤_;omega,by show s.n≤_;omega,by show q.gn.n≤_;omega,⟨h.v1.1,by show q.mt.m.cW≤_;omega⟩,⟨hw.1,by show s.m.cW≤_;omega⟩,⟨h.v3.1,by show q.gn.m.cW≤_;omega⟩⟩
theorem MQ.gn' (h:MQ q L P G c n a k) (hB:VB a) (hk:k≤1000000) {s:T9} {G':List It} {d κ:Nat} (hl:s.l=mC G') (hc:s.c=q.gn.c) (hn:s.n≤q.gn.n+d) (hv:Gv.mZ κ q.gn.m s.m) {e:Int} (hκ:(κ:Int)≤e) (he:e≤10000:=by omega):MQ ⟨q.mt,q.pr,s,q.cap⟩ L P G' c (n+d) a (k+e):=by
 obtain⟨b1,b2,b3⟩:=hB;have hw:=KU hv h.v3.1 h.v3.2 (by omega)
 have:=h.f1;have:=h.f2;have:=h.f3;have:=h.v1;have:=h.v2;exact⟨h.m0,h.p0,hl,h.cap,h.c1,h.c2,hc.trans h.c3,by show q.mt.n≤_;omega,by show q.pr.n≤_;omega,by show s.n≤_;omega,⟨h.v1.1,by show q.mt.m.cW≤_;omega⟩,⟨h.v2.1,by show q.pr.m.cW≤_;omega⟩,⟨hw.1,by show s.m.cW≤_;omega⟩⟩
theorem MQ.lst (h:MQ q L P G c n a k) {L':List Mk} (e:L=L'):MQ q L' P G c n a k:=e▸h
theorem MQ.up (h:MQ q L P G c n a k) {n':Nat} {k':Int} (hn:n≤n') (hk:k≤k'):MQ q L P G c n' a k' :=
 ⟨h.m0,h.p0,h.g0,h.cap,h.c1,h.c2,h.c3,jo h.f1 hn,jo h.f2 hn,jo h.f3 hn,⟨h.v1.1,by have:=h.v1;omega⟩,⟨h.v2.1,by have:=h.v2;omega⟩,⟨h.v3.1,by have:=h.v3;omega⟩⟩
theorem MQ.len_ (h:MQ q L P G c n a k) (hB:VB a) (hk:k≤1000000):MQ (Rl q) L P G c n a (k+10) :=
 h.Jl hB hk (s:=q.mt.seen) (e:=10) (d:=0) h.m0 rfl (a_ _) q.mt.sy (by omega)
theorem MQ.anj (h:MQ q L P G c n a k) (hB:VB a) (hk:k≤1000000):MQ (Nq q) L P G c n a (k+130) :=
 h.Jl hB hk (s:=(q.mt.seen.FY 0 q.mt.l.length)) (e:=130) (d:=0) h.m0 rfl (a_ _) (q.mt.sy.trans (q.mt.seen.KZ 0 q.mt.l.length)) (by have:=q.mt.seen.qo;omega)
theorem MQ.ahN (h:MQ q L P G c n a k) (hB:VB a) (hk:k≤990000):MQ (o7 q) L P G c n a (k+140) :=
 ((h.anj hB (by omega)).gn' hB (by omega) (e:=10) (s:=q.gn.seen) (d:=0) h.g0 rfl (a_ _) q.gn.sy (by omega)).up (a_ _) (by omega)
theorem MQ.ZZ (h:MQ q L P G c n a k) (hB:VB a) (hk:k≤1000000) (t:Int):MQ (nM q t) L P G c n a (k+50):=by
 unfold nM;split
 ·exact(h.len_ hB hk).up (a_ _) (by omega)
 ·exact h.Jl hB hk (s:=(q.mt.seen.find (kN t))) (e:=50) (d:=0) h.m0 rfl (a_ _) (q.mt.sy.trans (q.mt.seen.Ii (kN t))) (by have:=q.mt.seen.qo;omega)
theorem MQ.akl (h:MQ q L P G c n a k) (hB:VB a) (hk:k≤990000) (x:It):MQ (BV q x) L P G c n a (k+60) :=
 ((h.pr' hB (by omega) (e:=30) (s:=q.pr.find (sl x)) (d:=0) h.p0 rfl (a_ _) (q.pr.Ii (sl x)) (by have:=q.pr.qo;omega)).gn' hB (by omega) (e:=30) (s:=q.gn.find (sl x)) (d:=0) h.g0 rfl (a_ _) (q.gn.Ii (sl x)) (by have:=q.gn.qo;omega)).up (a_ _) (by omega)
theorem MQ.ai2 (h:MQ q L P G c n a k) (hB:VB a) (hk:k≤1000000) (m:Mk):MQ ⟨q.mt.find m,q.pr,q.gn,q.cap⟩ L P G c n a (k+40) :=
 h.Jl hB hk (s:=(q.mt.find m)) (e:=40) (d:=0) h.m0 rfl (a_ _) (q.mt.Ii m) (by have:=q.mt.qo;omega)
theorem MQ.aeb (h:MQ q L P G c n a k) (hB:VB a) (hk:k≤1000000) (m:Mk):MQ (Zv q m) L P G c n a (k+70) :=
 h.Jl hB hk (s:=(q.mt.kB m)) (e:=70) (d:=0) h.m0 rfl (a_ _) (q.mt.ad_ m) (by have:=q.mt.qo;omega)
theorem ag_ (l:List Mk):(wj l).length≤l.length:=List.length_filter_le ..
theorem OZ (q:QS):-1099511627776≤q8 q/\q8 q≤1099511627776:=by
 have h1:=ag_ q.mt.l;have h2:=Sr q.mt;have h3:=q.gn.Hk;unfold q8 HZ;omega
theorem MQ.bu_ (h:MQ q L P G c n a k) (hB:VB a) (hk:k≤980000) (p:Int):MQ (Bn q p) L P G c n a (k+400):=by
 have h1:=h.ahN hB (by omega)
 have hb:=OZ q;exact(h1.Jl hB (by omega) (e:=260) (s:=VL (o7 q).mt p (q8 q)) (d:=0) h1.m0 rfl (a_ _) (agF rfl hb.1 hb.2) (by have:=(o7 q).mt.qo;omega)).up (a_ _) (by omega)
theorem MQ.bf_ (h:MQ q L P G c n a k) (hB:VB a) (hk:k≤980000) (p:Int):MQ (He q p) L P G c n a (k+400):=by
 have h1:=h.ahN hB (by omega)
 have hb:=OZ q;exact(h1.Jl hB (by omega) (e:=260) (s:=EW (o7 q).mt p (q8 q)) (d:=0) ((ak5 _ _ _).trans h1.m0) (alc _ _ _) (xm (aln _ _ _)) (ag3 rfl hb.1 hb.2) (by have:=(o7 q).mt.qo;omega)).up (a_ _) (by omega)
theorem HD {s:T8} {m:Mk} (hf:s.gj) (hg:(q7 O8 m s.l).length≤60):s.kX m:=⟨hf,hg⟩
theorem HF {s:T9} {x:It} {P:List It} (h:s.l=mC P) (ho:Ord P) (hf:s.gj) (hl:P.length≤100):s.kX (sl x):=⟨hf,by
 show(q7 aN (sl x) s.l).length≤1000
 rw[h,Sh.Wo ho];have:=Sh.ac' x P;have e:(mC (rN x P)).length=(rN x P).length:=fS ..;omega⟩
theorem MQ.ad8 (h:MQ q L P G c n a k) (hB:VB a) (hk:k≤1000000) (hn:n≤99999) {m:Mk} (hg:(q7 O8 m L).length≤60) (hp:(z8 O8 m L).isSome=ao∨(L.length:Int)≠c):MQ ⟨q.mt.put m,q.pr,q.gn,q.cap⟩ (q7 O8 m L) P G c (n+1) a (k+1000):=by
 have ok:q.mt.kX m:=HD (h.lj hn).1 (by rw[h.m0];exact hg)
 refine h.Jl hB hk (s:=q.mt.put m) (e:=1000) (d:=1) ?_ (GG ok) (xm (GH ok)) (Di ok) (by have:=q.mt.qo;omega)
 rw[MA ok];unfold Qo;rw[if_pos,h.m0];· rfl
 unfold I4;show((z8 O8 m q.mt.l).isSome||decide ((q.mt.l.length:Int)≠q.mt.c))=ao
 rw[h.m0,h.c1];rcases hp with hp|hp
 ·rw[hp];rfl
 ·rw[decide_eq_true hp,WC]
theorem MQ.TN (h:MQ q L P G c n a k) (hB:VB a) (hk:k≤1000000) (m:Mk):MQ ⟨q.mt.drop m,q.pr,q.gn,q.cap⟩ (Cg O8 m L) P G c (n+1) a (k+3500) :=
 h.Jl hB hk (s:=(q.mt.drop m)) (e:=3500) (d:=1) (by show Cg O8 m q.mt.l=_;rw[h.m0]) rfl (a_ _) (q.mt.Nh m) (by have:=q.mt.qo;omega)
theorem acA {s:T9} {x:It} {P:List It} {c:Int} (h:s.l=mC P) (hc:s.c=c) (ho:Ord P) (ok:s.kX (sl x)) (hx:x∉P) (hl:(P.length:Int)≠c):(s.put (sl x)).l=mC (gZ x P):=by
 rw[MA ok];unfold Qo;rw[if_pos,h]
 ·show q7 aN (sl x) (mC P)=_
  rw[Sh.Wo ho,XY ho hx]
 ·unfold I4;have e:(mC P).length=P.length:=fS ..;rw[h,hc,e,decide_eq_true hl,WC]
theorem MQ.Ia (h:MQ q L P G c n a k) (hB:VB a) (hk:k≤1000000) (hn:n≤99999) {x:It} (ho:Ord P) (hx:x∉P) (hl:(P.length:Int)≠c) (Bp:P.length≤100):MQ ⟨q.mt,q.pr.put (sl x),q.gn,q.cap⟩ L (gZ x P) G c (n+1) a (k+1000):=by
 have ok:q.pr.kX (sl x):=HF h.p0 ho (h.lj hn).2.1 Bp;exact h.pr' hB hk (s:=(q.pr.put (sl x))) (e:=1000) (d:=1) (acA h.p0 h.c2 ho ok hx hl) (GG ok) (xm (GH ok)) (Di ok) (by have:=q.pr.qo;omega)
theorem MQ.Ax (h:MQ q L P G c n a k) (hB:VB a) (hk:k≤1000000) (hn:n≤99999) {x:It} (ho:Ord G) (hx:x∉G) (hl:(G.length:Int)≠c) (Bp:G.length≤100):MQ ⟨q.mt,q.pr,q.gn.put (sl x),q.cap⟩ L P (gZ x G) c (n+1) a (k+1000):=by
 have ok:q.gn.kX (sl x):=HF h.g0 ho (h.lj hn).2.2 Bp;exact h.gn' hB hk (s:=(q.gn.put (sl x))) (e:=1000) (d:=1) (acA h.g0 h.c3 ho ok hx hl) (GG ok) (xm (GH ok)) (Di ok) (by have:=q.gn.qo;omega)
theorem Yq {s:T9} {x:It} {P:List It} (h:s.l=mC P) (ho:Ord P):(s.drop (sl x)).l=mC (pU x P):=by
 show Cg aN (sl x) s.l=_
 rw[h,Sh.ago ho,adN ho]
theorem MQ.Cr (h:MQ q L P G c n a k) (hB:VB a) (hk:k≤1000000) {x:It} (ho:Ord P):MQ ⟨q.mt,q.pr.drop (sl x),q.gn,q.cap⟩ L (pU x P) G c (n+1) a (k+3500) :=
 h.pr' hB hk (s:=(q.pr.drop (sl x))) (e:=3500) (d:=1) (Yq h.p0 ho) rfl (a_ _) (q.pr.Nh (sl x)) (by have:=q.pr.qo;omega)
theorem MQ.aab (h:MQ q L P G c n a k) (hB:VB a) (hk:k≤1000000) {x:It} (ho:Ord G):MQ ⟨q.mt,q.pr,q.gn.drop (sl x),q.cap⟩ L P (pU x G) c (n+1) a (k+3500) :=
 h.gn' hB hk (s:=(q.gn.drop (sl x))) (e:=3500) (d:=1) (Yq h.g0 ho) rfl (a_ _) (q.gn.Nh (sl x)) (by have:=q.gn.qo;omega)
end
theorem Yz {s:T8} {H H':List It} {l:List Op} {k:Nat} {b:Bool} (hl:s.l=gq H l) (ht:Tm l) (hn:(gC l).Nodup) (hk:k<l.length) (kx:(og l k).ins=ao) (hb:b=decide ((og l k).it∈H')) (hH:∀ z,z≠(og l k).it->(z∈H↔z∈H')) (hf:s.gj) :
  (s.at_ (k:Int)).kX (E7 s k b)/\(Al s k b).l=gq H' l/\(Al s k b).c=s.c/\(Al s k b).n=s.n+1/\Fx 1100 s.m (Al s k b).m:=by
 have e0:(mo O8 (k:Int) s.l).1=u9 H (og l k):=by
  unfold mo;rw[if_pos ⟨Int.natCast_nonneg _,by rw[hl,mK];omega⟩]
  show s.l.getD (k:Int).toNat mz=_
  rw[iJ,hl,oy H hk]
 have e1:E7 s k b=u9 H' (og l k):=by
  unfold E7;rw[e0,hb];unfold u9;simp only[kx,jh]
 have hp:q7 O8 (E7 s k b) (gq H l)=gq H' l:=by
  rw[e1,agA ht hk rfl];exact flip hn hk kx hH
 have ok:(s.at_ (k:Int)).kX (E7 s k b):=HD hf (by
  show(q7 O8 (E7 s k b) s.l).length≤60
  rw[hl,hp];have:=Sr s;rw[hl] at this
  rwa [mK] at this ⊢)
 refine⟨ok,?_,GG ok,GH ok,?_⟩
 ·unfold Al;rw[MA ok];unfold Qo;show(if I4 (s.at_ (k:Int)) (E7 s k b)=ao then q7 O8 (E7 s k b) s.l else s.l)=_
  rw[hl,hp,if_pos];unfold I4;show((z8 O8 (E7 s k b) s.l).isSome||_)=ao
  rw[hl,e1,(Kt (H:=H) (e:=u9 H' (og l k)) ht hk rfl).1]
  rfl
 ·refine((s.aiV k).trans (Di ok)).mono ?_;have h1:=s.qo;have h2:=(s.at_ (k:Int)).qo;omega
theorem akd {H:List It} {l:List Op} {f:Int} {z:It} (hf:¬ f<0) (h:uE (gq H l) f=aa z) :
  ∃ k,k<l.length/\f.toNat≤k/\(og l k).ins=ao/\(og l k).it=z/\z∉H/\hi (lW an ((gq H l).drop f.toNat))=aa z:=by
 unfold uE at h;obtain⟨m,h1,h2,h3,h4⟩:=tJ.1 (EO h);obtain⟨j,hj,rfl⟩:=sM h1;rw[List.getElem_drop] at h2 h3 h4;rw[jr,mK] at hj;have hc:kH l.length f=f.toNat:=by
  unfold kH at hj ⊢;rw[tE];rcases WD f.toNat l.length with c|c
  ·exact c
  ·rw[Oc c] at hj;omega
 rw[mK,hc] at h;have hk:kH l.length f+j<l.length:=by omega
 have e:∀ hh,(gq H l)[kH (gq H l).length f+j]'hh=u9 H (og l (kH l.length f+j)):=fun hh=>by
  have:=oy H hk;rw[au,bd (by rw[mK];exact hk)] at this
  simpa only [mK,Option.getD_some] using this
 rw[e] at h2 h3 h4;have h2:(og l (kH l.length f+j)).ins=ao:=h2;have h4:(og l (kH l.length f+j)).it=z:=h4;have h3:((og l (kH l.length f+j)).ins&&decide ((og l (kH l.length f+j)).it∈H))=an:=h3;rw[h2,jh,decide_eq_false_iff_not,h4] at h3;exact⟨_,hk,by omega,h2,h4,h3,h⟩
theorem aiS {H:List It} {l:List Op} {u:Int} {z:It} (h:p6 (gq H l) u=aa z) :
  ∃ k,k<l.length/\(k:Int)<u/\(og l k).ins=ao/\(og l k).it=z/\z∈H/\lo (lW ao ((gq H l).take u.toNat))=aa z:=by
 unfold p6 at h;obtain⟨m,h1,h2,h3,h4⟩:=tJ.1 (G0 h);obtain⟨j,hj,rfl⟩:=sM h1;rw[List.getElem_take] at h2 h3 h4;rw[dQ,mK] at hj;have hk:j<l.length:=by omega
 have hu:j<u.toNat:=by unfold kH at hj;omega
 have e:∀ hh,(gq H l)[j]'hh=u9 H (og l j):=fun hh=>by
  have:=oy H hk
  rwa [au,bd hh] at this
 rw[e] at h2 h3 h4;have h2:(og l j).ins=ao:=h2;have h4:(og l j).it=z:=h4;have h3:((og l j).ins&&decide ((og l j).it∈H))=ao:=h3;rw[h2,jh,decide_eq_true_eq,h4] at h3;refine⟨_,hk,by omega,h2,h4,h3,?_⟩
 have:(gq H l).take (kH (gq H l).length u)=(gq H l).take u.toNat:=by
  unfold kH;rcases WD u.toNat (gq H l).length with c|c
  ·rw[tE c]
  ·rw[Oc c,jP,jl c]
 rw[this] at h;exact h
section
variable {q:QS} {H:List It} {l:List Op} {P G:List It} {c:Int} {n:Nat} {a:QS} {k:Int}
theorem MQ.aeZ (h:MQ q (gq H l) P G c n a k) (hn:n≤99999) {f:Int} (hf:f<0):vS q f=q/\KE q f/\wO q f=[]:=by
 unfold vS wO KE;rw[if_pos hf,if_pos hf];exact⟨rfl,⟨(h.lj hn).1,(h.lj hn).2.1,(h.lj hn).2.2,fun c=>absurd hf c⟩,rfl⟩
theorem MQ.gb_ (h:MQ q (gq H l) P G c n a k) (hB:VB a) (hk:k≤900000) (hn:n≤99990) {f:Int} {z:It} (ht:Tm l) (hd:(gC l).Nodup) (hf:¬ f<0) (hz:uE (gq H l) f=aa z) (hoP:Ord P) (hoG:Ord G) (hzP:z∉P) (hl:(P.length:Int)≠c) (Bp:P.length≤100) :
  MQ (vS q f) (gq (z::H) l) (gZ z P) (pU z G) c (n+3) a (k+6500)/\KE q f/\wO q f=[z]:=by
 obtain⟨i,h1,h2,h3,h4,h5,h6⟩:=akd hf hz;have eZ:Jn q f=z:=by unfold Jn;rw[h.m0,hz];rfl
 have lj:=h.lj (by omega)
 have hb:Gv.BZ (fun j=>isG z ((Hd q.mt f).l.getD j mz)) 0 (Hd q.mt f).l.length f (VA q f):=by
  unfold VA;rw[eZ];exact RU (s:=Hd q.mt f) (f:=f) (may:=pY z) (afz z (Hd q.mt f).l).toAsks
 have el:(Hd q.mt f).l=gq H l:=h.m0;rw[el,show f=(f.toNat:Int) by omega] at hb
 have eP:VA q f=(i:Int):=by
  have:=ahl hd h1 h3 h4 h5 h2 h6 hb
  rwa [show((f.toNat:Nat):Int)=f by omega] at this
 have eT:(SG q f).l=gq H l:=h.m0;have T:=Yz (s:=SG q f) (H':=z::H) (b:=ao) eT ht hd h1 h3 (by rw[h4,decide_eq_true (List.mem_cons_self)]) (fun w hw=>by rw[h4] at hw;rw[List.mem_cons];exact⟨.inr,fun c=>c.resolve_left hw⟩) lj.1
 have hv:Fx 2000 q.mt.m (Al (SG q f) (i:Int) ao).m:=by
  have v1:=q.mt.sy;have v2:=q.mt.seen.sy;have v3:=q.mt.seen.seen.KZ (kH q.mt.l.length f) q.mt.l.length;have v4:=Qn (s:=Hd q.mt f) (f:=f) (may:=pY (Jn q f)) (afz _ _);refine((((v1.trans v2).trans v3).trans v4).trans T.2.2.2.2).mono ?_;have a1:=q.mt.seen.seen.qo;have a2:=(Hd q.mt f).qo;omega
 have m1:=h.Jl hB (by omega) (e:=2000) (s:=Al (SG q f) (i:Int) ao) (d:=1) T.2.1 T.2.2.1 (xm T.2.2.2.1) hv (by omega)
 have m2:=m1.aab hB (by omega) (x:=z) hoG
 have m3:=m2.Ia hB (by omega) (by omega) (x:=z) hoP hzP hl Bp
 refine⟨?_,?_,?_⟩
 ·unfold vS;rw[if_neg hf,eZ,eP];exact m3.up (by omega) (by omega)
 ·refine⟨lj.1,lj.2.1,lj.2.2,fun _=>⟨?_,?_⟩⟩
  ·rw[eP];exact T.1
  ·rw[eZ];exact HF h.p0 hoP lj.2.1 Bp
 ·unfold wO;rw[if_neg hf,eZ]
theorem MQ.ae5 (h:MQ q (gq H l) P G c n a k) (hB:VB a) (hk:k≤900000) (hn:n≤99990) {u:Int} (hz:p6 (gq H l) u=aj):MQ (FF q u) (gq H l) P G c n a (k+6500)/\JF q u/\A6 q u=[]:=by
 have e:Oy q u=an:=by unfold Oy;rw[h.m0,hz];rfl
 have lj:=h.lj (by omega)
 unfold FF A6 JF;simp only[e,fP,if_false];refine⟨?_,⟨lj.1,lj.2.1,lj.2.2,fun c=>c.elim⟩,trivial⟩
 exact(h.Jl hB (by omega) (e:=2000) (s:=CH q.mt u) (d:=0) h.m0 rfl (a_ _) (q.mt.sy.trans (q.mt.seen.KZ 0 (kH q.mt.l.length u))) (by have:=q.mt.seen.qo;omega)).up (a_ _) (by omega)
theorem MQ.ta_ (h:MQ q (gq H l) P G c n a k) (hB:VB a) (hk:k≤900000) (hn:n≤99990) {u:Int} {z:It} (ht:Tm l) (hd:(gC l).Nodup) (hz:p6 (gq H l) u=aa z) (hoP:Ord P) (hoG:Ord G) (hzG:z∉G) (hl:(G.length:Int)≠c) (Bp:G.length≤100) :
  MQ (FF q u) (gq (pU z H) l) (pU z P) (gZ z G) c (n+3) a (k+6500)/\JF q u/\A6 q u=[z]:=by
 obtain⟨i,h1,h2,h3,h4,h5,h6⟩:=aiS hz;have eB:Oy q u=ao:=by unfold Oy;rw[h.m0,hz];rfl
 have eZ:Jf q u=z:=by unfold Jf;rw[h.m0,hz];rfl
 have lj:=h.lj (by omega)
 have hb:Gv.EH (fun j=>isL z ((CH q.mt u).l.getD j mz)) 0 (CH q.mt u).l.length u (Ua q u):=by
  unfold Ua;rw[eZ];exact Tc (s:=CH q.mt u) (f:=u) (may:=p9 z) (afR z (CH q.mt u).l).toAsks
 have el:(CH q.mt u).l=gq H l:=h.m0;rw[el,show u=(u.toNat:Int) by omega] at hb
 have eP:Ua q u=(i:Int):=by
  have:=aik hd h1 h3 h4 h5 (by omega:i<u.toNat) h6 hb
  rwa [show((u.toNat:Nat):Int)=u by omega] at this
 have eT:(R_ q u).l=gq H l:=h.m0;have T:=Yz (s:=R_ q u) (H':=pU z H) (b:=an) eT ht hd h1 h3 (by rw[h4,decide_eq_false (fun c=>(po.1 c).2 rfl)]) (fun w hw=>by rw[h4] at hw;rw[po];exact⟨fun c=>⟨c,hw⟩,fun c=>c.1⟩) lj.1
 have hv:Fx 2000 q.mt.m (Al (R_ q u) (i:Int) an).m:=by
  have v1:=q.mt.sy;have v3:=q.mt.seen.KZ 0 (kH q.mt.l.length u);have v4:=RT (s:=CH q.mt u) (f:=u) (may:=p9 (Jf q u)) (afR _ _);refine(((v1.trans v3).trans v4).trans T.2.2.2.2).mono ?_;have a1:=q.mt.seen.qo;have a2:=(CH q.mt u).qo;omega
 have m1:=h.Jl hB (by omega) (e:=2000) (s:=Al (R_ q u) (i:Int) an) (d:=1) T.2.1 T.2.2.1 (xm T.2.2.2.1) hv (by omega)
 have m2:=m1.Cr hB (by omega) (x:=z) hoP
 have m3:=m2.Ax hB (by omega) (by omega) (x:=z) hoG hzG hl Bp
 refine⟨?_,?_,?_⟩
 ·unfold FF;rw[if_pos eB,eZ,eP];exact m3.up (by omega) (by omega)
 ·refine⟨lj.1,lj.2.1,lj.2.2,fun _=>⟨?_,?_⟩⟩
  ·rw[eP];exact T.1
  ·rw[eZ];exact HF h.g0 hoG lj.2.2 Bp
 ·unfold A6;rw[if_pos eB,eZ]
end
end Pa
end Go.Proofs.YtjlomlgdgpoepaaGreat
