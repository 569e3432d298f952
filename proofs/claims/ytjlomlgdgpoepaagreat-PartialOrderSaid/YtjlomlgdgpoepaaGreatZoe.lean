import Derived.Test.YtjlomlgdgpoepaaGreatZod
import Derived.Test.YtjlomlgdgpoepaaGreatZoc
import Derived.Test.YtjlomlgdgpoepaaGreatZob
set_option linter.unusedVariables false
set_option linter.unusedSimpArgs false
namespace Go.Proofs.YtjlomlgdgpoepaaGreat
open Gv renaming AH→DJ,AY→DK,B_→CA,D5→FX,Deep→jm,Ei→BD,Part→Ie,Ref→bn,W→nq,XS→Ln,aG→aL,cx→b5,di→jn,drop→wI,ef→eK,find→iO,gj→g9,glue→sH,has→zb,iG→fG,iU→kt,jI→Az,jT→Lm,jV→j4,jt→gP,kI→lX,lF→rE,last→kf,level→gz,link→kJ,lk→bu,look→j3,lu→lT,lz→nY,mD→mK,mr→lD,nF→vl,nextIdx→vU,np→jl,ns→F2,nz→CB,oZ→ze,oa→vj,one→n7,pT→tN,pc→vW,pd→vV,pick→jE,put→tX,qG→s9,qX→lJ,qj→mE,qo→ox,rL→pa,replace→nZ,sL→Ew,sQ→xI,sV→qN,seen→If,sub→nj,tO→vX,tR→vZ,tie→s8,uv→vY
open Gv.Node renaming all→bw,e→b6,h→cw,l→bd,mk→fH,r→bo
open Gv.PM renaming cY→g_,cap→iv,dG→dR,free→dY,held→fW,live→e7,vs→cI
open Gv.Part renaming mk→mJ,n→bP,sum→bH
open Gv.Ref renaming g→cD,i→cC,mk→aO
open Gv.TS renaming AJ→uf,GM→adp,Kw→Jt,Lt→DL,Oi→QP,S4→QO,TX→Hb,T_→Hc,Wd→Sg,Wq→Lo,Wt→Si,XV→TG,Zj→M3,all→sx,first→zf,gv→fa,last→Ee,l→eY,new→rj,put_eq→W2,seen→dC,tU→F1,uI→pC
open Gv.iX renaming cmp→hU,sum→Jo
open Pa renaming iP→kg,qi→qy
open Rx renaming Ends→cj
open Sh renaming Gd→Js,O9→aN,Sl→jR,Sz→QN,zR→yp
open Sh.Sl renaming it→lU,kK→po,mk→jD,time→qO
open Sh.Sz renaming mk→ae9,n→pK
open Ti.Td renaming mk→ja
open Wv renaming Mk→ir,O8→ax,S8→ux
open Wv.It renaming i→nw,k→nv,mk→cX
open Wv.Sw renaming mk→xJ
open _root_.And renaming intro→cZ,right→iw
open _root_.Array renaming mk→aP,toList→dw
open _root_.Bool renaming and_false→vg,and_true→TF,false_eq_true→fX,false→an,or_true→W3,true_and→js,true→ao
open _root_.Eq renaming symm→rB
open _root_.False renaming elim→kV
open _root_.Go.Addr renaming mk→Se
open _root_.Go.Func renaming ntmps→pA,results→dx
open _root_.Go.IntKind renaming i64→ar,wrap→ck
open _root_.Go.Value renaming agg→bG,bool→aE,int→bk,pointer→aC,slice→br,tuple→cr
open _root_.Iff renaming rfl→sD
open _root_.Int renaming toNat_natCast→iS,toNat→aD
open _root_.List renaming ext_getElem→OJ,getD_eq_getElem?_getD→au,getD→aB,getElem?_cons_succ→bK,getElem?_cons_zero→cf,getElem?_eq_getElem→bc,getElem?_map→fu,getElem_of_mem→mf,length_append→bE,length_cons→cy,length_drop→jC,length_map→fZ,length_nil→jX,length_set→fh,length_take→ej,length→ae,map_append→dM,map_cons→gC,map_drop→mT,map_nil→vf,map_set→FW,map_take→nO,map→aw,range→oD,set→qv,take_length→jB,take_of_length_le→jw,take→h_
open _root_.Nat renaming le_add_left→tZ,le_of_eq→xL,le_refl→a_,le_succ→kZ,le_total→W4,le_trans→jz,lt_of_le_of_lt→jk,lt_or_ge→ct,lt_succ_self→fI,min_eq_left→tY,min_eq_right→OK,sub_le→BC,succ_pos→sZ,zero_add→bW,zero_le→dv
open _root_.Option renaming none→aj,some_ne_none→wP,some→aa
open _root_.Option.some renaming injEq→cv,inj→pw
open _root_.Prod renaming ext→ks,fst→ay,snd→av
namespace G8
open Rx
set_option maxRecDepth 100000
set_option maxHeartbeats 16000000
def K0  (k:Nat):Prim Rs:=fun args hh=>match args,hh with
 |[.pointer (aa ⟨0,0,aj⟩),.agg ⟨xN⟩,.agg ⟨pP⟩,.int .i64 f_,.func (.func 110) ⟨[]⟩ ⟨[.pointer (aa ⟨1,0,aj⟩)]⟩],[aa (.inl (110,[.pointer (aa ⟨2,0,aj⟩),.int .i64 ti,.int .i64 tg])),aa (.inl (75,[.int .i64 xk,.int .i64 xi,.bool xe,.int .i64 xt])),aa (.inr (.inr (.inr (.db m))))]=>aa ⟨xN=bj (gh xN)/\pP=bZ (pv pP)/\(PP m/\gP ax k m (gh xN)),.int .i64 (kf ax (qy ⟨xk,xi⟩) k m (gh xN) (pv pP) f_).1,aj,[aa (.inl (110,[.pointer (aa ⟨2,0,aj⟩),.int .i64 ti,.int .i64 tg])),aa (.inl (75,[.int .i64 xk,.int .i64 xi,.bool xe,.int .i64 xt])),aa (.inr (.inr (.inr (.db (kf ax (qy ⟨xk,xi⟩) k m (gh xN) (pv pP) f_).2))))],[],[(0,0)]⟩
 |_,_=>aj
def acw (k:Nat):eM Rs:=[(1000000000,lW),(110,bJ zN 2 (a9 aai)),(80,bJ zN 2 (a9 km)),(98,bJ zN 2 (a9 AV)),(148,bJ zN 2 (a9 ef)),(143,bJ zN 2 (a9 (K0 k)))]
theorem UA:∀ k:Nat,b8 D Tryz.prog 143 (a9 (K0 k))
 |0=>by
  refine fx Tryz.f143 fun args hh x hx=>?_
  unfold K0 at hx;split at hx
  ·rename_i xN pP f_ ti tg xk xi xe xt m;cases hx;refine q4 fun _ hv=>?_
   exact kV (iw (iw (iw hv)))
  ·cases hx
 |k+1=>by
  have ih:=UA k;refine fx Tryz.f143 fun args hh x hx=>?_
  unfold K0 at hx;split at hx
  ·rename_i xN pP f_ ti tg xk xi xe xt m;cases hx;refine q4 fun _ hv=>?_
   obtain⟨j7,sT,hv⟩:=hv;generalize gh xN=xn at *;subst j7;generalize pv pP=pp at *;subst sT;obtain⟨hp,hd⟩:=hv
   generalize hG:cj (R:=Rs) _ _=G;refine cK (T:=(acw k)) (show cN D Tryz.prog (acw k) from⟨iF,aT _ _ agY,aT _ _ look_ok,aT _ _ yI,aT _ _ uX,aT _ _ ih,trivial⟩) mixed 200 ?_
   refine bM (q:=let Z9:=bk ar;let Z1:=(ck ar (bP pp+bP (bw xn))≤f_);let Z2:=(bu ax m (bd xn));let Z3:=(eK ax pp (bw Z2));let Z4:=(n7 ax (b6 xn));let Z5:=(bu ax (aL m (bd xn)) (bo xn));let Z6:=(aL (aL m (bd xn)) (bo xn));let Z7:=(kf ax (qy (cX xk xi)) k Z6 Z5 (eK ax Z3 Z4) f_);let Z8:=(kf ax (qy (cX xk xi)) k (av Z7) Z2 pp f_);((cw xn==(0:Int))=an->(decide (bP pp≥f_)=ao->aY (G (Z9 (-1:Int)) [dF 2 ti tg,aa (.inl (75,[Z9 xk,Z9 xi,.bool xe,Z9 xt])),oP m,aa (.inl (136,(bj xn))),aa (.inl (134,(bZ pp)))]))/\(decide (bP pp≥f_)=an->Vc True/\(decide Z1=ao->Vc ((ky (bH pp))=ky (bH pp)/\(ky (bH (bw xn)))=ky (bH (bw xn)))/\((!qy (cX xk xi) (bH pp) (bH (bw xn)))=ao->aY (G (Z9 (-1:Int)) [dF 2 ti tg,aa (.inl (75,[Z9 xk,Z9 xi,.bool xe,Z9 xt])),oP m,aa (.inl (136,(bj xn))),aa (.inl (134,(bZ pp)))]))/\((!qy (cX xk xi) (bH pp) (bH (bw xn)))=an->Vc (PP m)/\Vc ((bZ pp)=bZ pp/\(bZ (bw Z2))=bZ (bw Z2)/\True)/\Vc ((dt (b6 xn))=dt (b6 xn)/\True)/\Vc (PP (aL m (bd xn)))/\Vc ((bZ Z3)=bZ Z3/\(bZ Z4)=bZ Z4/\True)/\Vc ((bj Z5)=bj Z5/\(bZ (eK ax Z3 Z4))=bZ (eK ax Z3 Z4)/\PP Z6/\gP ax k Z6 Z5)/\(decide (ay Z7≥(0:Int))=ao->aY (G (Z9 (ay Z7)) [dF 2 ti tg,aa (.inl (75,[Z9 xk,Z9 xi,.bool xe,Z9 xt])),oP (av Z7),aa (.inl (136,(bj xn))),aa (.inl (134,(bZ pp))),aa (.inl (136,(bj Z2))),aa (.inl (134,(bZ Z3))),aa (.inl (134,(bZ Z4)))]))/\(decide (ay Z7≥(0:Int))=an->(decide (bP Z3<f_)=ao->Vc ((ky (bH Z3))=ky (bH Z3)/\(ky (bH Z4))=ky (bH Z4))/\(qy (cX xk xi) (bH Z3) (bH Z4)=ao->aY (G (Z9 (bP Z3)) [dF 2 ti tg,aa (.inl (75,[Z9 xk,Z9 xi,.bool xe,Z9 xt])),oP (av Z7),aa (.inl (136,(bj xn))),aa (.inl (134,(bZ pp))),aa (.inl (136,(bj Z2))),aa (.inl (134,(bZ Z3))),aa (.inl (134,(bZ Z4)))]))/\(qy (cX xk xi) (bH Z3) (bH Z4)=an->Vc ((bj Z2)=bj Z2/\(bZ pp)=bZ pp/\PP (av Z7)/\gP ax k (av Z7) Z2)/\aY (G (Z9 (ay Z8)) [dF 2 ti tg,aa (.inl (75,[Z9 xk,Z9 xi,.bool xe,Z9 xt])),oP (av Z8),aa (.inl (136,(bj xn))),aa (.inl (134,(bZ pp))),aa (.inl (136,(bj Z2))),aa (.inl (134,(bZ Z3))),aa (.inl (134,(bZ Z4)))])))/\(decide (bP Z3<f_)=an->Vc ((bj Z2)=bj Z2/\(bZ pp)=bZ pp/\PP (av Z7)/\gP ax k (av Z7) Z2)/\aY (G (Z9 (ay Z8)) [dF 2 ti tg,aa (.inl (75,[Z9 xk,Z9 xi,.bool xe,Z9 xt])),oP (av Z8),aa (.inl (136,(bj xn))),aa (.inl (134,(bZ pp))),aa (.inl (136,(bj Z2))),aa (.inl (134,(bZ Z3))),aa (.inl (134,(bZ Z4)))])))))/\(decide Z1=an->Vc (PP m)/\Vc ((bZ pp)=bZ pp/\(bZ (bw Z2))=bZ (bw Z2)/\True)/\Vc ((dt (b6 xn))=dt (b6 xn)/\True)/\Vc (PP (aL m (bd xn)))/\Vc ((bZ Z3)=bZ Z3/\(bZ Z4)=bZ Z4/\True)/\Vc ((bj Z5)=bj Z5/\(bZ (eK ax Z3 Z4))=bZ (eK ax Z3 Z4)/\PP Z6/\gP ax k Z6 Z5)/\(decide (ay Z7≥(0:Int))=ao->aY (G (Z9 (ay Z7)) [dF 2 ti tg,aa (.inl (75,[Z9 xk,Z9 xi,.bool xe,Z9 xt])),oP (av Z7),aa (.inl (136,(bj xn))),aa (.inl (134,(bZ pp))),aa (.inl (136,(bj Z2))),aa (.inl (134,(bZ Z3))),aa (.inl (134,(bZ Z4)))]))/\(decide (ay Z7≥(0:Int))=an->(decide (bP Z3<f_)=ao->Vc ((ky (bH Z3))=ky (bH Z3)/\(ky (bH Z4))=ky (bH Z4))/\(qy (cX xk xi) (bH Z3) (bH Z4)=ao->aY (G (Z9 (bP Z3)) [dF 2 ti tg,aa (.inl (75,[Z9 xk,Z9 xi,.bool xe,Z9 xt])),oP (av Z7),aa (.inl (136,(bj xn))),aa (.inl (134,(bZ pp))),aa (.inl (136,(bj Z2))),aa (.inl (134,(bZ Z3))),aa (.inl (134,(bZ Z4)))]))/\(qy (cX xk xi) (bH Z3) (bH Z4)=an->Vc ((bj Z2)=bj Z2/\(bZ pp)=bZ pp/\PP (av Z7)/\gP ax k (av Z7) Z2)/\aY (G (Z9 (ay Z8)) [dF 2 ti tg,aa (.inl (75,[Z9 xk,Z9 xi,.bool xe,Z9 xt])),oP (av Z8),aa (.inl (136,(bj xn))),aa (.inl (134,(bZ pp))),aa (.inl (136,(bj Z2))),aa (.inl (134,(bZ Z3))),aa (.inl (134,(bZ Z4)))])))/\(decide (bP Z3<f_)=an->Vc ((bj Z2)=bj Z2/\(bZ pp)=bZ pp/\PP (av Z7)/\gP ax k (av Z7) Z2)/\aY (G (Z9 (ay Z8)) [dF 2 ti tg,aa (.inl (75,[Z9 xk,Z9 xi,.bool xe,Z9 xt])),oP (av Z8),aa (.inl (136,(bj xn))),aa (.inl (134,(bZ pp))),aa (.inl (136,(bj Z2))),aa (.inl (134,(bZ Z3))),aa (.inl (134,(bZ Z4)))]))))))/\((cw xn==(0:Int))=ao->aY (G (Z9 (-1:Int)) [dF 2 ti tg,aa (.inl (75,[Z9 xk,Z9 xi,.bool xe,Z9 xt])),oP m,aa (.inl (136,(bj xn))),aa (.inl (134,(bZ pp)))]))) ?_ (by kernel_rfl)
   intro Z9 Z1 Z2 Z3 Z4 Z5 Z6 Z7 Z8;subst Z8 Z7 Z6 Z5 Z4 Z3 Z2 Z1 Z9;simp only[gP] at hd;have e1:∀ e,(n7 ax e).sum=ax.sum e:=fun _=>rfl
   have done:∀ (i:Int) (m':Pl) (rest:Hp Rs),kf ax (qy ⟨xk,xi⟩) (k+1) m xn pp f_=(i,m')->G (.int .i64 i) ([aa (.inl (110,[.pointer (aa ⟨2,0,aj⟩),.int .i64 ti,.int .i64 tg])),aa (.inl (75,[.int .i64 xk,.int .i64 xi,.bool xe,.int .i64 xt])),aa (.inr (.inr (.inr (.db m'))))]++rest):=by
    intro i m' rest e;subst hG;refine⟨[0,1,2],?_,rfl,⟨.inl rfl,.inl rfl,?_,trivial⟩,rfl,rfl,rfl,rfl⟩
    ·simp only[e];rfl
    ·simp only[e];rfl
   clear hG;rw[kf] at done
   dsimp only [nq] at done
   simp only[e1]
   repeat' (first|apply cZ|apply Vc.mk|apply fits.mk|intro h|apply aY.mk)
   all_goals (try simp only[sB] at *)
   all_goals first|contradiction|omega|exact jF ‹_›|exact jH ‹_›|exact jG ‹_›|exact⟨rfl,by omega⟩|exact rfl|(simp[*,-au];done)|skip
   all_goals first|assumption|(simp only[jl];assumption)|skip
   all_goals first|exact ox (hd.resolve_left (by omega)).1 (fun s=>by simp only[Gv.iE,lT,mK])|(simp only[lT,mK,Gv.iE];first|exact ox (hd.resolve_left (by omega)).2 (fun s=>by simp only[Gv.iE,lT,mK])|exact ox (hd.resolve_left (by omega)).1 (fun s=>by simp only[Gv.iE,lT,mK]))|skip
   all_goals (refine done _ _ _ ?_;repeat' split)
   all_goals first|rfl|(exfalso;omega)|(exfalso;simp_all;done)|(exfalso;simp_all;omega)
  ·cases hx
def QW (K:Nat):Prim Rs:=fun args hh=>match args,hh with
 |[.pointer (aa ⟨0,0,aj⟩),.int .i64 f_,.func (.func 110) ⟨[]⟩ ⟨[.pointer (aa ⟨1,0,aj⟩)]⟩],[aa (.inl (110,[.pointer (aa ⟨2,0,aj⟩),.int .i64 ti,.int .i64 tg])),aa (.inl (75,[.int .i64 xk,.int .i64 xi,.bool xe,.int .i64 xt])),aa (.inr (.inr (.inr (.db m))))]=>aa ⟨PP m/\gP ax K (aL m (⟨ti,tg⟩:bn)) (bu ax m (⟨ti,tg⟩:bn)),.int .i64 (kf ax (qy ⟨xk,xi⟩) K (aL m (⟨ti,tg⟩:bn)) (bu ax m (⟨ti,tg⟩:bn)) ⟨0,ax.a0⟩ f_).1,aj,[aa (.inl (110,[.pointer (aa ⟨2,0,aj⟩),.int .i64 ti,.int .i64 tg])),aa (.inl (75,[.int .i64 xk,.int .i64 xi,.bool xe,.int .i64 xt])),aa (.inr (.inr (.inr (.db (kf ax (qy ⟨xk,xi⟩) K (aL m (⟨ti,tg⟩:bn)) (bu ax m (⟨ti,tg⟩:bn)) ⟨0,ax.a0⟩ f_).2))))],[],[(0,0)]⟩
 |_,_=>aj
def Yj (K:Nat):eM Rs:=[(80,bJ zN 2 (a9 km)),(143,bJ zN 2 (a9 (K0 K)))]
theorem ab2 (K:Nat):b8 D Tryz.prog 111 (a9 (QW K)):=by
 refine fx Tryz.f111 fun args hh x hx=>?_
 unfold QW at hx;split at hx
 ·rename_i f_ ti tg xk xi xe xt m;cases hx;refine q4 fun _ hv=>?_
  obtain⟨hp,hd⟩:=hv;generalize hG:cj (R:=Rs) _ _=G;refine cK (T:=(Yj K)) (show cN D Tryz.prog (Yj K) from⟨aT _ _ look_ok,aT _ _ (UA K),trivial⟩) mixed 200 ?_
  refine bM (q:=let Z1:=(bu ax m (aO ti tg));let Z2:=(bZ (mJ 0 (xJ (ja 0 0 0) (ja 0 0 0) 0 0 (cX 0 0) an (cX 0 0) an (cX 0 0))));let Z3:=(kf ax (qy (cX xk xi)) K (aL m (aO ti tg)) Z1 (mJ (0:Int) (xJ (ja (0:Int) (0:Int) (0:Int)) (ja (0:Int) (0:Int) (0:Int)) (0:Int) (0:Int) (cX (0:Int) (0:Int)) an (cX (0:Int) (0:Int)) an (cX (0:Int) (0:Int)))) f_);Vc (PP m)/\Vc ((bj Z1)=bj Z1/\Z2=Z2/\PP (aL m (aO ti tg))/\gP ax K (aL m (aO ti tg)) Z1)/\aY (G (bk ar (ay Z3)) [dF 2 ti tg,aa (.inl (75,[.int ar xk,.int ar xi,.bool xe,.int ar xt])),oP (av Z3)])) ?_ (by kernel_rfl)
  intro Z1 Z2 Z3;subst Z3 Z2 Z1;subst hG
  repeat' (first|apply cZ|apply Vc.mk|apply fits.mk|intro h|apply aY.mk)
  all_goals (try simp only[sB] at *)
  all_goals first|contradiction|omega|exact jF ‹_›|exact jH ‹_›|exact jG ‹_›|exact⟨rfl,by omega⟩|exact rfl|(simp[*,-au];done)|skip
  all_goals first|assumption|(simp only[jl];assumption)|skip
  exact⟨[0,1,2],rfl,rfl,⟨.inl rfl,.inl rfl,rfl,trivial⟩,rfl,rfl,rfl,rfl⟩
 ·cases hx
end G8
namespace G8
open Rx
open Gv (KK)
set_option maxRecDepth 100000
set_option maxHeartbeats 8000000
def IH:Prim Rt:=fun args hh=>match args,hh with
 |[.int .i64 c],[]=>aa ⟨True,.pointer (aa ⟨0,0,aj⟩),aj,[oT (rj k8 c)],[],[(0,0)]⟩
 |_,_=>aj
theorem Rh:b8 D2 Tryz.prog 90 (a9 IH):=by
 refine nK (c:=a9 I0) Sa fun args hh x hx=>?_
 unfold IH at hx;split at hx
 ·rename_i c;cases hx;refine⟨dv _,lV rfl,(fun hw=>by cases hw),fun hv=>⟨⟨_,.inl ⟨rfl,rfl⟩,rfl,?_,?_,?_⟩,rfl,rfl⟩⟩
  ·trivial
  ·rfl
  ·rfl
 ·cases hx
def AK:Prim Rt:=fun args hh=>match args,hh with
 |[.pointer (aa ⟨0,0,aj⟩)],[aa (.inr (.inr (.inr (.tree s))))]=>aa ⟨s.gv,.int .i64 s.l.length,aj,[oT s.seen],[],[(0,0)]⟩
 |_,_=>aj
theorem Ck:b8 D2 Tryz.prog 40 (a9 AK):=by
 refine nK (c:=a9 Ch) K4 fun args hh x hx=>?_
 unfold AK at hx;split at hx
 ·rename_i s;cases hx;refine⟨a_ _,lV rfl,(fun hw=>by cases hw),fun hv=>⟨⟨_,.inl ⟨rfl,rfl⟩,rfl,?_,?_,?_⟩,rfl,rfl⟩⟩
  ·exact s.pp hv
  ·rfl
  ·exact congrArg (bk ar) s.ok.nn
 ·cases hx
def I_:Prim Rt:=fun args hh=>match args,hh with
 |[.pointer (aa ⟨0,0,aj⟩)],[aa (.inr (.inr (.inr (.tree s))))]=>aa ⟨True,.int .i64 s.m.cY,aj,hh,[],[]⟩
 |_,_=>aj
theorem RQ:b8 D2 Tryz.prog 76 (a9 I_):=by
 refine nK (c:=a9 zr) IG fun args hh x hx=>?_
 unfold I_ at hx;split at hx
 ·rename_i s;cases hx;refine⟨a_ _,lV rfl,(fun _=>rfl),fun hv=>⟨⟨_,.inl ⟨rfl,rfl⟩,rfl,?_,?_,?_⟩,rfl,rfl⟩⟩
  ·trivial
  ·rfl
  ·rfl
 ·cases hx
def Ea:Prim Rt:=fun args hh=>match args,hh with
 |[.pointer (aa ⟨0,0,aj⟩),.agg ⟨[.int .i64 k0,.bool k1,.int .i64 k2,.int .i64 k3,.bool k4,.bool k5,.int .i64 k6,.int .i64 k7]⟩],[aa (.inr (.inr (.inr (.tree s))))]=>aa ⟨s.ls (⟨k0,k1,⟨k2,k3⟩,k4,k5,⟨k6,k7⟩⟩:ir),.bool (s.Kw (⟨k0,k1,⟨k2,k3⟩,k4,k5,⟨k6,k7⟩⟩:ir)),aj,[oT (s.put (⟨k0,k1,⟨k2,k3⟩,k4,k5,⟨k6,k7⟩⟩:ir))],[],[(0,0)]⟩
 |_,_=>aj
theorem HV:b8 D2 Tryz.prog 67 (a9 Ea):=by
 refine nK (c:=a9 (IK KK)) (RC KK) fun args hh x hx=>?_
 unfold Ea at hx;split at hx
 ·rename_i k0 k1 k2 k3 k4 k5 k6 k7 s;cases hx;refine⟨a_ _,lV rfl,(fun hw=>by cases hw),fun hv=>⟨⟨_,.inl ⟨rfl,rfl⟩,rfl,?_,?_,?_⟩,rfl,rfl⟩⟩
  ·exact⟨rfl,s.pp hv.mb,(F1 hv).1⟩
  ·rw[W2 hv];rfl
  ·exact congrArg aE (F1 hv).2.1
 ·cases hx
def Dh:Prim Rt:=fun args hh=>match args,hh with
 |[.pointer (aa ⟨0,0,aj⟩),.agg ⟨[.int .i64 k0,.bool k1,.int .i64 k2,.int .i64 k3,.bool k4,.bool k5,.int .i64 k6,.int .i64 k7]⟩],[aa (.inr (.inr (.inr (.tree s))))]=>aa ⟨s.gv,.tuple #[.agg ⟨[.int .i64 (fG ax (⟨k0,k1,⟨k2,k3⟩,k4,k5,⟨k6,k7⟩⟩:ir) s.l).1.t,.bool (fG ax (⟨k0,k1,⟨k2,k3⟩,k4,k5,⟨k6,k7⟩⟩:ir) s.l).1.ins,.int .i64 (fG ax (⟨k0,k1,⟨k2,k3⟩,k4,k5,⟨k6,k7⟩⟩:ir) s.l).1.it.k,.int .i64 (fG ax (⟨k0,k1,⟨k2,k3⟩,k4,k5,⟨k6,k7⟩⟩:ir) s.l).1.it.i,.bool (fG ax (⟨k0,k1,⟨k2,k3⟩,k4,k5,⟨k6,k7⟩⟩:ir) s.l).1.here,.bool (fG ax (⟨k0,k1,⟨k2,k3⟩,k4,k5,⟨k6,k7⟩⟩:ir) s.l).1.tf,.int .i64 (fG ax (⟨k0,k1,⟨k2,k3⟩,k4,k5,⟨k6,k7⟩⟩:ir) s.l).1.tk.k,.int .i64 (fG ax (⟨k0,k1,⟨k2,k3⟩,k4,k5,⟨k6,k7⟩⟩:ir) s.l).1.tk.i]⟩,.bool (fG ax (⟨k0,k1,⟨k2,k3⟩,k4,k5,⟨k6,k7⟩⟩:ir) s.l).2],aj,[oT (s.drop (⟨k0,k1,⟨k2,k3⟩,k4,k5,⟨k6,k7⟩⟩:ir))],[],[(0,0)]⟩
 |_,_=>aj
theorem IC:b8 D2 Tryz.prog 74 (a9 Dh):=by
 refine nK (c:=a9 (E' KK)) (Nu KK) fun args hh x hx=>?_
 unfold Dh at hx;split at hx
 ·rename_i k0 k1 k2 k3 k4 k5 k6 k7 s;cases hx;refine⟨a_ _,lV rfl,(fun hw=>by cases hw),fun hv=>⟨⟨_,.inl ⟨rfl,rfl⟩,rfl,?_,?_,?_⟩,rfl,rfl⟩⟩
  ·exact⟨rfl,s.pp hv,(s.tK (⟨k0,k1,⟨k2,k3⟩,k4,k5,⟨k6,k7⟩⟩:ir)).1⟩
  ·rfl
  ·obtain⟨_,h1,h2,_⟩:=s.tK (⟨k0,k1,⟨k2,k3⟩,k4,k5,⟨k6,k7⟩⟩:ir);show cr #[.agg ⟨[.int .i64 (j4 ax KK s.m s.r (⟨k0,k1,⟨k2,k3⟩,k4,k5,⟨k6,k7⟩⟩:ir)).1.t,.bool (j4 ax KK s.m s.r (⟨k0,k1,⟨k2,k3⟩,k4,k5,⟨k6,k7⟩⟩:ir)).1.ins,.int .i64 (j4 ax KK s.m s.r (⟨k0,k1,⟨k2,k3⟩,k4,k5,⟨k6,k7⟩⟩:ir)).1.it.k,.int .i64 (j4 ax KK s.m s.r (⟨k0,k1,⟨k2,k3⟩,k4,k5,⟨k6,k7⟩⟩:ir)).1.it.i,.bool (j4 ax KK s.m s.r (⟨k0,k1,⟨k2,k3⟩,k4,k5,⟨k6,k7⟩⟩:ir)).1.here,.bool (j4 ax KK s.m s.r (⟨k0,k1,⟨k2,k3⟩,k4,k5,⟨k6,k7⟩⟩:ir)).1.tf,.int .i64 (j4 ax KK s.m s.r (⟨k0,k1,⟨k2,k3⟩,k4,k5,⟨k6,k7⟩⟩:ir)).1.tk.k,.int .i64 (j4 ax KK s.m s.r (⟨k0,k1,⟨k2,k3⟩,k4,k5,⟨k6,k7⟩⟩:ir)).1.tk.i]⟩,.bool (j4 ax KK s.m s.r (⟨k0,k1,⟨k2,k3⟩,k4,k5,⟨k6,k7⟩⟩:ir)).2.1]=_
   have h1:(j4 ax KK s.m s.r (⟨k0,k1,⟨k2,k3⟩,k4,k5,⟨k6,k7⟩⟩:ir)).1=(fG ax (⟨k0,k1,⟨k2,k3⟩,k4,k5,⟨k6,k7⟩⟩:ir) s.l).1:=h1;have h2:(j4 ax KK s.m s.r (⟨k0,k1,⟨k2,k3⟩,k4,k5,⟨k6,k7⟩⟩:ir)).2.1=(fG ax (⟨k0,k1,⟨k2,k3⟩,k4,k5,⟨k6,k7⟩⟩:ir) s.l).2:=h2;rw[h1,h2]
   rfl
 ·cases hx
def AM:Prim Rt:=fun args hh=>match args,hh with
 |[.pointer (aa ⟨0,0,aj⟩),.agg ⟨[.int .i64 k0,.bool k1,.int .i64 k2,.int .i64 k3,.bool k4,.bool k5,.int .i64 k6,.int .i64 k7]⟩],[aa (.inr (.inr (.inr (.tree s))))]=>aa ⟨s.gv,.tuple #[.agg ⟨[.int .i64 (fG ax (⟨k0,k1,⟨k2,k3⟩,k4,k5,⟨k6,k7⟩⟩:ir) s.l).1.t,.bool (fG ax (⟨k0,k1,⟨k2,k3⟩,k4,k5,⟨k6,k7⟩⟩:ir) s.l).1.ins,.int .i64 (fG ax (⟨k0,k1,⟨k2,k3⟩,k4,k5,⟨k6,k7⟩⟩:ir) s.l).1.it.k,.int .i64 (fG ax (⟨k0,k1,⟨k2,k3⟩,k4,k5,⟨k6,k7⟩⟩:ir) s.l).1.it.i,.bool (fG ax (⟨k0,k1,⟨k2,k3⟩,k4,k5,⟨k6,k7⟩⟩:ir) s.l).1.here,.bool (fG ax (⟨k0,k1,⟨k2,k3⟩,k4,k5,⟨k6,k7⟩⟩:ir) s.l).1.tf,.int .i64 (fG ax (⟨k0,k1,⟨k2,k3⟩,k4,k5,⟨k6,k7⟩⟩:ir) s.l).1.tk.k,.int .i64 (fG ax (⟨k0,k1,⟨k2,k3⟩,k4,k5,⟨k6,k7⟩⟩:ir) s.l).1.tk.i]⟩,.bool (fG ax (⟨k0,k1,⟨k2,k3⟩,k4,k5,⟨k6,k7⟩⟩:ir) s.l).2],aj,[oT (s.find (⟨k0,k1,⟨k2,k3⟩,k4,k5,⟨k6,k7⟩⟩:ir))],[],[(0,0)]⟩
 |_,_=>aj
theorem Fc:b8 D2 Tryz.prog 73 (a9 AM):=by
 refine nK (c:=a9 (Ff KK)) (NP KK) fun args hh x hx=>?_
 unfold AM at hx;split at hx
 ·rename_i k0 k1 k2 k3 k4 k5 k6 k7 s;cases hx;refine⟨a_ _,lV rfl,(fun hw=>by cases hw),fun hv=>⟨⟨_,.inl ⟨rfl,rfl⟩,rfl,?_,?_,?_⟩,rfl,rfl⟩⟩
  ·exact⟨rfl,s.pp hv,(s.ok.find (e:=(⟨k0,k1,⟨k2,k3⟩,k4,k5,⟨k6,k7⟩⟩:ir)) s.k1).1⟩
  ·rfl
  ·obtain⟨_,m',h1,_⟩:=s.ok.find (K:=KK) (e:=(⟨k0,k1,⟨k2,k3⟩,k4,k5,⟨k6,k7⟩⟩:ir)) s.k1;have h1:(iO ax KK (aL s.m s.r) (bu ax s.m s.r) (⟨k0,k1,⟨k2,k3⟩,k4,k5,⟨k6,k7⟩⟩:ir))=((fG ax (⟨k0,k1,⟨k2,k3⟩,k4,k5,⟨k6,k7⟩⟩:ir) s.l),m'):=h1;show cr #[.agg ⟨[.int .i64 (iO ax KK (aL s.m s.r) (bu ax s.m s.r) (⟨k0,k1,⟨k2,k3⟩,k4,k5,⟨k6,k7⟩⟩:ir)).1.1.t,.bool (iO ax KK (aL s.m s.r) (bu ax s.m s.r) (⟨k0,k1,⟨k2,k3⟩,k4,k5,⟨k6,k7⟩⟩:ir)).1.1.ins,.int .i64 (iO ax KK (aL s.m s.r) (bu ax s.m s.r) (⟨k0,k1,⟨k2,k3⟩,k4,k5,⟨k6,k7⟩⟩:ir)).1.1.it.k,.int .i64 (iO ax KK (aL s.m s.r) (bu ax s.m s.r) (⟨k0,k1,⟨k2,k3⟩,k4,k5,⟨k6,k7⟩⟩:ir)).1.1.it.i,.bool (iO ax KK (aL s.m s.r) (bu ax s.m s.r) (⟨k0,k1,⟨k2,k3⟩,k4,k5,⟨k6,k7⟩⟩:ir)).1.1.here,.bool (iO ax KK (aL s.m s.r) (bu ax s.m s.r) (⟨k0,k1,⟨k2,k3⟩,k4,k5,⟨k6,k7⟩⟩:ir)).1.1.tf,.int .i64 (iO ax KK (aL s.m s.r) (bu ax s.m s.r) (⟨k0,k1,⟨k2,k3⟩,k4,k5,⟨k6,k7⟩⟩:ir)).1.1.tk.k,.int .i64 (iO ax KK (aL s.m s.r) (bu ax s.m s.r) (⟨k0,k1,⟨k2,k3⟩,k4,k5,⟨k6,k7⟩⟩:ir)).1.1.tk.i]⟩,.bool (iO ax KK (aL s.m s.r) (bu ax s.m s.r) (⟨k0,k1,⟨k2,k3⟩,k4,k5,⟨k6,k7⟩⟩:ir)).1.2]=_
   rw[h1]
   rfl
 ·cases hx
def Hx:Prim Rt:=fun args hh=>match args,hh with
 |[.pointer (aa ⟨0,0,aj⟩),.agg ⟨[.int .i64 k0,.bool k1,.int .i64 k2,.int .i64 k3,.bool k4,.bool k5,.int .i64 k6,.int .i64 k7]⟩],[aa (.inr (.inr (.inr (.tree s))))]=>aa ⟨s.gv,.int .i64 (ze ax (⟨k0,k1,⟨k2,k3⟩,k4,k5,⟨k6,k7⟩⟩:ir) s.l).length,aj,[oT (s.kI (⟨k0,k1,⟨k2,k3⟩,k4,k5,⟨k6,k7⟩⟩:ir))],[],[(0,0)]⟩
 |_,_=>aj
theorem Wy:b8 D2 Tryz.prog 65 (a9 Hx):=by
 refine nK (c:=a9 (Fm KK)) (NJ KK) fun args hh x hx=>?_
 unfold Hx at hx;split at hx
 ·rename_i k0 k1 k2 k3 k4 k5 k6 k7 s;cases hx;refine⟨a_ _,lV rfl,(fun hw=>by cases hw),fun hv=>⟨⟨_,.inl ⟨rfl,rfl⟩,rfl,?_,?_,?_⟩,rfl,rfl⟩⟩
  ·exact⟨rfl,s.pp hv,(s.ok.kI (e:=(⟨k0,k1,⟨k2,k3⟩,k4,k5,⟨k6,k7⟩⟩:ir)) s.k1).1⟩
  ·rfl
  ·obtain⟨_,m',h1,_⟩:=s.ok.kI (K:=KK) (e:=(⟨k0,k1,⟨k2,k3⟩,k4,k5,⟨k6,k7⟩⟩:ir)) s.k1;have h1:(lX ax KK (aL s.m s.r) (bu ax s.m s.r) (⟨k0,k1,⟨k2,k3⟩,k4,k5,⟨k6,k7⟩⟩:ir) 0)=(((ze ax (⟨k0,k1,⟨k2,k3⟩,k4,k5,⟨k6,k7⟩⟩:ir) s.l).length:Int),m'):=h1;show bk ar (lX ax KK (aL s.m s.r) (bu ax s.m s.r) (⟨k0,k1,⟨k2,k3⟩,k4,k5,⟨k6,k7⟩⟩:ir) 0).1=_
   rw[h1]
   rfl
 ·cases hx
def IU:Prim Rt:=fun args hh=>match args,hh with
 |[.pointer (aa ⟨0,0,aj⟩)],[aa (.inr (.inr (.inr (.tree s))))]=>aa ⟨s.gv,.slice (aa ⟨1,0,aa 8000⟩) s.l.length 0,aj,[oT s.all,aa (.inr (.inl (49,⟨[.int .i64 0,.bool an,.int .i64 0,.int .i64 0,.bool an,.bool an,.int .i64 0,.int .i64 0],s.l.length,[⟨s.l.map fun e=>e.t,[],[]⟩,⟨[],s.l.map fun e=>e.ins,[]⟩,⟨s.l.map fun e=>e.it.k,[],[]⟩,⟨s.l.map fun e=>e.it.i,[],[]⟩,⟨[],s.l.map fun e=>e.here,[]⟩,⟨[],s.l.map fun e=>e.tf,[]⟩,⟨s.l.map fun e=>e.tk.k,[],[]⟩,⟨s.l.map fun e=>e.tk.i,[],[]⟩]⟩)))],[],[(0,0)]⟩
 |_,_=>aj
theorem QV:b8 D2 Tryz.prog 21 (a9 IU):=by
 refine nK (c:=a9 (Im KK)) (Rn KK) fun args hh x hx=>?_
 unfold IU at hx;split at hx
 ·rename_i s;cases hx;refine⟨kZ _,lV rfl,(fun hw=>by cases hw),fun hv=>⟨⟨_,.inl ⟨rfl,rfl⟩,rfl,?_,?_,?_⟩,rfl,rfl⟩⟩
  ·exact⟨s.pp hv,(s.ok.all (K:=KK) s.k1).1⟩
  ·obtain⟨_,m',h1,_⟩:=s.ok.all (K:=KK) s.k1;have h1:(b5 ax KK (aL s.m s.r) s.r)=(s.l,m'):=h1;show([aa (.inl (110,[.pointer (aa ⟨1,0,aj⟩),.int .i64 s.r.i,.int .i64 s.r.g])),aa (.inr (.inr (.inr (.db (b5 ax KK (aL s.m s.r) s.r).2)))),aa (.inr (.inl (49,⟨[.int .i64 0,.bool an,.int .i64 0,.int .i64 0,.bool an,.bool an,.int .i64 0,.int .i64 0],(b5 ax KK (aL s.m s.r) s.r).1.length,[⟨(b5 ax KK (aL s.m s.r) s.r).1.map fun e=>e.t,[],[]⟩,⟨[],(b5 ax KK (aL s.m s.r) s.r).1.map fun e=>e.ins,[]⟩,⟨(b5 ax KK (aL s.m s.r) s.r).1.map fun e=>e.it.k,[],[]⟩,⟨(b5 ax KK (aL s.m s.r) s.r).1.map fun e=>e.it.i,[],[]⟩,⟨[],(b5 ax KK (aL s.m s.r) s.r).1.map fun e=>e.here,[]⟩,⟨[],(b5 ax KK (aL s.m s.r) s.r).1.map fun e=>e.tf,[]⟩,⟨(b5 ax KK (aL s.m s.r) s.r).1.map fun e=>e.tk.k,[],[]⟩,⟨(b5 ax KK (aL s.m s.r) s.r).1.map fun e=>e.tk.i,[],[]⟩]⟩)))]:Hp Rs)=[aa (.inl (110,[.pointer (aa ⟨1,0,aj⟩),.int .i64 s.r.i,.int .i64 s.r.g])),aa (.inr (.inr (.inr (.db (b5 ax KK (aL s.m s.r) s.r).2)))),aa (.inr (.inl (49,⟨[.int .i64 0,.bool an,.int .i64 0,.int .i64 0,.bool an,.bool an,.int .i64 0,.int .i64 0],s.l.length,[⟨s.l.map fun e=>e.t,[],[]⟩,⟨[],s.l.map fun e=>e.ins,[]⟩,⟨s.l.map fun e=>e.it.k,[],[]⟩,⟨s.l.map fun e=>e.it.i,[],[]⟩,⟨[],s.l.map fun e=>e.here,[]⟩,⟨[],s.l.map fun e=>e.tf,[]⟩,⟨s.l.map fun e=>e.tk.k,[],[]⟩,⟨s.l.map fun e=>e.tk.i,[],[]⟩]⟩)))]
   rw[h1]
  ·obtain⟨_,m',h1,_⟩:=s.ok.all (K:=KK) s.k1;have h1:(b5 ax KK (aL s.m s.r) s.r)=(s.l,m'):=h1;show br (aa ⟨2,0,aa 8000⟩) (b5 ax KK (aL s.m s.r) s.r).1.length 0=_
   rw[h1]
   rfl
 ·cases hx
def RU:Prim Rt:=fun args hh=>match args,hh with
 |[.pointer (aa ⟨0,0,aj⟩),.int .i64 i_],[aa (.inr (.inr (.inr (.tree s))))]=>aa ⟨s.gv,.tuple #[.agg ⟨[.int .i64 (mE ax i_ s.l).1.t,.bool (mE ax i_ s.l).1.ins,.int .i64 (mE ax i_ s.l).1.it.k,.int .i64 (mE ax i_ s.l).1.it.i,.bool (mE ax i_ s.l).1.here,.bool (mE ax i_ s.l).1.tf,.int .i64 (mE ax i_ s.l).1.tk.k,.int .i64 (mE ax i_ s.l).1.tk.i]⟩,.bool (mE ax i_ s.l).2],aj,[oT (s.at_ i_)],[],[(0,0)]⟩
 |_,_=>aj
theorem ac3:b8 D2 Tryz.prog 141 (a9 RU):=by
 refine nK (c:=a9 (Of KK)) (V' KK) fun args hh x hx=>?_
 unfold RU at hx;split at hx
 ·rename_i i_ s;cases hx;refine⟨a_ _,lV rfl,(fun hw=>by cases hw),fun hv=>⟨⟨_,.inl ⟨rfl,rfl⟩,rfl,?_,?_,?_⟩,rfl,rfl⟩⟩
  ·exact⟨s.pp hv,(s.ok.at_ (i:=i_) s.k1).1⟩
  ·rfl
  ·obtain⟨_,m',h1,_⟩:=s.ok.at_ (K:=KK) (i:=i_) s.k1;have h1:(lJ ax KK s.m s.r i_)=((mE ax i_ s.l),m'):=h1;show cr #[.agg ⟨[.int .i64 (lJ ax KK s.m s.r i_).1.1.t,.bool (lJ ax KK s.m s.r i_).1.1.ins,.int .i64 (lJ ax KK s.m s.r i_).1.1.it.k,.int .i64 (lJ ax KK s.m s.r i_).1.1.it.i,.bool (lJ ax KK s.m s.r i_).1.1.here,.bool (lJ ax KK s.m s.r i_).1.1.tf,.int .i64 (lJ ax KK s.m s.r i_).1.1.tk.k,.int .i64 (lJ ax KK s.m s.r i_).1.1.tk.i]⟩,.bool (lJ ax KK s.m s.r i_).1.2]=_
   rw[h1]
   rfl
 ·cases hx
def Qv:Prim Rt:=fun args hh=>match args,hh with
 |[.pointer (aa ⟨0,0,aj⟩),.int .i64 x_,.int .i64 y_],[aa (.inr (.inr (.inr (.tree s))))]=>aa ⟨s.gv,.agg ⟨[.int .i64 (ux (nj s.l x_.toNat y_.toNat)).c.n,.int .i64 (ux (nj s.l x_.toNat y_.toNat)).c.s,.int .i64 (ux (nj s.l x_.toNat y_.toNat)).c.l,.int .i64 (ux (nj s.l x_.toNat y_.toNat)).w.n,.int .i64 (ux (nj s.l x_.toNat y_.toNat)).w.s,.int .i64 (ux (nj s.l x_.toNat y_.toNat)).w.l,.int .i64 (ux (nj s.l x_.toNat y_.toNat)).d,.int .i64 (ux (nj s.l x_.toNat y_.toNat)).f,.int .i64 (ux (nj s.l x_.toNat y_.toNat)).m.k,.int .i64 (ux (nj s.l x_.toNat y_.toNat)).m.i,.bool (ux (nj s.l x_.toNat y_.toNat)).gf,.int .i64 (ux (nj s.l x_.toNat y_.toNat)).g.k,.int .i64 (ux (nj s.l x_.toNat y_.toNat)).g.i,.bool (ux (nj s.l x_.toNat y_.toNat)).lf,.int .i64 (ux (nj s.l x_.toNat y_.toNat)).l.k,.int .i64 (ux (nj s.l x_.toNat y_.toNat)).l.i]⟩,aj,[oT (s.GM x_ y_)],[],[(0,0)]⟩
 |_,_=>aj
theorem RO:b8 D2 Tryz.prog 78 (a9 Qv):=by
 refine nK (c:=a9 (ZM KK)) (ahY KK) fun args hh x hx=>?_
 unfold Qv at hx;split at hx
 ·rename_i x_ y_ s;cases hx;refine⟨a_ _,lV rfl,(fun hw=>by cases hw),fun hv=>⟨⟨_,.inl ⟨rfl,rfl⟩,rfl,?_,?_,?_⟩,rfl,rfl⟩⟩
  ·exact⟨s.pp hv,(s.ok.GM (f:=x_) (u:=y_) s.k1).1⟩
  ·rfl
  ·obtain⟨_,m',h1,_⟩:=s.ok.GM (K:=KK) (f:=x_) (u:=y_) s.k1;have h1:(g9 ax KK (aL s.m s.r) (bu ax s.m s.r) x_ y_)=(⟨(nj s.l x_.toNat y_.toNat).length,(ux (nj s.l x_.toNat y_.toNat))⟩,m'):=h1;show(.agg ⟨[.int .i64 (g9 ax KK (aL s.m s.r) (bu ax s.m s.r) x_ y_).1.sum.c.n,.int .i64 (g9 ax KK (aL s.m s.r) (bu ax s.m s.r) x_ y_).1.sum.c.s,.int .i64 (g9 ax KK (aL s.m s.r) (bu ax s.m s.r) x_ y_).1.sum.c.l,.int .i64 (g9 ax KK (aL s.m s.r) (bu ax s.m s.r) x_ y_).1.sum.w.n,.int .i64 (g9 ax KK (aL s.m s.r) (bu ax s.m s.r) x_ y_).1.sum.w.s,.int .i64 (g9 ax KK (aL s.m s.r) (bu ax s.m s.r) x_ y_).1.sum.w.l,.int .i64 (g9 ax KK (aL s.m s.r) (bu ax s.m s.r) x_ y_).1.sum.d,.int .i64 (g9 ax KK (aL s.m s.r) (bu ax s.m s.r) x_ y_).1.sum.f,.int .i64 (g9 ax KK (aL s.m s.r) (bu ax s.m s.r) x_ y_).1.sum.m.k,.int .i64 (g9 ax KK (aL s.m s.r) (bu ax s.m s.r) x_ y_).1.sum.m.i,.bool (g9 ax KK (aL s.m s.r) (bu ax s.m s.r) x_ y_).1.sum.gf,.int .i64 (g9 ax KK (aL s.m s.r) (bu ax s.m s.r) x_ y_).1.sum.g.k,.int .i64 (g9 ax KK (aL s.m s.r) (bu ax s.m s.r) x_ y_).1.sum.g.i,.bool (g9 ax KK (aL s.m s.r) (bu ax s.m s.r) x_ y_).1.sum.lf,.int .i64 (g9 ax KK (aL s.m s.r) (bu ax s.m s.r) x_ y_).1.sum.l.k,.int .i64 (g9 ax KK (aL s.m s.r) (bu ax s.m s.r) x_ y_).1.sum.l.i]⟩:Value)=_
   rw[h1]
   rfl
 ·cases hx
def Nc:Prim Rt:=fun args hh=>match args,hh with
 |[.pointer (aa ⟨0,0,aj⟩),.int .i64 f_,.func (.func 154) ⟨[]⟩ ⟨[.pointer (aa ⟨1,0,aj⟩)]⟩],[aa (.inr (.inr (.inr (.tree s)))),aa (.inl (3,[.int .i64 xx]))]=>aa ⟨s.gv,.int .i64 (pC (kg xx) s f_),aj,[oT (zf (kg xx) s f_),aa (.inl (3,[.int .i64 xx]))],[],[(0,0)]⟩
 |_,_=>aj
theorem Zl:b8 D2 Tryz.prog 108 (a9 Nc):=by
 refine nK (c:=bJ zN 2 (a9 (Ol KK))) (aT _ _ (aaw KK)).ok fun args hh x hx=>?_
 unfold Nc at hx;split at hx
 ·rename_i f_ s xx;cases hx;refine⟨a_ _,lV rfl,(fun hw=>by cases hw),fun hv=>⟨⟨_,.inl ⟨rfl,rfl⟩,rfl,?_,?_,?_⟩,rfl,rfl⟩⟩
  ·exact⟨s.pp hv,s.LH⟩
  ·rfl
  ·rfl
 ·cases hx
def R4:Prim Rt:=fun args hh=>match args,hh with
 |[.pointer (aa ⟨0,0,aj⟩),.int .i64 f_,.func (.func 154) ⟨[]⟩ ⟨[.pointer (aa ⟨1,0,aj⟩)]⟩],[aa (.inr (.inr (.inr (.tree s)))),aa (.inl (3,[.int .i64 xx]))]=>aa ⟨s.gv,.int .i64 (uf (kg xx) s f_),aj,[oT (Ee (kg xx) s f_),aa (.inl (3,[.int .i64 xx]))],[],[(0,0)]⟩
 |_,_=>aj
theorem acW:b8 D2 Tryz.prog 111 (a9 R4):=by
 refine nK (c:=bJ zN 2 (a9 (Q_ KK))) (aT _ _ (abq KK)).ok fun args hh x hx=>?_
 unfold R4 at hx;split at hx
 ·rename_i f_ s xx;cases hx;refine⟨a_ _,lV rfl,(fun hw=>by cases hw),fun hv=>⟨⟨_,.inl ⟨rfl,rfl⟩,rfl,?_,?_,?_⟩,rfl,rfl⟩⟩
  ·exact⟨s.pp hv,s.LH⟩
  ·rfl
  ·rfl
 ·cases hx
def M5:Prim Rt:=fun args hh=>match args,hh with
 |[.pointer (aa ⟨0,0,aj⟩),.int .i64 f_,.func (.func 105) ⟨[]⟩ ⟨[.pointer (aa ⟨1,0,aj⟩)]⟩],[aa (.inr (.inr (.inr (.tree s)))),aa (.inl (75,[.int .i64 xk,.int .i64 xi,.bool xe,.int .i64 xt]))]=>aa ⟨s.gv,.int .i64 (pC (Pa.qf ⟨xk,xi⟩) s f_),aj,[oT (zf (Pa.qf ⟨xk,xi⟩) s f_),aa (.inl (75,[.int .i64 xk,.int .i64 xi,.bool xe,.int .i64 xt]))],[],[(0,0)]⟩
 |_,_=>aj
theorem Zf:b8 D2 Tryz.prog 108 (a9 M5):=by
 refine nK (c:=bJ zN 2 (a9 (Nw KK))) (aT _ _ (aax KK)).ok fun args hh x hx=>?_
 unfold M5 at hx;split at hx
 ·rename_i f_ s xk xi xe xt;cases hx;refine⟨a_ _,lV rfl,(fun hw=>by cases hw),fun hv=>⟨⟨_,.inl ⟨rfl,rfl⟩,rfl,?_,?_,?_⟩,rfl,rfl⟩⟩
  ·exact⟨s.pp hv,s.LH⟩
  ·rfl
  ·rfl
 ·cases hx
def RZ:Prim Rt:=fun args hh=>match args,hh with
 |[.pointer (aa ⟨0,0,aj⟩),.int .i64 f_,.func (.func 110) ⟨[]⟩ ⟨[.pointer (aa ⟨1,0,aj⟩)]⟩],[aa (.inr (.inr (.inr (.tree s)))),aa (.inl (75,[.int .i64 xk,.int .i64 xi,.bool xe,.int .i64 xt]))]=>aa ⟨s.gv,.int .i64 (uf (qy ⟨xk,xi⟩) s f_),aj,[oT (Ee (qy ⟨xk,xi⟩) s f_),aa (.inl (75,[.int .i64 xk,.int .i64 xi,.bool xe,.int .i64 xt]))],[],[(0,0)]⟩
 |_,_=>aj
theorem ab5:b8 D2 Tryz.prog 111 (a9 RZ):=by
 refine nK (c:=bJ zN 2 (a9 (QW KK))) (aT _ _ (ab2 KK)).ok fun args hh x hx=>?_
 unfold RZ at hx;split at hx
 ·rename_i f_ s xk xi xe xt;cases hx;refine⟨a_ _,lV rfl,(fun hw=>by cases hw),fun hv=>⟨⟨_,.inl ⟨rfl,rfl⟩,rfl,?_,?_,?_⟩,rfl,rfl⟩⟩
  ·exact⟨s.pp hv,s.LH⟩
  ·rfl
  ·rfl
 ·cases hx
end G8
namespace G9
open Rx
set_option maxRecDepth 100000
abbrev Nd:=Gv.Node jR QN
abbrev Pl:=Gv.PM Nd
def bj (n:Nd):List Value:=[.int .i64 n.e.it.k,.int .i64 n.e.it.i,.bool n.e.kK,.int .i64 n.e.time,.int .i64 n.l.i,.int .i64 n.l.g,.int .i64 n.r.i,.int .i64 n.r.g,.int .i64 n.all.n,.int .i64 n.all.sum.n,.int .i64 n.h]
def bZ (p:Ie QN):List Value:=[.int .i64 p.n,.int .i64 p.sum.n]
def dt (e:jR):List Value:=[.int .i64 e.it.k,.int .i64 e.it.i,.bool e.kK,.int .i64 e.time]
def ky (s:QN):List Value:=[.int .i64 s.n]
def fY (l:List Value):jR:=⟨⟨(vI (gx l 0)),(vI (gx l 1))⟩,(vB (gx l 2)),(vI (gx l 3))⟩
def pv (l:List Value):Ie QN:=⟨(vI (gx l 0)),⟨(vI (gx l 1))⟩⟩
def gh (l:List Value):Nd:=⟨⟨⟨(vI (gx l 0)),(vI (gx l 1))⟩,(vB (gx l 2)),(vI (gx l 3))⟩,⟨(vI (gx l 4)),(vI (gx l 5))⟩,⟨(vI (gx l 6)),(vI (gx l 7))⟩,⟨(vI (gx l 8)),⟨(vI (gx l 9))⟩⟩,(vI (gx l 10))⟩
def dj:List Value:=[.int .i64 0,.int .i64 0,.bool an,.int .i64 0,.int .i64 0,.int .i64 0,.int .i64 0,.int .i64 0,.int .i64 0,.int .i64 0,.int .i64 0,.int .i64 0,.bool an]
abbrev zd:Nd:=Gv.zn aN
def cV (a:List Int) (b:List Int) (c:List Bool) (d:List Int) (e:List Int) (f:List Int) (g:List Int) (h:List Int) (i:List Int) (j:List Int) (k:List Int) (l:List Int) (m:List Bool):List aW:=[⟨a,[],[]⟩,⟨b,[],[]⟩,⟨[],c,[]⟩,⟨d,[],[]⟩,⟨e,[],[]⟩,⟨f,[],[]⟩,⟨g,[],[]⟩,⟨h,[],[]⟩,⟨i,[],[]⟩,⟨j,[],[]⟩,⟨k,[],[]⟩,⟨l,[],[]⟩,⟨[],m,[]⟩]
def cM (v:List Nd) (g:List Int) (b:List Bool):List aW:=cV (v.map fun n:Nd=>n.e.it.k) (v.map fun n:Nd=>n.e.it.i) (v.map fun n:Nd=>n.e.kK) (v.map fun n:Nd=>n.e.time) (v.map fun n:Nd=>n.l.i) (v.map fun n:Nd=>n.l.g) (v.map fun n:Nd=>n.r.i) (v.map fun n:Nd=>n.r.g) (v.map fun n:Nd=>n.all.n) (v.map fun n:Nd=>n.all.sum.n) (v.map fun n:Nd=>n.h) g b
def cS (v:List Nd) (k:Nat) (x:Nd) (g:List Int) (b:List Bool):List aW:=cV ((v.map fun n:Nd=>n.e.it.k).set k x.e.it.k) ((v.map fun n:Nd=>n.e.it.i).set k x.e.it.i) ((v.map fun n:Nd=>n.e.kK).set k x.e.kK) ((v.map fun n:Nd=>n.e.time).set k x.e.time) ((v.map fun n:Nd=>n.l.i).set k x.l.i) ((v.map fun n:Nd=>n.l.g).set k x.l.g) ((v.map fun n:Nd=>n.r.i).set k x.r.i) ((v.map fun n:Nd=>n.r.g).set k x.r.g) ((v.map fun n:Nd=>n.all.n).set k x.all.n) ((v.map fun n:Nd=>n.all.sum.n).set k x.all.sum.n) ((v.map fun n:Nd=>n.h).set k x.h) g b
def cG (v:List Nd) (k:Nat) (x:Nd) (g:List Int) (b:List Bool):List aW:=cV (((v.map fun n:Nd=>n.e.it.k)++[0]).set k x.e.it.k) (((v.map fun n:Nd=>n.e.it.i)++[0]).set k x.e.it.i) (((v.map fun n:Nd=>n.e.kK)++[an]).set k x.e.kK) (((v.map fun n:Nd=>n.e.time)++[0]).set k x.e.time) (((v.map fun n:Nd=>n.l.i)++[0]).set k x.l.i) (((v.map fun n:Nd=>n.l.g)++[0]).set k x.l.g) (((v.map fun n:Nd=>n.r.i)++[0]).set k x.r.i) (((v.map fun n:Nd=>n.r.g)++[0]).set k x.r.g) (((v.map fun n:Nd=>n.all.n)++[0]).set k x.all.n) (((v.map fun n:Nd=>n.all.sum.n)++[0]).set k x.all.sum.n) (((v.map fun n:Nd=>n.h)++[0]).set k x.h) g b
def gM (v:List Nd) (k:Nat):List Value:=[.int .i64 ((v.map fun n:Nd=>n.e.it.k).getD k 0),.int .i64 ((v.map fun n:Nd=>n.e.it.i).getD k 0),.bool ((v.map fun n:Nd=>n.e.kK).getD k an),.int .i64 ((v.map fun n:Nd=>n.e.time).getD k 0),.int .i64 ((v.map fun n:Nd=>n.l.i).getD k 0),.int .i64 ((v.map fun n:Nd=>n.l.g).getD k 0),.int .i64 ((v.map fun n:Nd=>n.r.i).getD k 0),.int .i64 ((v.map fun n:Nd=>n.r.g).getD k 0),.int .i64 ((v.map fun n:Nd=>n.all.n).getD k 0),.int .i64 ((v.map fun n:Nd=>n.all.sum.n).getD k 0),.int .i64 ((v.map fun n:Nd=>n.h).getD k 0)]
def Q' (m:Pl):Hp Empty :=
 [aa (.inl (194,[.slice (aa ⟨1,0,aa 13000⟩) m.vs.length 0,.slice (aa ⟨2,0,aa 1000⟩) m.free.length 0,.int .i64 m.held,.int .i64 m.cap,.int .i64 m.cY])),
 aa (.inr (.inl (197,⟨dj,m.vs.length,cM m.vs m.dG m.live⟩))),
 aa (.inr (.inl (3,⟨[.int .i64 0],m.free.length,[⟨m.free,[],[]⟩]⟩)))]
end G9
namespace G9
open Rx
inductive Rs
 |db (m:Pl)
def lay:Rs->Hp Empty
 |.db m=>Q' m
def L:EE Rs Empty where
 lay:=lay
 ne x:=by cases x<;>exact sZ _
 own x b X h:=by cases x<;>exact CL rfl h
 ins x:=by cases x<;>rfl
def D:fR Rs:=GK tw L
set_option maxRecDepth 100000
abbrev k9:Gv.Kd jR QN:=Sh.k9
abbrev Ts:=Gv.TS k9
inductive Rt
 |tree (s:Ts)
def IQ:Rt->Hp Rs
 |.tree s=>[aa (.inl (132,[.pointer (aa ⟨1,0,aj⟩),.int .i64 s.r.i,.int .i64 s.r.g])),aa (.inr (.inr (.inr (.db s.m))))]
def L2:EE Rt Rs where
 lay:=IQ
 ne x:=by cases x<;>exact sZ _
 own x b X h:=by
  cases x with
  |tree s =>
   match b,h with
   |0,h=>simp only[IQ,cf,cv] at h;subst h;rfl
   |1,h=>simp only[IQ,bK,cf,cv] at h;subst h;rfl
   |b+2,h=>simp[IQ] at h
 ins x:=by cases x<;>rfl
def D2:fR Rt:=GK D L2
abbrev oT (s:Ts):Option (SB Rt):=aa (.inr (.inr (.inr (.tree s))))
def pO (n:Nat) (c:aW):Prop:=∃ l:List Int,c=⟨l,[],[]⟩/\l.length=n
def PA (n:Nat) (c:aW):Prop:=∃ l:List Bool,c=⟨[],l,[]⟩/\l.length=n
def rF (n:Nat) (gs:List Int) (lv:List Bool) (i g:Int):Bool:=decide (0≤i)&&decide (i<n)&&lv.getD i.toNat an&&decide (gs.getD i.toNat 0=g)
structure ad9 (n:Nat) (c0 c1 c2 c3 c4 c5 c6 c7 c8 c9 oW oH oF:aW):Prop where
 DO:pO n c0
 Pb:pO n c1
 p_:PA n c2
 Sx:pO n c3
 hc4:pO n c4
 hc5:pO n c5
 hc6:pO n c6
 hc7:pO n c7
 hc8:pO n c8
 hc9:pO n c9
 anI:pO n oW
 an3:pO n oH
 an6:PA n oF
def m_ (n:Nat):List aW->Prop
 |[c0,c1,c2,c3,c4,c5,c6,c7,c8,c9,oW,oH,oF]=>ad9 n c0 c1 c2 c3 c4 c5 c6 c7 c8 c9 oW oH oF
 |_=>False
def Vm:List Value->Hp Empty->Option Bool:=fun args hh=>match args,hh with
 |[.pointer (aa ⟨0,0,aj⟩),.agg ⟨[.int .i64 i,.int .i64 g]⟩],[aa (.inl (194,[.slice (aa ⟨1,0,aa 13000⟩) n cp,.slice (aa ⟨2,0,aa 1000⟩) fn fc,.int .i64 hd,.int .i64 ca,.int .i64 vi])),aa (.inr (.inl (197,⟨tm,n2,[c0,c1,c2,c3,c4,c5,c6,c7,c8,c9,oW,oH,oF]⟩))),aa (.inr (.inl (3,⟨[.int .i64 0],f2,[⟨fr,[],[]⟩]⟩)))]=>aa (rF n oH.i oF.b i g)
 |_,_=>aj
def K5:Prim Empty:=fun args hh=>match args,hh with
 |[.pointer (aa ⟨0,0,aj⟩),.agg ⟨[.int .i64 i,.int .i64 g]⟩],[aa (.inl (194,[.slice (aa ⟨1,0,aa 13000⟩) n cp,.slice (aa ⟨2,0,aa 1000⟩) fn fc,.int .i64 hd,.int .i64 ca,.int .i64 vi])),aa (.inr (.inl (197,⟨tm,n2,[c0,c1,c2,c3,c4,c5,c6,c7,c8,c9,oW,oH,oF]⟩))),aa (.inr (.inl (3,⟨[.int .i64 0],f2,[⟨fr,[],[]⟩]⟩)))]=>aa ⟨tm=dj/\n2=n/\n<1000000/\m_ n [c0,c1,c2,c3,c4,c5,c6,c7,c8,c9,oW,oH,oF],.pointer (aa ⟨1,i.toNat,aa 13000⟩),aj,[aa (.inl (194,[.slice (aa ⟨1,0,aa 13000⟩) n cp,.slice (aa ⟨2,0,aa 1000⟩) fn fc,.int .i64 hd,.int .i64 ca,.int .i64 (ar.wrap (vi+1))])),aa (.inr (.inl (197,⟨tm,n2,[c0,c1,c2,c3,c4,c5,c6,c7,c8,c9,oW,oH,oF]⟩))),aa (.inr (.inl (3,⟨[.int .i64 0],f2,[⟨fr,[],[]⟩]⟩)))],[],[(0,0)]⟩
 |_,_=>aj
def Le:Prim Empty:=fun args hh=>match args,hh with
 |[.pointer (aa ⟨0,0,aj⟩),.agg ⟨[.int .i64 i,.int .i64 g]⟩],[aa (.inl (194,[.slice (aa ⟨1,0,aa 13000⟩) n cp,.slice (aa ⟨2,0,aa 1000⟩) fn fc,.int .i64 hd,.int .i64 ca,.int .i64 vi])),aa (.inr (.inl (197,⟨tm,n2,[c0,c1,c2,c3,c4,c5,c6,c7,c8,c9,oW,oH,oF]⟩))),aa (.inr (.inl (3,⟨[.int .i64 0],f2,[⟨fr,[],[]⟩]⟩)))]=>aa ⟨tm=dj/\n2=n/\n<1000000/\m_ n [c0,c1,c2,c3,c4,c5,c6,c7,c8,c9,oW,oH,oF],.pointer aj,aj,hh,[],[]⟩
 |_,_=>aj
def q7:jo Empty:=⟨Vm,K5,Le⟩
def VF:eM Empty:=[(1000000000,lW)]
theorem Kn:cN tw Tryz.prog VF:=⟨iF,trivial⟩
theorem Lb:rR tw Tryz.prog 147 (su q7 ao) (q7.go ao):=by
 refine wG (fn:=Tryz.f147) (root:=dI Tryz.f147) (by kernel_rfl) (by kernel_rfl) (by kernel_rfl) fun args hh x hx=>?_
 unfold q7 jo.go K5 at hx;simp only at hx;split at hx
 ·rename_i i g n cp fn fc hd ca vi tm n2 c0 c1 c2 c3 c4 c5 c6 c7 c8 c9 oW oH oF f2 fr;cases hx;refine⟨a_ _,(fun b hb=>by cases hb),(fun hw=>by first|rfl|cases hw),fun m7 hv=>?_⟩
  obtain⟨rfl,rfl,ui,⟨⟨l0,rfl,ou⟩,⟨l1,rfl,zQ⟩,⟨l2,rfl,BK⟩,⟨l3,rfl,yQ⟩,⟨l4,rfl,yY⟩,⟨l5,rfl,Fo⟩,⟨l6,rfl,EY⟩,⟨l7,rfl,Ey⟩,⟨l8,rfl,ES⟩,⟨l9,rfl,EO⟩,⟨q9,rfl,zx⟩,⟨n5,rfl,zC⟩,⟨nh,rfl,zk⟩⟩⟩:=hv;have hw:rF n2 n5 nh i g=ao:=by
   rcases m7 with⟨h,_⟩|h
   ·exact(wP _ h).elim
   ·exact pw h
  clear m7;generalize hG:cj (R:=Empty) _ _=G;refine cK (T:=VF) Kn mixed 200 ?_;refine bM (q:=let Z1:=bk ar;(decide (i<(0:Int))=ao->Vc (aE (decide (i<(0:Int)))=aE ao)/\aY (G (aC aj) [aa (.inl (194,[.slice (aa ⟨1,0,aa 13000⟩) n2 cp,.slice (aa ⟨2,0,aa 1000⟩) fn fc,Z1 hd,Z1 ca,Z1 vi])),aa (.inr (.inl (197,Row.mk dj n2 (cV l0 l1 l2 l3 l4 l5 l6 l7 l8 l9 q9 n5 nh)))),aa (.inr (.inl (3,Row.mk [Z1 0] f2 [aW.mk fr [] []]))),aa (.inl (108,[Z1 i,Z1 g]))]))/\(decide (i<(0:Int))=an->Vc (aE (decide (i<(0:Int)))=aE an)/\(decide (i≥(↑n2:Int))=ao->aY (G (aC aj) [aa (.inl (194,[.slice (aa ⟨1,0,aa 13000⟩) n2 cp,.slice (aa ⟨2,0,aa 1000⟩) fn fc,Z1 hd,Z1 ca,Z1 vi])),aa (.inr (.inl (197,Row.mk dj n2 (cV l0 l1 l2 l3 l4 l5 l6 l7 l8 l9 q9 n5 nh)))),aa (.inr (.inl (3,Row.mk [Z1 0] f2 [aW.mk fr [] []]))),aa (.inl (108,[Z1 i,Z1 g]))]))/\(decide (i≥(↑n2:Int))=an->Vc ((0:Int)≤i/\i<(↑n2:Int)/\0+n2≤n2)/\Vc (0+aD i<n2)/\((!aB nh (0+aD i) an)=ao->Vc (0+aD i<n2)/\Vc ((aE !aB nh (0+aD i) an)=aE ao)/\aY (G (aC aj) [aa (.inl (194,[.slice (aa ⟨1,0,aa 13000⟩) n2 cp,.slice (aa ⟨2,0,aa 1000⟩) fn fc,Z1 hd,Z1 ca,Z1 vi])),aa (.inr (.inl (197,Row.mk dj n2 (cV l0 l1 l2 l3 l4 l5 l6 l7 l8 l9 q9 n5 nh)))),aa (.inr (.inl (3,Row.mk [Z1 0] f2 [aW.mk fr [] []]))),aa (.inl (108,[Z1 i,Z1 g]))]))/\((!aB nh (0+aD i) an)=an->Vc (0+aD i<n2)/\Vc ((aE !aB nh (0+aD i) an)=aE an)/\Vc (0+aD i<n2)/\((aB n5 (0+aD i) (0:Int) != g)=ao->aY (G (aC aj) [aa (.inl (194,[.slice (aa ⟨1,0,aa 13000⟩) n2 cp,.slice (aa ⟨2,0,aa 1000⟩) fn fc,Z1 hd,Z1 ca,Z1 vi])),aa (.inr (.inl (197,Row.mk dj n2 (cV l0 l1 l2 l3 l4 l5 l6 l7 l8 l9 q9 n5 nh)))),aa (.inr (.inl (3,Row.mk [Z1 0] f2 [aW.mk fr [] []]))),aa (.inl (108,[Z1 i,Z1 g]))]))/\((aB n5 (0+aD i) (0:Int) != g)=an->Vc True/\aY (G (aC (aa (Se 1 (0+aD i) (aa 13000)))) [aa (.inl (194,[.slice (aa ⟨1,0,aa 13000⟩) n2 cp,.slice (aa ⟨2,0,aa 1000⟩) fn fc,Z1 hd,Z1 ca,Z1 (ck ar (vi+(1:Int)))])),aa (.inr (.inl (197,Row.mk dj n2 (cV l0 l1 l2 l3 l4 l5 l6 l7 l8 l9 q9 n5 nh)))),aa (.inr (.inl (3,Row.mk [Z1 0] f2 [aW.mk fr [] []]))),aa (.inl (108,[Z1 i,Z1 g]))])))))) ?_ (by kernel_rfl)
  intro Z1;subst Z1;have e0:0+i.toNat=i.toNat:=bW _;rw[e0];clear ou zQ BK yQ yY Fo EY Ey ES EO zx zC zk;subst hG;have sw:rF n2 n5 nh i g=(decide (0≤i)&&decide (i<n2)&&(nh).getD i.toNat an&&decide ((n5).getD i.toNat 0=g)):=rfl;refine⟨fun h=>⟨⟨congrArg aE h⟩,⟨?_⟩⟩,fun h=>⟨⟨congrArg aE h⟩,fun h2=>⟨?_⟩,fun h2=>?_⟩⟩
  rotate_left 2
  ·have i0:=of_decide_eq_false h;have i1:=of_decide_eq_false h2;rw[decide_eq_true (by omega),decide_eq_true (by omega),js,js] at sw
   refine⟨⟨by omega,by omega,by omega⟩,⟨by omega⟩,fun h3=>⟨⟨by omega⟩,⟨congrArg aE h3⟩,⟨?_⟩⟩,fun h3=>⟨⟨by omega⟩,⟨congrArg aE h3⟩,⟨by omega⟩,fun h4=>⟨?_⟩,fun h4=>⟨⟨trivial⟩,⟨?_⟩⟩⟩⟩
   ·rw[Bool.not_eq_true'] at h3;rw[hw,h3] at sw;cases sw
   ·rw[hw,decide_eq_false (ne_of_beq_false (by simpa using h4)),vg] at sw;cases sw
   ·exact⟨[0,1,2],rfl,rfl,⟨.inl rfl,⟨_,rfl,.inl rfl⟩,⟨_,rfl,.inl rfl⟩,trivial⟩,rfl,rfl,rfl,rfl⟩
  ·have:=of_decide_eq_true h;rw[hw,decide_eq_false (by omega)] at sw;cases sw
  ·have:=of_decide_eq_true h2;rw[hw,decide_eq_false (p:=i<n2) (by omega),vg] at sw;cases sw
 ·cases hx
theorem Kr:rR tw Tryz.prog 147 (su q7 an) (q7.go an):=by
 refine wG (fn:=Tryz.f147) (root:=dI Tryz.f147) (by kernel_rfl) (by kernel_rfl) (by kernel_rfl) fun args hh x hx=>?_
 unfold q7 jo.go Le at hx;simp only at hx;split at hx
 ·rename_i i g n cp fn fc hd ca vi tm n2 c0 c1 c2 c3 c4 c5 c6 c7 c8 c9 oW oH oF f2 fr;cases hx;refine⟨a_ _,(fun b hb=>by cases hb),(fun hw=>by first|rfl|cases hw),fun m7 hv=>?_⟩
  obtain⟨rfl,rfl,ui,⟨⟨l0,rfl,ou⟩,⟨l1,rfl,zQ⟩,⟨l2,rfl,BK⟩,⟨l3,rfl,yQ⟩,⟨l4,rfl,yY⟩,⟨l5,rfl,Fo⟩,⟨l6,rfl,EY⟩,⟨l7,rfl,Ey⟩,⟨l8,rfl,ES⟩,⟨l9,rfl,EO⟩,⟨q9,rfl,zx⟩,⟨n5,rfl,zC⟩,⟨nh,rfl,zk⟩⟩⟩:=hv;have hw:rF n2 n5 nh i g=an:=by
   rcases m7 with⟨h,_⟩|h
   ·exact(wP _ h).elim
   ·exact pw h
  clear m7;generalize hG:cj (R:=Empty) _ _=G;refine cK (T:=VF) Kn mixed 200 ?_;refine bM (q:=let Z1:=bk ar;(decide (i<(0:Int))=ao->Vc (aE (decide (i<(0:Int)))=aE ao)/\aY (G (aC aj) [aa (.inl (194,[.slice (aa ⟨1,0,aa 13000⟩) n2 cp,.slice (aa ⟨2,0,aa 1000⟩) fn fc,Z1 hd,Z1 ca,Z1 vi])),aa (.inr (.inl (197,Row.mk dj n2 (cV l0 l1 l2 l3 l4 l5 l6 l7 l8 l9 q9 n5 nh)))),aa (.inr (.inl (3,Row.mk [Z1 0] f2 [aW.mk fr [] []]))),aa (.inl (108,[Z1 i,Z1 g]))]))/\(decide (i<(0:Int))=an->Vc (aE (decide (i<(0:Int)))=aE an)/\(decide (i≥(↑n2:Int))=ao->aY (G (aC aj) [aa (.inl (194,[.slice (aa ⟨1,0,aa 13000⟩) n2 cp,.slice (aa ⟨2,0,aa 1000⟩) fn fc,Z1 hd,Z1 ca,Z1 vi])),aa (.inr (.inl (197,Row.mk dj n2 (cV l0 l1 l2 l3 l4 l5 l6 l7 l8 l9 q9 n5 nh)))),aa (.inr (.inl (3,Row.mk [Z1 0] f2 [aW.mk fr [] []]))),aa (.inl (108,[Z1 i,Z1 g]))]))/\(decide (i≥(↑n2:Int))=an->Vc ((0:Int)≤i/\i<(↑n2:Int)/\0+n2≤n2)/\Vc (0+aD i<n2)/\((!aB nh (0+aD i) an)=ao->Vc (0+aD i<n2)/\Vc ((aE !aB nh (0+aD i) an)=aE ao)/\aY (G (aC aj) [aa (.inl (194,[.slice (aa ⟨1,0,aa 13000⟩) n2 cp,.slice (aa ⟨2,0,aa 1000⟩) fn fc,Z1 hd,Z1 ca,Z1 vi])),aa (.inr (.inl (197,Row.mk dj n2 (cV l0 l1 l2 l3 l4 l5 l6 l7 l8 l9 q9 n5 nh)))),aa (.inr (.inl (3,Row.mk [Z1 0] f2 [aW.mk fr [] []]))),aa (.inl (108,[Z1 i,Z1 g]))]))/\((!aB nh (0+aD i) an)=an->Vc (0+aD i<n2)/\Vc ((aE !aB nh (0+aD i) an)=aE an)/\Vc (0+aD i<n2)/\((aB n5 (0+aD i) (0:Int) != g)=ao->aY (G (aC aj) [aa (.inl (194,[.slice (aa ⟨1,0,aa 13000⟩) n2 cp,.slice (aa ⟨2,0,aa 1000⟩) fn fc,Z1 hd,Z1 ca,Z1 vi])),aa (.inr (.inl (197,Row.mk dj n2 (cV l0 l1 l2 l3 l4 l5 l6 l7 l8 l9 q9 n5 nh)))),aa (.inr (.inl (3,Row.mk [Z1 0] f2 [aW.mk fr [] []]))),aa (.inl (108,[Z1 i,Z1 g]))]))/\((aB n5 (0+aD i) (0:Int) != g)=an->Vc True/\aY (G (aC (aa (Se 1 (0+aD i) (aa 13000)))) [aa (.inl (194,[.slice (aa ⟨1,0,aa 13000⟩) n2 cp,.slice (aa ⟨2,0,aa 1000⟩) fn fc,Z1 hd,Z1 ca,Z1 (ck ar (vi+(1:Int)))])),aa (.inr (.inl (197,Row.mk dj n2 (cV l0 l1 l2 l3 l4 l5 l6 l7 l8 l9 q9 n5 nh)))),aa (.inr (.inl (3,Row.mk [Z1 0] f2 [aW.mk fr [] []]))),aa (.inl (108,[Z1 i,Z1 g]))])))))) ?_ (by kernel_rfl)
  intro Z1;subst Z1;have e0:0+i.toNat=i.toNat:=bW _;rw[e0];clear ou zQ BK yQ yY Fo EY Ey ES EO zx zC zk;subst hG;have sw:rF n2 n5 nh i g=(decide (0≤i)&&decide (i<n2)&&(nh).getD i.toNat an&&decide ((n5).getD i.toNat 0=g)):=rfl;refine⟨fun h=>⟨⟨congrArg aE h⟩,⟨?_⟩⟩,fun h=>⟨⟨congrArg aE h⟩,fun h2=>⟨?_⟩,fun h2=>?_⟩⟩
  rotate_left 2
  ·have i0:=of_decide_eq_false h;have i1:=of_decide_eq_false h2;rw[decide_eq_true (by omega),decide_eq_true (by omega),js,js] at sw
   refine⟨⟨by omega,by omega,by omega⟩,⟨by omega⟩,fun h3=>⟨⟨by omega⟩,⟨congrArg aE h3⟩,⟨?_⟩⟩,fun h3=>⟨⟨by omega⟩,⟨congrArg aE h3⟩,⟨by omega⟩,fun h4=>⟨?_⟩,fun h4=>⟨⟨trivial⟩,⟨?_⟩⟩⟩⟩
   ·exact⟨[0,1,2],rfl,rfl,⟨.inl rfl,⟨_,rfl,.inl rfl⟩,⟨_,rfl,.inl rfl⟩,trivial⟩,rfl,rfl,rfl,rfl⟩
   ·exact⟨[0,1,2],rfl,rfl,⟨.inl rfl,⟨_,rfl,.inl rfl⟩,⟨_,rfl,.inl rfl⟩,trivial⟩,rfl,rfl,rfl,rfl⟩
   ·rw[hw,decide_eq_true (by simpa using h4),TF] at sw;rw[Bool.not_eq_false'] at h3;rw[h3] at sw;cases sw
  ·exact⟨[0,1,2],rfl,rfl,⟨.inl rfl,⟨_,rfl,.inl rfl⟩,⟨_,rfl,.inl rfl⟩,trivial⟩,rfl,rfl,rfl,rfl⟩
  ·exact⟨[0,1,2],rfl,rfl,⟨.inl rfl,⟨_,rfl,.inl rfl⟩,⟨_,rfl,.inl rfl⟩,trivial⟩,rfl,rfl,rfl,rfl⟩
 ·cases hx
theorem NX:b8 tw Tryz.prog 147 q7:=fun b=>by cases b;exact Kr;exact Lb
theorem Rg:Vc (fits (-1)):=⟨⟨by omega,by omega⟩⟩
theorem Wi {n:Nat} (h:n<1000000):Vc (0+n≤n/\1≤1/\(n+1)*104≤140737488355328/\n+1≤140737488355328):=⟨by omega,by omega,by omega,by omega⟩
theorem RL {n:Nat} (h:n<1000000):Vc (fits (((n+1:Nat):Int)-1)):=⟨⟨by omega,by omega⟩⟩
theorem Zp (n:Nat):((n+1:Nat):Int)-1=n:=by omega
def aay:List Value->Hp Empty->Option Bool:=fun args hh=>match args,hh with
 |[.pointer (aa ⟨0,0,aj⟩)],[aa (.inl (194,[.slice (aa ⟨1,0,aa 13000⟩) n cp,.slice (aa ⟨2,0,aa 1000⟩) fn fc,.int .i64 hd,.int .i64 ca,.int .i64 vi])),aa (.inr (.inl (197,⟨tm,n2,[c0,c1,c2,c3,c4,c5,c6,c7,c8,c9,oW,oH,oF]⟩))),aa (.inr (.inl (3,⟨[.int .i64 0],f2,[⟨fr,[],[]⟩]⟩)))]=>aa (decide (fn=0))
 |_,_=>aj
def O5:Prim Empty:=fun args hh=>match args,hh with
 |[.pointer (aa ⟨0,0,aj⟩)],[aa (.inl (194,[.slice (aa ⟨1,0,aa 13000⟩) n cp,.slice (aa ⟨2,0,aa 1000⟩) fn fc,.int .i64 hd,.int .i64 ca,.int .i64 vi])),aa (.inr (.inl (197,⟨tm,n2,[c0,c1,c2,c3,c4,c5,c6,c7,c8,c9,oW,oH,oF]⟩))),aa (.inr (.inl (3,⟨[.int .i64 0],f2,[⟨fr,[],[]⟩]⟩)))]=>aa ⟨fn=0/\f2=fn/\fc=0/\cp=0/\tm=dj/\n2=n/\n<1000000/\m_ n [c0,c1,c2,c3,c4,c5,c6,c7,c8,c9,oW,oH,oF],.int .i64 n,aj,[aa (.inl (194,[.slice (aa ⟨3,0,aa 13000⟩) (n+1) 0,.slice (aa ⟨2,0,aa 1000⟩) fn fc,.int .i64 hd,.int .i64 ca,.int .i64 vi])),aj,aa (.inr (.inl (3,⟨[.int .i64 0],f2,[⟨fr,[],[]⟩]⟩))),aa (.inr (.inl (197,⟨tm,(n+1),[⟨c0.i++[0],[],[]⟩,⟨c1.i++[0],[],[]⟩,⟨[],c2.b++[an],[]⟩,⟨c3.i++[0],[],[]⟩,⟨c4.i++[0],[],[]⟩,⟨c5.i++[0],[],[]⟩,⟨c6.i++[0],[],[]⟩,⟨c7.i++[0],[],[]⟩,⟨c8.i++[0],[],[]⟩,⟨c9.i++[0],[],[]⟩,⟨oW.i++[0],[],[]⟩,⟨oH.i++[0],[],[]⟩,⟨[],oF.b++[an],[]⟩]⟩)))],[],[(0,0)]⟩
 |_,_=>aj
def Py:Prim Empty:=fun args hh=>match args,hh with
 |[.pointer (aa ⟨0,0,aj⟩)],[aa (.inl (194,[.slice (aa ⟨1,0,aa 13000⟩) n cp,.slice (aa ⟨2,0,aa 1000⟩) fn fc,.int .i64 hd,.int .i64 ca,.int .i64 vi])),aa (.inr (.inl (197,⟨tm,n2,[c0,c1,c2,c3,c4,c5,c6,c7,c8,c9,oW,oH,oF]⟩))),aa (.inr (.inl (3,⟨[.int .i64 0],f2,[⟨fr,[],[]⟩]⟩)))]=>aa ⟨fn≠0/\f2=fn/\fr.length=fn/\fc=0/\cp=0/\fn<1000000/\tm=dj/\n2=n/\n<1000000/\m_ n [c0,c1,c2,c3,c4,c5,c6,c7,c8,c9,oW,oH,oF],.int .i64 (fr.getD (fn-1) 0),aj,[aa (.inl (194,[.slice (aa ⟨1,0,aa 13000⟩) n 0,.slice (aa ⟨2,0,aa 1000⟩) (fn-1) 0,.int .i64 hd,.int .i64 ca,.int .i64 vi])),aa (.inr (.inl (197,⟨tm,n2,[c0,c1,c2,c3,c4,c5,c6,c7,c8,c9,oW,oH,oF]⟩))),aa (.inr (.inl (3,⟨[.int .i64 0],(fn-1),[⟨(fr.take (fn-1)),[],[]⟩]⟩)))],[],[(0,0)]⟩
 |_,_=>aj
def tQ:jo Empty:=⟨aay,O5,Py⟩
theorem NF:rR tw Tryz.prog 138 (su tQ ao) (tQ.go ao):=by
 refine wG (fn:=Tryz.f138) (root:=dI Tryz.f138) (by kernel_rfl) (by kernel_rfl) (by kernel_rfl) fun args hh x hx=>?_
 unfold tQ jo.go O5 at hx;simp only at hx;split at hx
 ·rename_i n cp fn fc hd ca vi tm n2 c0 c1 c2 c3 c4 c5 c6 c7 c8 c9 oW oH oF f2 fr;cases hx;refine⟨by first|exact a_ _|exact kZ _,(fun b hb=>by cases hb),(fun hw=>by first|rfl|cases hw),fun m7 hv=>?_⟩
  obtain⟨rfl,rfl,rfl,rfl,hv⟩:=hv;obtain⟨rfl,rfl,ui,⟨⟨l0,rfl,ou⟩,⟨l1,rfl,zQ⟩,⟨l2,rfl,BK⟩,⟨l3,rfl,yQ⟩,⟨l4,rfl,yY⟩,⟨l5,rfl,Fo⟩,⟨l6,rfl,EY⟩,⟨l7,rfl,Ey⟩,⟨l8,rfl,ES⟩,⟨l9,rfl,EO⟩,⟨q9,rfl,zx⟩,⟨n5,rfl,zC⟩,⟨nh,rfl,zk⟩⟩⟩:=hv;clear m7;generalize hG:cj (R:=Empty) _ _=G;refine cK (T:=[]) trivial mixed 200 ?_;refine bM (q:=let Z2:=bk ar;let Z1:=(0:Int);Vc (fits (-1:Int))/\(ao=ao->Vc (0+n2≤n2/\1≤1/\(n2+1)*104≤140737488355328/\n2+1≤140737488355328)/\Vc (fits ((↑(n2+1):Int)-(1:Int)))/\aY (G (Z2 ((↑(n2+1):Int)-(1:Int))) [aa (.inl (194,[.slice (aa ⟨4,0,aa 13000⟩) (n2+1) 0,.slice (aa ⟨2,0,aa 1000⟩) 0 0,Z2 hd,Z2 ca,Z2 vi])),aj,aa (.inr (.inl (3,Row.mk [Z2 0] 0 [aW.mk fr [] []]))),aa (.inr (.inl (197,Row.mk dj 1 [aW.mk [Z1] [] [],aW.mk [Z1] [] [],aW.mk [] [an] [],aW.mk [Z1] [] [],aW.mk [Z1] [] [],aW.mk [Z1] [] [],aW.mk [Z1] [] [],aW.mk [Z1] [] [],aW.mk [Z1] [] [],aW.mk [Z1] [] [],aW.mk [Z1] [] [],aW.mk [Z1] [] [],aW.mk [] [an] []]))),aa (.inr (.inl (197,Row.mk dj (n2+1) (cV (cut l0 0 n2++[Z1]) (cut l1 0 n2++[Z1]) (cut l2 0 n2++[an]) (cut l3 0 n2++[Z1]) (cut l4 0 n2++[Z1]) (cut l5 0 n2++[Z1]) (cut l6 0 n2++[Z1]) (cut l7 0 n2++[Z1]) (cut l8 0 n2++[Z1]) (cut l9 0 n2++[Z1]) (cut q9 0 n2++[Z1]) (cut n5 0 n2++[Z1]) (cut nh 0 n2++[an])))))]))/\(ao=an->Vc (Z1≤(-1:Int)/\(-1:Int)<Z1/\0≤0)/\Vc (0<0)/\Vc (Z1≤(-1:Int)/\(-1:Int)≤Z1/\0≤0)/\aY (G (Z2 (aB fr 0 Z1)) [aa (.inl (194,[.slice (aa ⟨1,0,aa 13000⟩) n2 0,.slice (aa ⟨2,0,aa 1000⟩) 0 0,Z2 hd,Z2 ca,Z2 vi])),aa (.inr (.inl (197,Row.mk dj n2 (cV l0 l1 l2 l3 l4 l5 l6 l7 l8 l9 q9 n5 nh)))),aa (.inr (.inl (3,Row.mk [Z2 0] 0 [aW.mk fr [] []])))]))) ?_ (by kernel_rfl)
  intro Z2 Z1;subst Z1 Z2;subst hG;refine⟨Rg,fun _=>⟨Wi ui,RL ui,⟨?_⟩⟩,fun h=>by cases h⟩
  simp only[fK ou,fK zQ,fK BK,fK yQ,fK yY,fK Fo,fK EY,fK Ey,fK ES,fK EO,fK zx,fK zC,fK zk,Zp];exact⟨[0,1,2,4],rfl,rfl,⟨.inl rfl,⟨_,rfl,.inl rfl⟩,⟨_,rfl,.inl rfl⟩,trivial⟩,rfl,rfl,rfl,(by kernel_rfl)⟩
 ·cases hx
theorem Nf:rR tw Tryz.prog 138 (su tQ an) (tQ.go an):=by
 refine wG (fn:=Tryz.f138) (root:=dI Tryz.f138) (by kernel_rfl) (by kernel_rfl) (by kernel_rfl) fun args hh x hx=>?_
 unfold tQ jo.go Py at hx;simp only at hx;split at hx
 ·rename_i n cp fn fc hd ca vi tm n2 c0 c1 c2 c3 c4 c5 c6 c7 c8 c9 oW oH oF f2 fr;cases hx;refine⟨by first|exact a_ _|exact kZ _,(fun b hb=>by cases hb),(fun hw=>by first|rfl|cases hw),fun m7 hv=>?_⟩
  obtain⟨h0,rfl,hf,rfl,rfl,WQ,hv⟩:=hv;obtain⟨rfl,rfl,ui,⟨⟨l0,rfl,ou⟩,⟨l1,rfl,zQ⟩,⟨l2,rfl,BK⟩,⟨l3,rfl,yQ⟩,⟨l4,rfl,yY⟩,⟨l5,rfl,Fo⟩,⟨l6,rfl,EY⟩,⟨l7,rfl,Ey⟩,⟨l8,rfl,ES⟩,⟨l9,rfl,EO⟩,⟨q9,rfl,zx⟩,⟨n5,rfl,zC⟩,⟨nh,rfl,zk⟩⟩⟩:=hv;clear m7;generalize hG:cj (R:=Empty) _ _=G;refine cK (T:=[]) trivial mixed 200 ?_;refine bM (q:=let Z2:=bk ar;let Z1:=(0:Int);Vc (fits ((↑f2:Int)-(1:Int)))/\(decide ((↑f2:Int)-(1:Int)<Z1)=ao->Vc (0+n2≤n2/\1≤1/\(n2+1)*104≤140737488355328/\n2+1≤140737488355328)/\Vc (fits ((↑(n2+1):Int)-(1:Int)))/\aY (G (Z2 ((↑(n2+1):Int)-(1:Int))) [aa (.inl (194,[.slice (aa ⟨4,0,aa 13000⟩) (n2+1) 0,.slice (aa ⟨2,0,aa 1000⟩) f2 0,Z2 hd,Z2 ca,Z2 vi])),aj,aa (.inr (.inl (3,Row.mk [Z2 0] f2 [aW.mk fr [] []]))),aa (.inr (.inl (197,Row.mk dj 1 [aW.mk [Z1] [] [],aW.mk [Z1] [] [],aW.mk [] [an] [],aW.mk [Z1] [] [],aW.mk [Z1] [] [],aW.mk [Z1] [] [],aW.mk [Z1] [] [],aW.mk [Z1] [] [],aW.mk [Z1] [] [],aW.mk [Z1] [] [],aW.mk [Z1] [] [],aW.mk [Z1] [] [],aW.mk [] [an] []]))),aa (.inr (.inl (197,Row.mk dj (n2+1) (cV (cut l0 0 n2++[Z1]) (cut l1 0 n2++[Z1]) (cut l2 0 n2++[an]) (cut l3 0 n2++[Z1]) (cut l4 0 n2++[Z1]) (cut l5 0 n2++[Z1]) (cut l6 0 n2++[Z1]) (cut l7 0 n2++[Z1]) (cut l8 0 n2++[Z1]) (cut l9 0 n2++[Z1]) (cut q9 0 n2++[Z1]) (cut n5 0 n2++[Z1]) (cut nh 0 n2++[an])))))]))/\(decide ((↑f2:Int)-(1:Int)<Z1)=an->Vc (Z1≤(↑f2:Int)-(1:Int)/\(↑f2:Int)-(1:Int)<(↑f2:Int)/\0+f2≤f2)/\Vc (0+aD ((↑f2:Int)-(1:Int))<f2)/\Vc (Z1≤(↑f2:Int)-(1:Int)/\(↑f2:Int)-(1:Int)≤(↑f2:Int)/\0+f2≤f2)/\aY (G (Z2 (aB fr (0+aD ((↑f2:Int)-(1:Int))) Z1)) [aa (.inl (194,[.slice (aa ⟨1,0,aa 13000⟩) n2 0,.slice (aa ⟨2,0,aa 1000⟩) (aD ((↑f2:Int)-(1:Int))) 0,Z2 hd,Z2 ca,Z2 vi])),aa (.inr (.inl (197,Row.mk dj n2 (cV l0 l1 l2 l3 l4 l5 l6 l7 l8 l9 q9 n5 nh)))),aa (.inr (.inl (3,Row.mk [Z2 0] f2 [aW.mk fr [] []])))]))) ?_ (by kernel_rfl)
  intro Z2 Z1;subst Z1 Z2;subst hG;clear ou zQ BK yQ yY Fo EY Ey ES EO zx zC zk;have e1:((f2:Int)-1).toNat=f2-1:=by omega
  simp only[e1,bW];refine⟨⟨by omega,by omega⟩,fun h=>absurd (of_decide_eq_true h) (by omega),fun _=>⟨⟨by omega,by omega,by omega⟩,⟨by omega⟩,⟨by omega,by omega,by omega⟩,⟨?_⟩⟩⟩
  exact⟨[0,1,2],rfl,rfl,⟨.inl rfl,⟨_,rfl,.inl rfl⟩,⟨_,rfl,.inr ⟨rfl,BC _ _,by simp[BU]⟩⟩,trivial⟩,rfl,rfl,rfl,(by kernel_rfl)⟩
 ·cases hx
theorem Ri:b8 tw Tryz.prog 138 tQ:=fun b=>by cases b;exact Nf;exact NF
def TA:eM Empty:=[(138,bJ zN 2 tQ),(147,bJ zN 2 q7)]
theorem xX:cN tw Tryz.prog TA:=⟨aT _ _ Ri,aT _ _ NX,trivial⟩
abbrev PP (m:Pl):Prop:=Gv.gp 100000 m
theorem B4 (m:Pl) (i g:Int):rF m.vs.length m.dG m.live i g=zb m ⟨i,g⟩:=rfl
theorem EV {m:Pl} {i g:Int} (h:zb m ⟨i,g⟩=ao):0≤i/\i<m.vs.length/\m.live.getD i.toNat an=ao/\m.dG.getD i.toNat 0=g:=Gv.sU h
theorem gW {α:Type} (f:Nd->α) (m:Pl) (k:Nat) (a:α) (ha:f zd=a):(m.vs.map f).getD k a=f (m.vs.getD k zd):=by
 subst ha;simp only[au,fu];cases m.vs[k]?<;>rfl
theorem H3 (m:Pl) (k:Nat):gM m.vs k=bj (m.vs.getD k zd):=by
 unfold gM bj;simp only[gW (fun n:Nd=>n.e.it.k) m _ 0 rfl,gW (fun n:Nd=>n.e.it.i) m _ 0 rfl,gW (fun n:Nd=>n.e.kK) m _ an rfl,gW (fun n:Nd=>n.e.time) m _ 0 rfl,gW (fun n:Nd=>n.l.i) m _ 0 rfl,gW (fun n:Nd=>n.l.g) m _ 0 rfl,gW (fun n:Nd=>n.r.i) m _ 0 rfl,gW (fun n:Nd=>n.r.g) m _ 0 rfl,gW (fun n:Nd=>n.all.n) m _ 0 rfl,gW (fun n:Nd=>n.all.sum.n) m _ 0 rfl,gW (fun n:Nd=>n.h) m _ 0 rfl]
theorem B3 (m:Pl) (k:Nat) (x:Nd) (g:List Int) (b:List Bool):(⟨dj,m.vs.length,cS m.vs k x g b⟩:Row)=⟨dj,(m.vs.set k x).length,cM (m.vs.set k x) g b⟩:=by
 unfold cS cM;simp only[FW,fh]
theorem gX {α:Type} (f:Nd->α) (m:Pl):(m.vs.map f).length=m.vs.length:=fZ ..
theorem Cv {m:Pl} (hv:PP m):m_ m.vs.length (cM m.vs m.dG m.live):=⟨⟨_,rfl,gX _ m⟩,⟨_,rfl,gX _ m⟩,⟨_,rfl,gX _ m⟩,⟨_,rfl,gX _ m⟩,⟨_,rfl,gX _ m⟩,⟨_,rfl,gX _ m⟩,⟨_,rfl,gX _ m⟩,⟨_,rfl,gX _ m⟩,⟨_,rfl,gX _ m⟩,⟨_,rfl,gX _ m⟩,⟨_,rfl,gX _ m⟩,⟨_,rfl,hv.dG⟩,⟨_,rfl,hv.live⟩⟩
theorem uB {m:Pl} (hv:PP m):True/\True/\m.vs.length<1000000/\m_ m.vs.length (cM m.vs m.dG m.live):=⟨trivial,trivial,by have:=hv.cells;omega,Cv hv⟩
def M':Prim Rs:=fun args hh=>match args,hh with
 |[.int .i64 c],[]=>aa ⟨True,.pointer (aa ⟨0,0,aj⟩),aj,[aa (.inr (.inr (.inr (.db ⟨[],[],[],[],0,min (max c 0) 16777216,0⟩))))],[],[(0,0)]⟩
 |_,_=>aj
theorem VL:b8 D Tryz.prog 131 (a9 M'):=by
 refine qm (rG (L:=L) (D0:=tw) (fn:=Tryz.f131) (root:=dI Tryz.f131) (by kernel_rfl) (by kernel_rfl) (by kernel_rfl) fun args hh x hx=>?_)
 unfold M' at hx;split at hx
 ·rename_i c;cases hx;refine q4 fun _ hv=>?_
  generalize hG:ya (R:=Rs) (R0:=Empty) _ _ _=G;refine cK (T:=TA) xX mixed 200 ?_;refine bM (q:=aY (G (aC (aa ⟨0,0,aj⟩)) [aa (.inl (194,[.slice aj 0 0,.slice aj 0 0,.int ar 0,.int ar (if(16777216:Int)<if(0:Int)>c then(0:Int) else c then(16777216:Int) else if(0:Int)>c then(0:Int) else c),.int ar 0]))])) ?_ (by kernel_rfl)
  subst hG;have e:(if 16777216<if 0>c then 0 else c then 16777216 else if 0>c then 0 else c)=min (max c 0) 16777216:=by
   by_cases h1:0>c
   ·rw[if_pos h1];simp;omega
   ·rw[if_neg h1];split<;>omega
  rw[e];refine⟨⟨[0,1,1],rfl,rfl,⟨.inl rfl,⟨rfl,sZ _,rfl⟩,⟨rfl,sZ _,rfl⟩,trivial⟩,rfl,rfl,rfl,rfl,rfl⟩⟩
 ·cases hx
def Ny:Prim Rs:=fun args hh=>match args,hh with
 |[.pointer (aa ⟨0,0,aj⟩),.agg ⟨[.int .i64 i,.int .i64 g]⟩],[aa (.inr (.inr (.inr (.db m))))]=>aa ⟨PP m,.tuple #[.agg ⟨bj (j3 zd m ⟨i,g⟩)⟩,.bool (zb m ⟨i,g⟩)],aj,[aa (.inr (.inr (.inr (.db (aL m ⟨i,g⟩)))))],[],[(0,0)]⟩
 |_,_=>aj
theorem We:b8 D Tryz.prog 120 (a9 Ny):=by
 refine qm (rG (L:=L) (D0:=tw) (fn:=Tryz.f120) (root:=dI Tryz.f120) (by kernel_rfl) (by kernel_rfl) (by kernel_rfl) fun args hh x hx=>?_)
 unfold Ny at hx;split at hx
 ·rename_i i g m;cases hx;refine q4 fun _ hv=>?_
  generalize hG:ya (R:=Rs) (R0:=Empty) _ _ _=G;refine cK (T:=TA) xX mixed 200 ?_;refine bM (q:=let Z3:=bk ar;let Z1:=(ae (cI m));let Z2:=(bj (fH (jD (cX 0 0) an 0) (aO 0 0) (aO 0 0) (mJ 0 (ae9 0)) 0));(rF Z1 (dR m) (e7 m) i g=ao->Vc (dj=dj/\ae (cI m)=ae (cI m)/\ae (cI m)<1000000/\m_ Z1 (cM (cI m) (dR m) (e7 m)))/\Vc (aD i<ae (cI m))/\aY (G (cr (aP [.agg (aP (gM (cI m) (aD i))),.bool ao])) [aa (.inl (194,[.slice (aa ⟨1,0,aa 13000⟩) Z1 0,.slice (aa ⟨2,0,aa 1000⟩) (ae (dY m)) 0,Z3 (fW m),Z3 (iv m),Z3 (ck ar (g_ m+(1:Int)))])),aa (.inr (.inl (197,Row.mk dj Z1 (cM (cI m) (dR m) (e7 m))))),aa (.inr (.inl (3,Row.mk [Z3 0] (ae (dY m)) [aW.mk (dY m) [] []]))),aa (.inl (108,[Z3 i,Z3 g])),aa (.inl (128,(gM (cI m) (aD i))))]))/\(rF Z1 (dR m) (e7 m) i g=an->Vc (dj=dj/\ae (cI m)=ae (cI m)/\ae (cI m)<1000000/\m_ Z1 (cM (cI m) (dR m) (e7 m)))/\aY (G (cr (aP [.agg (aP Z2),.bool an])) [aa (.inl (194,[.slice (aa ⟨1,0,aa 13000⟩) Z1 0,.slice (aa ⟨2,0,aa 1000⟩) (ae (dY m)) 0,Z3 (fW m),Z3 (iv m),Z3 (g_ m)])),aa (.inr (.inl (197,Row.mk dj Z1 (cM (cI m) (dR m) (e7 m))))),aa (.inr (.inl (3,Row.mk [Z3 0] (ae (dY m)) [aW.mk (dY m) [] []]))),aa (.inl (108,[Z3 i,Z3 g])),aa (.inl (128,Z2)),aa (.inl (128,Z2))]))) ?_ (by kernel_rfl)
  intro Z3 Z1 Z2;subst Z2 Z1 Z3;subst hG;simp only[B4,bW];refine⟨fun h=>⟨⟨uB hv⟩,⟨by have:=EV h;omega⟩,⟨?_⟩⟩,fun h=>⟨⟨uB hv⟩,⟨?_⟩⟩⟩
  ·have e1:j3 zd m ⟨i,g⟩=m.vs.getD i.toNat zd:=by unfold j3;rw[if_pos h]
   have e2:aL m ⟨i,g⟩=If m:=by unfold aL;rw[if_pos h]
   rw[H3 m i.toNat,e1,e2,h];exact⟨[0,1,2],rfl,rfl,⟨.inl rfl,⟨_,rfl,.inl rfl⟩,⟨_,rfl,.inl rfl⟩,trivial⟩,rfl,rfl,rfl,rfl,rfl⟩
  ·have e1:j3 zd m ⟨i,g⟩=zd:=by unfold j3;rw[if_neg (by rw[h];decide)]
   have e2:aL m ⟨i,g⟩=m:=by unfold aL;rw[if_neg (by rw[h];decide)]
   rw[e1,e2,h];exact⟨[0,1,2],rfl,rfl,⟨.inl rfl,⟨_,rfl,.inl rfl⟩,⟨_,rfl,.inl rfl⟩,trivial⟩,rfl,rfl,rfl,rfl,rfl⟩
 ·cases hx
def NA:Prim Rs:=fun args hh=>match args,hh with
 |[.pointer (aa ⟨0,0,aj⟩),.agg ⟨[.int .i64 i,.int .i64 g]⟩,.agg ⟨xN⟩],[aa (.inr (.inr (.inr (.db m))))]=>aa ⟨xN=bj (gh xN)/\PP m,.bool (zb m ⟨i,g⟩),aj,[aa (.inr (.inr (.inr (.db (tN m ⟨i,g⟩ (gh xN))))))],[],[(0,0)]⟩
 |_,_=>aj
theorem V6:b8 D Tryz.prog 175 (a9 NA):=by
 refine qm (rG (L:=L) (D0:=tw) (fn:=Tryz.f175) (root:=dI Tryz.f175) (by kernel_rfl) (by kernel_rfl) (by kernel_rfl) fun args hh x hx=>?_)
 unfold NA at hx;split at hx
 ·rename_i i g xN m;cases hx;refine q4 fun _ hv=>?_
  obtain⟨hq,hv⟩:=hv;generalize gh xN=x at *;subst hq
  generalize hG:ya (R:=Rs) (R0:=Empty) _ _ _=G;refine cK (T:=TA) xX mixed 200 ?_;refine bM (q:=let Z2:=bk ar;let Z1:=(ae (cI m));(rF Z1 (dR m) (e7 m) i g=ao->Vc (dj=dj/\ae (cI m)=ae (cI m)/\ae (cI m)<1000000/\m_ Z1 (cM (cI m) (dR m) (e7 m)))/\Vc (aD i<ae (cI m))/\aY (G (aE ao) [aa (.inl (194,[.slice (aa ⟨1,0,aa 13000⟩) Z1 0,.slice (aa ⟨2,0,aa 1000⟩) (ae (dY m)) 0,Z2 (fW m),Z2 (iv m),Z2 (ck ar (g_ m+(1:Int)))])),aa (.inr (.inl (197,Row.mk dj Z1 (cS (cI m) (aD i) x (dR m) (e7 m))))),aa (.inr (.inl (3,Row.mk [Z2 0] (ae (dY m)) [aW.mk (dY m) [] []]))),aa (.inl (108,[Z2 i,Z2 g])),aa (.inl (128,(bj x)))]))/\(rF Z1 (dR m) (e7 m) i g=an->Vc (dj=dj/\ae (cI m)=ae (cI m)/\ae (cI m)<1000000/\m_ Z1 (cM (cI m) (dR m) (e7 m)))/\aY (G (aE an) [aa (.inl (194,[.slice (aa ⟨1,0,aa 13000⟩) Z1 0,.slice (aa ⟨2,0,aa 1000⟩) (ae (dY m)) 0,Z2 (fW m),Z2 (iv m),Z2 (g_ m)])),aa (.inr (.inl (197,Row.mk dj Z1 (cM (cI m) (dR m) (e7 m))))),aa (.inr (.inl (3,Row.mk [Z2 0] (ae (dY m)) [aW.mk (dY m) [] []]))),aa (.inl (108,[Z2 i,Z2 g])),aa (.inl (128,(bj x)))]))) ?_ (by kernel_rfl)
  intro Z2 Z1;subst Z1 Z2;subst hG;simp only[B4,bW];refine⟨fun h=>⟨⟨uB hv⟩,⟨by have:=EV h;omega⟩,⟨?_⟩⟩,fun h=>⟨⟨uB hv⟩,⟨?_⟩⟩⟩
  ·have e2:∀ y,tN m ⟨i,g⟩ y={ If m with vs:=m.vs.set i.toNat y }:=fun y=>by unfold tN;rw[if_pos h]
   rw[e2,h];exact⟨[0,1,2],rfl,rfl,⟨.inl (by rw[fh];rfl),⟨_,rfl,.inl (B3 m i.toNat x _ _).symm⟩,⟨_,rfl,.inl rfl⟩,trivial⟩,rfl,rfl,rfl,rfl,rfl⟩
  ·have e2:∀ y,tN m ⟨i,g⟩ y=m:=fun y=>by unfold tN;rw[if_neg (by rw[h];decide)]
   rw[e2,h];exact⟨[0,1,2],rfl,rfl,⟨.inl rfl,⟨_,rfl,.inl rfl⟩,⟨_,rfl,.inl rfl⟩,trivial⟩,rfl,rfl,rfl,rfl,rfl⟩
 ·cases hx
def B6:Prim Rs:=fun args hh=>match args,hh with
 |[.pointer (aa ⟨0,0,aj⟩)],[aa (.inr (.inr (.inr (.db m))))]=>aa ⟨True,.int .i64 m.cY,aj,hh,[],[]⟩
 |_,_=>aj
theorem K7:b8 D Tryz.prog 118 (a9 B6):=by
 refine qm (rG (L:=L) (D0:=tw) (fn:=Tryz.f118) (root:=dI Tryz.f118) (by kernel_rfl) (by kernel_rfl) (by kernel_rfl) fun args hh x hx=>?_)
 unfold B6 at hx;split at hx
 ·rename_i m;cases hx;refine q4 fun _ hv=>?_
  generalize hG:ya (R:=Rs) (R0:=Empty) _ _ _=G;refine cK (T:=TA) xX mixed 200 ?_;refine bM (q:=let Z1:=bk ar;aY (G (Z1 (g_ m)) [aa (.inl (194,[.slice (aa ⟨1,0,aa 13000⟩) (ae (cI m)) 0,.slice (aa ⟨2,0,aa 1000⟩) (ae (dY m)) 0,Z1 (fW m),Z1 (iv m),Z1 (g_ m)])),aa (.inr (.inl (197,Row.mk dj (ae (cI m)) (cM (cI m) (dR m) (e7 m))))),aa (.inr (.inl (3,Row.mk [Z1 0] (ae (dY m)) [aW.mk (dY m) [] []])))])) ?_ (by kernel_rfl)
  intro Z1;subst Z1;subst hG;exact⟨⟨[0,1,2],rfl,rfl,⟨.inl rfl,⟨_,rfl,.inl rfl⟩,⟨_,rfl,.inl rfl⟩,trivial⟩,rfl,rfl,rfl,rfl,rfl⟩⟩
 ·cases hx
def CH:Prim Rs:=fun args hh=>match args,hh with
 |[.pointer (aa ⟨0,0,aj⟩),.agg ⟨[.int .i64 i,.int .i64 g]⟩],[aa (.inr (.inr (.inr (.db m))))]=>aa ⟨PP m,.tuple #[.agg ⟨bj (j3 zd m ⟨i,g⟩)⟩,.bool (zb m ⟨i,g⟩)],aj,[aa (.inr (.inr (.inr (.db (wI zd m ⟨i,g⟩)))))],[],[(0,0)]⟩
 |_,_=>aj
theorem tK:b8 D Tryz.prog 116 (a9 CH):=by
 refine qm (rG (L:=L) (D0:=tw) (fn:=Tryz.f116) (root:=dI Tryz.f116) (by kernel_rfl) (by kernel_rfl) (by kernel_rfl) fun args hh x hx=>?_)
 unfold CH at hx;split at hx
 ·rename_i i g m;cases hx;refine q4 fun _ hv=>?_
  generalize hG:ya (R:=Rs) (R0:=Empty) _ _ _=G;refine cK (T:=TA) xX mixed 200 ?_;refine bM (q:=let Z7:=bk ar;let Z1:=(ae (cI m));let Z2:=(aD i<ae (cI m));let Z3:=(aB (dR m) (aD i) (0:Int)<(4294967295:Int));let Z4:=(cr (aP [.agg (aP (gM (cI m) (aD i))),.bool ao]));let Z5:=(bj (fH (jD (cX 0 0) an 0) (aO 0 0) (aO 0 0) (mJ 0 (ae9 0)) 0));let Z6:=(ae (dY m));(rF Z1 (dR m) (e7 m) i g=ao->Vc (dj=dj/\ae (cI m)=ae (cI m)/\ae (cI m)<1000000/\m_ Z1 (cM (cI m) (dR m) (e7 m)))/\Vc Z2/\Vc Z2/\Vc Z2/\Vc (fits (fW m-(1:Int)))/\Vc Z2/\(decide Z3=ao->Vc (0+ae (dY m)≤ae (dY m)/\1≤1/\(ae (dY m)+1)*8≤140737488355328/\ae (dY m)+1≤140737488355328)/\aY (G Z4 [aa (.inl (194,[.slice (aa ⟨1,0,aa 13000⟩) Z1 0,.slice (aa ⟨8,0,aa 1000⟩) (ae (dY m)+1) 0,Z7 (fW m-(1:Int)),Z7 (iv m),Z7 (ck ar (g_ m+(1:Int)))])),aa (.inr (.inl (197,Row.mk dj Z1 (cS (cI m) (aD i) zd (dR m) (qv (e7 m) (aD i) an))))),aj,aa (.inl (108,[Z7 i,Z7 g])),aa (.inl (128,(gM (cI m) (aD i)))),aa (.inl (128,Z5)),aa (.inl (128,(gM (cI m) (aD i)))),aa (.inr (.inl (3,Row.mk [Z7 0] 1 [aW.mk [i] [] []]))),aa (.inr (.inl (3,Row.mk [Z7 0] (ae (dY m)+1) [aW.mk (cut (dY m) 0 Z6++cut [i] 0 1) [] []])))]))/\(decide Z3=an->aY (G Z4 [aa (.inl (194,[.slice (aa ⟨1,0,aa 13000⟩) Z1 0,.slice (aa ⟨2,0,aa 1000⟩) Z6 0,Z7 (fW m-(1:Int)),Z7 (iv m),Z7 (ck ar (g_ m+(1:Int)))])),aa (.inr (.inl (197,Row.mk dj Z1 (cS (cI m) (aD i) zd (dR m) (qv (e7 m) (aD i) an))))),aa (.inr (.inl (3,Row.mk [Z7 0] Z6 [aW.mk (dY m) [] []]))),aa (.inl (108,[Z7 i,Z7 g])),aa (.inl (128,(gM (cI m) (aD i)))),aa (.inl (128,Z5)),aa (.inl (128,(gM (cI m) (aD i))))])))/\(rF Z1 (dR m) (e7 m) i g=an->Vc (dj=dj/\ae (cI m)=ae (cI m)/\ae (cI m)<1000000/\m_ Z1 (cM (cI m) (dR m) (e7 m)))/\aY (G (cr (aP [.agg (aP Z5),.bool an])) [aa (.inl (194,[.slice (aa ⟨1,0,aa 13000⟩) Z1 0,.slice (aa ⟨2,0,aa 1000⟩) Z6 0,Z7 (fW m),Z7 (iv m),Z7 (g_ m)])),aa (.inr (.inl (197,Row.mk dj Z1 (cM (cI m) (dR m) (e7 m))))),aa (.inr (.inl (3,Row.mk [Z7 0] Z6 [aW.mk (dY m) [] []]))),aa (.inl (108,[Z7 i,Z7 g])),aa (.inl (128,Z5)),aa (.inl (128,Z5))]))) ?_ (by kernel_rfl)
  intro Z7 Z1 Z2 Z3 Z4 Z5 Z6;subst Z6 Z5 Z4 Z3 Z2 Z1 Z7;subst hG;simp only[B4,bW];have hgb:=DJ (i:=i.toNat) hv.gen;have hhl:=hv.Ss;have hfr:=hv.pX;refine⟨fun h=>?_,fun h=>⟨⟨uB hv⟩,⟨?_⟩⟩⟩
  ·have cd:i.toNat<m.vs.length:=by have:=EV h;omega
   have g3:m.dG.getD i.toNat 0<4294967295:=by omega
   have e1:j3 zd m ⟨i,g⟩=m.vs.getD i.toNat zd:=by unfold j3;rw[if_pos h]
   have e2:wI zd m ⟨i,g⟩={ If m with vs:=m.vs.set i.toNat zd,live:=m.live.set i.toNat an,held:=m.held-1,free:=m.free++[i] }:=by unfold wI;rw[if_pos h,if_pos g3]
   have ec:cut m.free 0 m.free.length++cut [i] 0 1=m.free++[i]:=by rw[fK rfl];rfl
   rw[ec];refine⟨⟨uB hv⟩,⟨cd⟩,⟨cd⟩,⟨cd⟩,⟨⟨by omega,by omega⟩⟩,⟨cd⟩,fun _=>⟨⟨by omega,by omega,by omega,by omega⟩,⟨?_⟩⟩,fun h2=>absurd g3 (of_decide_eq_false h2)⟩
   rw[H3 m i.toNat,e1,e2,h];exact⟨[0,1,8],rfl,rfl,⟨.inl (by rw[fh,bE];rfl),⟨_,rfl,.inl (B3 m i.toNat zd _ _).symm⟩,⟨_,rfl,.inl (by rw[bE];rfl)⟩,trivial⟩,rfl,rfl,rfl,rfl,rfl⟩
  ·have e1:j3 zd m ⟨i,g⟩=zd:=by unfold j3;rw[if_neg (by rw[h];decide)]
   have e2:wI zd m ⟨i,g⟩=m:=by unfold wI;rw[if_neg (by rw[h];decide)]
   rw[e1,e2,h];exact⟨[0,1,2],rfl,rfl,⟨.inl rfl,⟨_,rfl,.inl rfl⟩,⟨_,rfl,.inl rfl⟩,trivial⟩,rfl,rfl,rfl,rfl,rfl⟩
 ·cases hx
theorem Q1 (m:Pl) (k:Nat) (x:Nd) (g:List Int) (b:List Bool):(⟨dj,m.vs.length+1,cG m.vs k x g b⟩:Row)=⟨dj,((m.vs++[zd]).set k x).length,cM ((m.vs++[zd]).set k x) g b⟩:=by
 unfold cG cM;simp only[FW,dM,fh,bE,gC,vf,cy,jX]
 rfl
theorem EA {m:Pl} (h0:m.held=m.cap) (x:Nd):tX zd m x=m/\lD zd m=⟨0,0⟩:=by
 unfold tX lD;rw[if_pos h0,if_pos h0];exact⟨rfl,rfl⟩
theorem Fy {m:Pl} (h0:¬ m.held=m.cap) (hf:m.free.length=0) (x:Nd):tX zd m x=⟨(m.vs++[zd]).set m.vs.length x,(m.dG++[0]).set m.vs.length ((m.dG++[0]).getD m.vs.length 0+1),(m.live++[an]).set m.vs.length ao,m.free,m.held+1,m.cap,m.cY⟩/\lD zd m=⟨m.vs.length,(m.dG++[0]).getD m.vs.length 0+1⟩:=by
 have en:vU m=m.vs.length:=by rw[vU,if_pos hf]
 unfold tX lD Gv.Be Lm;rw[if_neg h0,if_neg h0];simp only[if_pos hf,en,iS]
 constructor<;>first|rfl|trivial
theorem E5 {m:Pl} (h0:¬ m.held=m.cap) (hf:¬ m.free.length=0) (x:Nd):tX zd m x=⟨m.vs.set (m.free.getD (m.free.length-1) 0).toNat x,m.dG.set (m.free.getD (m.free.length-1) 0).toNat (m.dG.getD (m.free.getD (m.free.length-1) 0).toNat 0+1),m.live.set (m.free.getD (m.free.length-1) 0).toNat ao,m.free.take (m.free.length-1),m.held+1,m.cap,m.cY⟩/\lD zd m=⟨m.free.getD (m.free.length-1) 0,m.dG.getD (m.free.getD (m.free.length-1) 0).toNat 0+1⟩:=by
 have en:vU m=m.free.getD (m.free.length-1) 0:=by rw[vU,if_neg hf]
 unfold tX lD Gv.Be Lm;rw[if_neg h0,if_neg h0];simp only[if_neg hf,en]
 constructor<;>first|rfl|trivial
structure Bds (m:Pl):Prop where
 dG:m.dG.length=m.vs.length
 cells:m.vs.length<1000000
 pX:m.free.length<1000000
 held:-1000000≤m.held/\m.held<1000000
 gen:∀ i,0≤m.dG.getD i 0/\m.dG.getD i 0≤100000
 last:¬ m.free.length=0->0≤m.free.getD (m.free.length-1) 0/\m.free.getD (m.free.length-1) 0<m.vs.length
theorem bds {m:Pl} (hv:PP m):Bds m:=by
 have v1:=hv.dG;have v3:=hv.cells;have v4:=hv.pX;have v5:=hv.Ss;refine⟨v1,by omega,by omega,by omega,fun i=>?_,fun h=>?_⟩
 ·have:=DJ (i:=i) hv.gen;omega
 ·have:=hv.inn _ (zA (d:=0) (l:=m.free) (i:=m.free.length-1) (by omega))
  exact⟨this.1,this.2.1⟩
theorem FE (l:List Int) (k:Nat) (x:Int) (h:k<l.length):(l.set k x).getD k 0=x:=by
 rw[oJ,if_pos ⟨rfl,h⟩]
def Je:Prim Rs:=fun args hh=>match args,hh with
 |[.pointer (aa ⟨0,0,aj⟩),.agg ⟨xN⟩],[aa (.inr (.inr (.inr (.db m))))]=>aa ⟨xN=bj (gh xN)/\PP m,.tuple #[.agg ⟨[.int .i64 (lD zd m).i,.int .i64 (lD zd m).g]⟩,.bool (!decide (m.held=m.cap))],aj,[aa (.inr (.inr (.inr (.db (tX zd m (gh xN))))))],[],[(0,0)]⟩
 |_,_=>aj
theorem tU:b8 D Tryz.prog 101 (a9 Je):=by
 refine qm (rG (L:=L) (D0:=tw) (fn:=Tryz.f101) (root:=dI Tryz.f101) (by kernel_rfl) (by kernel_rfl) (by kernel_rfl) fun args hh x hx=>?_)
 unfold Je at hx;split at hx
 ·rename_i xN m;cases hx;refine q4 fun _ hv=>?_
  obtain⟨hq,hv⟩:=hv;generalize gh xN=x at *;subst hq
  generalize hG:ya (R:=Rs) (R0:=Empty) _ _ _=G;refine cK (T:=TA) xX mixed 200 ?_;refine bM (q:=let cq:=bk ar;let Z1:=(cI m);let Z2:=(ae Z1);let Z3:=(dY m);let Z4:=(cM Z1 (dR m) (e7 m));let Z5:=(aB (dR m++[(0:Int)]) (0+(Z2:Int).toNat) (0:Int)+(1:Int));let Z6:=(qv (dR m++[(0:Int)]) (0+(Z2:Int).toNat) Z5);let Z7:=(ae Z3-1);let Z8:=(aB Z3 Z7 (0:Int));let Z9:=(aB (dR m) (0+aD Z8) (0:Int)+(1:Int));let dJ:=(aB (qv (dR m) (0+aD Z8) Z9) (0+aD Z8) (0:Int));((fW m==iv m)=ao->aY (G (cr (aP [.agg (aP [cq 0,cq 0]),.bool an])) [aa (.inl (194,[.slice (aa ⟨1,0,aa 13000⟩) Z2 0,.slice (aa ⟨2,0,aa 1000⟩) (ae Z3) 0,cq (fW m),cq (iv m),cq (g_ m)])),aa (.inr (.inl (197,Row.mk dj Z2 Z4))),aa (.inr (.inl (3,Row.mk [cq 0] (ae Z3) [aW.mk Z3 [] []]))),aa (.inl (128,(bj x))),aa (.inl (108,[cq 0,cq 0]))]))/\((fW m==iv m)=an->(decide (ae Z3=0)=ao->Vc (ae Z3=0/\ae Z3=ae Z3/\0=0/\0=0/\dj=dj/\ae Z1=ae Z1/\ae Z1<1000000/\m_ Z2 Z4)/\Vc ((0:Int)≤(↑Z2:Int)/\(↑Z2:Int)<(↑(ae Z1+1):Int)/\0+(ae Z1+1)≤ae Z1+1)/\Vc (0+(Z2:Int).toNat<ae Z1+1)/\Vc (0+(Z2:Int).toNat<ae Z1+1)/\Vc (0+(Z2:Int).toNat<ae Z1+1)/\Vc (fits Z5)/\Vc (0+(Z2:Int).toNat<ae Z1+1)/\Vc (fits (fW m+(1:Int)))/\Vc (0+(Z2:Int).toNat<ae Z1+1)/\aY (G (cr (aP [.agg (aP [cq (↑Z2:Int),cq (aB Z6 (0+(Z2:Int).toNat) (0:Int))]),.bool ao])) [aa (.inl (194,[.slice (aa ⟨5,0,aa 13000⟩) (ae Z1+1) 0,.slice (aa ⟨2,0,aa 1000⟩) (ae Z3) 0,cq (fW m+(1:Int)),cq (iv m),cq (g_ m)])),aj,aa (.inr (.inl (3,Row.mk [cq 0] (ae Z3) [aW.mk Z3 [] []]))),aa (.inl (128,(bj x))),aa (.inl (108,[cq (↑Z2:Int),cq (aB Z6 (0+(Z2:Int).toNat) (0:Int))])),aa (.inr (.inl (197,Row.mk dj (ae Z1+1) (cG Z1 (0+(Z2:Int).toNat) x Z6 (qv (e7 m++[an]) (0+(Z2:Int).toNat) ao)))))]))/\(decide (ae Z3=0)=an->Vc (ae Z3≠0/\ae Z3=ae Z3/\ae Z3=ae Z3/\0=0/\0=0/\ae Z3<1000000/\dj=dj/\ae Z1=ae Z1/\ae Z1<1000000/\m_ Z2 Z4)/\Vc ((0:Int)≤aB Z3 Z7 (0:Int)/\aB Z3 Z7 (0:Int)<(↑Z2:Int)/\0+ae Z1≤ae Z1)/\Vc (0+aD Z8<ae Z1)/\Vc (0+aD Z8<ae Z1)/\Vc (0+aD Z8<ae Z1)/\Vc (fits Z9)/\Vc (0+aD Z8<ae Z1)/\Vc (fits (fW m+(1:Int)))/\Vc (0+aD Z8<ae Z1)/\aY (G (cr (aP [.agg (aP [cq Z8,cq dJ]),.bool ao])) [aa (.inl (194,[.slice (aa ⟨1,0,aa 13000⟩) Z2 0,.slice (aa ⟨2,0,aa 1000⟩) Z7 0,cq (fW m+(1:Int)),cq (iv m),cq (g_ m)])),aa (.inr (.inl (197,Row.mk dj Z2 (cS Z1 (0+aD Z8) x (qv (dR m) (0+aD Z8) Z9) (qv (e7 m) (0+aD Z8) ao))))),aa (.inr (.inl (3,Row.mk [cq 0] Z7 [aW.mk (h_ Z7 Z3) [] []]))),aa (.inl (128,(bj x))),aa (.inl (108,[cq Z8,cq dJ]))])))) ?_ (by kernel_rfl)
  intro cq Z1 Z2 Z3 Z4 Z5 Z6 Z7 Z8 Z9 dJ;subst dJ Z9 Z8 Z7 Z6 Z5 Z4 Z3 Z2 Z1 cq;subst hG;simp only[bW,iS];have hb:=bds hv;refine⟨fun h=>?_,fun h=>⟨fun hf=>?_,fun hf=>?_⟩⟩
  ·have h0:m.held=m.cap:=eq_of_beq h;rw[(EA h0 x).1,(EA h0 x).2,decide_eq_true h0];exact⟨⟨[0,1,2],rfl,rfl,⟨.inl rfl,⟨_,rfl,.inl rfl⟩,⟨_,rfl,.inl rfl⟩,trivial⟩,rfl,rfl,rfl,rfl,rfl⟩⟩
  ·have h0:¬ m.held=m.cap:=fun c=>by rw[c,beq_self_eq_true] at h;cases h
   have h1:m.free.length=0:=of_decide_eq_true hf;have hk:m.vs.length<(m.dG++[0]).length:=by rw[bE,hb.dG];exact fI _
   have e1:(m.dG++[0]).getD m.vs.length 0=0:=by rw[uV,if_pos hb.dG.symm]
   rw[(Fy h0 h1 x).1,(Fy h0 h1 x).2,decide_eq_false h0,FE _ _ _ hk];refine⟨⟨h1,trivial,trivial,trivial,trivial,trivial,hb.cells,Cv hv⟩,⟨by omega,by omega,a_ _⟩,⟨fI _⟩,⟨fI _⟩,⟨fI _⟩,⟨by rw[e1];exact⟨by omega,by omega⟩⟩,⟨fI _⟩,⟨by have:=hb.held;exact⟨by omega,by omega⟩⟩,⟨fI _⟩,⟨[0,5,2],rfl,rfl,?_,rfl,rfl,rfl,rfl,rfl⟩⟩
   exact⟨.inl (by rw[fh,bE];rfl),⟨_,rfl,.inl (Q1 m m.vs.length x _ _).symm⟩,⟨_,rfl,.inl rfl⟩,trivial⟩
  ·have h0:¬ m.held=m.cap:=fun c=>by rw[c,beq_self_eq_true] at h;cases h
   have h1:¬ m.free.length=0:=of_decide_eq_false hf;have hl:=hb.last h1;have hk:(m.free.getD (m.free.length-1) 0).toNat<m.vs.length:=by omega
   rw[(E5 h0 h1 x).1,(E5 h0 h1 x).2,decide_eq_false h0,FE _ _ _ (by rw[hb.dG];exact hk)]
   refine⟨⟨h1,trivial,trivial,trivial,trivial,hb.pX,trivial,trivial,hb.cells,Cv hv⟩,⟨hl.1,hl.2,a_ _⟩,⟨hk⟩,⟨hk⟩,⟨hk⟩,⟨by have:=hb.gen (m.free.getD (m.free.length-1) 0).toNat;exact⟨by omega,by omega⟩⟩,⟨hk⟩,⟨by have:=hb.held;exact⟨by omega,by omega⟩⟩,⟨hk⟩,⟨[0,1,2],rfl,rfl,?_,rfl,rfl,rfl,rfl,rfl⟩⟩
   exact⟨.inl (by rw[fh,ej,tY (BC _ _)];rfl),⟨_,rfl,.inl (B3 m _ x _ _).symm⟩,⟨_,rfl,.inl (by rw[ej,tY (BC _ _)])⟩,trivial⟩
 ·cases hx
abbrev dF (b:Nat) (i g:Int):Option (SB Rs):=aa (.inl (132,[.pointer (aa ⟨b,0,aj⟩),.int .i64 i,.int .i64 g]))
abbrev oP (m:Pl):Option (SB Rs):=aa (.inr (.inr (.inr (.db m))))
def U_ {R:Type}:eM R:=[(241,bJ zN 2 (a9 Sh.aan))]
theorem RD {R:Type} {D:fR R}:cN D Tryz.prog (U_:eM R):=⟨aT _ _ Sh.ahC,trivial⟩
def O6 {R:Type}:eM R:=[(1000000000,lW),(242,bJ zN 2 (a9 Sh.Uo))]
theorem NT {R:Type} {D:fR R}:cN D Tryz.prog (O6:eM R):=⟨iF,aT _ _ Sh.adW,trivial⟩
def AV {R:Type}:Prim R:=fun args hh=>match args,hh with
 |[.agg ⟨kE⟩],[]=>aa ⟨kE=dt (fY kE)/\(True),.agg ⟨bZ (n7 aN (fY kE))⟩,aj,hh,[],[]⟩
 |_,_=>aj
theorem yI {R:Type} {D:fR R}:b8 D Tryz.prog 102 (a9 AV):=by
 refine fx Tryz.f102 fun args hh x hx=>?_
 unfold AV at hx;split at hx
 ·rename_i kE;cases hx;refine q4 fun _ hv=>?_
  obtain⟨j7,hv⟩:=hv;generalize fY kE=ke at *;subst j7
  generalize hG:cj (R:=R) _ _=G;refine cK (T:=U_) RD mixed 200 ?_;refine bM (q:=Vc True/\Vc True/\aY (G (bG (aP [.int ar 1,.int ar (pK (Jo aN ke))])) [aa (.inl (75,(dt ke))),aa (.inl (126,[.int ar 1,.int ar (pK (Jo aN ke))]))])) ?_ (by kernel_rfl)
  subst hG
  repeat' (first|apply cZ|apply Vc.mk|apply fits.mk|intro h|apply aY.mk)
  all_goals (try simp only[sB] at *)
  all_goals first|contradiction|omega|exact jF ‹_›|exact jH ‹_›|exact jG ‹_›|exact⟨rfl,by omega⟩|exact rfl|(simp[*,-au];done)|skip
  exact⟨[],rfl,rfl,trivial,rfl,rfl,rfl,rfl⟩
 ·cases hx
def ef {R:Type}:Prim R:=fun args hh=>match args,hh with
 |[.agg ⟨pP⟩,.agg ⟨qP⟩],[]=>aa ⟨pP=bZ (pv pP)/\qP=bZ (pv qP)/\(True),.agg ⟨bZ (eK aN (pv pP) (pv qP))⟩,aj,hh,[],[]⟩
 |_,_=>aj
theorem uX {R:Type} {D:fR R}:b8 D Tryz.prog 174 (a9 ef):=by
 refine fx Tryz.f174 fun args hh x hx=>?_
 unfold ef at hx;split at hx
 ·rename_i pP qP;cases hx;refine q4 fun _ hv=>?_
  obtain⟨j7,sT,hv⟩:=hv;generalize pv pP=pp at *;subst j7;generalize pv qP=qp at *;subst sT
  generalize hG:cj (R:=R) _ _=G;refine cK (T:=O6) NT mixed 200 ?_;refine bM (q:=let Z2:=bk ar;let Z1:=(pK (Gv.iX.plus aN (bH pp) (bH qp)));((bP pp==(0:Int))=ao->aY (G (bG (aP [Z2 (bP qp),Z2 (pK (bH qp))])) [aa (.inl (126,[Z2 (bP pp),Z2 (pK (bH pp))])),aa (.inl (126,[Z2 (bP qp),Z2 (pK (bH qp))])),aa (.inl (126,[Z2 (bP qp),Z2 (pK (bH qp))]))]))/\((bP pp==(0:Int))=an->((bP qp==(0:Int))=ao->aY (G (bG (aP [Z2 (bP pp),Z2 (pK (bH pp))])) [aa (.inl (126,[Z2 (bP pp),Z2 (pK (bH pp))])),aa (.inl (126,[Z2 (bP qp),Z2 (pK (bH qp))])),aa (.inl (126,[Z2 (bP pp),Z2 (pK (bH pp))]))]))/\((bP qp==(0:Int))=an->Vc True/\Vc True/\Vc True/\aY (G (bG (aP [Z2 (ck ar (bP pp+bP qp)),Z2 Z1])) [aa (.inl (126,[Z2 (bP pp),Z2 (pK (bH pp))])),aa (.inl (126,[Z2 (bP qp),Z2 (pK (bH qp))])),aa (.inl (126,[Z2 (ck ar (bP pp+bP qp)),Z2 Z1]))])))) ?_ (by kernel_rfl)
  intro Z2 Z1;subst Z1 Z2;have done:∀ (p:Ie QN) (hp:Hp R),p=eK aN pp qp->G (.agg ⟨bZ p⟩) hp:=by
   intro p hp e;subst e;subst hG;exact⟨⟨[],rfl,rfl,trivial,rfl,rfl,rfl,rfl⟩⟩
  clear hG
  repeat' (first|apply cZ|apply Vc.mk|apply fits.mk|intro h|apply aY.mk)
  all_goals (try simp only[sB] at *)
  all_goals first|contradiction|omega|exact jF ‹_›|exact jH ‹_›|exact jG ‹_›|exact⟨rfl,by omega⟩|exact rfl|(simp[*,-au];done)|skip
  ·have h:pp.n=0:=by assumption
   exact done qp _ (by rw[eK,if_pos h])
  ·have h:pp.n≠0:=by assumption
   have h2:qp.n=0:=by assumption
   exact done pp _ (by rw[eK,if_neg h,if_pos h2])
  ·have h:pp.n≠0:=by assumption
   have h2:qp.n≠0:=by assumption
   exact done ⟨nq (pp.n+qp.n),aN.plus pp.sum qp.sum⟩ _ (by rw[eK,if_neg h,if_neg h2])
 ·cases hx
def Qs:eM Rs:=[(120,bJ zN 2 (a9 Ny))]
theorem Og:cN D Tryz.prog Qs:=⟨aT _ _ We,trivial⟩
def km:Prim Rs:=fun args hh=>match args,hh with
 |[.pointer (aa ⟨0,0,aj⟩),.agg ⟨[.int .i64 ri,.int .i64 rg]⟩],[aa (.inl (132,[.pointer (aa ⟨1,0,aj⟩),.int .i64 ti,.int .i64 tg])),aa (.inr (.inr (.inr (.db m))))]=>aa ⟨PP m,.agg ⟨bj (bu aN m ⟨ri,rg⟩)⟩,aj,[aa (.inl (132,[.pointer (aa ⟨1,0,aj⟩),.int .i64 ti,.int .i64 tg])),aa (.inr (.inr (.inr (.db (aL m ⟨ri,rg⟩)))))],[],[(0,0)]⟩
 |_,_=>aj
theorem look_ok:b8 D Tryz.prog 79 (a9 km):=by
 refine fx Tryz.f79 fun args hh x hx=>?_
 unfold km at hx;split at hx
 ·rename_i ri rg ti tg m;cases hx;refine q4 fun _ hv=>?_
  generalize hG:cj (R:=Rs) _ _=G;refine cK (T:=Qs) Og mixed 200 ?_;refine bM (q:=Vc (PP m)/\aY (G (bG (aP (bj (j3 zd m (aO ri rg))))) [dF 1 ti tg,oP (aL m (aO ri rg)),aa (.inl (108,[.int ar ri,.int ar rg])),aa (.inl (128,(bj (j3 zd m (aO ri rg))))),aa (.inl (128,(bj (j3 zd m (aO ri rg)))))])) ?_ (by kernel_rfl)
  subst hG;exact⟨⟨hv⟩,⟨⟨[0,1],rfl,rfl,⟨.inl rfl,rfl,trivial⟩,rfl,rfl,rfl,rfl⟩⟩⟩
 ·cases hx
def WO:eM Rs:=[(1000000000,lW),(102,bJ zN 2 (a9 AV)),(174,bJ zN 2 (a9 ef)),(175,bJ zN 2 (a9 NA))]
theorem R3:cN D Tryz.prog WO:=⟨iF,aT _ _ yI,aT _ _ uX,aT _ _ V6,trivial⟩
def Bg:Prim Rs:=fun args hh=>match args,hh with
 |[.pointer (aa ⟨0,0,aj⟩),.agg ⟨[.int .i64 ri,.int .i64 rg]⟩,.agg ⟨xN⟩,.agg ⟨yN⟩,.agg ⟨zN⟩],[aa (.inl (132,[.pointer (aa ⟨1,0,aj⟩),.int .i64 ti,.int .i64 tg])),aa (.inr (.inr (.inr (.db m))))]=>aa ⟨xN=bj (gh xN)/\yN=bj (gh yN)/\zN=bj (gh zN)/\(PP m),.agg ⟨[.int .i64 ri,.int .i64 rg]⟩,aj,[aa (.inl (132,[.pointer (aa ⟨1,0,aj⟩),.int .i64 ti,.int .i64 tg])),aa (.inr (.inr (.inr (.db (Ew aN m ⟨ri,rg⟩ (gh xN) (gh yN) (gh zN))))))],[],[(0,0)]⟩
 |_,_=>aj
theorem yc:b8 D Tryz.prog 158 (a9 Bg):=by
 refine fx Tryz.f158 fun args hh x hx=>?_
 unfold Bg at hx;split at hx
 ·rename_i ri rg xN yN zN ti tg m;cases hx;refine q4 fun _ hv=>?_
  obtain⟨j7,sT,Gl,hv⟩:=hv;generalize gh xN=xn at *;subst j7;generalize gh yN=yn at *;subst sT;generalize gh zN=zn at *;subst Gl
  generalize hG:cj (R:=Rs) _ _=G;refine cK (T:=WO) R3 mixed 200 ?_;refine bM (q:=let Z4:=bk ar;let Z1:=(n7 aN (b6 xn));let Z2:=(eK aN (bw yn) Z1);let Z3:=(fH (b6 xn) (bd xn) (bo xn) (eK aN Z2 (bw zn)) (ck ar ((1:Int)+if cw zn>cw yn then cw zn else cw yn)));Vc True/\Vc ((dt (b6 xn))=dt (b6 xn)/\True)/\Vc ([Z4 (bP (bw yn)),Z4 (pK (bH (bw yn)))]=bZ (bw yn)/\[Z4 (bP Z1),Z4 (pK (bH Z1))]=bZ Z1/\True)/\Vc ([Z4 (bP Z2),Z4 (pK (bH Z2))]=bZ Z2/\[Z4 (bP (bw zn)),Z4 (pK (bH (bw zn)))]=bZ (bw zn)/\True)/\Vc ((bj Z3)=bj Z3/\PP m)/\aY (G (bG (aP [Z4 ri,Z4 rg])) [dF 1 ti tg,oP (tN m (aO ri rg) Z3),aa (.inl (108,[Z4 ri,Z4 rg])),aa (.inl (128,(bj Z3))),aa (.inl (128,(bj yn))),aa (.inl (128,(bj zn))),aa (.inl (108,[Z4 ri,Z4 rg]))])) ?_ (by kernel_rfl)
  intro Z4 Z1 Z2 Z3;subst Z3 Z2 Z1 Z4;subst hG
  repeat' (first|apply cZ|apply Vc.mk|apply fits.mk|intro h|apply aY.mk)
  all_goals (try simp only[sB] at *)
  all_goals first|contradiction|omega|exact jF ‹_›|exact jH ‹_›|exact jG ‹_›|exact⟨rfl,by omega⟩|exact rfl|(simp[*,-au];done)|skip
  all_goals first|assumption|exact⟨[0,1],rfl,rfl,⟨.inl rfl,rfl,trivial⟩,rfl,rfl,rfl,rfl⟩
 ·cases hx
def WA:eM Rs:=[(79,bJ zN 2 (a9 km)),(158,bJ zN 2 (a9 Bg))]
theorem RV:cN D Tryz.prog WA:=⟨aT _ _ look_ok,aT _ _ yc,trivial⟩
def IX:Prim Rs:=fun args hh=>match args,hh with
 |[.pointer (aa ⟨0,0,aj⟩),.agg ⟨[.int .i64 ri,.int .i64 rg]⟩,.agg ⟨xN⟩],[aa (.inl (132,[.pointer (aa ⟨1,0,aj⟩),.int .i64 ti,.int .i64 tg])),aa (.inr (.inr (.inr (.db m))))]=>aa ⟨xN=bj (gh xN)/\(PP m),.agg ⟨[.int .i64 ri,.int .i64 rg]⟩,aj,[aa (.inl (132,[.pointer (aa ⟨1,0,aj⟩),.int .i64 ti,.int .i64 tg])),aa (.inr (.inr (.inr (.db (s8 aN m ⟨ri,rg⟩ (gh xN))))))],[],[(0,0)]⟩
 |_,_=>aj
theorem AZ:b8 D Tryz.prog 137 (a9 IX):=by
 refine fx Tryz.f137 fun args hh x hx=>?_
 unfold IX at hx;split at hx
 ·rename_i ri rg xN ti tg m;cases hx;refine q4 fun _ hv=>?_
  obtain⟨j7,hv⟩:=hv;generalize gh xN=xn at *;subst j7
  generalize hG:cj (R:=Rs) _ _=G;refine cK (T:=WA) RV mixed 200 ?_;refine bM (q:=let Z2:=bk ar;let Z1:=(bu aN (aL m (bd xn)) (bo xn));Vc (PP m)/\Vc (PP (aL m (bd xn)))/\Vc ((bj xn)=bj xn/\(bj (bu aN m (bd xn)))=bj (bu aN m (bd xn))/\(bj Z1)=bj Z1/\PP (aL (aL m (bd xn)) (bo xn)))/\aY (G (bG (aP [Z2 ri,Z2 rg])) [dF 1 ti tg,oP (Ew aN (aL (aL m (bd xn)) (bo xn)) (aO ri rg) xn (bu aN m (bd xn)) Z1),aa (.inl (108,[Z2 ri,Z2 rg])),aa (.inl (128,(bj xn))),aa (.inl (108,[Z2 ri,Z2 rg]))])) ?_ (by kernel_rfl)
  intro Z2 Z1;subst Z1 Z2;subst hG
  repeat' (first|apply cZ|apply Vc.mk|apply fits.mk|intro h|apply aY.mk)
  all_goals (try simp only[sB] at *)
  all_goals first|contradiction|omega|exact jF ‹_›|exact jH ‹_›|exact jG ‹_›|exact⟨rfl,by omega⟩|exact rfl|(simp[*,-au];done)|skip
  all_goals first|assumption|(simp only[jl];assumption)|skip
  exact⟨[0,1],rfl,rfl,⟨.inl rfl,rfl,trivial⟩,rfl,rfl,rfl,rfl⟩
 ·cases hx
def I8:eM Rs:=[(79,bJ zN 2 (a9 km)),(137,bJ zN 2 (a9 IX))]
theorem FL:cN D Tryz.prog I8:=⟨aT _ _ look_ok,aT _ _ AZ,trivial⟩
def EG:Prim Rs:=fun args hh=>match args,hh with
 |[.pointer (aa ⟨0,0,aj⟩),.agg ⟨[.int .i64 ri,.int .i64 rg]⟩,.agg ⟨xN⟩],[aa (.inl (132,[.pointer (aa ⟨1,0,aj⟩),.int .i64 ti,.int .i64 tg])),aa (.inr (.inr (.inr (.db m))))]=>aa ⟨xN=bj (gh xN)/\(PP m),.agg ⟨[.int .i64 (gh xN).r.i,.int .i64 (gh xN).r.g]⟩,aj,[aa (.inl (132,[.pointer (aa ⟨1,0,aj⟩),.int .i64 ti,.int .i64 tg])),aa (.inr (.inr (.inr (.db (vV aN m ⟨ri,rg⟩ (gh xN))))))],[],[(0,0)]⟩
 |_,_=>aj
theorem B1:b8 D Tryz.prog 159 (a9 EG):=by
 refine fx Tryz.f159 fun args hh x hx=>?_
 unfold EG at hx;split at hx
 ·rename_i ri rg xN ti tg m;cases hx;refine q4 fun _ hv=>?_
  obtain⟨j7,hv⟩:=hv;generalize gh xN=xn at *;subst j7
  generalize hG:cj (R:=Rs) _ _=G;refine cK (T:=I8) FL mixed 200 ?_;refine bM (q:=let Z5:=bk ar;let Z1:=(bu aN m (bo xn));let Z2:=(fH (b6 xn) (bd xn) (bd Z1) (bw xn) (cw xn));let Z3:=(fH (b6 Z1) (aO ri rg) (bo Z1) (bw Z1) (cw Z1));let Z4:=(s8 aN (aL m (bo xn)) (aO ri rg) Z2);Vc (PP m)/\Vc ((bj Z2)=bj Z2/\PP (aL m (bo xn)))/\Vc ((bj Z3)=bj Z3/\PP Z4)/\aY (G (bG (aP [Z5 (cC (bo xn)),Z5 (cD (bo xn))])) [dF 1 ti tg,oP (s8 aN Z4 (bo xn) Z3),aa (.inl (108,[Z5 ri,Z5 rg])),aa (.inl (128,(bj Z2))),aa (.inl (108,[Z5 (cC (bo xn)),Z5 (cD (bo xn))])),aa (.inl (108,[Z5 (cC (bo xn)),Z5 (cD (bo xn))])),aa (.inl (128,(bj Z3)))])) ?_ (by kernel_rfl)
  intro Z5 Z1 Z2 Z3 Z4;subst Z4 Z3 Z2 Z1 Z5;subst hG
  repeat' (first|apply cZ|apply Vc.mk|apply fits.mk|intro h|apply aY.mk)
  all_goals (try simp only[sB] at *)
  all_goals first|contradiction|omega|exact jF ‹_›|exact jH ‹_›|exact jG ‹_›|exact⟨rfl,by omega⟩|exact rfl|(simp[*,-au];done)|skip
  all_goals first|assumption|(simp only[jl];assumption)|skip
  exact⟨[0,1],rfl,rfl,⟨.inl rfl,rfl,trivial⟩,rfl,rfl,rfl,rfl⟩
 ·cases hx
def Fu:Prim Rs:=fun args hh=>match args,hh with
 |[.pointer (aa ⟨0,0,aj⟩),.agg ⟨[.int .i64 ri,.int .i64 rg]⟩,.agg ⟨xN⟩],[aa (.inl (132,[.pointer (aa ⟨1,0,aj⟩),.int .i64 ti,.int .i64 tg])),aa (.inr (.inr (.inr (.db m))))]=>aa ⟨xN=bj (gh xN)/\(PP m),.agg ⟨[.int .i64 (gh xN).l.i,.int .i64 (gh xN).l.g]⟩,aj,[aa (.inl (132,[.pointer (aa ⟨1,0,aj⟩),.int .i64 ti,.int .i64 tg])),aa (.inr (.inr (.inr (.db (vW aN m ⟨ri,rg⟩ (gh xN))))))],[],[(0,0)]⟩
 |_,_=>aj
theorem Ce:b8 D Tryz.prog 160 (a9 Fu):=by
 refine fx Tryz.f160 fun args hh x hx=>?_
 unfold Fu at hx;split at hx
 ·rename_i ri rg xN ti tg m;cases hx;refine q4 fun _ hv=>?_
  obtain⟨j7,hv⟩:=hv;generalize gh xN=xn at *;subst j7
  generalize hG:cj (R:=Rs) _ _=G;refine cK (T:=I8) FL mixed 200 ?_;refine bM (q:=let Z5:=bk ar;let Z1:=(bu aN m (bd xn));let Z2:=(fH (b6 xn) (bo Z1) (bo xn) (bw xn) (cw xn));let Z3:=(fH (b6 Z1) (bd Z1) (aO ri rg) (bw Z1) (cw Z1));let Z4:=(s8 aN (aL m (bd xn)) (aO ri rg) Z2);Vc (PP m)/\Vc ((bj Z2)=bj Z2/\PP (aL m (bd xn)))/\Vc ((bj Z3)=bj Z3/\PP Z4)/\aY (G (bG (aP [Z5 (cC (bd xn)),Z5 (cD (bd xn))])) [dF 1 ti tg,oP (s8 aN Z4 (bd xn) Z3),aa (.inl (108,[Z5 ri,Z5 rg])),aa (.inl (128,(bj Z2))),aa (.inl (108,[Z5 (cC (bd xn)),Z5 (cD (bd xn))])),aa (.inl (108,[Z5 (cC (bd xn)),Z5 (cD (bd xn))])),aa (.inl (128,(bj Z3)))])) ?_ (by kernel_rfl)
  intro Z5 Z1 Z2 Z3 Z4;subst Z4 Z3 Z2 Z1 Z5;subst hG
  repeat' (first|apply cZ|apply Vc.mk|apply fits.mk|intro h|apply aY.mk)
  all_goals (try simp only[sB] at *)
  all_goals first|contradiction|omega|exact jF ‹_›|exact jH ‹_›|exact jG ‹_›|exact⟨rfl,by omega⟩|exact rfl|(simp[*,-au];done)|skip
  all_goals first|assumption|(simp only[jl];assumption)|skip
  exact⟨[0,1],rfl,rfl,⟨.inl rfl,rfl,trivial⟩,rfl,rfl,rfl,rfl⟩
 ·cases hx
def WM:eM Rs:=[(1000000000,lW),(79,bJ zN 2 (a9 km)),(158,bJ zN 2 (a9 Bg)),(159,bJ zN 2 (a9 EG)),(160,bJ zN 2 (a9 Fu))]
theorem RF:cN D Tryz.prog WM:=⟨iF,aT _ _ look_ok,aT _ _ yc,aT _ _ B1,aT _ _ Ce,trivial⟩
def uy:Prim Rs:=fun args hh=>match args,hh with
 |[.pointer (aa ⟨0,0,aj⟩),.agg ⟨[.int .i64 ri,.int .i64 rg]⟩,.agg ⟨xN⟩],[aa (.inl (132,[.pointer (aa ⟨1,0,aj⟩),.int .i64 ti,.int .i64 tg])),aa (.inr (.inr (.inr (.db m))))]=>aa ⟨xN=bj (gh xN)/\(PP m),.agg ⟨[.int .i64 (gz aN m ⟨ri,rg⟩ (gh xN)).1.i,.int .i64 (gz aN m ⟨ri,rg⟩ (gh xN)).1.g]⟩,aj,[aa (.inl (132,[.pointer (aa ⟨1,0,aj⟩),.int .i64 ti,.int .i64 tg])),aa (.inr (.inr (.inr (.db (gz aN m ⟨ri,rg⟩ (gh xN)).2))))],[],[(0,0)]⟩
 |_,_=>aj
theorem sN:b8 D Tryz.prog 139 (a9 uy):=by
 refine fx Tryz.f139 fun args hh x hx=>?_
 unfold uy at hx;split at hx
 ·rename_i ri rg xN ti tg m;cases hx;refine q4 fun _ hv=>?_
  obtain⟨j7,hv⟩:=hv;generalize gh xN=xn at *;subst j7
  generalize hG:cj (R:=Rs) _ _=G;refine cK (T:=WM) RF mixed 200 ?_;refine bM (q:=let dD:=bk ar;let Z1:=(bu aN m (bd xn));let Z2:=(bu aN (aL m (bd xn)) (bo xn));let Z3:=(cw Z1>ck ar (cw Z2+(1:Int)));let Z4:=(aL (aL m (bd xn)) (bo xn));let Z5:=(cw (bu aN Z4 (bo Z1))>cw (bu aN (aL Z4 (bo Z1)) (bd Z1)));let Z6:=(aL (aL Z4 (bo Z1)) (bd Z1));let Z7:=(fH (b6 xn) (bo Z1) (bo xn) (bw xn) (cw xn));let Z8:=(cw Z2>ck ar (cw Z1+(1:Int)));let Z9:=(cw (bu aN Z4 (bd Z2))>cw (bu aN (aL Z4 (bd Z2)) (bo Z2)));let dJ:=(aL (aL Z4 (bd Z2)) (bo Z2));let cq:=(fH (b6 xn) (bd xn) (bd Z2) (bw xn) (cw xn));Vc (PP m)/\Vc (PP (aL m (bd xn)))/\Vc True/\(decide Z3=ao->Vc (PP Z4)/\Vc (PP (aL Z4 (bo Z1)))/\(decide Z5=ao->Vc ((bj Z1)=bj Z1/\PP Z6)/\Vc ((bj Z7)=bj Z7/\PP (vV aN Z6 (bd xn) Z1))/\aY (G (bG (aP [dD (cC (bd Z7)),dD (cD (bd Z7))])) [dF 1 ti tg,oP (vW aN (vV aN Z6 (bd xn) Z1) (aO ri rg) Z7),aa (.inl (108,[dD ri,dD rg])),aa (.inl (128,(bj Z7))),aa (.inl (108,[dD (cC (bd Z7)),dD (cD (bd Z7))])),aa (.inl (128,(bj Z1))),aa (.inl (128,(bj Z2)))]))/\(decide Z5=an->Vc ((bj xn)=bj xn/\PP Z6)/\aY (G (bG (aP [dD (cC (bd xn)),dD (cD (bd xn))])) [dF 1 ti tg,oP (vW aN Z6 (aO ri rg) xn),aa (.inl (108,[dD ri,dD rg])),aa (.inl (128,(bj xn))),aa (.inl (108,[dD (cC (bd xn)),dD (cD (bd xn))])),aa (.inl (128,(bj Z1))),aa (.inl (128,(bj Z2)))])))/\(decide Z3=an->Vc True/\(decide Z8=ao->Vc (PP Z4)/\Vc (PP (aL Z4 (bd Z2)))/\(decide Z9=ao->Vc ((bj Z2)=bj Z2/\PP dJ)/\Vc ((bj cq)=bj cq/\PP (vW aN dJ (bo xn) Z2))/\aY (G (bG (aP [dD (cC (bo cq)),dD (cD (bo cq))])) [dF 1 ti tg,oP (vV aN (vW aN dJ (bo xn) Z2) (aO ri rg) cq),aa (.inl (108,[dD ri,dD rg])),aa (.inl (128,(bj cq))),aa (.inl (108,[dD (cC (bo cq)),dD (cD (bo cq))])),aa (.inl (128,(bj Z1))),aa (.inl (128,(bj Z2)))]))/\(decide Z9=an->Vc ((bj xn)=bj xn/\PP dJ)/\aY (G (bG (aP [dD (cC (bo xn)),dD (cD (bo xn))])) [dF 1 ti tg,oP (vV aN dJ (aO ri rg) xn),aa (.inl (108,[dD ri,dD rg])),aa (.inl (128,(bj xn))),aa (.inl (108,[dD (cC (bo xn)),dD (cD (bo xn))])),aa (.inl (128,(bj Z1))),aa (.inl (128,(bj Z2)))])))/\(decide Z8=an->Vc ((bj xn)=bj xn/\(bj Z1)=bj Z1/\(bj Z2)=bj Z2/\PP Z4)/\aY (G (bG (aP [dD ri,dD rg])) [dF 1 ti tg,oP (Ew aN Z4 (aO ri rg) xn Z1 Z2),aa (.inl (108,[dD ri,dD rg])),aa (.inl (128,(bj xn))),aa (.inl (108,[dD ri,dD rg])),aa (.inl (128,(bj Z1))),aa (.inl (128,(bj Z2)))])))) ?_ (by kernel_rfl)
  intro dD Z1 Z2 Z3 Z4 Z5 Z6 Z7 Z8 Z9 dJ cq;subst cq dJ Z9 Z8 Z7 Z6 Z5 Z4 Z3 Z2 Z1 dD;have done:∀ (i g:Int) (m':Pl) (rest:Hp Rs),gz aN m ⟨ri,rg⟩ xn=(⟨i,g⟩,m')->G (.agg ⟨[.int .i64 i,.int .i64 g]⟩) ([aa (.inl (132,[.pointer (aa ⟨1,0,aj⟩),.int .i64 ti,.int .i64 tg])),aa (.inr (.inr (.inr (.db m'))))]++rest):=by
   intro i g m' rest e;subst hG;refine⟨[0,1],?_,rfl,⟨.inl rfl,?_,trivial⟩,rfl,rfl,rfl,rfl⟩
   ·simp only[e];rfl
   ·simp only[e];rfl
  clear hG
  repeat' (first|apply cZ|apply Vc.mk|apply fits.mk|intro h|apply aY.mk)
  all_goals (try simp only[sB] at *)
  all_goals first|contradiction|omega|exact jF ‹_›|exact jH ‹_›|exact jG ‹_›|exact⟨rfl,by omega⟩|exact rfl|(simp[*,-au];done)|skip
  all_goals first|assumption|(simp only[jl];assumption)|skip
  all_goals (refine done _ _ _ _ ?_;unfold gz;(try dsimp only [nq]);repeat' split)
  all_goals first|rfl|(exfalso;omega)
 ·cases hx
def Bp  (k:Nat):Prim Rs:=fun args hh=>match args,hh with
 |[.pointer (aa ⟨0,0,aj⟩),.agg ⟨[.int .i64 ri,.int .i64 rg]⟩,.agg ⟨[.int .i64 fi,.int .i64 fg]⟩,.agg ⟨kE⟩],[aa (.inl (132,[.pointer (aa ⟨1,0,aj⟩),.int .i64 ti,.int .i64 tg])),aa (.inr (.inr (.inr (.db m))))]=>aa ⟨kE=dt (fY kE)/\(PP m/\jm aN k m ⟨ri,rg⟩),.agg ⟨[.int .i64 (nY aN k m ⟨ri,rg⟩ ⟨fi,fg⟩ (fY kE)).1.i,.int .i64 (nY aN k m ⟨ri,rg⟩ ⟨fi,fg⟩ (fY kE)).1.g]⟩,aj,[aa (.inl (132,[.pointer (aa ⟨1,0,aj⟩),.int .i64 ti,.int .i64 tg])),aa (.inr (.inr (.inr (.db (nY aN k m ⟨ri,rg⟩ ⟨fi,fg⟩ (fY kE)).2))))],[],[(0,0)]⟩
 |_,_=>aj
def Qz (k:Nat):eM Rs:=[(106,bJ zN 2 (a9 Js)),(79,bJ zN 2 (a9 km)),(139,bJ zN 2 (a9 uy)),(103,bJ zN 2 (a9 (Bp k)))]
theorem yi:∀ k:Nat,b8 D Tryz.prog 103 (a9 (Bp k))
 |0=>by
  refine fx Tryz.f103 fun args hh x hx=>?_
  unfold Bp at hx;split at hx
  ·rename_i ri rg fi fg kE ti tg m;cases hx;refine q4 fun _ hv=>?_
   exact kV (iw (iw hv))
  ·cases hx
 |k+1=>by
  have ih:=yi k;refine fx Tryz.f103 fun args hh x hx=>?_
  unfold Bp at hx;split at hx
  ·rename_i ri rg fi fg kE ti tg m;cases hx;refine q4 fun _ hv=>?_
   obtain⟨j7,hv⟩:=hv;generalize fY kE=ke at *;subst j7;obtain⟨hp,hd⟩:=hv
   generalize hG:cj (R:=Rs) _ _=G;refine cK (T:=(Qz k)) (show cN D Tryz.prog (Qz k) from⟨aT _ _ yp,aT _ _ look_ok,aT _ _ sN,aT _ _ ih,trivial⟩) mixed 200 ?_
   refine bM (q:=let cq:=bk ar;let Z1:=(bu aN m (aO ri rg));let Z2:=(aL m (aO ri rg));let Z3:=(fH (b6 Z1) (ay (nY aN k Z2 (bd Z1) (aO fi fg) ke)) (bo Z1) (bw Z1) (cw Z1));let Z4:=(av (nY aN k Z2 (bd Z1) (aO fi fg) ke));let Z5:=(cC (ay (gz aN Z4 (aO ri rg) Z3)));let Z6:=(cD (ay (gz aN Z4 (aO ri rg) Z3)));let Z7:=(fH (b6 Z1) (bd Z1) (ay (nY aN k Z2 (bo Z1) (aO fi fg) ke)) (bw Z1) (cw Z1));let Z8:=(av (nY aN k Z2 (bo Z1) (aO fi fg) ke));let Z9:=(cC (ay (gz aN Z8 (aO ri rg) Z7)));let dJ:=(cD (ay (gz aN Z8 (aO ri rg) Z7)));Vc (PP m)/\((cw Z1==(0:Int))=ao->aY (G (bG (aP [cq fi,cq fg])) [dF 1 ti tg,oP Z2,aa (.inl (108,[cq ri,cq rg])),aa (.inl (108,[cq fi,cq fg])),aa (.inl (75,(dt ke))),aa (.inl (108,[cq fi,cq fg])),aa (.inl (128,(bj Z1)))]))/\((cw Z1==(0:Int))=an->Vc True/\Vc True/\(decide (hU aN ke (b6 Z1)<(0:Int))=ao->Vc ((dt ke)=dt ke/\PP Z2/\jm aN k Z2 (bd Z1))/\Vc ((bj Z3)=bj Z3/\PP Z4)/\aY (G (bG (aP [cq Z5,cq Z6])) [dF 1 ti tg,oP (av (gz aN Z4 (aO ri rg) Z3)),aa (.inl (108,[cq ri,cq rg])),aa (.inl (108,[cq fi,cq fg])),aa (.inl (75,(dt ke))),aa (.inl (108,[cq Z5,cq Z6])),aa (.inl (128,(bj Z3)))]))/\(decide (hU aN ke (b6 Z1)<(0:Int))=an->Vc ((dt ke)=dt ke/\PP Z2/\jm aN k Z2 (bo Z1))/\Vc ((bj Z7)=bj Z7/\PP Z8)/\aY (G (bG (aP [cq Z9,cq dJ])) [dF 1 ti tg,oP (av (gz aN Z8 (aO ri rg) Z7)),aa (.inl (108,[cq ri,cq rg])),aa (.inl (108,[cq fi,cq fg])),aa (.inl (75,(dt ke))),aa (.inl (108,[cq Z9,cq dJ])),aa (.inl (128,(bj Z7)))])))) ?_ (by kernel_rfl)
   intro cq Z1 Z2 Z3 Z4 Z5 Z6 Z7 Z8 Z9 dJ;subst dJ Z9 Z8 Z7 Z6 Z5 Z4 Z3 Z2 Z1 cq;simp only[jm] at hd;have done:∀ (i g:Int) (m':Pl) (rest:Hp Rs),nY aN (k+1) m ⟨ri,rg⟩ ⟨fi,fg⟩ ke=(⟨i,g⟩,m')->G (.agg ⟨[.int .i64 i,.int .i64 g]⟩) ([aa (.inl (132,[.pointer (aa ⟨1,0,aj⟩),.int .i64 ti,.int .i64 tg])),aa (.inr (.inr (.inr (.db m'))))]++rest):=by
    intro i g m' rest e;subst hG;refine⟨[0,1],?_,rfl,⟨.inl rfl,?_,trivial⟩,rfl,rfl,rfl,rfl⟩
    ·simp only[e];rfl
    ·simp only[e];rfl
   clear hG
   repeat' (first|apply cZ|apply Vc.mk|apply fits.mk|intro h|apply aY.mk)
   all_goals (try simp only[sB] at *)
   all_goals first|contradiction|omega|exact jF ‹_›|exact jH ‹_›|exact jG ‹_›|exact⟨rfl,by omega⟩|exact rfl|(simp[*,-au];done)|skip
   all_goals first|assumption|(simp only[jl];assumption)|skip
   all_goals first|(rw[qN];rcases hd with hd|hd;exfalso;omega;first|exact hd.1|exact hd.2)|skip
   all_goals (refine done _ _ _ _ ?_;rw[nY];(try dsimp only [nq]);repeat' split)
   all_goals first|rfl|(exfalso;omega)|contradiction|exact ks (rB (by assumption)) rfl|(exfalso;simp_all;done)
  ·cases hx
def sK  (k:Nat):Prim Rs:=fun args hh=>match args,hh with
 |[.pointer (aa ⟨0,0,aj⟩),.agg ⟨[.int .i64 ri,.int .i64 rg]⟩,.agg ⟨kE⟩],[aa (.inl (132,[.pointer (aa ⟨1,0,aj⟩),.int .i64 ti,.int .i64 tg])),aa (.inr (.inr (.inr (.db m))))]=>aa ⟨kE=dt (fY kE)/\(PP m/\jm aN k m ⟨ri,rg⟩),.bool (nZ aN k m ⟨ri,rg⟩ (fY kE)).1,aj,[aa (.inl (132,[.pointer (aa ⟨1,0,aj⟩),.int .i64 ti,.int .i64 tg])),aa (.inr (.inr (.inr (.db (nZ aN k m ⟨ri,rg⟩ (fY kE)).2))))],[],[(0,0)]⟩
 |_,_=>aj
def PG (k:Nat):eM Rs:=[(106,bJ zN 2 (a9 Js)),(79,bJ zN 2 (a9 km)),(137,bJ zN 2 (a9 IX)),(100,bJ zN 2 (a9 (sK k)))]
theorem sj:∀ k:Nat,b8 D Tryz.prog 100 (a9 (sK k))
 |0=>by
  refine fx Tryz.f100 fun args hh x hx=>?_
  unfold sK at hx;split at hx
  ·rename_i ri rg kE ti tg m;cases hx;refine q4 fun _ hv=>?_
   exact kV (iw (iw hv))
  ·cases hx
 |k+1=>by
  have ih:=sj k;refine fx Tryz.f100 fun args hh x hx=>?_
  unfold sK at hx;split at hx
  ·rename_i ri rg kE ti tg m;cases hx;refine q4 fun _ hv=>?_
   obtain⟨j7,hv⟩:=hv;generalize fY kE=ke at *;subst j7;obtain⟨hp,hd⟩:=hv
   generalize hG:cj (R:=Rs) _ _=G;refine cK (T:=(PG k)) (show cN D Tryz.prog (PG k) from⟨aT _ _ yp,aT _ _ look_ok,aT _ _ AZ,aT _ _ ih,trivial⟩) mixed 200 ?_
   refine bM (q:=let Z6:=bk ar;let Z1:=(bu aN m (aO ri rg));let Z2:=(aL m (aO ri rg));let Z3:=(nZ aN k Z2 (bd Z1) ke);let Z4:=(nZ aN k Z2 (bo Z1) ke);let Z5:=(fH ke (bd Z1) (bo Z1) (bw Z1) (cw Z1));Vc (PP m)/\((cw Z1==(0:Int))=ao->aY (G (aE an) [dF 1 ti tg,oP Z2,aa (.inl (108,[Z6 ri,Z6 rg])),aa (.inl (75,(dt ke))),aa (.inl (128,(bj Z1)))]))/\((cw Z1==(0:Int))=an->Vc True/\Vc True/\(decide (hU aN ke (b6 Z1)<(0:Int))=ao->Vc ((dt ke)=dt ke/\PP Z2/\jm aN k Z2 (bd Z1))/\(ay Z3=ao->Vc ((bj Z1)=bj Z1/\PP (av Z3))/\aY (G (aE (ay Z3)) [dF 1 ti tg,oP (s8 aN (av Z3) (aO ri rg) Z1),aa (.inl (108,[Z6 ri,Z6 rg])),aa (.inl (75,(dt ke))),aa (.inl (128,(bj Z1)))]))/\(ay Z3=an->aY (G (aE (ay Z3)) [dF 1 ti tg,oP (av Z3),aa (.inl (108,[Z6 ri,Z6 rg])),aa (.inl (75,(dt ke))),aa (.inl (128,(bj Z1)))])))/\(decide (hU aN ke (b6 Z1)<(0:Int))=an->(decide (hU aN ke (b6 Z1)>(0:Int))=ao->Vc ((dt ke)=dt ke/\PP Z2/\jm aN k Z2 (bo Z1))/\(ay Z4=ao->Vc ((bj Z1)=bj Z1/\PP (av Z4))/\aY (G (aE (ay Z4)) [dF 1 ti tg,oP (s8 aN (av Z4) (aO ri rg) Z1),aa (.inl (108,[Z6 ri,Z6 rg])),aa (.inl (75,(dt ke))),aa (.inl (128,(bj Z1)))]))/\(ay Z4=an->aY (G (aE (ay Z4)) [dF 1 ti tg,oP (av Z4),aa (.inl (108,[Z6 ri,Z6 rg])),aa (.inl (75,(dt ke))),aa (.inl (128,(bj Z1)))])))/\(decide (hU aN ke (b6 Z1)>(0:Int))=an->Vc ((bj Z5)=bj Z5/\PP Z2)/\aY (G (aE ao) [dF 1 ti tg,oP (s8 aN Z2 (aO ri rg) Z5),aa (.inl (108,[Z6 ri,Z6 rg])),aa (.inl (75,(dt ke))),aa (.inl (128,(bj Z5)))]))))) ?_ (by kernel_rfl)
   intro Z6 Z1 Z2 Z3 Z4 Z5;subst Z5 Z4 Z3 Z2 Z1 Z6;simp only[jm] at hd;have done:∀ (b:Bool) (m':Pl) (rest:Hp Rs),nZ aN (k+1) m ⟨ri,rg⟩ ke=(b,m')->G (.bool b) ([aa (.inl (132,[.pointer (aa ⟨1,0,aj⟩),.int .i64 ti,.int .i64 tg])),aa (.inr (.inr (.inr (.db m'))))]++rest):=by
    intro b m' rest e;subst hG;refine⟨[0,1],?_,rfl,⟨.inl rfl,?_,trivial⟩,rfl,rfl,rfl,rfl⟩
    ·simp only[e];rfl
    ·simp only[e];rfl
   clear hG
   repeat' (first|apply cZ|apply Vc.mk|apply fits.mk|intro h|apply aY.mk)
   all_goals (try simp only[sB] at *)
   all_goals first|contradiction|omega|exact jF ‹_›|exact jH ‹_›|exact jG ‹_›|exact⟨rfl,by omega⟩|exact rfl|(simp[*,-au];done)|skip
   all_goals first|assumption|(simp only[jl];assumption)|skip
   all_goals first|(rw[qN];rcases hd with hd|hd;exfalso;omega;first|exact hd.1|exact hd.2)|skip
   all_goals (refine done _ _ _ ?_;rw[nZ];(try dsimp only [nq]);repeat' split)
   all_goals first|rfl|(exfalso;omega)|contradiction|exact ks (rB (by assumption)) rfl|(exfalso;simp_all;done)
  ·cases hx
def xD  (k:Nat):Prim Rs:=fun args hh=>match args,hh with
 |[.pointer (aa ⟨0,0,aj⟩),.agg ⟨[.int .i64 ri,.int .i64 rg]⟩],[aa (.inl (132,[.pointer (aa ⟨1,0,aj⟩),.int .i64 ti,.int .i64 tg])),aa (.inr (.inr (.inr (.db m))))]=>aa ⟨PP m/\xI aN k m ⟨ri,rg⟩,.tuple #[.agg ⟨[.int .i64 (kt aN k m ⟨ri,rg⟩).1.i,.int .i64 (kt aN k m ⟨ri,rg⟩).1.g]⟩,.agg ⟨[.int .i64 (kt aN k m ⟨ri,rg⟩).2.1.i,.int .i64 (kt aN k m ⟨ri,rg⟩).2.1.g]⟩],aj,[aa (.inl (132,[.pointer (aa ⟨1,0,aj⟩),.int .i64 ti,.int .i64 tg])),aa (.inr (.inr (.inr (.db (kt aN k m ⟨ri,rg⟩).2.2))))],[],[(0,0)]⟩
 |_,_=>aj
def Kt (k:Nat):eM Rs:=[(79,bJ zN 2 (a9 km)),(139,bJ zN 2 (a9 uy)),(165,bJ zN 2 (a9 (xD k)))]
theorem vy:∀ k:Nat,b8 D Tryz.prog 165 (a9 (xD k))
 |0=>by
  refine fx Tryz.f165 fun args hh x hx=>?_
  unfold xD at hx;split at hx
  ·rename_i ri rg ti tg m;cases hx;refine q4 fun _ hv=>?_
   exact kV (iw hv)
  ·cases hx
 |k+1=>by
  have ih:=vy k;refine fx Tryz.f165 fun args hh x hx=>?_
  unfold xD at hx;split at hx
  ·rename_i ri rg ti tg m;cases hx;refine q4 fun _ hv=>?_
   obtain⟨hp,hd⟩:=hv;generalize hG:cj (R:=Rs) _ _=G;refine cK (T:=(Kt k)) (show cN D Tryz.prog (Kt k) from⟨aT _ _ look_ok,aT _ _ sN,aT _ _ ih,trivial⟩) mixed 200 ?_
   refine bM (q:=let Z9:=bk ar;let Z1:=(bu aN m (aO ri rg));let Z2:=(if an=ao then !(cC (bd Z1)==(0:Int)&&(cD (bd Z1)==(0:Int)&&ao)) else cC (bd Z1)==(0:Int)&&(cD (bd Z1)==(0:Int)&&ao));let Z3:=(aL m (aO ri rg));let Z4:=(fH (b6 Z1) (ay (kt aN k Z3 (bd Z1))) (bo Z1) (bw Z1) (cw Z1));let Z5:=(av (av (kt aN k Z3 (bd Z1))));let Z6:=(cC (ay (gz aN Z5 (aO ri rg) Z4)));let Z7:=(cD (ay (gz aN Z5 (aO ri rg) Z4)));let Z8:=(ay (av (kt aN k Z3 (bd Z1))));Vc (PP m)/\(Z2=ao->aY (G (cr (aP [.agg (aP [Z9 (cC (bo Z1)),Z9 (cD (bo Z1))]),bG (aP [Z9 ri,Z9 rg])])) [dF 1 ti tg,oP Z3,aa (.inl (108,[Z9 ri,Z9 rg])),aa (.inl (108,[Z9 (cC (bo Z1)),Z9 (cD (bo Z1))])),aa (.inl (108,[Z9 ri,Z9 rg])),aa (.inl (128,(bj Z1)))]))/\(Z2=an->Vc (PP Z3/\xI aN k Z3 (bd Z1))/\Vc ((bj Z4)=bj Z4/\PP Z5)/\aY (G (cr (aP [.agg (aP [Z9 Z6,Z9 Z7]),bG (aP [Z9 (cC Z8),Z9 (cD Z8)])])) [dF 1 ti tg,oP (av (gz aN Z5 (aO ri rg) Z4)),aa (.inl (108,[Z9 ri,Z9 rg])),aa (.inl (108,[Z9 Z6,Z9 Z7])),aa (.inl (108,[Z9 (cC Z8),Z9 (cD Z8)])),aa (.inl (128,(bj Z4)))]))) ?_ (by kernel_rfl)
   intro Z9 Z1 Z2 Z3 Z4 Z5 Z6 Z7 Z8;subst Z8 Z7 Z6 Z5 Z4 Z3 Z2 Z1 Z9;simp only[xI] at hd;have done:∀ (i g i2 g2:Int) (m':Pl) (rest:Hp Rs),kt aN (k+1) m ⟨ri,rg⟩=(⟨i,g⟩,⟨i2,g2⟩,m')->G (.tuple #[.agg ⟨[.int .i64 i,.int .i64 g]⟩,.agg ⟨[.int .i64 i2,.int .i64 g2]⟩]) ([aa (.inl (132,[.pointer (aa ⟨1,0,aj⟩),.int .i64 ti,.int .i64 tg])),aa (.inr (.inr (.inr (.db m'))))]++rest):=by
    intro i g i2 g2 m' rest e;subst hG;refine⟨[0,1],?_,rfl,⟨.inl rfl,?_,trivial⟩,rfl,rfl,rfl,rfl⟩
    ·simp only[e];rfl
    ·simp only[e];rfl
   clear hG
   try simp only[Ln,BD]
   repeat' (first|apply cZ|apply Vc.mk|apply fits.mk|intro h|apply aY.mk)
   all_goals (try simp only[sB] at *)
   all_goals first|contradiction|omega|exact jF ‹_›|exact jH ‹_›|exact jG ‹_›|exact⟨rfl,by omega⟩|exact rfl|(simp[*,-au];done)|skip
   all_goals first|assumption|(simp only[jl];assumption)|skip
   all_goals first|(rw[DK];first|assumption|(rw[if_neg (by assumption),DK] at hd;exact hd))|skip
   all_goals (refine done _ _ _ _ _ _ ?_;rw[kt];(try dsimp only [nq]);repeat' split)
   all_goals first|rfl|(exfalso;omega)|contradiction|exact ks (rB (by assumption)) rfl|(exfalso;simp_all;done)
  ·cases hx
def Bh  (k:Nat):Prim Rs:=fun args hh=>match args,hh with
 |[.pointer (aa ⟨0,0,aj⟩),.agg ⟨[.int .i64 ai,.int .i64 ag]⟩,.agg ⟨[.int .i64 bi,.int .i64 bg]⟩,.agg ⟨[.int .i64 ci,.int .i64 cg]⟩],[aa (.inl (132,[.pointer (aa ⟨1,0,aj⟩),.int .i64 ti,.int .i64 tg])),aa (.inr (.inr (.inr (.db m))))]=>aa ⟨PP m/\vX aN k m ⟨ai,ag⟩ ⟨bi,bg⟩ ⟨ci,cg⟩,.agg ⟨[.int .i64 (kJ aN k m ⟨ai,ag⟩ ⟨bi,bg⟩ ⟨ci,cg⟩).1.i,.int .i64 (kJ aN k m ⟨ai,ag⟩ ⟨bi,bg⟩ ⟨ci,cg⟩).1.g]⟩,aj,[aa (.inl (132,[.pointer (aa ⟨1,0,aj⟩),.int .i64 ti,.int .i64 tg])),aa (.inr (.inr (.inr (.db (kJ aN k m ⟨ai,ag⟩ ⟨bi,bg⟩ ⟨ci,cg⟩).2))))],[],[(0,0)]⟩
 |_,_=>aj
def Pf (k:Nat):eM Rs:=[(1000000000,lW),(79,bJ zN 2 (a9 km)),(139,bJ zN 2 (a9 uy)),(158,bJ zN 2 (a9 Bg)),(166,bJ zN 2 (a9 (Bh k)))]
theorem yj:∀ k:Nat,b8 D Tryz.prog 166 (a9 (Bh k))
 |0=>by
  refine fx Tryz.f166 fun args hh x hx=>?_
  unfold Bh at hx;split at hx
  ·rename_i ai ag bi bg ci cg ti tg m;cases hx;refine q4 fun _ hv=>?_
   exact kV (iw hv)
  ·cases hx
 |k+1=>by
  have ih:=yj k;refine fx Tryz.f166 fun args hh x hx=>?_
  unfold Bh at hx;split at hx
  ·rename_i ai ag bi bg ci cg ti tg m;cases hx;refine q4 fun _ hv=>?_
   obtain⟨hp,hd⟩:=hv;generalize hG:cj (R:=Rs) _ _=G;refine cK (T:=(Pf k)) (show cN D Tryz.prog (Pf k) from⟨iF,aT _ _ look_ok,aT _ _ sN,aT _ _ yc,aT _ _ ih,trivial⟩) mixed 200 ?_
   refine bM (q:=let gm:=bk ar;let Z1:=(aO ai ag);let Z2:=(bu aN m Z1);let Z3:=(aO ci cg);let Z4:=(bu aN (aL m Z1) Z3);let Z5:=(cw Z2>ck ar (cw Z4+(1:Int)));let Z6:=(aL (aL m Z1) Z3);let Z7:=(aO bi bg);let Z8:=(fH (b6 Z2) (bd Z2) (ay (kJ aN k Z6 (bo Z2) Z7 Z3)) (bw Z2) (cw Z2));let Z9:=(gz aN (av (kJ aN k Z6 (bo Z2) Z7 Z3)) Z1 Z8);let dJ:=(cw Z4>ck ar (cw Z2+(1:Int)));let cq:=(fH (b6 Z4) (ay (kJ aN k Z6 Z1 Z7 (bd Z4))) (bo Z4) (bw Z4) (cw Z4));let dD:=(gz aN (av (kJ aN k Z6 Z1 Z7 (bd Z4))) Z3 cq);let fC:=(fH (b6 (bu aN Z6 Z7)) Z1 Z3 (bw (bu aN Z6 Z7)) (cw (bu aN Z6 Z7)));Vc (PP m)/\Vc (PP (aL m Z1))/\Vc True/\(decide Z5=ao->Vc (PP Z6/\vX aN k Z6 (bo Z2) Z7 Z3)/\Vc ((bj Z8)=bj Z8/\PP (av (kJ aN k Z6 (bo Z2) Z7 Z3)))/\aY (G (bG (aP [gm (cC (ay Z9)),gm (cD (ay Z9))])) [dF 1 ti tg,oP (av Z9),aa (.inl (108,[gm ai,gm ag])),aa (.inl (108,[gm bi,gm bg])),aa (.inl (108,[gm ci,gm cg])),aa (.inl (108,[gm (cC (ay Z9)),gm (cD (ay Z9))])),aa (.inl (128,(bj Z8))),aa (.inl (128,(bj Z4)))]))/\(decide Z5=an->Vc True/\(decide dJ=ao->Vc (PP Z6/\vX aN k Z6 Z1 Z7 (bd Z4))/\Vc ((bj cq)=bj cq/\PP (av (kJ aN k Z6 Z1 Z7 (bd Z4))))/\aY (G (bG (aP [gm (cC (ay dD)),gm (cD (ay dD))])) [dF 1 ti tg,oP (av dD),aa (.inl (108,[gm ai,gm ag])),aa (.inl (108,[gm bi,gm bg])),aa (.inl (108,[gm ci,gm cg])),aa (.inl (108,[gm (cC (ay dD)),gm (cD (ay dD))])),aa (.inl (128,(bj Z2))),aa (.inl (128,(bj cq)))]))/\(decide dJ=an->Vc (PP Z6)/\Vc ((bj fC)=bj fC/\(bj Z2)=bj Z2/\(bj Z4)=bj Z4/\PP (aL Z6 Z7))/\aY (G (bG (aP [gm bi,gm bg])) [dF 1 ti tg,oP (Ew aN (aL Z6 Z7) Z7 fC Z2 Z4),aa (.inl (108,[gm ai,gm ag])),aa (.inl (108,[gm bi,gm bg])),aa (.inl (108,[gm ci,gm cg])),aa (.inl (108,[gm bi,gm bg])),aa (.inl (128,(bj Z2))),aa (.inl (128,(bj Z4))),aa (.inl (128,(bj fC)))])))) ?_ (by kernel_rfl)
   intro gm Z1 Z2 Z3 Z4 Z5 Z6 Z7 Z8 Z9 dJ cq dD fC;subst fC dD cq dJ Z9 Z8 Z7 Z6 Z5 Z4 Z3 Z2 Z1 gm;rw[vX] at hd
   dsimp only [nq] at hd
   have done:∀ (i g:Int) (m':Pl) (rest:Hp Rs),kJ aN (k+1) m ⟨ai,ag⟩ ⟨bi,bg⟩ ⟨ci,cg⟩=(⟨i,g⟩,m')->G (.agg ⟨[.int .i64 i,.int .i64 g]⟩) ([aa (.inl (132,[.pointer (aa ⟨1,0,aj⟩),.int .i64 ti,.int .i64 tg])),aa (.inr (.inr (.inr (.db m'))))]++rest):=by
    intro i g m' rest e;subst hG;refine⟨[0,1],?_,rfl,⟨.inl rfl,?_,trivial⟩,rfl,rfl,rfl,rfl⟩
    ·simp only[e];rfl
    ·simp only[e];rfl
   clear hG
   repeat' (first|apply cZ|apply Vc.mk|apply fits.mk|intro h|apply aY.mk)
   all_goals (try simp only[sB] at *)
   all_goals first|contradiction|omega|exact jF ‹_›|exact jH ‹_›|exact jG ‹_›|exact⟨rfl,by omega⟩|exact rfl|(simp[*,-au];done)|skip
   all_goals first|assumption|(simp only[jl];assumption)|skip
   all_goals first|(rw[if_pos (by assumption)] at hd;exact hd)|(rw[if_neg (by omega),if_pos (by assumption)] at hd;exact hd)|skip
   all_goals (refine done _ _ _ _ ?_;rw[kJ];(try dsimp only [nq]);repeat' split)
   all_goals first|rfl|(exfalso;omega)|contradiction|exact ks (rB (by assumption)) rfl|(exfalso;simp_all;done)
  ·cases hx
def IF (K:Nat):Prim Rs:=fun args hh=>match args,hh with
 |[.pointer (aa ⟨0,0,aj⟩),.agg ⟨[.int .i64 ai,.int .i64 ag]⟩,.agg ⟨[.int .i64 ci,.int .i64 cg]⟩],[aa (.inl (132,[.pointer (aa ⟨1,0,aj⟩),.int .i64 ti,.int .i64 tg])),aa (.inr (.inr (.inr (.db m))))]=>aa ⟨PP m/\FX aN K m ⟨ai,ag⟩ ⟨ci,cg⟩,.agg ⟨[.int .i64 (sH aN K m ⟨ai,ag⟩ ⟨ci,cg⟩).1.i,.int .i64 (sH aN K m ⟨ai,ag⟩ ⟨ci,cg⟩).1.g]⟩,aj,[aa (.inl (132,[.pointer (aa ⟨1,0,aj⟩),.int .i64 ti,.int .i64 tg])),aa (.inr (.inr (.inr (.db (sH aN K m ⟨ai,ag⟩ ⟨ci,cg⟩).2))))],[],[(0,0)]⟩
 |_,_=>aj
def PN (K:Nat):eM Rs:=[(165,bJ zN 2 (a9 (xD K))),(166,bJ zN 2 (a9 (Bh K)))]
theorem HH (K:Nat):b8 D Tryz.prog 146 (a9 (IF K)):=by
 refine fx Tryz.f146 fun args hh x hx=>?_
 unfold IF at hx;split at hx
 ·rename_i ai ag ci cg ti tg m;cases hx;refine q4 fun _ hv=>?_
  obtain⟨hp,hd⟩:=hv;generalize hG:cj (R:=Rs) _ _=G;refine cK (T:=(PN K)) (show cN D Tryz.prog (PN K) from⟨aT _ _ (vy K),aT _ _ (yj K),trivial⟩) mixed 200 ?_
  refine bM (q:=let Z7:=bk ar;let Z1:=(if an=ao then !(ci==(0:Int)&&(cg==(0:Int)&&ao)) else ci==(0:Int)&&(cg==(0:Int)&&ao));let Z2:=(av (av (kt aN K m (aO ci cg))));let Z3:=(ay (av (kt aN K m (aO ci cg))));let Z4:=(ay (kt aN K m (aO ci cg)));let Z5:=(cC (ay (kJ aN K Z2 (aO ai ag) Z3 Z4)));let Z6:=(cD (ay (kJ aN K Z2 (aO ai ag) Z3 Z4)));(Z1=ao->aY (G (bG (aP [Z7 ai,Z7 ag])) [dF 1 ti tg,oP m,aa (.inl (108,[Z7 ai,Z7 ag])),aa (.inl (108,[Z7 ci,Z7 cg])),aa (.inl (108,[Z7 ai,Z7 ag]))]))/\(Z1=an->Vc (PP m/\xI aN K m (aO ci cg))/\Vc (PP Z2/\vX aN K Z2 (aO ai ag) Z3 Z4)/\aY (G (bG (aP [Z7 Z5,Z7 Z6])) [dF 1 ti tg,oP (av (kJ aN K Z2 (aO ai ag) Z3 Z4)),aa (.inl (108,[Z7 ai,Z7 ag])),aa (.inl (108,[Z7 ci,Z7 cg])),aa (.inl (108,[Z7 Z5,Z7 Z6])),aa (.inl (108,[Z7 (cC Z4),Z7 (cD Z4)])),aa (.inl (108,[Z7 (cC Z3),Z7 (cD Z3)]))]))) ?_ (by kernel_rfl)
  intro Z7 Z1 Z2 Z3 Z4 Z5 Z6;subst Z6 Z5 Z4 Z3 Z2 Z1 Z7;unfold FX at hd;have done:∀ (i g:Int) (m':Pl) (rest:Hp Rs),sH aN K m ⟨ai,ag⟩ ⟨ci,cg⟩=(⟨i,g⟩,m')->G (.agg ⟨[.int .i64 i,.int .i64 g]⟩) ([aa (.inl (132,[.pointer (aa ⟨1,0,aj⟩),.int .i64 ti,.int .i64 tg])),aa (.inr (.inr (.inr (.db m'))))]++rest):=by
   intro i g m' rest e;subst hG;refine⟨[0,1],?_,rfl,⟨.inl rfl,?_,trivial⟩,rfl,rfl,rfl,rfl⟩
   ·simp only[e];rfl
   ·simp only[e];rfl
  clear hG
  try simp only[Ln,BD]
  repeat' (first|apply cZ|apply Vc.mk|apply fits.mk|intro h|apply aY.mk)
  all_goals (try simp only[sB] at *)
  all_goals first|contradiction|omega|exact jF ‹_›|exact jH ‹_›|exact jG ‹_›|exact⟨rfl,by omega⟩|exact rfl|(simp[*,-au];done)|skip
  all_goals first|assumption|(simp only[jl];assumption)|skip
  all_goals first|(rw[if_neg (by assumption)] at hd;first|exact hd.1|exact hd.2)|skip
  all_goals (refine done _ _ _ _ ?_;unfold sH;(try dsimp only [nq]);repeat' split)
  all_goals first|rfl|(exfalso;omega)|contradiction|exact ks (rB (by assumption)) rfl|(exfalso;simp_all;done)
 ·cases hx
def A8 (K:Nat) (k:Nat):Prim Rs:=fun args hh=>match args,hh with
 |[.pointer (aa ⟨0,0,aj⟩),.agg ⟨[.int .i64 ri,.int .i64 rg]⟩,.agg ⟨kE⟩],[aa (.inl (132,[.pointer (aa ⟨1,0,aj⟩),.int .i64 ti,.int .i64 tg])),aa (.inr (.inr (.inr (.db m))))]=>aa ⟨kE=dt (fY kE)/\(PP m/\s9 aN K k m ⟨ri,rg⟩ (fY kE)),.tuple #[.agg ⟨[.int .i64 (jE aN K k m ⟨ri,rg⟩ (fY kE)).1.i,.int .i64 (jE aN K k m ⟨ri,rg⟩ (fY kE)).1.g]⟩,.agg ⟨[.int .i64 (jE aN K k m ⟨ri,rg⟩ (fY kE)).2.1.i,.int .i64 (jE aN K k m ⟨ri,rg⟩ (fY kE)).2.1.g]⟩],aj,[aa (.inl (132,[.pointer (aa ⟨1,0,aj⟩),.int .i64 ti,.int .i64 tg])),aa (.inr (.inr (.inr (.db (jE aN K k m ⟨ri,rg⟩ (fY kE)).2.2))))],[],[(0,0)]⟩
 |_,_=>aj
def PW (K:Nat) (k:Nat):eM Rs:=[(106,bJ zN 2 (a9 Js)),(79,bJ zN 2 (a9 km)),(139,bJ zN 2 (a9 uy)),(146,bJ zN 2 (a9 (IF K))),(115,bJ zN 2 (a9 (A8 K k)))]
theorem yh (K:Nat):∀ k:Nat,b8 D Tryz.prog 115 (a9 (A8 K k))
 |0=>by
  refine fx Tryz.f115 fun args hh x hx=>?_
  unfold A8 at hx;split at hx
  ·rename_i ri rg kE ti tg m;cases hx;refine q4 fun _ hv=>?_
   exact kV (iw (iw hv))
  ·cases hx
 |k+1=>by
  have ih:=yh K k;refine fx Tryz.f115 fun args hh x hx=>?_
  unfold A8 at hx;split at hx
  ·rename_i ri rg kE ti tg m;cases hx;refine q4 fun _ hv=>?_
   obtain⟨j7,hv⟩:=hv;generalize fY kE=ke at *;subst j7;obtain⟨hp,hd⟩:=hv
   generalize hG:cj (R:=Rs) _ _=G;refine cK (T:=(PW K k)) (show cN D Tryz.prog (PW K k) from⟨aT _ _ yp,aT _ _ look_ok,aT _ _ sN,aT _ _ (HH K),aT _ _ ih,trivial⟩) mixed 200 ?_
   refine bM (q:=let e8:=bk ar;let Z1:=(bu aN m (aO ri rg));let Z2:=(aP [e8 ri,e8 rg]);let Z3:=(aL m (aO ri rg));let Z4:=(ay (av (jE aN K k Z3 (bd Z1) ke)));let Z5:=(if an=ao then !(cC Z4==(0:Int)&&(cD Z4==(0:Int)&&ao)) else cC Z4==(0:Int)&&(cD Z4==(0:Int)&&ao));let Z6:=(av (av (jE aN K k Z3 (bd Z1) ke)));let Z7:=(fH (b6 Z1) (ay (jE aN K k Z3 (bd Z1) ke)) (bo Z1) (bw Z1) (cw Z1));let Z8:=(cC (ay (gz aN Z6 (aO ri rg) Z7)));let Z9:=(cD (ay (gz aN Z6 (aO ri rg) Z7)));let dJ:=(ay (av (jE aN K k Z3 (bo Z1) ke)));let cq:=(if an=ao then !(cC dJ==(0:Int)&&(cD dJ==(0:Int)&&ao)) else cC dJ==(0:Int)&&(cD dJ==(0:Int)&&ao));let dD:=(av (av (jE aN K k Z3 (bo Z1) ke)));let fC:=(fH (b6 Z1) (bd Z1) (ay (jE aN K k Z3 (bo Z1) ke)) (bw Z1) (cw Z1));let gm:=(cC (ay (gz aN dD (aO ri rg) fC)));let me:=(cD (ay (gz aN dD (aO ri rg) fC)));let iI:=(ay (sH aN K Z3 (bd Z1) (bo Z1)));Vc (PP m)/\((cw Z1==(0:Int))=ao->aY (G (cr (aP [.agg Z2,bG (aP [e8 0,e8 0])])) [dF 1 ti tg,oP Z3,aa (.inl (108,[e8 ri,e8 rg])),aa (.inl (75,(dt ke))),aa (.inl (108,[e8 ri,e8 rg])),aa (.inl (108,[e8 0,e8 0])),aa (.inl (128,(bj Z1)))]))/\((cw Z1==(0:Int))=an->Vc True/\Vc True/\(decide (hU aN ke (b6 Z1)<(0:Int))=ao->Vc ((dt ke)=dt ke/\PP Z3/\s9 aN K k Z3 (bd Z1) ke)/\(Z5=ao->aY (G (cr (aP [.agg Z2,bG (aP [e8 (cC Z4),e8 (cD Z4)])])) [dF 1 ti tg,oP Z6,aa (.inl (108,[e8 ri,e8 rg])),aa (.inl (75,(dt ke))),aa (.inl (108,[e8 ri,e8 rg])),aa (.inl (108,[e8 (cC Z4),e8 (cD Z4)])),aa (.inl (128,(bj Z7)))]))/\(Z5=an->Vc ((bj Z7)=bj Z7/\PP Z6)/\aY (G (cr (aP [.agg (aP [e8 Z8,e8 Z9]),bG (aP [e8 (cC Z4),e8 (cD Z4)])])) [dF 1 ti tg,oP (av (gz aN Z6 (aO ri rg) Z7)),aa (.inl (108,[e8 ri,e8 rg])),aa (.inl (75,(dt ke))),aa (.inl (108,[e8 Z8,e8 Z9])),aa (.inl (108,[e8 (cC Z4),e8 (cD Z4)])),aa (.inl (128,(bj Z7)))])))/\(decide (hU aN ke (b6 Z1)<(0:Int))=an->(decide (hU aN ke (b6 Z1)>(0:Int))=ao->Vc ((dt ke)=dt ke/\PP Z3/\s9 aN K k Z3 (bo Z1) ke)/\(cq=ao->aY (G (cr (aP [.agg Z2,bG (aP [e8 (cC dJ),e8 (cD dJ)])])) [dF 1 ti tg,oP dD,aa (.inl (108,[e8 ri,e8 rg])),aa (.inl (75,(dt ke))),aa (.inl (108,[e8 ri,e8 rg])),aa (.inl (108,[e8 (cC dJ),e8 (cD dJ)])),aa (.inl (128,(bj fC)))]))/\(cq=an->Vc ((bj fC)=bj fC/\PP dD)/\aY (G (cr (aP [.agg (aP [e8 gm,e8 me]),bG (aP [e8 (cC dJ),e8 (cD dJ)])])) [dF 1 ti tg,oP (av (gz aN dD (aO ri rg) fC)),aa (.inl (108,[e8 ri,e8 rg])),aa (.inl (75,(dt ke))),aa (.inl (108,[e8 gm,e8 me])),aa (.inl (108,[e8 (cC dJ),e8 (cD dJ)])),aa (.inl (128,(bj fC)))])))/\(decide (hU aN ke (b6 Z1)>(0:Int))=an->Vc (PP Z3/\FX aN K Z3 (bd Z1) (bo Z1))/\aY (G (cr (aP [.agg (aP [e8 (cC iI),e8 (cD iI)]),bG Z2])) [dF 1 ti tg,oP (av (sH aN K Z3 (bd Z1) (bo Z1))),aa (.inl (108,[e8 ri,e8 rg])),aa (.inl (75,(dt ke))),aa (.inl (108,[e8 (cC iI),e8 (cD iI)])),aa (.inl (108,[e8 ri,e8 rg])),aa (.inl (128,(bj Z1)))]))))) ?_ (by kernel_rfl)
   intro e8 Z1 Z2 Z3 Z4 Z5 Z6 Z7 Z8 Z9 dJ cq dD fC gm me iI;subst iI me gm fC dD cq dJ Z9 Z8 Z7 Z6 Z5 Z4 Z3 Z2 Z1 e8;rw[s9] at hd;have done:∀ (i g i2 g2:Int) (m':Pl) (rest:Hp Rs),jE aN K (k+1) m ⟨ri,rg⟩ ke=(⟨i,g⟩,⟨i2,g2⟩,m')->G (.tuple #[.agg ⟨[.int .i64 i,.int .i64 g]⟩,.agg ⟨[.int .i64 i2,.int .i64 g2]⟩]) ([aa (.inl (132,[.pointer (aa ⟨1,0,aj⟩),.int .i64 ti,.int .i64 tg])),aa (.inr (.inr (.inr (.db m'))))]++rest):=by
    intro i g i2 g2 m' rest e;subst hG;refine⟨[0,1],?_,rfl,⟨.inl rfl,?_,trivial⟩,rfl,rfl,rfl,rfl⟩
    ·simp only[e];rfl
    ·simp only[e];rfl
   clear hG
   try simp only[Ln,BD]
   repeat' (first|apply cZ|apply Vc.mk|apply fits.mk|intro h|apply aY.mk)
   all_goals (try simp only[sB] at *)
   all_goals first|contradiction|omega|exact jF ‹_›|exact jH ‹_›|exact jG ‹_›|exact⟨rfl,by omega⟩|exact rfl|(simp[*,-au];done)|skip
   all_goals first|assumption|(simp only[jl];assumption)|skip
   all_goals first|(rw[if_neg (by assumption),if_pos (by assumption)] at hd;exact hd)|(rw[if_neg (by assumption),if_neg (by omega),if_pos (by assumption)] at hd;exact hd)|(rw[if_neg (by assumption),if_neg (by omega),if_neg (by omega)] at hd;exact hd)|skip
   all_goals (refine done _ _ _ _ _ _ ?_;rw[jE];(try dsimp only [nq]);repeat' split)
   all_goals first|rfl|(exfalso;omega)|contradiction|exact ks (rB (by assumption)) rfl|(exfalso;simp_all;done)
  ·cases hx
def u7  (k:Nat):Prim Rs:=fun args hh=>match args,hh with
 |[.pointer (aa ⟨0,0,aj⟩),.slice (aa ⟨1,0,aa 4000⟩) n cp,.agg ⟨[.int .i64 ri,.int .i64 rg]⟩],[aa (.inl (132,[.pointer (aa ⟨2,0,aj⟩),.int .i64 ti,.int .i64 tg])),aa (.inr (.inl (75,⟨[.int .i64 0,.int .i64 0,.bool an,.int .i64 0],n2,[⟨a0,[],[]⟩,⟨a1,[],[]⟩,⟨[],a2,[]⟩,⟨a3,[],[]⟩]⟩))),aa (.inr (.inr (.inr (.db m))))]=>aa ⟨(PP m/\n2=n/\a0.length=n/\a1.length=n/\a2.length=n/\a3.length=n/\n+(b5 aN k m ⟨ri,rg⟩).1.length<900000)/\jm aN k m ⟨ri,rg⟩,.slice (aa ⟨3,0,aa 4000⟩) (n+(b5 aN k m ⟨ri,rg⟩).1.length) (if(b5 aN k m ⟨ri,rg⟩).1.length=0 then cp else 0),aj,[aa (.inl (132,[.pointer (aa ⟨2,0,aj⟩),.int .i64 ti,.int .i64 tg])),aj,aa (.inr (.inr (.inr (.db (b5 aN k m ⟨ri,rg⟩).2)))),aa (.inr (.inl (75,⟨[.int .i64 0,.int .i64 0,.bool an,.int .i64 0],(n+(b5 aN k m ⟨ri,rg⟩).1.length),[⟨(a0++(b5 aN k m ⟨ri,rg⟩).1.map fun e=>e.it.k),[],[]⟩,⟨(a1++(b5 aN k m ⟨ri,rg⟩).1.map fun e=>e.it.i),[],[]⟩,⟨[],(a2++(b5 aN k m ⟨ri,rg⟩).1.map fun e=>e.kK),[]⟩,⟨(a3++(b5 aN k m ⟨ri,rg⟩).1.map fun e=>e.time),[],[]⟩]⟩)))],[],[(0,0)]⟩
 |_,_=>aj
def HD (k:Nat):eM Rs:=[(79,bJ zN 2 (a9 km)),(93,bJ zN 2 (a9 (u7 k)))]
theorem qV:∀ k:Nat,b8 D Tryz.prog 93 (a9 (u7 k))
 |0=>by
  refine fx Tryz.f93 fun args hh x hx=>?_
  unfold u7 at hx;split at hx
  ·rename_i n cp ri rg ti tg n2 a0 a1 a2 a3 m;cases hx;refine q4 fun _ hv=>?_
   exact kV (iw hv)
  ·cases hx
 |k+1=>by
  have ih:=qV k;refine fx Tryz.f93 fun args hh x hx=>?_
  unfold u7 at hx;split at hx
  ·rename_i n cp ri rg ti tg n2 a0 a1 a2 a3 m;cases hx;refine q4 fun _ hv=>?_
   obtain⟨⟨hp,rfl,ha0,ha1,ha2,ha3,hb⟩,hd⟩:=hv;generalize hG:cj (R:=Rs) _ _=G;refine cK (T:=(HD k)) (show cN D Tryz.prog (HD k) from⟨aT _ _ look_ok,aT _ _ ih,trivial⟩) mixed 200 ?_
   refine bM (q:=let Z1:=(bu aN m (aO ri rg));let Z2:=(dt (jD (cX 0 0) an 0));let Z3:=(aL m (aO ri rg));let Z4:=(ay (b5 aN k Z3 (bd Z1)));let Z5:=(n2+ae Z4);let Z6:=(av (b5 aN k Z3 (bd Z1)));let Z7:=(b6 Z1);let Z8:=(ay (b5 aN k Z6 (bo Z1)));Vc (PP m)/\((cw Z1==(0:Int))=ao->aY (G (br (aa ⟨1,0,aa 4000⟩) n2 cp) [dF 2 ti tg,aa (.inr (.inl (75,Row.mk Z2 n2 [aW.mk a0 [] [],aW.mk a1 [] [],aW.mk [] a2 [],aW.mk a3 [] []]))),oP Z3,aa (.inl (108,[.int ar ri,.int ar rg])),aa (.inr (.inl (75,Row.mk Z2 0 [aW.mk [] [] [],aW.mk [] [] [],aW.mk [] [] [],aW.mk [] [] []]))),aa (.inl (128,(bj Z1)))]))/\((cw Z1==(0:Int))=an->Vc ((PP Z3/\n2=n2/\ae a0=n2/\ae a1=n2/\ae a2=n2/\ae a3=n2/\n2+ae Z4<900000)/\jm aN k Z3 (bd Z1))/\Vc (0+Z5≤n2+ae Z4/\1≤1/\(n2+ae Z4+1)*32≤140737488355328/\n2+ae Z4+1≤140737488355328)/\Vc ((PP Z6/\n2+ae Z4+1=n2+ae Z4+1/\ae (cut (a0++aw (fun e=>nv (lU e)) Z4) 0 Z5++cut [nv (lU Z7)] 0 1)=n2+ae Z4+1/\ae (cut (a1++aw (fun e=>nw (lU e)) Z4) 0 Z5++cut [nw (lU Z7)] 0 1)=n2+ae Z4+1/\ae (cut (a2++aw (fun e=>po e) Z4) 0 Z5++cut [po Z7] 0 1)=n2+ae Z4+1/\ae (cut (a3++aw (fun e=>qO e) Z4) 0 Z5++cut [qO Z7] 0 1)=n2+ae Z4+1/\n2+ae Z4+1+ae Z8<900000)/\jm aN k Z6 (bo Z1))/\aY (G (br (aa ⟨9,0,aa 4000⟩) (n2+ae Z4+1+ae Z8) (if ae Z8=0 then 0 else 0)) [dF 2 ti tg,aj,oP (av (b5 aN k Z6 (bo Z1))),aa (.inl (108,[.int ar ri,.int ar rg])),aa (.inr (.inl (75,Row.mk Z2 0 [aW.mk [] [] [],aW.mk [] [] [],aW.mk [] [] [],aW.mk [] [] []]))),aa (.inl (128,(bj Z1))),aj,aa (.inr (.inl (75,Row.mk Z2 1 [aW.mk [nv (lU Z7)] [] [],aW.mk [nw (lU Z7)] [] [],aW.mk [] [po Z7] [],aW.mk [qO Z7] [] []]))),aj,aa (.inr (.inl (75,Row.mk Z2 (n2+ae Z4+1+ae Z8) [aW.mk (cut (a0++aw (fun e=>nv (lU e)) Z4) 0 Z5++cut [nv (lU Z7)] 0 1++aw (fun e=>nv (lU e)) Z8) [] [],aW.mk (cut (a1++aw (fun e=>nw (lU e)) Z4) 0 Z5++cut [nw (lU Z7)] 0 1++aw (fun e=>nw (lU e)) Z8) [] [],aW.mk [] (cut (a2++aw (fun e=>po e) Z4) 0 Z5++cut [po Z7] 0 1++aw (fun e=>po e) Z8) [],aW.mk (cut (a3++aw (fun e=>qO e) Z4) 0 Z5++cut [qO Z7] 0 1++aw (fun e=>qO e) Z8) [] []])))]))) ?_ (by kernel_rfl)
   intro Z1 Z2 Z3 Z4 Z5 Z6 Z7 Z8;subst Z8 Z7 Z6 Z5 Z4 Z3 Z2 Z1;simp only[jm] at hd;subst hG;have c1:∀ x:Int,cut [x] 0 1=[x]:=fun x=>rfl
   have c2:∀ x:Bool,cut [x] 0 1=[x]:=fun x=>rfl
   have e0:(bu aN m (⟨ri,rg⟩:bn)).h=0->b5 aN (k+1) m (⟨ri,rg⟩:bn)=([],aL m (⟨ri,rg⟩:bn)):=fun h=>by rw[b5,if_pos h]
   have e1:(bu aN m (⟨ri,rg⟩:bn)).h≠0->b5 aN (k+1) m (⟨ri,rg⟩:bn)=((b5 aN k (aL m (⟨ri,rg⟩:bn)) (bu aN m (⟨ri,rg⟩:bn)).l).1++(bu aN m (⟨ri,rg⟩:bn)).e::(b5 aN k (b5 aN k (aL m (⟨ri,rg⟩:bn)) (bu aN m (⟨ri,rg⟩:bn)).l).2 (bu aN m (⟨ri,rg⟩:bn)).r).1,(b5 aN k (b5 aN k (aL m (⟨ri,rg⟩:bn)) (bu aN m (⟨ri,rg⟩:bn)).l).2 (bu aN m (⟨ri,rg⟩:bn)).r).2):=fun h=>by rw[b5,if_neg h]
   have Mx:(bu aN m (⟨ri,rg⟩:bn)).h≠0->n2+((b5 aN k (aL m (⟨ri,rg⟩:bn)) (bu aN m (⟨ri,rg⟩:bn)).l).1.length+((b5 aN k (b5 aN k (aL m (⟨ri,rg⟩:bn)) (bu aN m (⟨ri,rg⟩:bn)).l).2 (bu aN m (⟨ri,rg⟩:bn)).r).1.length+1))<900000:=fun h=>by rw[e1 h] at hb;simpa using hb
   generalize hx:b5 aN k (aL m (⟨ri,rg⟩:bn)) (bu aN m (⟨ri,rg⟩:bn)).l=x at *
   generalize hy:b5 aN k x.2 (bu aN m (⟨ri,rg⟩:bn)).r=y at *
   have hxp:PP x.2:=by rw[← hx];exact Gv.qV.2 (jn.2 hp)
   have xj:∀ q,jm aN k x.2 q↔jm aN k m q:=fun q=>by rw[← hx,Gv.Mv,qN]
   simp only[fK (show(a0++x.1.map fun e=>e.it.k).length=n2+x.1.length by simp[ha0]),fK (show(a1++x.1.map fun e=>e.it.i).length=n2+x.1.length by simp[ha1]),fK (show(a2++x.1.map fun e=>e.kK).length=n2+x.1.length by simp[ha2]),fK (show(a3++x.1.map fun e=>e.time).length=n2+x.1.length by simp[ha3]),c1,c2,qN,xj]
   repeat' (first|apply cZ|apply Vc.mk|apply fits.mk|intro h|apply aY.mk)
   all_goals (try simp only[sB] at *)
   all_goals first|contradiction|omega|exact jF ‹_›|exact jH ‹_›|exact jG ‹_›|exact⟨rfl,by omega⟩|exact rfl|(simp[*,-au];done)|skip
   all_goals first|omega|assumption|exact jn.2 hp|(rcases hd with hd|hd;exfalso;omega;first|exact hd.1|exact hd.2)|(have:=Mx (by assumption);omega)|(simp;omega)|skip
   ·have h0:(bu aN m (⟨ri,rg⟩:bn)).h=0:=by assumption
    rw[e0 h0];simp only[jX,if_true];refine⟨[0,1,2,1],?_,rfl,?_,rfl,rfl,rfl,(by kernel_rfl)⟩
    ·rfl
    ·simp[dt,ur,Bc,nth,gg,w6,pQ,ma,gr,wj,uN,Cj,z5,Gk,zq,Bk]
   ·have h0:(bu aN m (⟨ri,rg⟩:bn)).h≠0:=by assumption
    rw[e1 h0];have e2:n2+(x.1++(bu aN m (⟨ri,rg⟩:bn)).e::y.1).length=n2+x.1.length+1+y.1.length:=by simp;omega
    have e3:(x.1++(bu aN m (⟨ri,rg⟩:bn)).e::y.1).length≠0:=by simp
    simp only[e2,if_neg e3,ite_self];refine⟨[0,1,2,9],?_,rfl,?_,rfl,rfl,rfl,(by kernel_rfl)⟩
    ·rfl
    ·simp[dt,ur,Bc,nth,gg,w6,pQ,ma,gr,wj,uN,Cj,z5,Gk,zq,Bk]
     all_goals first|rfl|omega|skip
  ·cases hx
set_option maxHeartbeats 16000000
def Vh:eM Rs:=[(131,bJ zN 2 (a9 M'))]
theorem Re:cN D Tryz.prog Vh:=⟨aT _ _ VL,trivial⟩
def I0:Prim Rs:=fun args hh=>match args,hh with
 |[.int .i64 c],[]=>aa ⟨True,.pointer (aa ⟨0,0,aj⟩),aj,[aa (.inl (132,[.pointer (aa ⟨1,0,aj⟩),.int .i64 Gv.r0.i,.int .i64 Gv.r0.g])),aa (.inr (.inr (.inr (.db ⟨[],[],[],[],0,min (max c 0) 16777216,0⟩))))],[],[(0,0)]⟩
 |_,_=>aj
theorem Sa:b8 D Tryz.prog 91 (a9 I0):=by
 refine fx Tryz.f91 fun args hh x hx=>?_
 unfold I0 at hx;split at hx
 ·rename_i c;cases hx;refine q4 fun _ hv=>?_
  generalize hG:cj (R:=Rs) _ _=G;refine cK (T:=Vh) Re mixed 200 ?_;refine bM (q:=Vc True/\aY (G (aC (aa ⟨1,0,aj⟩)) [oP (Gv.PM.mk [] [] [] [] (0:Int) (min (max c (0:Int)) (16777216:Int)) (0:Int)),dF 0 0 0])) ?_ (by kernel_rfl)
  subst hG
  repeat' (first|apply cZ|apply Vc.mk|apply fits.mk|intro h|apply aY.mk)
  all_goals (try simp only[sB] at *)
  all_goals first|contradiction|omega|exact jF ‹_›|exact jH ‹_›|exact jG ‹_›|exact⟨rfl,by omega⟩|exact rfl|(simp[*,-au];done)|skip
  exact⟨[1,0],rfl,rfl,⟨.inl rfl,rfl,trivial⟩,rfl,rfl,rfl,rfl⟩
 ·cases hx
def KB:eM Rs:=[(79,bJ zN 2 (a9 km))]
theorem Ku:cN D Tryz.prog KB:=⟨aT _ _ look_ok,trivial⟩
def Ch:Prim Rs:=fun args hh=>match args,hh with
 |[.pointer (aa ⟨0,0,aj⟩)],[aa (.inl (132,[.pointer (aa ⟨1,0,aj⟩),.int .i64 ti,.int .i64 tg])),aa (.inr (.inr (.inr (.db m))))]=>aa ⟨PP m,.int .i64 (bu aN m (⟨ti,tg⟩:bn)).all.n,aj,[aa (.inl (132,[.pointer (aa ⟨1,0,aj⟩),.int .i64 ti,.int .i64 tg])),aa (.inr (.inr (.inr (.db (aL m (⟨ti,tg⟩:bn))))))],[],[(0,0)]⟩
 |_,_=>aj
theorem K4:b8 D Tryz.prog 38 (a9 Ch):=by
 refine fx Tryz.f38 fun args hh x hx=>?_
 unfold Ch at hx;split at hx
 ·rename_i ti tg m;cases hx;refine q4 fun _ hv=>?_
  generalize hG:cj (R:=Rs) _ _=G;refine cK (T:=KB) Ku mixed 200 ?_;refine bM (q:=Vc (PP m)/\aY (G (bk ar (bP (bw (bu aN m (aO ti tg))))) [dF 1 ti tg,oP (aL m (aO ti tg))])) ?_ (by kernel_rfl)
  subst hG
  repeat' (first|apply cZ|apply Vc.mk|apply fits.mk|intro h|apply aY.mk)
  all_goals (try simp only[sB] at *)
  all_goals first|contradiction|omega|exact jF ‹_›|exact jH ‹_›|exact jG ‹_›|exact⟨rfl,by omega⟩|exact rfl|(simp[*,-au];done)|skip
  all_goals first|assumption|(simp only[jl];assumption)|skip
  exact⟨[0,1],rfl,rfl,⟨.inl rfl,rfl,trivial⟩,rfl,rfl,rfl,rfl⟩
 ·cases hx
def VE:eM Rs:=[(118,bJ zN 2 (a9 B6))]
theorem QY:cN D Tryz.prog VE:=⟨aT _ _ K7,trivial⟩
def zr:Prim Rs:=fun args hh=>match args,hh with
 |[.pointer (aa ⟨0,0,aj⟩)],[aa (.inl (132,[.pointer (aa ⟨1,0,aj⟩),.int .i64 ti,.int .i64 tg])),aa (.inr (.inr (.inr (.db m))))]=>aa ⟨True,.int .i64 m.cY,aj,hh,[],[]⟩
 |_,_=>aj
theorem IG:b8 D Tryz.prog 77 (a9 zr):=by
 refine fx Tryz.f77 fun args hh x hx=>?_
 unfold zr at hx;split at hx
 ·rename_i ti tg m;cases hx;refine q4 fun _ hv=>?_
  generalize hG:cj (R:=Rs) _ _=G;refine cK (T:=VE) QY mixed 200 ?_;refine bM (q:=Vc True/\aY (G (bk ar (g_ m)) [dF 1 ti tg,oP m])) ?_ (by kernel_rfl)
  subst hG
  repeat' (first|apply cZ|apply Vc.mk|apply fits.mk|intro h|apply aY.mk)
  all_goals (try simp only[sB] at *)
  all_goals first|contradiction|omega|exact jF ‹_›|exact jH ‹_›|exact jG ‹_›|exact⟨rfl,by omega⟩|exact rfl|(simp[*,-au];done)|skip
  exact⟨[0,1],rfl,rfl,⟨.inl rfl,rfl,trivial⟩,rfl,rfl,rfl,rfl⟩
 ·cases hx
def IK (K:Nat):Prim Rs:=fun args hh=>match args,hh with
 |[.pointer (aa ⟨0,0,aj⟩),.agg ⟨kE⟩],[aa (.inl (132,[.pointer (aa ⟨1,0,aj⟩),.int .i64 ti,.int .i64 tg])),aa (.inr (.inr (.inr (.db m))))]=>aa ⟨kE=dt (fY kE)/\(PP m/\Gv.QZ aN K m (⟨ti,tg⟩:bn) (fY kE)),.bool (vj aN K m (⟨ti,tg⟩:bn) (fY kE)).1,aj,[aa (.inl (132,[.pointer (aa ⟨1,0,aj⟩),.int .i64 (vj aN K m (⟨ti,tg⟩:bn) (fY kE)).2.1.i,.int .i64 (vj aN K m (⟨ti,tg⟩:bn) (fY kE)).2.1.g])),aa (.inr (.inr (.inr (.db (vj aN K m (⟨ti,tg⟩:bn) (fY kE)).2.2))))],[],[(0,0)]⟩
 |_,_=>aj
def O7 (K:Nat):eM Rs:=[(100,bJ zN 2 (a9 (sK K))),(102,bJ zN 2 (a9 AV)),(101,bJ zN 2 (a9 Je)),(103,bJ zN 2 (a9 (Bp K)))]
theorem RC (K:Nat):b8 D Tryz.prog 68 (a9 (IK K)):=by
 refine fx Tryz.f68 fun args hh x hx=>?_
 unfold IK at hx;split at hx
 ·rename_i kE ti tg m;cases hx;refine q4 fun _ hv=>?_
  obtain⟨j7,hv⟩:=hv;generalize fY kE=ke at *;subst j7;obtain⟨hp,hd⟩:=hv
  generalize hG:cj (R:=Rs) _ _=G;refine cK (T:=(O7 K)) (show cN D Tryz.prog (O7 K) from⟨aT _ _ (sj K),aT _ _ yI,aT _ _ tU,aT _ _ (yi K),trivial⟩) mixed 200 ?_
  refine bM (q:=let Z1:=(nZ aN K m (aO ti tg) ke);let Z2:=(fH ke (aO (0:Int) (0:Int)) (aO (0:Int) (0:Int)) (n7 aN ke) (1:Int));let Z3:=(tX zd (av Z1) Z2);let Z4:=(aE !decide (fW (av Z1)=iv (av Z1)));let Z5:=(nY aN K Z3 (aO ti tg) (lD zd (av Z1)) ke);Vc ((dt ke)=dt ke/\PP m/\jm aN K m (aO ti tg))/\(ay Z1=ao->aY (G (aE ao) [dF 1 ti tg,oP (av Z1),aa (.inl (75,(dt ke)))]))/\(ay Z1=an->Vc ((dt ke)=dt ke/\True)/\Vc ((bj (fH ke (aO 0 0) (aO 0 0) (n7 aN ke) 1))=bj Z2/\PP (av Z1))/\((!decide (fW (av Z1)=iv (av Z1)))=ao->Vc ((dt ke)=dt ke/\PP Z3/\jm aN K Z3 (aO ti tg))/\aY (G Z4 [dF 1 (cC (ay Z5)) (cD (ay Z5)),oP (av Z5),aa (.inl (75,(dt ke))),aa (.inl (108,[.int ar (cC (lD zd (av Z1))),.int ar (cD (lD zd (av Z1)))]))]))/\((!decide (fW (av Z1)=iv (av Z1)))=an->aY (G Z4 [dF 1 ti tg,oP Z3,aa (.inl (75,(dt ke))),aa (.inl (108,[.int ar (cC (lD zd (av Z1))),.int ar (cD (lD zd (av Z1)))]))])))) ?_ (by kernel_rfl)
  intro Z1 Z2 Z3 Z4 Z5;subst Z5 Z4 Z3 Z2 Z1;obtain⟨Uq,xj⟩:=hd;have done:∀ (b:Bool) (i g:Int) (m':Pl) (rest:Hp Rs),vj aN K m (⟨ti,tg⟩:bn) ke=(b,⟨i,g⟩,m')->G (.bool b) ([aa (.inl (132,[.pointer (aa ⟨1,0,aj⟩),.int .i64 (⟨i,g⟩:bn).i,.int .i64 (⟨i,g⟩:bn).g])),aa (.inr (.inr (.inr (.db m'))))]++rest):=by
   intro b i g m' rest e;subst hG;refine⟨[0,1],?_,rfl,⟨.inl ?_,?_,trivial⟩,rfl,rfl,rfl,rfl⟩
   ·simp only[e];rfl
   ·simp only[e];rfl
   ·simp only[e];rfl
  clear hG
  repeat' (first|apply cZ|apply Vc.mk|apply fits.mk|intro h|apply aY.mk)
  all_goals (try simp only[sB] at *)
  all_goals first|contradiction|omega|exact jF ‹_›|exact jH ‹_›|exact jG ‹_›|exact⟨rfl,by omega⟩|exact rfl|(simp[*,-au];done)|skip
  all_goals first|assumption|(simp only[jl];assumption)|skip
  all_goals first|exact(xj (by assumption)).1|exact(xj (by assumption)).2|skip
  all_goals (refine done _ _ _ _ _ ?_;unfold vj;repeat' split)
  all_goals first|rfl|(exfalso;simp_all;done)|(refine ks ?_ rfl;simp[*];done)
 ·cases hx
def E' (K:Nat):Prim Rs:=fun args hh=>match args,hh with
 |[.pointer (aa ⟨0,0,aj⟩),.agg ⟨kE⟩],[aa (.inl (132,[.pointer (aa ⟨1,0,aj⟩),.int .i64 ti,.int .i64 tg])),aa (.inr (.inr (.inr (.db m))))]=>aa ⟨kE=dt (fY kE)/\(PP m/\s9 aN K K m (⟨ti,tg⟩:bn) (fY kE)),.tuple #[.agg ⟨dt (j4 aN K m (⟨ti,tg⟩:bn) (fY kE)).1⟩,.bool (j4 aN K m (⟨ti,tg⟩:bn) (fY kE)).2.1],aj,[aa (.inl (132,[.pointer (aa ⟨1,0,aj⟩),.int .i64 (j4 aN K m (⟨ti,tg⟩:bn) (fY kE)).2.2.1.i,.int .i64 (j4 aN K m (⟨ti,tg⟩:bn) (fY kE)).2.2.1.g])),aa (.inr (.inr (.inr (.db (j4 aN K m (⟨ti,tg⟩:bn) (fY kE)).2.2.2))))],[],[(0,0)]⟩
 |_,_=>aj
def KW (K:Nat):eM Rs:=[(115,bJ zN 2 (a9 (A8 K K))),(116,bJ zN 2 (a9 CH))]
theorem Nu (K:Nat):b8 D Tryz.prog 75 (a9 (E' K)):=by
 refine fx Tryz.f75 fun args hh x hx=>?_
 unfold E' at hx;split at hx
 ·rename_i kE ti tg m;cases hx;refine q4 fun _ hv=>?_
  obtain⟨j7,hv⟩:=hv;generalize fY kE=ke at *;subst j7;obtain⟨hp,hd⟩:=hv
  generalize hG:cj (R:=Rs) _ _=G;refine cK (T:=(KW K)) (show cN D Tryz.prog (KW K) from⟨aT _ _ (yh K K),aT _ _ tK,trivial⟩) mixed 200 ?_
  refine bM (q:=let Z1:=(av (av (jE aN K K m (aO ti tg) ke)));let Z2:=(ay (av (jE aN K K m (aO ti tg) ke)));let Z3:=(cC (ay (jE aN K K m (aO ti tg) ke)));let Z4:=(cD (ay (jE aN K K m (aO ti tg) ke)));Vc ((dt ke)=dt ke/\PP m/\s9 aN K K m (aO ti tg) ke)/\Vc (PP Z1)/\aY (G (cr (aP [.agg (aP (dt (b6 (j3 zd Z1 Z2)))),.bool (zb Z1 Z2)])) [dF 1 Z3 Z4,oP (wI zd Z1 Z2),aa (.inl (75,(dt ke))),aa (.inl (75,(dt (b6 (j3 zd Z1 Z2))))),aa (.inl (108,[.int ar Z3,.int ar Z4])),aa (.inl (108,[.int ar (cC Z2),.int ar (cD Z2)])),aa (.inl (128,(bj (j3 zd Z1 Z2))))])) ?_ (by kernel_rfl)
  intro Z1 Z2 Z3 Z4;subst Z4 Z3 Z2 Z1;subst hG
  repeat' (first|apply cZ|apply Vc.mk|apply fits.mk|intro h|apply aY.mk)
  all_goals (try simp only[sB] at *)
  all_goals first|contradiction|omega|exact jF ‹_›|exact jH ‹_›|exact jG ‹_›|exact⟨rfl,by omega⟩|exact rfl|(simp[*,-au];done)|skip
  all_goals first|assumption|(simp only[jl];assumption)|skip
  exact⟨[0,1],rfl,rfl,⟨.inl rfl,rfl,trivial⟩,rfl,rfl,rfl,rfl⟩
 ·cases hx
theorem Nq:Lx [0] (a9 Ch):=by
 intro b args h x hx i hi hl;cases b with
 |false=>cases hx
 |true =>
  simp only[a9,jo.go,Ch] at hx;split at hx
  ·injection hx with hx
   subst hx;simp only[List.mem_singleton] at hi;subst hi
   rfl
  ·cases hx
def Im (K:Nat):Prim Rs:=fun args hh=>match args,hh with
 |[.pointer (aa ⟨0,0,aj⟩)],[aa (.inl (132,[.pointer (aa ⟨1,0,aj⟩),.int .i64 ti,.int .i64 tg])),aa (.inr (.inr (.inr (.db m))))]=>aa ⟨PP m/\jm aN K m (⟨ti,tg⟩:bn)/\(bu aN m (⟨ti,tg⟩:bn)).all.n=(b5 aN K (aL m (⟨ti,tg⟩:bn)) (⟨ti,tg⟩:bn)).1.length/\(b5 aN K (aL m (⟨ti,tg⟩:bn)) (⟨ti,tg⟩:bn)).1.length<900000,.slice (aa ⟨2,0,aa 4000⟩) (b5 aN K (aL m (⟨ti,tg⟩:bn)) (⟨ti,tg⟩:bn)).1.length 0,aj,[aa (.inl (132,[.pointer (aa ⟨1,0,aj⟩),.int .i64 ti,.int .i64 tg])),aa (.inr (.inr (.inr (.db (b5 aN K (aL m (⟨ti,tg⟩:bn)) (⟨ti,tg⟩:bn)).2)))),aa (.inr (.inl (75,⟨[.int .i64 0,.int .i64 0,.bool an,.int .i64 0],(b5 aN K (aL m (⟨ti,tg⟩:bn)) (⟨ti,tg⟩:bn)).1.length,[⟨((b5 aN K (aL m (⟨ti,tg⟩:bn)) (⟨ti,tg⟩:bn)).1.map fun e=>e.it.k),[],[]⟩,⟨((b5 aN K (aL m (⟨ti,tg⟩:bn)) (⟨ti,tg⟩:bn)).1.map fun e=>e.it.i),[],[]⟩,⟨[],((b5 aN K (aL m (⟨ti,tg⟩:bn)) (⟨ti,tg⟩:bn)).1.map fun e=>e.kK),[]⟩,⟨((b5 aN K (aL m (⟨ti,tg⟩:bn)) (⟨ti,tg⟩:bn)).1.map fun e=>e.time),[],[]⟩]⟩)))],[],[(0,0)]⟩
 |_,_=>aj
def PH (K:Nat):eM Rs:=[(38,Dk [0] 2 (a9 Ch)),(93,bJ zN 2 (a9 (u7 K)))]
theorem Rn (K:Nat):b8 D Tryz.prog 61 (a9 (Im K)):=by
 refine fx Tryz.f61 fun args hh x hx=>?_
 unfold Im at hx;split at hx
 ·rename_i ti tg m;cases hx;refine q4 fun _ hv=>?_
  obtain⟨hp,hd⟩:=hv;generalize hG:cj (R:=Rs) _ _=G;refine cK (T:=(PH K)) (show cN D Tryz.prog (PH K) from⟨Dw _ _ K4 Nq,aT _ _ (qV K),trivial⟩) mixed 200 ?_
  refine bM (q:=let Z1:=(bw (bu aN m (aO ti tg)));let Z2:=(b5 aN K (aL m (aO ti tg)) (aO ti tg));Vc (PP m)/\Vc ((0:Int)≤(0:Int)/\(0:Int)≤bP Z1/\bP Z1*(32:Int)≤(140737488355328:Int)/\bP Z1≤(140737488355328:Int))/\Vc ((PP (aL m (aO ti tg))/\0=0/\0=0/\0=0/\0=0/\0=0/\0+ae (ay Z2)<900000)/\jm aN K (aL m (aO ti tg)) (aO ti tg))/\aY (G (br (aa ⟨4,0,aa 4000⟩) (0+ae (ay Z2)) (if ae (ay Z2)=0 then aD (bP Z1) else 0)) [dF 1 ti tg,oP (av Z2),aa (.inr (.inl (75,Row.mk (dt (jD (cX 0 0) an 0)) 0 [aW.mk [] [] [],aW.mk [] [] [],aW.mk [] [] [],aW.mk [] [] []]))),aj,aa (.inr (.inl (75,Row.mk (dt (jD (cX 0 0) an 0)) (0+ae (ay Z2)) [aW.mk ([]++aw (fun e=>nv (lU e)) (ay Z2)) [] [],aW.mk ([]++aw (fun e=>nw (lU e)) (ay Z2)) [] [],aW.mk [] ([]++aw (fun e=>po e) (ay Z2)) [],aW.mk ([]++aw (fun e=>qO e) (ay Z2)) [] []])))])) ?_ (by kernel_rfl)
  intro Z1 Z2;subst Z2 Z1;subst hG;obtain⟨Uq,xj,hd4⟩:=hd;have hd5:=(qN (s:=(⟨ti,tg⟩:bn))).2 Uq;have e2:(if(b5 aN K (aL m (⟨ti,tg⟩:bn)) (⟨ti,tg⟩:bn)).1.length=0 then(bu aN m (⟨ti,tg⟩:bn)).all.n.toNat else 0)=0:=by rw[xj];split<;>omega
  simp only[e2,bW,List.nil_append]
  repeat' (first|apply cZ|apply Vc.mk|apply fits.mk|intro h|apply aY.mk)
  all_goals (try simp only[sB] at *)
  all_goals first|contradiction|omega|exact jF ‹_›|exact jH ‹_›|exact jG ‹_›|exact⟨rfl,by omega⟩|exact rfl|(simp[*,-au];done)|skip
  all_goals first|omega|assumption|exact jn.2 hp|(simp;done)|skip
  refine⟨[0,1,4],?_,rfl,?_,rfl,rfl,rfl,rfl⟩
  ·rfl
  ·simp[dt,ur,Bc,nth,gg,w6,pQ,ma,gr,wj,uN,Cj,z5,Gk,zq,Bk]
   all_goals first|rfl|skip
 ·cases hx
def Ff (K:Nat):Prim Rs:=fun args hh=>match args,hh with
 |[.pointer (aa ⟨0,0,aj⟩),.agg ⟨kE⟩],[aa (.inl (132,[.pointer (aa ⟨1,0,aj⟩),.int .i64 ti,.int .i64 tg])),aa (.inr (.inr (.inr (.db m))))]=>aa ⟨kE=dt (fY kE)/\(PP m/\vY aN K (aL m (⟨ti,tg⟩:bn)) (bu aN m (⟨ti,tg⟩:bn)) (fY kE)),.tuple #[.agg ⟨dt (iO aN K (aL m (⟨ti,tg⟩:bn)) (bu aN m (⟨ti,tg⟩:bn)) (fY kE)).1.1⟩,.bool (iO aN K (aL m (⟨ti,tg⟩:bn)) (bu aN m (⟨ti,tg⟩:bn)) (fY kE)).1.2],aj,[aa (.inl (132,[.pointer (aa ⟨1,0,aj⟩),.int .i64 ti,.int .i64 tg])),aa (.inr (.inr (.inr (.db (iO aN K (aL m (⟨ti,tg⟩:bn)) (bu aN m (⟨ti,tg⟩:bn)) (fY kE)).2))))],[],[(0,0)]⟩
 |_,_=>aj
def Bn (K:Nat):eM Rs:=[(79,bJ zN 2 (a9 km)),(106,bJ zN 2 (a9 Js))]
theorem NP (K:Nat):b8 D Tryz.prog 94 (a9 (Ff K)):=by
 refine fx Tryz.f94 fun args hh x hx=>?_
 unfold Ff at hx;split at hx
 ·rename_i kE ti tg m;cases hx;refine q4 fun _ hv=>?_
  obtain⟨j7,hv⟩:=hv;generalize fY kE=ke at *;subst j7;obtain⟨hp,hd⟩:=hv
  generalize hG:cj (R:=Rs) _ _=G;refine cK (T:=(Bn K)) (show cN D Tryz.prog (Bn K) from⟨aT _ _ look_ok,aT _ _ yp,trivial⟩) mixed 200 ?_
  refine bM (q:=let Z1:=(aC (aa ⟨0,0,aj⟩));Vc (PP m)/\At D Tryz.prog (dI Tryz.f94) 2 (iB Tryz.prog (dw (dx Tryz.f94)) G) [.inl [1,1,0,0],.inr (.inl 0),.inl [1,1,1]] (SS.mk (aa Z1::aa (bG (aP (dt ke)))::aj::aa (aC (aa ⟨2,0,aj⟩))::aa (aC (aa ⟨3,0,aj⟩))::aa (aE an)::aa (aC (aa ⟨4,0,aj⟩))::aj::aj::aa Z1::aa Z1::aa Z1::aa (aC (aa ⟨0,1,aj⟩))::aa (bG (aP [.int ar ti,.int ar tg]))::aa (bG (aP (bj (bu aN m (aO ti tg)))))::nH (n4 (aj::aj::aj::[]))) [(5,an)] [dF 1 ti tg,oP (aL m (aO ti tg)),aa (.inl (75,(dt ke))),aa (.inl (75,(dt (jD (cX 0 0) an 0)))),aa (.inl (128,(bj (bu aN m (aO ti tg)))))])) ?_ (by kernel_rfl)
  intro Z1;subst Z1;refine⟨⟨hp⟩,?_⟩;refine kC (by kernel_rfl) (ι:=Nat×Nd×Pl) (fun s=>PP s.2.2/\vY aN s.1 s.2.2 s.2.1 ke/\iO aN s.1 s.2.2 s.2.1 ke=iO aN K (aL m (⟨ti,tg⟩:bn)) (bu aN m (⟨ti,tg⟩:bn)) ke) [0,3,4,5,6] (fun s=>[.pointer (aa ⟨0,0,aj⟩),.pointer (aa ⟨2,0,aj⟩),.pointer (aa ⟨3,0,aj⟩),.bool an,.pointer (aa ⟨4,0,aj⟩)]) (fun s=>[aa (.inl (132,[.pointer (aa ⟨1,0,aj⟩),.int .i64 ti,.int .i64 tg])),aa (.inr (.inr (.inr (.db s.2.2)))),aa (.inl (75,dt ke)),aa (.inl (75,[.int .i64 0,.int .i64 0,.bool an,.int .i64 0])),aa (.inl (128,bj s.2.1))]) (fun s=>s.1) (Tryz.f94).ntmps (fun s hs=>⟨rfl,rfl,tZ _ _⟩) ⟨(K,bu aN m (⟨ti,tg⟩:bn),aL m (⟨ti,tg⟩:bn)),⟨jn.2 hp,hd,rfl⟩,⟨[0,1,2,3,4],rfl,⟨.inl rfl,rfl,.inl rfl,.inl rfl,.inl rfl,trivial⟩,rfl,rfl,rfl,rfl⟩⟩ fun s hs=>?_
  obtain⟨k,n,m2⟩:=s;obtain⟨s1,s2,s3⟩:=hs;simp only at s1 s2 s3;rcases k with _|k
  ·exact s2.elim
  refine cK (T:=Bn K) (show cN D Tryz.prog (Bn K) from⟨aT _ _ look_ok,aT _ _ yp,trivial⟩) mixed 200 ?_
  refine bM (q:=let Z5:=aC (aa ⟨4,0,aj⟩);let Z6:=aC (aa ⟨3,0,aj⟩);let Z7:=aC (aa ⟨0,0,aj⟩);let Z8:=aC (aa ⟨2,0,aj⟩);let Z1:=(hU aN ke (b6 (ay (n,m2)))==(0:Int));let Z2:=(av (n,m2));let Z3:=(hU aN ke (b6 (ay (n,m2)))<(0:Int));let Z4:=(dt (jD (cX 0 0) an 0));(decide (cw (ay (n,m2))>(0:Int))=ao->Vc True/\Vc True/\(Z1=ao->aY (G (cr (aP [.agg (aP (dt (b6 (ay (n,m2))))),.bool ao])) [dF 1 ti tg,oP Z2,aa (.inl (75,(dt ke))),aa (.inl (75,(dt (b6 (ay (n,m2)))))),aa (.inl (128,(bj (ay (n,m2)))))]))/\(Z1=an->(decide Z3=ao->Vc (PP Z2)/\aY (∃ j,(PP (av (av j))/\vY aN (ay j) (av (av j)) (ay (av j)) ke/\iO aN (ay j) (av (av j)) (ay (av j)) ke=iO aN K (aL m (aO ti tg)) (bu aN m (aO ti tg)) ke)/\ay j<k+1/\jJ Rs 2 (pA Tryz.f94) [0,3,4,5,6] [Z7,Z8,Z6,.bool an,Z5] [dF 1 ti tg,oP (av (av j)),aa (.inl ((75:TypeId),dt ke)),aa (.inl ((75:TypeId),Z4)),aa (.inl ((128:TypeId),bj (ay (av j))))] [aa (Z7),aa (Z8),aa (Z6),aa (aE an),aa (Z5)] [dF 1 ti tg,oP (aL Z2 (bd (ay (n,m2)))),aa (.inl (75,(dt ke))),aa (.inl (75,Z4)),aa (.inl (128,(bj (bu aN Z2 (bd (ay (n,m2)))))))] 38))/\(decide Z3=an->Vc (PP Z2)/\aY (∃ j,(PP (av (av j))/\vY aN (ay j) (av (av j)) (ay (av j)) ke/\iO aN (ay j) (av (av j)) (ay (av j)) ke=iO aN K (aL m (aO ti tg)) (bu aN m (aO ti tg)) ke)/\ay j<k+1/\jJ Rs 2 (pA Tryz.f94) [0,3,4,5,6] [Z7,Z8,Z6,.bool an,Z5] [dF 1 ti tg,oP (av (av j)),aa (.inl ((75:TypeId),dt ke)),aa (.inl ((75:TypeId),Z4)),aa (.inl ((128:TypeId),bj (ay (av j))))] [aa (Z7),aa (Z8),aa (Z6),aa (aE an),aa (Z5)] [dF 1 ti tg,oP (aL Z2 (bo (ay (n,m2)))),aa (.inl (75,(dt ke))),aa (.inl (75,Z4)),aa (.inl (128,(bj (bu aN Z2 (bo (ay (n,m2)))))))] 38))))/\(decide (cw (ay (n,m2))>(0:Int))=an->aY (G (cr (aP [.agg (aP Z4),.bool an])) [dF 1 ti tg,oP Z2,aa (.inl (75,(dt ke))),aa (.inl (75,Z4)),aa (.inl (128,(bj (ay (n,m2))))),aa (.inl (75,Z4))]))) ?_ (by kernel_rfl)
  intro Z5 Z6 Z7 Z8 Z1 Z2 Z3 Z4;subst Z4 Z3 Z2 Z1 Z8 Z7 Z6 Z5;rw[vY] at s2;rw[iO] at s3;subst hG
  repeat' (first|apply cZ|apply Vc.mk|apply fits.mk|intro h|apply aY.mk)
  all_goals (try simp only[sB] at *)
  all_goals first|contradiction|omega|exact jF ‹_›|exact jH ‹_›|exact jG ‹_›|exact⟨rfl,by omega⟩|exact rfl|(simp[*,-au];done)|skip
  all_goals first|assumption|skip
  ·have h1:n.h>0:=by assumption
   have h2:aN.cmp ke n.e=0:=by assumption
   rw[if_pos h1,if_pos h2] at s3;rw[← s3];exact⟨[0,1],rfl,rfl,⟨.inl rfl,rfl,trivial⟩,rfl,rfl,rfl,rfl⟩
  ·have h1:n.h>0:=by assumption
   have h2:aN.cmp ke n.e≠0:=by assumption
   have h3:aN.cmp ke n.e<0:=by assumption
   rw[if_pos h1,if_neg h2,if_pos h3] at s3;exact⟨(k,bu aN m2 n.l,aL m2 n.l),⟨jn.2 s1,(s2 h1 h2).1 (by omega),s3⟩,fI _,⟨[0,1,2,3,4],rfl,⟨.inl rfl,rfl,.inl rfl,.inl rfl,.inl rfl,trivial⟩,rfl,rfl,rfl,rfl⟩⟩
  ·have h1:n.h>0:=by assumption
   have h2:aN.cmp ke n.e≠0:=by assumption
   have h3:¬ aN.cmp ke n.e<0:=by omega
   rw[if_pos h1,if_neg h2,if_neg h3] at s3;exact⟨(k,bu aN m2 n.r,aL m2 n.r),⟨jn.2 s1,(s2 h1 h2).2 (by omega),s3⟩,fI _,⟨[0,1,2,3,4],rfl,⟨.inl rfl,rfl,.inl rfl,.inl rfl,.inl rfl,trivial⟩,rfl,rfl,rfl,rfl⟩⟩
  ·have h1:¬ n.h>0:=by omega
   rw[if_neg h1] at s3;rw[← s3];exact⟨[0,1],rfl,rfl,⟨.inl rfl,rfl,trivial⟩,rfl,rfl,rfl,rfl⟩
 ·cases hx
def Fm (K:Nat):Prim Rs:=fun args hh=>match args,hh with
 |[.pointer (aa ⟨0,0,aj⟩),.agg ⟨kE⟩],[aa (.inl (132,[.pointer (aa ⟨1,0,aj⟩),.int .i64 ti,.int .i64 tg])),aa (.inr (.inr (.inr (.db m))))]=>aa ⟨kE=dt (fY kE)/\(PP m/\vZ aN K (aL m (⟨ti,tg⟩:bn)) (bu aN m (⟨ti,tg⟩:bn)) (fY kE) 0),.int .i64 (lX aN K (aL m (⟨ti,tg⟩:bn)) (bu aN m (⟨ti,tg⟩:bn)) (fY kE) 0).1,aj,[aa (.inl (132,[.pointer (aa ⟨1,0,aj⟩),.int .i64 ti,.int .i64 tg])),aa (.inr (.inr (.inr (.db (lX aN K (aL m (⟨ti,tg⟩:bn)) (bu aN m (⟨ti,tg⟩:bn)) (fY kE) 0).2))))],[],[(0,0)]⟩
 |_,_=>aj
def Bv (K:Nat):eM Rs:=[(1000000000,lW),(79,bJ zN 2 (a9 km)),(106,bJ zN 2 (a9 Js))]
theorem NJ (K:Nat):b8 D Tryz.prog 129 (a9 (Fm K)):=by
 refine fx Tryz.f129 fun args hh x hx=>?_
 unfold Fm at hx;split at hx
 ·rename_i kE ti tg m;cases hx;refine q4 fun _ hv=>?_
  obtain⟨j7,hv⟩:=hv;generalize fY kE=ke at *;subst j7;obtain⟨hp,hd⟩:=hv
  generalize hG:cj (R:=Rs) _ _=G;refine cK (T:=(Bv K)) (show cN D Tryz.prog (Bv K) from⟨iF,aT _ _ look_ok,aT _ _ yp,trivial⟩) mixed 200 ?_
  refine bM (q:=let Z1:=(aC (aa ⟨0,0,aj⟩));Vc (PP m)/\At D Tryz.prog (dI Tryz.f129) 2 (iB Tryz.prog (dw (dx Tryz.f129)) G) [.inl [1,1,1,0,0],.inr (.inl 0),.inl [1,1,1,1]] (SS.mk (aa Z1::aa (bG (aP (dt ke)))::aj::aa (aC (aa ⟨2,0,aj⟩))::aa (bk ar 0)::aa (bk ar 0)::aa (aC (aa ⟨3,0,aj⟩))::aj::aa Z1::aa Z1::aa Z1::aa (aC (aa ⟨0,1,aj⟩))::aa (bG (aP [.int ar ti,.int ar tg]))::aa (bG (aP (bj (bu aN m (aO ti tg)))))::nH (n4 (n4 (n4 ([]))))) [] [dF 1 ti tg,oP (aL m (aO ti tg)),aa (.inl (75,(dt ke))),aa (.inl (128,(bj (bu aN m (aO ti tg)))))])) ?_ (by kernel_rfl)
  intro Z1;subst Z1;refine⟨⟨hp⟩,?_⟩;refine kC (by kernel_rfl) (ι:=Nat×Nd×Pl×Int) (fun s=>PP s.2.2.1/\vZ aN s.1 s.2.2.1 s.2.1 ke s.2.2.2/\lX aN s.1 s.2.2.1 s.2.1 ke s.2.2.2=lX aN K (aL m (⟨ti,tg⟩:bn)) (bu aN m (⟨ti,tg⟩:bn)) ke 0) [0,3,5,6] (fun s=>[.pointer (aa ⟨0,0,aj⟩),.pointer (aa ⟨2,0,aj⟩),.int .i64 s.2.2.2,.pointer (aa ⟨3,0,aj⟩)]) (fun s=>[aa (.inl (132,[.pointer (aa ⟨1,0,aj⟩),.int .i64 ti,.int .i64 tg])),aa (.inr (.inr (.inr (.db s.2.2.1)))),aa (.inl (75,dt ke)),aa (.inl (128,bj s.2.1))]) (fun s=>s.1) (Tryz.f129).ntmps (fun s hs=>⟨rfl,rfl,tZ _ _⟩) ⟨(K,bu aN m (⟨ti,tg⟩:bn),aL m (⟨ti,tg⟩:bn),0),⟨jn.2 hp,hd,rfl⟩,⟨[0,1,2,3],rfl,⟨.inl rfl,rfl,.inl rfl,.inl rfl,trivial⟩,rfl,rfl,rfl,rfl⟩⟩ fun s hs=>?_
  obtain⟨k,n,m2,c⟩:=s;obtain⟨s1,s2,s3⟩:=hs;simp only at s1 s2 s3;rcases k with _|k
  ·exact s2.elim
  refine cK (T:=Bv K) (show cN D Tryz.prog (Bv K) from⟨iF,aT _ _ look_ok,aT _ _ yp,trivial⟩) mixed 200 ?_
  refine bM (q:=let Z3:=aC (aa ⟨3,0,aj⟩);let Z4:=aC (aa ⟨0,0,aj⟩);let Z5:=aC (aa ⟨2,0,aj⟩);let Z6:=bk ar;let Z1:=(ay (n,m2,c));let Z2:=(ay (av (n,m2,c)));(decide (cw Z1>(0:Int))=ao->Vc True/\Vc True/\(decide (hU aN ke (b6 Z1)≤(0:Int))=ao->Vc (PP Z2)/\aY (∃ j,(PP (ay (av (av j)))/\vZ aN (ay j) (ay (av (av j))) (ay (av j)) ke (av (av (av j)))/\lX aN (ay j) (ay (av (av j))) (ay (av j)) ke (av (av (av j)))=lX aN K (aL m (aO ti tg)) (bu aN m (aO ti tg)) ke (0:Int))/\ay j<k+1/\jJ Rs 2 (pA Tryz.f129) [0,3,5,6] [Z4,Z5,Z6 (av (av (av j))),Z3] [dF 1 ti tg,oP (ay (av (av j))),aa (.inl ((75:TypeId),dt ke)),aa (.inl ((128:TypeId),bj (ay (av j))))] [aa (Z4),aa (Z5),aa (Z6 (av (av (n,m2,c)))),aa (Z3)] [dF 1 ti tg,oP (aL Z2 (bd Z1)),aa (.inl (75,(dt ke))),aa (.inl (128,(bj (bu aN Z2 (bd Z1)))))] 42))/\(decide (hU aN ke (b6 Z1)≤(0:Int))=an->Vc (PP Z2)/\Vc True/\Vc True/\aY (∃ j,(PP (ay (av (av j)))/\vZ aN (ay j) (ay (av (av j))) (ay (av j)) ke (av (av (av j)))/\lX aN (ay j) (ay (av (av j))) (ay (av j)) ke (av (av (av j)))=lX aN K (aL m (aO ti tg)) (bu aN m (aO ti tg)) ke (0:Int))/\ay j<k+1/\jJ Rs 2 (pA Tryz.f129) [0,3,5,6] [Z4,Z5,Z6 (av (av (av j))),Z3] [dF 1 ti tg,oP (ay (av (av j))),aa (.inl ((75:TypeId),dt ke)),aa (.inl ((128:TypeId),bj (ay (av j))))] [aa (Z4),aa (Z5),aa (Z6 (ck ar (av (av (n,m2,c))+ck ar (bP (bw Z1)-bP (bw (bu aN Z2 (bo Z1))))))),aa (Z3)] [dF 1 ti tg,oP (aL Z2 (bo Z1)),aa (.inl (75,(dt ke))),aa (.inl (128,(bj (bu aN Z2 (bo Z1))))),aa (.inl (128,(bj (bu aN Z2 (bo Z1)))))] 42)))/\(decide (cw Z1>(0:Int))=an->aY (G (Z6 (av (av (n,m2,c)))) [dF 1 ti tg,oP Z2,aa (.inl (75,(dt ke))),aa (.inl (128,(bj Z1)))]))) ?_ (by kernel_rfl)
  intro Z3 Z4 Z5 Z6 Z1 Z2;subst Z2 Z1 Z6 Z5 Z4 Z3;rw[vZ] at s2;rw[lX] at s3;subst hG
  repeat' (first|apply cZ|apply Vc.mk|apply fits.mk|intro h|apply aY.mk)
  all_goals (try simp only[sB] at *)
  all_goals first|contradiction|omega|exact jF ‹_›|exact jH ‹_›|exact jG ‹_›|exact⟨rfl,by omega⟩|exact rfl|(simp[*,-au];done)|skip
  all_goals first|assumption|skip
  ·have h1:n.h>0:=by assumption
   have h2:aN.cmp ke n.e≤0:=by assumption
   rw[if_pos h1,if_pos h2] at s3;exact⟨(k,bu aN m2 n.l,aL m2 n.l,c),⟨jn.2 s1,(s2 h1).1 (by omega),s3⟩,fI _,⟨[0,1,2,3],rfl,⟨.inl rfl,rfl,.inl rfl,.inl rfl,trivial⟩,rfl,rfl,rfl,rfl⟩⟩
  ·have h1:n.h>0:=by assumption
   have h2:¬ aN.cmp ke n.e≤0:=by omega
   rw[if_pos h1,if_neg h2] at s3;exact⟨(k,bu aN m2 n.r,aL m2 n.r,nq (c+nq (n.all.n-(bu aN m2 n.r).all.n))),⟨jn.2 s1,(s2 h1).2 (by omega),s3⟩,fI _,⟨[0,1,2,3],rfl,⟨.inl rfl,rfl,.inl rfl,.inl rfl,trivial⟩,rfl,rfl,rfl,rfl⟩⟩
  ·have h1:¬ n.h>0:=by omega
   rw[if_neg h1] at s3;rw[← s3];exact⟨[0,1],rfl,rfl,⟨.inl rfl,rfl,trivial⟩,rfl,rfl,rfl,rfl⟩
 ·cases hx
def Of (K:Nat):Prim Rs:=fun args hh=>match args,hh with
 |[.pointer (aa ⟨0,0,aj⟩),.int .i64 i_],[aa (.inl (132,[.pointer (aa ⟨1,0,aj⟩),.int .i64 ti,.int .i64 tg])),aa (.inr (.inr (.inr (.db m))))]=>aa ⟨PP m/\Gv.AtD aN K m (⟨ti,tg⟩:bn) i_,.tuple #[.agg ⟨dt (lJ aN K m (⟨ti,tg⟩:bn) i_).1.1⟩,.bool (lJ aN K m (⟨ti,tg⟩:bn) i_).1.2],aj,[aa (.inl (132,[.pointer (aa ⟨1,0,aj⟩),.int .i64 ti,.int .i64 tg])),aa (.inr (.inr (.inr (.db (lJ aN K m (⟨ti,tg⟩:bn) i_).2))))],[],[(0,0)]⟩
 |_,_=>aj
def Ip (K:Nat):eM Rs:=[(1000000000,lW),(79,bJ zN 2 (a9 km))]
theorem V' (K:Nat):b8 D Tryz.prog 122 (a9 (Of K)):=by
 refine fx Tryz.f122 fun args hh x hx=>?_
 unfold Of at hx;split at hx
 ·rename_i i_ ti tg m;cases hx;refine q4 fun _ hv=>?_
  obtain⟨hp,hd⟩:=hv;generalize hG:cj (R:=Rs) _ _=G;refine cK (T:=(Ip K)) (show cN D Tryz.prog (Ip K) from⟨iF,aT _ _ look_ok,trivial⟩) mixed 200 ?_
  refine bM (q:=let Z3:=bk ar;let Z1:=(i_≥bP (bw (bu aN m (aO ti tg))));let Z2:=(aC (aa ⟨0,0,aj⟩));Vc (PP m)/\(decide (i_<(0:Int))=an->(decide Z1=ao->aY (G (cr (aP [.agg (aP (dt (jD (cX 0 0) an 0))),.bool an])) [dF 1 ti tg,oP (aL m (aO ti tg)),aa (.inl (75,(dt (jD (cX 0 0) an 0)))),aa (.inl (75,(dt (jD (cX 0 0) an 0)))),aa (.inl (128,(bj (bu aN m (aO ti tg)))))]))/\(decide Z1=an->At D Tryz.prog (dI Tryz.f122) 2 (iB Tryz.prog (dw (dx Tryz.f122)) G) [.inl [1,1,1,1,0],.inr (.inl 0)] (SS.mk (aa Z2::aa (Z3 i_)::aj::aj::aa (aC (aa ⟨2,0,aj⟩))::aa (aE an)::aa (aC (aa ⟨3,0,aj⟩))::aa (aC (aa ⟨4,0,aj⟩))::aj::aa Z2::aa Z2::aa Z2::aa (aC (aa ⟨0,1,aj⟩))::aa (bG (aP [Z3 ti,Z3 tg]))::aa (bG (aP (bj (bu aN m (aO ti tg)))))::aa (Z3 i_)::aa (aE (decide (i_<(0:Int))))::aa (aE an)::aa (Z3 i_)::aa (aC (aa ⟨4,8,aj⟩))::aa (aC (aa ⟨4,8,aj⟩))::aa (Z3 (bP (bw (bu aN m (aO ti tg)))))::aa (aE (decide Z1))::aa (aE an)::nH (n4 (n4 (n4 ([]))))) [(23,an),(17,an),(5,an)] [dF 1 ti tg,oP (aL m (aO ti tg)),aa (.inl (75,(dt (jD (cX 0 0) an 0)))),aa (.inl (75,(dt (jD (cX 0 0) an 0)))),aa (.inl (128,(bj (bu aN m (aO ti tg)))))])))/\(decide (i_<(0:Int))=ao->aY (G (cr (aP [.agg (aP (dt (jD (cX 0 0) an 0))),.bool an])) [dF 1 ti tg,oP (aL m (aO ti tg)),aa (.inl (75,(dt (jD (cX 0 0) an 0)))),aa (.inl (75,(dt (jD (cX 0 0) an 0)))),aa (.inl (128,(bj (bu aN m (aO ti tg)))))]))) ?_ (by kernel_rfl)
  intro Z3 Z1 Z2;subst Z2 Z1 Z3;have n1:i_<0∨i_≥(bu aN m (⟨ti,tg⟩:bn)).all.n->G (.tuple #[.agg ⟨[.int .i64 0,.int .i64 0,.bool an,.int .i64 0]⟩,.bool an])=G (.tuple #[.agg ⟨[.int .i64 0,.int .i64 0,.bool an,.int .i64 0]⟩,.bool an]):=fun _=>rfl
  have en:∀ rest,i_<0∨i_≥(bu aN m (⟨ti,tg⟩:bn)).all.n->G (.tuple #[.agg ⟨[.int .i64 0,.int .i64 0,.bool an,.int .i64 0]⟩,.bool an]) ([aa (.inl (132,[.pointer (aa ⟨1,0,aj⟩),.int .i64 ti,.int .i64 tg])),aa (.inr (.inr (.inr (.db (aL m (⟨ti,tg⟩:bn))))))]++rest):=by
   intro rest h;have e:lJ aN K m (⟨ti,tg⟩:bn) i_=((aN.e0,an),aL m (⟨ti,tg⟩:bn)):=by rw[lJ,if_pos h]
   subst hG;rw[e];exact⟨[0,1],rfl,rfl,⟨.inl rfl,rfl,trivial⟩,rfl,rfl,rfl,rfl⟩
  refine⟨⟨hp⟩,fun h=>⟨fun h2=>⟨en _ (.inr (by simpa using h2))⟩,fun h2=>?_⟩,fun h=>⟨en _ (.inl (by simpa using h))⟩⟩
  have h3:¬ i_<0:=by simpa using h
  have h4:¬ i_≥(bu aN m (⟨ti,tg⟩:bn)).all.n:=by simpa using h2
  have ee:lJ aN K m (⟨ti,tg⟩:bn) i_=(((pa aN K (aL m (⟨ti,tg⟩:bn)) (bu aN m (⟨ti,tg⟩:bn)) i_).1,ao),(pa aN K (aL m (⟨ti,tg⟩:bn)) (bu aN m (⟨ti,tg⟩:bn)) i_).2):=by rw[lJ,if_neg (by omega)]
  have xj:=hd h3 h4;refine kC (by kernel_rfl) (ι:=Nat×Nd×Pl×Int) (fun s=>PP s.2.2.1/\CA aN s.1 s.2.2.1 s.2.1 s.2.2.2/\pa aN s.1 s.2.2.1 s.2.1 s.2.2.2=pa aN K (aL m (⟨ti,tg⟩:bn)) (bu aN m (⟨ti,tg⟩:bn)) i_) [0,1,4,7] (fun s=>[.pointer (aa ⟨0,0,aj⟩),.int .i64 s.2.2.2,.pointer (aa ⟨2,0,aj⟩),.pointer (aa ⟨3,0,aj⟩)]) (fun s=>[aa (.inl (132,[.pointer (aa ⟨1,0,aj⟩),.int .i64 ti,.int .i64 tg])),aa (.inr (.inr (.inr (.db s.2.2.1)))),aa (.inl (75,[.int .i64 0,.int .i64 0,.bool an,.int .i64 0])),aa (.inl (128,bj s.2.1))]) (fun s=>s.1) (Tryz.f122).ntmps (fun s hs=>⟨rfl,rfl,tZ _ _⟩) ⟨(K,bu aN m (⟨ti,tg⟩:bn),aL m (⟨ti,tg⟩:bn),i_),⟨jn.2 hp,xj,rfl⟩,⟨[0,1,2,4],rfl,⟨.inl rfl,rfl,.inl rfl,.inl rfl,trivial⟩,rfl,rfl,rfl,rfl⟩⟩ fun s hs=>?_
  obtain⟨k,n,m2,c⟩:=s;obtain⟨s1,s2,s3⟩:=hs;simp only at s1 s2 s3;rcases k with _|k
  ·exact s2.elim
  refine cK (T:=Ip K) (show cN D Tryz.prog (Ip K) from⟨iF,aT _ _ look_ok,trivial⟩) mixed 200 ?_
  refine bM (q:=let Z4:=aC (aa ⟨3,0,aj⟩);let Z5:=aC (aa ⟨0,0,aj⟩);let Z6:=aC (aa ⟨2,0,aj⟩);let Z1:=(av (n,m2,c));let Z2:=(bu aN (ay Z1) (bd (ay (n,m2,c))));let Z3:=(aL (ay Z1) (bd (ay (n,m2,c))));Vc (PP (ay Z1))/\((av Z1==bP (bw Z2))=ao->aY (G (cr (aP [.agg (aP (dt (b6 (ay (n,m2,c))))),.bool ao])) [dF 1 ti tg,oP Z3,aa (.inl (75,(dt (b6 (ay (n,m2,c)))))),aa (.inl (128,(bj (ay (n,m2,c))))),aa (.inl (128,(bj Z2)))]))/\((av Z1==bP (bw Z2))=an->(decide (av Z1<bP (bw Z2))=ao->aY (∃ j,(PP (ay (av (av j)))/\CA aN (ay j) (ay (av (av j))) (ay (av j)) (av (av (av j)))/\pa aN (ay j) (ay (av (av j))) (ay (av j)) (av (av (av j)))=pa aN K (aL m (aO ti tg)) (bu aN m (aO ti tg)) i_)/\ay j<k+1/\jJ Rs 2 (pA Tryz.f122) [0,1,4,7] [Z5,.int ar (av (av (av j))),Z6,Z4] [dF 1 ti tg,oP (ay (av (av j))),aa (.inl ((75:TypeId),(dt (jD (cX 0 0) an 0)))),aa (.inl ((128:TypeId),bj (ay (av j))))] [aa (Z5),aa (bk ar (av Z1)),aa (Z6),aa (Z4)] [dF 1 ti tg,oP Z3,aa (.inl (75,(dt (jD (cX 0 0) an 0)))),aa (.inl (128,(bj Z2))),aa (.inl (128,(bj Z2)))] 52))/\(decide (av Z1<bP (bw Z2))=an->Vc True/\Vc True/\Vc (PP Z3)/\aY (∃ j,(PP (ay (av (av j)))/\CA aN (ay j) (ay (av (av j))) (ay (av j)) (av (av (av j)))/\pa aN (ay j) (ay (av (av j))) (ay (av j)) (av (av (av j)))=pa aN K (aL m (aO ti tg)) (bu aN m (aO ti tg)) i_)/\ay j<k+1/\jJ Rs 2 (pA Tryz.f122) [0,1,4,7] [Z5,.int ar (av (av (av j))),Z6,Z4] [dF 1 ti tg,oP (ay (av (av j))),aa (.inl ((75:TypeId),(dt (jD (cX 0 0) an 0)))),aa (.inl ((128:TypeId),bj (ay (av j))))] [aa (Z5),aa (bk ar (ck ar (av Z1-ck ar (bP (bw Z2)+(1:Int))))),aa (Z6),aa (Z4)] [dF 1 ti tg,oP (aL Z3 (bo (ay (n,m2,c)))),aa (.inl (75,(dt (jD (cX 0 0) an 0)))),aa (.inl (128,(bj (bu aN Z3 (bo (ay (n,m2,c))))))),aa (.inl (128,(bj Z2)))] 52)))) ?_ (by kernel_rfl)
  intro Z4 Z5 Z6 Z1 Z2 Z3;subst Z3 Z2 Z1 Z6 Z5 Z4;rw[CA] at s2;rw[pa] at s3;subst hG
  repeat' (first|apply cZ|apply Vc.mk|apply fits.mk|intro h|apply aY.mk)
  all_goals (try simp only[sB] at *)
  all_goals first|contradiction|omega|exact jF ‹_›|exact jH ‹_›|exact jG ‹_›|exact⟨rfl,by omega⟩|exact rfl|(simp[*,-au];done)|skip
  all_goals first|assumption|exact jn.2 s1|skip
  ·have h1:c=(bu aN m2 n.l).all.n:=by assumption
   rw[if_pos h1] at s3;rw[ee,← s3];exact⟨[0,1],rfl,rfl,⟨.inl rfl,rfl,trivial⟩,rfl,rfl,rfl,rfl⟩
  ·have h1:c≠(bu aN m2 n.l).all.n:=by assumption
   have h2:c<(bu aN m2 n.l).all.n:=by assumption
   rw[if_neg h1,if_pos h2] at s3;exact⟨(k,bu aN m2 n.l,aL m2 n.l,c),⟨jn.2 s1,(s2 h1).1 (by omega),s3⟩,fI _,⟨[0,1,2,3],rfl,⟨.inl rfl,rfl,.inl rfl,.inl rfl,trivial⟩,rfl,rfl,rfl,rfl⟩⟩
  ·have h1:c≠(bu aN m2 n.l).all.n:=by assumption
   have h2:¬ c<(bu aN m2 n.l).all.n:=by omega
   rw[if_neg h1,if_neg h2] at s3;exact⟨(k,bu aN (aL m2 n.l) n.r,aL (aL m2 n.l) n.r,nq (c-nq ((bu aN m2 n.l).all.n+1))),⟨jn.2 (jn.2 s1),(s2 h1).2 (by omega),s3⟩,fI _,⟨[0,1,2,3],rfl,⟨.inl rfl,rfl,.inl rfl,.inl rfl,trivial⟩,rfl,rfl,rfl,rfl⟩⟩
 ·cases hx
end G9
namespace G9
open Rx
open Gv (KK)
set_option maxRecDepth 100000
set_option maxHeartbeats 8000000
def IH:Prim Rt:=fun args hh=>match args,hh with
 |[.int .i64 c],[]=>aa ⟨True,.pointer (aa ⟨0,0,aj⟩),aj,[oT (rj k9 c)],[],[(0,0)]⟩
 |_,_=>aj
theorem Rh:b8 D2 Tryz.prog 91 (a9 IH):=by
 refine nK (c:=a9 I0) Sa fun args hh x hx=>?_
 unfold IH at hx;split at hx
 ·rename_i c;cases hx;refine⟨dv _,lV rfl,(fun hw=>by cases hw),fun hv=>⟨⟨_,.inl ⟨rfl,rfl⟩,rfl,?_,?_,?_⟩,rfl,rfl⟩⟩
  ·trivial
  ·rfl
  ·rfl
 ·cases hx
def AK:Prim Rt:=fun args hh=>match args,hh with
 |[.pointer (aa ⟨0,0,aj⟩)],[aa (.inr (.inr (.inr (.tree s))))]=>aa ⟨s.gv,.int .i64 s.l.length,aj,[oT s.seen],[],[(0,0)]⟩
 |_,_=>aj
theorem Ck:b8 D2 Tryz.prog 38 (a9 AK):=by
 refine nK (c:=a9 Ch) K4 fun args hh x hx=>?_
 unfold AK at hx;split at hx
 ·rename_i s;cases hx;refine⟨a_ _,lV rfl,(fun hw=>by cases hw),fun hv=>⟨⟨_,.inl ⟨rfl,rfl⟩,rfl,?_,?_,?_⟩,rfl,rfl⟩⟩
  ·exact s.pp hv
  ·rfl
  ·exact congrArg (bk ar) s.ok.nn
 ·cases hx
def I_:Prim Rt:=fun args hh=>match args,hh with
 |[.pointer (aa ⟨0,0,aj⟩)],[aa (.inr (.inr (.inr (.tree s))))]=>aa ⟨True,.int .i64 s.m.cY,aj,hh,[],[]⟩
 |_,_=>aj
theorem RQ:b8 D2 Tryz.prog 77 (a9 I_):=by
 refine nK (c:=a9 zr) IG fun args hh x hx=>?_
 unfold I_ at hx;split at hx
 ·rename_i s;cases hx;refine⟨a_ _,lV rfl,(fun _=>rfl),fun hv=>⟨⟨_,.inl ⟨rfl,rfl⟩,rfl,?_,?_,?_⟩,rfl,rfl⟩⟩
  ·trivial
  ·rfl
  ·rfl
 ·cases hx
def Ea:Prim Rt:=fun args hh=>match args,hh with
 |[.pointer (aa ⟨0,0,aj⟩),.agg ⟨[.int .i64 k0,.int .i64 k1,.bool k2,.int .i64 k3]⟩],[aa (.inr (.inr (.inr (.tree s))))]=>aa ⟨s.ls (⟨⟨k0,k1⟩,k2,k3⟩:jR),.bool (s.Kw (⟨⟨k0,k1⟩,k2,k3⟩:jR)),aj,[oT (s.put (⟨⟨k0,k1⟩,k2,k3⟩:jR))],[],[(0,0)]⟩
 |_,_=>aj
theorem HV:b8 D2 Tryz.prog 68 (a9 Ea):=by
 refine nK (c:=a9 (IK KK)) (RC KK) fun args hh x hx=>?_
 unfold Ea at hx;split at hx
 ·rename_i k0 k1 k2 k3 s;cases hx;refine⟨a_ _,lV rfl,(fun hw=>by cases hw),fun hv=>⟨⟨_,.inl ⟨rfl,rfl⟩,rfl,?_,?_,?_⟩,rfl,rfl⟩⟩
  ·exact⟨rfl,s.pp hv.mb,(F1 hv).1⟩
  ·rw[W2 hv];rfl
  ·exact congrArg aE (F1 hv).2.1
 ·cases hx
def Dh:Prim Rt:=fun args hh=>match args,hh with
 |[.pointer (aa ⟨0,0,aj⟩),.agg ⟨[.int .i64 k0,.int .i64 k1,.bool k2,.int .i64 k3]⟩],[aa (.inr (.inr (.inr (.tree s))))]=>aa ⟨s.gv,.tuple #[.agg ⟨[.int .i64 (fG aN (⟨⟨k0,k1⟩,k2,k3⟩:jR) s.l).1.it.k,.int .i64 (fG aN (⟨⟨k0,k1⟩,k2,k3⟩:jR) s.l).1.it.i,.bool (fG aN (⟨⟨k0,k1⟩,k2,k3⟩:jR) s.l).1.kK,.int .i64 (fG aN (⟨⟨k0,k1⟩,k2,k3⟩:jR) s.l).1.time]⟩,.bool (fG aN (⟨⟨k0,k1⟩,k2,k3⟩:jR) s.l).2],aj,[oT (s.drop (⟨⟨k0,k1⟩,k2,k3⟩:jR))],[],[(0,0)]⟩
 |_,_=>aj
theorem IC:b8 D2 Tryz.prog 75 (a9 Dh):=by
 refine nK (c:=a9 (E' KK)) (Nu KK) fun args hh x hx=>?_
 unfold Dh at hx;split at hx
 ·rename_i k0 k1 k2 k3 s;cases hx;refine⟨a_ _,lV rfl,(fun hw=>by cases hw),fun hv=>⟨⟨_,.inl ⟨rfl,rfl⟩,rfl,?_,?_,?_⟩,rfl,rfl⟩⟩
  ·exact⟨rfl,s.pp hv,(s.tK (⟨⟨k0,k1⟩,k2,k3⟩:jR)).1⟩
  ·rfl
  ·obtain⟨_,h1,h2,_⟩:=s.tK (⟨⟨k0,k1⟩,k2,k3⟩:jR);show cr #[.agg ⟨[.int .i64 (j4 aN KK s.m s.r (⟨⟨k0,k1⟩,k2,k3⟩:jR)).1.it.k,.int .i64 (j4 aN KK s.m s.r (⟨⟨k0,k1⟩,k2,k3⟩:jR)).1.it.i,.bool (j4 aN KK s.m s.r (⟨⟨k0,k1⟩,k2,k3⟩:jR)).1.kK,.int .i64 (j4 aN KK s.m s.r (⟨⟨k0,k1⟩,k2,k3⟩:jR)).1.time]⟩,.bool (j4 aN KK s.m s.r (⟨⟨k0,k1⟩,k2,k3⟩:jR)).2.1]=_
   have h1:(j4 aN KK s.m s.r (⟨⟨k0,k1⟩,k2,k3⟩:jR)).1=(fG aN (⟨⟨k0,k1⟩,k2,k3⟩:jR) s.l).1:=h1;have h2:(j4 aN KK s.m s.r (⟨⟨k0,k1⟩,k2,k3⟩:jR)).2.1=(fG aN (⟨⟨k0,k1⟩,k2,k3⟩:jR) s.l).2:=h2;rw[h1,h2]
   rfl
 ·cases hx
def AM:Prim Rt:=fun args hh=>match args,hh with
 |[.pointer (aa ⟨0,0,aj⟩),.agg ⟨[.int .i64 k0,.int .i64 k1,.bool k2,.int .i64 k3]⟩],[aa (.inr (.inr (.inr (.tree s))))]=>aa ⟨s.gv,.tuple #[.agg ⟨[.int .i64 (fG aN (⟨⟨k0,k1⟩,k2,k3⟩:jR) s.l).1.it.k,.int .i64 (fG aN (⟨⟨k0,k1⟩,k2,k3⟩:jR) s.l).1.it.i,.bool (fG aN (⟨⟨k0,k1⟩,k2,k3⟩:jR) s.l).1.kK,.int .i64 (fG aN (⟨⟨k0,k1⟩,k2,k3⟩:jR) s.l).1.time]⟩,.bool (fG aN (⟨⟨k0,k1⟩,k2,k3⟩:jR) s.l).2],aj,[oT (s.find (⟨⟨k0,k1⟩,k2,k3⟩:jR))],[],[(0,0)]⟩
 |_,_=>aj
theorem Fc:b8 D2 Tryz.prog 94 (a9 AM):=by
 refine nK (c:=a9 (Ff KK)) (NP KK) fun args hh x hx=>?_
 unfold AM at hx;split at hx
 ·rename_i k0 k1 k2 k3 s;cases hx;refine⟨a_ _,lV rfl,(fun hw=>by cases hw),fun hv=>⟨⟨_,.inl ⟨rfl,rfl⟩,rfl,?_,?_,?_⟩,rfl,rfl⟩⟩
  ·exact⟨rfl,s.pp hv,(s.ok.find (e:=(⟨⟨k0,k1⟩,k2,k3⟩:jR)) s.k1).1⟩
  ·rfl
  ·obtain⟨_,m',h1,_⟩:=s.ok.find (K:=KK) (e:=(⟨⟨k0,k1⟩,k2,k3⟩:jR)) s.k1;have h1:(iO aN KK (aL s.m s.r) (bu aN s.m s.r) (⟨⟨k0,k1⟩,k2,k3⟩:jR))=((fG aN (⟨⟨k0,k1⟩,k2,k3⟩:jR) s.l),m'):=h1;show cr #[.agg ⟨[.int .i64 (iO aN KK (aL s.m s.r) (bu aN s.m s.r) (⟨⟨k0,k1⟩,k2,k3⟩:jR)).1.1.it.k,.int .i64 (iO aN KK (aL s.m s.r) (bu aN s.m s.r) (⟨⟨k0,k1⟩,k2,k3⟩:jR)).1.1.it.i,.bool (iO aN KK (aL s.m s.r) (bu aN s.m s.r) (⟨⟨k0,k1⟩,k2,k3⟩:jR)).1.1.kK,.int .i64 (iO aN KK (aL s.m s.r) (bu aN s.m s.r) (⟨⟨k0,k1⟩,k2,k3⟩:jR)).1.1.time]⟩,.bool (iO aN KK (aL s.m s.r) (bu aN s.m s.r) (⟨⟨k0,k1⟩,k2,k3⟩:jR)).1.2]=_
   rw[h1]
   rfl
 ·cases hx
def Hx:Prim Rt:=fun args hh=>match args,hh with
 |[.pointer (aa ⟨0,0,aj⟩),.agg ⟨[.int .i64 k0,.int .i64 k1,.bool k2,.int .i64 k3]⟩],[aa (.inr (.inr (.inr (.tree s))))]=>aa ⟨s.gv,.int .i64 (ze aN (⟨⟨k0,k1⟩,k2,k3⟩:jR) s.l).length,aj,[oT (s.kI (⟨⟨k0,k1⟩,k2,k3⟩:jR))],[],[(0,0)]⟩
 |_,_=>aj
theorem Wy:b8 D2 Tryz.prog 129 (a9 Hx):=by
 refine nK (c:=a9 (Fm KK)) (NJ KK) fun args hh x hx=>?_
 unfold Hx at hx;split at hx
 ·rename_i k0 k1 k2 k3 s;cases hx;refine⟨a_ _,lV rfl,(fun hw=>by cases hw),fun hv=>⟨⟨_,.inl ⟨rfl,rfl⟩,rfl,?_,?_,?_⟩,rfl,rfl⟩⟩
  ·exact⟨rfl,s.pp hv,(s.ok.kI (e:=(⟨⟨k0,k1⟩,k2,k3⟩:jR)) s.k1).1⟩
  ·rfl
  ·obtain⟨_,m',h1,_⟩:=s.ok.kI (K:=KK) (e:=(⟨⟨k0,k1⟩,k2,k3⟩:jR)) s.k1;have h1:(lX aN KK (aL s.m s.r) (bu aN s.m s.r) (⟨⟨k0,k1⟩,k2,k3⟩:jR) 0)=(((ze aN (⟨⟨k0,k1⟩,k2,k3⟩:jR) s.l).length:Int),m'):=h1;show bk ar (lX aN KK (aL s.m s.r) (bu aN s.m s.r) (⟨⟨k0,k1⟩,k2,k3⟩:jR) 0).1=_
   rw[h1]
   rfl
 ·cases hx
def IU:Prim Rt:=fun args hh=>match args,hh with
 |[.pointer (aa ⟨0,0,aj⟩)],[aa (.inr (.inr (.inr (.tree s))))]=>aa ⟨s.gv,.slice (aa ⟨1,0,aa 4000⟩) s.l.length 0,aj,[oT s.all,aa (.inr (.inl (75,⟨[.int .i64 0,.int .i64 0,.bool an,.int .i64 0],s.l.length,[⟨s.l.map fun e=>e.it.k,[],[]⟩,⟨s.l.map fun e=>e.it.i,[],[]⟩,⟨[],s.l.map fun e=>e.kK,[]⟩,⟨s.l.map fun e=>e.time,[],[]⟩]⟩)))],[],[(0,0)]⟩
 |_,_=>aj
theorem QV:b8 D2 Tryz.prog 61 (a9 IU):=by
 refine nK (c:=a9 (Im KK)) (Rn KK) fun args hh x hx=>?_
 unfold IU at hx;split at hx
 ·rename_i s;cases hx;refine⟨kZ _,lV rfl,(fun hw=>by cases hw),fun hv=>⟨⟨_,.inl ⟨rfl,rfl⟩,rfl,?_,?_,?_⟩,rfl,rfl⟩⟩
  ·exact⟨s.pp hv,(s.ok.all (K:=KK) s.k1).1⟩
  ·obtain⟨_,m',h1,_⟩:=s.ok.all (K:=KK) s.k1;have h1:(b5 aN KK (aL s.m s.r) s.r)=(s.l,m'):=h1;show([aa (.inl (132,[.pointer (aa ⟨1,0,aj⟩),.int .i64 s.r.i,.int .i64 s.r.g])),aa (.inr (.inr (.inr (.db (b5 aN KK (aL s.m s.r) s.r).2)))),aa (.inr (.inl (75,⟨[.int .i64 0,.int .i64 0,.bool an,.int .i64 0],(b5 aN KK (aL s.m s.r) s.r).1.length,[⟨(b5 aN KK (aL s.m s.r) s.r).1.map fun e=>e.it.k,[],[]⟩,⟨(b5 aN KK (aL s.m s.r) s.r).1.map fun e=>e.it.i,[],[]⟩,⟨[],(b5 aN KK (aL s.m s.r) s.r).1.map fun e=>e.kK,[]⟩,⟨(b5 aN KK (aL s.m s.r) s.r).1.map fun e=>e.time,[],[]⟩]⟩)))]:Hp Rs)=[aa (.inl (132,[.pointer (aa ⟨1,0,aj⟩),.int .i64 s.r.i,.int .i64 s.r.g])),aa (.inr (.inr (.inr (.db (b5 aN KK (aL s.m s.r) s.r).2)))),aa (.inr (.inl (75,⟨[.int .i64 0,.int .i64 0,.bool an,.int .i64 0],s.l.length,[⟨s.l.map fun e=>e.it.k,[],[]⟩,⟨s.l.map fun e=>e.it.i,[],[]⟩,⟨[],s.l.map fun e=>e.kK,[]⟩,⟨s.l.map fun e=>e.time,[],[]⟩]⟩)))]
   rw[h1]
  ·obtain⟨_,m',h1,_⟩:=s.ok.all (K:=KK) s.k1;have h1:(b5 aN KK (aL s.m s.r) s.r)=(s.l,m'):=h1;show br (aa ⟨2,0,aa 4000⟩) (b5 aN KK (aL s.m s.r) s.r).1.length 0=_
   rw[h1]
   rfl
 ·cases hx
def RU:Prim Rt:=fun args hh=>match args,hh with
 |[.pointer (aa ⟨0,0,aj⟩),.int .i64 i_],[aa (.inr (.inr (.inr (.tree s))))]=>aa ⟨s.gv,.tuple #[.agg ⟨[.int .i64 (mE aN i_ s.l).1.it.k,.int .i64 (mE aN i_ s.l).1.it.i,.bool (mE aN i_ s.l).1.kK,.int .i64 (mE aN i_ s.l).1.time]⟩,.bool (mE aN i_ s.l).2],aj,[oT (s.at_ i_)],[],[(0,0)]⟩
 |_,_=>aj
theorem ac3:b8 D2 Tryz.prog 122 (a9 RU):=by
 refine nK (c:=a9 (Of KK)) (V' KK) fun args hh x hx=>?_
 unfold RU at hx;split at hx
 ·rename_i i_ s;cases hx;refine⟨a_ _,lV rfl,(fun hw=>by cases hw),fun hv=>⟨⟨_,.inl ⟨rfl,rfl⟩,rfl,?_,?_,?_⟩,rfl,rfl⟩⟩
  ·exact⟨s.pp hv,(s.ok.at_ (i:=i_) s.k1).1⟩
  ·rfl
  ·obtain⟨_,m',h1,_⟩:=s.ok.at_ (K:=KK) (i:=i_) s.k1;have h1:(lJ aN KK s.m s.r i_)=((mE aN i_ s.l),m'):=h1;show cr #[.agg ⟨[.int .i64 (lJ aN KK s.m s.r i_).1.1.it.k,.int .i64 (lJ aN KK s.m s.r i_).1.1.it.i,.bool (lJ aN KK s.m s.r i_).1.1.kK,.int .i64 (lJ aN KK s.m s.r i_).1.1.time]⟩,.bool (lJ aN KK s.m s.r i_).1.2]=_
   rw[h1]
   rfl
 ·cases hx
end G9
namespace Wv
open Rx
set_option maxRecDepth 100000
set_option maxHeartbeats 4000000
def ad7 {R:Type}:Prim R:=fun args hh=>match args,hh with
 |[.agg ⟨[.int .i64 a,.int .i64 b]⟩,.agg ⟨[.int .i64 c,.int .i64 d]⟩],[]=>aa ⟨True,.bool (decide (ah ⟨a,b⟩ ⟨c,d⟩)),aj,hh,[],[]⟩
 |_,_=>aj
theorem aiA {R:Type} {D:fR R}:b8 D Tryz.prog 92 (a9 ad7):=by
 refine fx Tryz.f92 fun args hh x hx=>?_
 unfold ad7 at hx;split at hx
 ·rename_i a b c d;cases hx;refine q4 fun _ hv=>?_
  generalize hG:cj (R:=R) _ _=G;refine cK (T:=[]) trivial mixed 200 ?_;refine bM (q:=let Z1:=bk ar;(decide (a<c)=an->((a==c)=ao->aY (G (aE (decide (b<d))) [aa (.inl (31,[Z1 a,Z1 b])),aa (.inl (31,[Z1 c,Z1 d]))]))/\((a==c)=an->aY (G (aE an) [aa (.inl (31,[Z1 a,Z1 b])),aa (.inl (31,[Z1 c,Z1 d]))])))/\(decide (a<c)=ao->aY (G (aE ao) [aa (.inl (31,[Z1 a,Z1 b])),aa (.inl (31,[Z1 c,Z1 d]))]))) ?_ (by kernel_rfl)
  intro Z1;subst Z1;have fin:∀ (z:Bool) (hp:Hp R),z=decide (ah ⟨a,b⟩ ⟨c,d⟩)->G (.bool z) hp:=by
   intro z hp ht;subst ht;subst hG;exact⟨⟨[],rfl,rfl,trivial,rfl,rfl,rfl,rfl⟩⟩
  clear hG
  repeat' (first|apply cZ|apply Vc.mk|apply fits.mk|intro h|apply aY.mk)
  all_goals (try simp only[sB] at *)
  all_goals first|contradiction|omega|exact jF ‹_›|exact jH ‹_›|exact jG ‹_›|exact⟨rfl,by omega⟩|exact rfl|(simp[*,-au];done)|skip
  ·refine fin _ _ (decide_eq_decide.2 ?_);unfold ah;simp only;omega
  ·refine fin _ _ (decide_eq_false ?_).symm;unfold ah;simp only;omega
  ·refine fin _ _ (decide_eq_true ?_).symm;unfold ah;simp only;omega
 ·cases hx
abbrev iR (l:List It):Row:=⟨[.int .i64 0,.int .i64 0],l.length,[⟨l.map It.k,[],[]⟩,⟨l.map It.i,[],[]⟩]⟩
def gu (r:Row):List It:=match r.ew with
 |[a,b]=>(oD r.n).map fun i=>⟨a.i.getD i 0,b.i.getD i 0⟩
 |_=>[]
theorem GA {α:Type} {l:List α} {f:Nat->α} (h:∀ i (hi:i<l.length),f i=l[i]):(oD l.length).map f=l:=by
 refine OJ (by simp) fun i h1 h2=>?_
 simp only[List.getElem_map,List.getElem_range];exact h i h2
theorem I7 {α β:Type} {l:List α} {i:Nat} (f:α->β) (d:β) (hi:i<l.length):(l.map f).getD i d=f l[i]:=by
 rw[au,fu,bc hi];rfl
theorem CP (l:List It):gu (iR l)=l:=by
 unfold gu;refine GA fun i hi=>?_
 simp only[I7 _ _ hi]
theorem Yw {α β:Type} (f:α->β) (l:List α) (a b:Nat):cut (l.map f) a b=(cut l a b).map f:=by
 unfold cut;rw[nO,mT]
theorem cm {α β:Type} (f:α->β) (l:List α):cut (l.map f) 0 l.length=l.map f:=fK (by simp)
abbrev vI {R:Type} (l:List It):Option (SB R):=aa (.inr (.inr (.inl (iR l))))
abbrev oI {R:Type} (l:List It):Option (SB R):=aa (.inr (.inl (31,iR l)))
theorem aeW {α:Type} {x:List α} {a b:Nat} (h:x.length≤a+b):cut x a b=x.drop a:=by
 unfold cut;exact jw (by simp;omega)
theorem aes {α:Type} {x:List α} {r:Nat} (v:α) (h:r≤x.length):cut (cut ([]++cut x 0 r) 0 r++cut [v] 0 1) 0 (r+1)=x.take r++[v]:=by
 have h1:cut ([]++cut x 0 r) 0 r=x.take r:=by unfold cut;simp[List.take_take]
 rw[h1,show cut [v] 0 1=[v] from rfl]
 exact fK (by simp;omega)
theorem Fs {α:Type} {x:List α} {r L:Nat} {v:α} (hL:x.length=L) (h:r≤L):cut (cut ([]++cut x 0 r) 0 r++cut [v] 0 1) 0 (r+1)++cut x r ((L:Int)-(r:Int)).toNat=x.take r++v::x.drop r:=by
 rw[aes v (by omega),aeW (by omega)]
 simp
theorem Va {l:List It} {i:Nat} (hi:i<l.length):mY (l.take (i+1))=ins (l.getD i iz) (mY (l.take i)):=by
 rw[ye iz hi,Fa]
theorem mo {x:It} {S:List It} {k:Nat} (h:tS x S S.length=k):(ins x S).map It.k=(S.map It.k).take k++x.k::(S.map It.k).drop k/\(ins x S).map It.i=(S.map It.i).take k++x.i::(S.map It.i).drop k/\(k≤S.length->k+1+((S.length:Int)-(k:Int)).toNat=(ins x S).length):=by
 subst h;refine⟨?_,?_,fun h=>?_⟩
 ·unfold ins;rw[dM,gC,nO,mT]
 ·unfold ins;rw[dM,gC,nO,mT]
 ·rw[XW];omega
def TAh {R:Type}:eM R:=[(92,bJ zN 2 (a9 ad7))]
theorem Wc {R:Type} {D:fR R}:cN D Tryz.prog (TAh:eM R):=⟨aT _ _ aiA,trivial⟩
def aak {R:Type}:Prim R:=fun args hh=>match args,hh with
 |[.slice (aa ⟨0,0,aa 2000⟩) n c],[aa (.inr (.inr (.inl r)))]=>aa ⟨r=iR (gu r)/\n=(gu r).length/\(gu r).length≤100000,.slice (aa ⟨1,0,aa 2000⟩) (mY (gu r)).length 0,aj,[aa (.inr (.inr (.inl r))),oI (mY (gu r))],[],[(0,0)]⟩
 |_,_=>aj
theorem agQ {R:Type} {D:fR R}:b8 D Tryz.prog 59 (a9 aak):=by
 refine fx Tryz.f59 fun args hh x hx=>?_
 unfold aak at hx;split at hx
 ·rename_i n c r;cases hx;refine q4 fun _ hv=>?_
  obtain⟨hr,rfl,hb⟩:=hv;generalize gu r=l at *;subst hr
  generalize hG:cj (R:=R) _ _=G;refine cK (T:=TAh) Wc mixed 200 ?_;refine bM (q:=let Z1:=bk ar;At D Tryz.prog (dI Tryz.f59) 1 (iB Tryz.prog (dw (dx Tryz.f59)) G) [.inl [1,1,0,1,0],.inr (.inl 0),.inl [1,1,1]] (SS.mk (aa (br (aa ⟨0,0,aa 2000⟩) l.length c)::aj::aa (br (aa ⟨1,0,aa 2000⟩) 0 0)::aa (br (aa ⟨2,0,aa 2000⟩) 0 0)::aa (Z1 0)::nH (nH (n4 (n4 (n4 ([])))))) [] [aa (.inr (.inr (.inl (Row.mk [Z1 0,Z1 0] l.length [aW.mk (aw It.k l) [] [],aW.mk (aw It.i l) [] []])))),aa (.inr (.inl (31,Row.mk [Z1 0,Z1 0] 0 [aW.mk [] [] [],aW.mk [] [] []]))),aa (.inr (.inl (31,Row.mk [Z1 0,Z1 0] 0 [aW.mk [] [] [],aW.mk [] [] []])))])) ?_ (by kernel_rfl)
  intro Z1;subst Z1;refine kC (by kernel_rfl) (ι:=Nat×List It) (fun x=>x.1≤l.length/\x.2=mY (l.take x.1)) [0,3,4] (fun x=>[.slice (aa ⟨0,0,aa 2000⟩) l.length c,.slice (aa ⟨1,0,aa 2000⟩) x.2.length 0,.int .i64 x.1]) (fun x=>[vI l,oI x.2]) (fun x=>l.length-x.1) 49 (fun i hi=>⟨rfl,rfl,by simp⟩) ⟨(0,[]),⟨dv _,rfl⟩,⟨[0,2],rfl,⟨rfl,⟨_,rfl,.inl rfl⟩,trivial⟩,rfl,rfl,rfl,rfl⟩⟩ fun x hx=>?_
  obtain⟨i,S⟩:=x;obtain⟨hi,hS⟩:=hx;simp only at hi hS ⊢;have hSl:S.length=i:=by rw[hS,Ya,ej];omega
  refine cK (T:=TAh) Wc mixed 200 ?_;refine bM (q:=let Z3:=bk ar;let Z1:=(br (aa ⟨0,0,aa 2000⟩) l.length c);let Z2:=(br (aa ⟨1,0,aa 2000⟩) (ae S) 0);(decide ((↑i:Int)<(↑l.length:Int))=ao->At D Tryz.prog (dI Tryz.f59) 1 (iB Tryz.prog (dw (dx Tryz.f59)) G) [.inl [1,1,0,1,0,0,1,0,0,1,0,0],.inr (.inl 2),.inl [1,1,0,1,0,0,1,0,0,1,1],.inr (.inl 1),.inl [1,1,0,1,0,0,1,1],.inr (.inr fun oV=>∃ j,(ay j≤ae l/\av j=mY (h_ (ay j) l))/\ae l-ay j<ae l-i/\jJ R 1 49 [0,3,4] [.slice (aa ⟨0,0,aa 2000⟩) l.length c,.slice (aa ⟨1,0,aa 2000⟩) (ae (av j)) 0,Z3 (↑(ay j):Int)] [vI l,oI (av j)] (Ko (SS.tm oV) [0,3,4]) (SS.hp oV) (ae (SS.tm oV))),.inr (.inl 0),.inl [1,1,1]] (SS.mk (aa Z1::aj::aj::aa Z2::aa (Z3 (↑i:Int))::aa (Z3 (↑(ae S):Int))::aj::aa (Z3 (↑i:Int))::aa Z1::aa (Z3 (↑l.length:Int))::aa (aE ao)::aj::aj::aa Z2::aa (Z3 (↑(ae S):Int))::nH (nH (aj::aj::[]))) [(10,ao)] [aa (.inr (.inr (.inl (Row.mk [Z3 0,Z3 0] l.length [aW.mk (aw It.k l) [] [],aW.mk (aw It.i l) [] []])))),aa (.inr (.inl (31,Row.mk [Z3 0,Z3 0] (ae S) [aW.mk (aw It.k S) [] [],aW.mk (aw It.i S) [] []])))]))/\(decide ((↑i:Int)<(↑l.length:Int))=an->aY (G Z2 [aa (.inr (.inr (.inl (Row.mk [Z3 0,Z3 0] l.length [aW.mk (aw It.k l) [] [],aW.mk (aw It.i l) [] []])))),aa (.inr (.inl (31,Row.mk [Z3 0,Z3 0] (ae S) [aW.mk (aw It.k S) [] [],aW.mk (aw It.i S) [] []])))]))) ?_ (by kernel_rfl)
  intro Z3 Z1 Z2;subst Z2 Z1 Z3;refine⟨fun h=>?_,fun h=>⟨?_⟩⟩
  ·have cd:i<l.length:=by have:=of_decide_eq_true h;omega
   clear h;refine kC (by kernel_rfl) (ι:=Nat) (fun k=>k≤S.length/\tS (l.getD i iz) S k=tS (l.getD i iz) S S.length) [0,3,4,5] (fun k=>[.slice (aa ⟨0,0,aa 2000⟩) l.length c,.slice (aa ⟨1,0,aa 2000⟩) S.length 0,.int .i64 i,.int .i64 k]) (fun k=>[vI l,oI S]) (fun k=>k) 49 (fun i hi=>⟨rfl,rfl,by simp⟩) ⟨S.length,⟨a_ _,rfl⟩,⟨[0,1],rfl,⟨rfl,⟨_,rfl,.inl rfl⟩,trivial⟩,rfl,rfl,rfl,rfl⟩⟩ fun k hk=>?_
   obtain⟨Y0,hk2⟩:=hk;refine cK (T:=TAh) Wc mixed 200 ?_;refine bM (q:=let Z5:=bk ar;let Z1:=(↑k:Int);let Z2:=(↑(ae S):Int);let Z3:=(ah (It.mk (aB (aw It.k l) (0+(i:Int).toNat) (0:Int)) (aB (aw It.i l) (0+(i:Int).toNat) (0:Int))) (It.mk (aB (aw It.k S) (0+aD (Z1-(1:Int))) (0:Int)) (aB (aw It.i S) (0+aD (Z1-(1:Int))) (0:Int))));let Z4:=(br (aa ⟨0,0,aa 2000⟩) l.length c);(decide (Z1>(0:Int))=ao->Vc (aE (decide (Z1>(0:Int)))=aE ao)/\Vc ((0:Int)≤(↑i:Int)/\(↑i:Int)<(↑l.length:Int)/\0+ae l≤ae l)/\Vc (0+(i:Int).toNat<ae l)/\Vc (fits (Z1-(1:Int)))/\Vc ((0:Int)≤Z1-(1:Int)/\Z1-(1:Int)<Z2/\0+ae S≤ae S)/\Vc (0+aD (Z1-(1:Int))<ae S)/\Vc True/\(decide Z3=ao->Vc (fits (Z1-(1:Int)))/\aY (∃ j,(j≤ae S/\tS (aB l i iz) S j=tS (aB l i iz) S (ae S))/\j<k/\jJ R 1 49 [0,3,4,5] [.slice (aa ⟨0,0,aa 2000⟩) l.length c,.slice (aa ⟨1,0,aa 2000⟩) (ae S) 0,Z5 (↑i:Int),Z5 (↑j:Int)] [vI l,oI S] [aa Z4,aa (br (aa ⟨1,0,aa 2000⟩) (ae S) 0),aa (Z5 (↑i:Int)),aa (Z5 (Z1-(1:Int)))] [aa (.inr (.inr (.inl (Row.mk [Z5 0,Z5 0] l.length [aW.mk (aw It.k l) [] [],aW.mk (aw It.i l) [] []])))),aa (.inr (.inl (31,Row.mk [Z5 0,Z5 0] (ae S) [aW.mk (aw It.k S) [] [],aW.mk (aw It.i S) [] []])))] 49))/\(decide Z3=an->Vc ((0:Int)≤Z1/\Z1≤Z2/\0+ae S≤ae S)/\Vc (0≤0/\0+aD Z1≤ae S/\(0+aD Z1)*16≤140737488355328/\0+aD Z1≤140737488355328)/\Vc ((0:Int)≤(↑i:Int)/\(↑i:Int)<(↑l.length:Int)/\0+ae l≤ae l)/\Vc (0+(i:Int).toNat<ae l)/\Vc (0+(0+aD Z1)≤0+aD Z1/\1≤1/\(0+aD Z1+1)*16≤140737488355328/\0+aD Z1+1≤140737488355328)/\Vc (0=0/\(0:Int)≤Z1/\Z1≤Z2/\Z2≤Z2/\0+ae S≤ae S)/\Vc (0+(0+aD Z1+1)≤0+aD Z1+1/\0+aD Z1+aD (Z2-Z1)≤ae S/\(0+aD Z1+1+aD (Z2-Z1))*16≤140737488355328/\0+aD Z1+1+aD (Z2-Z1)≤140737488355328)/\Vc (fits ((↑i:Int)+(1:Int)))/\aY (∃ j,(ay j≤ae l/\av j=mY (h_ (ay j) l))/\ae l-ay j<ae l-i/\jJ R 1 49 [0,3,4] [.slice (aa ⟨0,0,aa 2000⟩) l.length c,.slice (aa ⟨1,0,aa 2000⟩) (ae (av j)) 0,Z5 (↑(ay j):Int)] [vI l,oI (av j)] [aa Z4,aa (br (aa ⟨6,0,aa 2000⟩) (0+aD Z1+1+aD (Z2-Z1)) 0),aa (Z5 ((↑i:Int)+(1:Int)))] [aa (.inr (.inr (.inl (Row.mk [Z5 0,Z5 0] l.length [aW.mk (aw It.k l) [] [],aW.mk (aw It.i l) [] []])))),aa (.inr (.inl (31,Row.mk [Z5 0,Z5 0] (ae S) [aW.mk (aw It.k S) [] [],aW.mk (aw It.i S) [] []]))),aj,aj,aa (.inr (.inl (31,Row.mk [Z5 0,Z5 0] 1 [aW.mk [aB (aw It.k l) (0+(i:Int).toNat) (0:Int)] [] [],aW.mk [aB (aw It.i l) (0+(i:Int).toNat) (0:Int)] [] []]))),aj,aa (.inr (.inl (31,Row.mk [Z5 0,Z5 0] (0+aD Z1+1+aD (Z2-Z1)) [aW.mk (cut (cut ([]++cut (aw It.k S) 0 (aD Z1)) 0 (0+aD Z1)++cut [aB (aw It.k l) (0+(i:Int).toNat) (0:Int)] 0 1) 0 (0+aD Z1+1)++cut (aw It.k S) (0+aD Z1) (aD (Z2-Z1))) [] [],aW.mk (cut (cut ([]++cut (aw It.i S) 0 (aD Z1)) 0 (0+aD Z1)++cut [aB (aw It.i l) (0+(i:Int).toNat) (0:Int)] 0 1) 0 (0+aD Z1+1)++cut (aw It.i S) (0+aD Z1) (aD (Z2-Z1))) [] []])))] 49)))/\(decide (Z1>(0:Int))=an->Vc (aE (decide (Z1>(0:Int)))=aE an)/\Vc ((0:Int)≤Z1/\Z1≤Z2/\0+ae S≤ae S)/\Vc (0≤0/\0+aD Z1≤ae S/\(0+aD Z1)*16≤140737488355328/\0+aD Z1≤140737488355328)/\Vc ((0:Int)≤(↑i:Int)/\(↑i:Int)<(↑l.length:Int)/\0+ae l≤ae l)/\Vc (0+(i:Int).toNat<ae l)/\Vc (0+(0+aD Z1)≤0+aD Z1/\1≤1/\(0+aD Z1+1)*16≤140737488355328/\0+aD Z1+1≤140737488355328)/\Vc (0=0/\(0:Int)≤Z1/\Z1≤Z2/\Z2≤Z2/\0+ae S≤ae S)/\Vc (0+(0+aD Z1+1)≤0+aD Z1+1/\0+aD Z1+aD (Z2-Z1)≤ae S/\(0+aD Z1+1+aD (Z2-Z1))*16≤140737488355328/\0+aD Z1+1+aD (Z2-Z1)≤140737488355328)/\Vc (fits ((↑i:Int)+(1:Int)))/\aY (∃ j,(ay j≤ae l/\av j=mY (h_ (ay j) l))/\ae l-ay j<ae l-i/\jJ R 1 49 [0,3,4] [.slice (aa ⟨0,0,aa 2000⟩) l.length c,.slice (aa ⟨1,0,aa 2000⟩) (ae (av j)) 0,Z5 (↑(ay j):Int)] [vI l,oI (av j)] [aa Z4,aa (br (aa ⟨6,0,aa 2000⟩) (0+aD Z1+1+aD (Z2-Z1)) 0),aa (Z5 ((↑i:Int)+(1:Int)))] [aa (.inr (.inr (.inl (Row.mk [Z5 0,Z5 0] l.length [aW.mk (aw It.k l) [] [],aW.mk (aw It.i l) [] []])))),aa (.inr (.inl (31,Row.mk [Z5 0,Z5 0] (ae S) [aW.mk (aw It.k S) [] [],aW.mk (aw It.i S) [] []]))),aj,aj,aa (.inr (.inl (31,Row.mk [Z5 0,Z5 0] 1 [aW.mk [aB (aw It.k l) (0+(i:Int).toNat) (0:Int)] [] [],aW.mk [aB (aw It.i l) (0+(i:Int).toNat) (0:Int)] [] []]))),aj,aa (.inr (.inl (31,Row.mk [Z5 0,Z5 0] (0+aD Z1+1+aD (Z2-Z1)) [aW.mk (cut (cut ([]++cut (aw It.k S) 0 (aD Z1)) 0 (0+aD Z1)++cut [aB (aw It.k l) (0+(i:Int).toNat) (0:Int)] 0 1) 0 (0+aD Z1+1)++cut (aw It.k S) (0+aD Z1) (aD (Z2-Z1))) [] [],aW.mk (cut (cut ([]++cut (aw It.i S) 0 (aD Z1)) 0 (0+aD Z1)++cut [aB (aw It.i l) (0+(i:Int).toNat) (0:Int)] 0 1) 0 (0+aD Z1+1)++cut (aw It.i S) (0+aD Z1) (aD (Z2-Z1))) [] []])))] 49))) ?_ (by kernel_rfl)
   intro Z5 Z1 Z2 Z3 Z4;subst Z4 Z3 Z2 Z1 Z5;have e0:0+(i:Int).toNat=i:=by omega
   have gl:∀ f:It->Int,f iz=0->(l.map f).getD i 0=f (l.getD i iz):=fun f hf=>by rw[I7 f 0 cd,au,bc cd];rfl
   simp only[e0,gl It.k rfl,gl It.i rfl];have gS:∀ f:It->Int,f iz=0->((k:Int)-1).toNat<S.length->(S.map f).getD ((k:Int)-1).toNat 0=f (S.getD ((k:Int)-1).toNat iz):=fun f hf hj=>by rw[I7 f 0 hj,au,bc hj];rfl
   repeat' (first|apply cZ|apply Vc.mk|apply fits.mk|intro h|apply aY.mk)
   all_goals (try simp only[sB] at *)
   all_goals first|contradiction|omega|exact jF ‹_›|exact jH ‹_›|exact jG ‹_›|exact⟨rfl,by omega⟩|exact rfl|(simp[*,-au];done)|skip
   ·have h1:(k:Int)>0:=by assumption
    rw[gS It.k rfl (by omega),gS It.i rfl (by omega)] at h
    obtain⟨n,rfl⟩:∃ n,k=n+1:=⟨k-1,by omega⟩
    have e1:((n+1:Nat):Int)-1=n:=by omega
    rw[e1,iS] at h;rw[e1];exact⟨n,⟨by omega,by rw[← hk2,tS,if_pos h]⟩,fI _,⟨[0,1],rfl,⟨rfl,⟨_,rfl,.inl rfl⟩,trivial⟩,rfl,rfl,rfl,rfl⟩⟩
   ·have h1:(k:Int)>0:=by assumption
    rw[gS It.k rfl (by omega),gS It.i rfl (by omega)] at h
    obtain⟨n,rfl⟩:∃ n,k=n+1:=⟨k-1,by omega⟩
    have e1:((n+1:Nat):Int)-1=n:=by omega
    rw[e1,iS] at h;have hp:tS (l.getD i iz) S S.length=n+1:=by rw[← hk2,tS,if_neg h]
    have hI:=mo hp;simp only[Fs (x:=S.map It.k) (r:=n+1) (L:=S.length) (fZ ..) Y0,Fs (x:=S.map It.i) (r:=n+1) (L:=S.length) (fZ ..) Y0,← hI.1,← hI.2.1,hI.2.2 Y0];exact⟨(i+1,ins (l.getD i iz) S),⟨cd,by rw[hS,Va cd]⟩,by omega,⟨[0,6],rfl,⟨rfl,⟨_,rfl,.inl rfl⟩,trivial⟩,rfl,rfl,rfl,rfl⟩⟩
   ·obtain rfl:k=0:=by omega
    have hp:tS (l.getD i iz) S S.length=0:=by rw[← hk2];rfl
    have hI:=mo hp;simp only[Fs (x:=S.map It.k) (r:=0) (L:=S.length) (fZ ..) Y0,Fs (x:=S.map It.i) (r:=0) (L:=S.length) (fZ ..) Y0,← hI.1,← hI.2.1,hI.2.2 Y0];exact⟨(i+1,ins (l.getD i iz) S),⟨cd,by rw[hS,Va cd]⟩,by omega,⟨[0,6],rfl,⟨rfl,⟨_,rfl,.inl rfl⟩,trivial⟩,rfl,rfl,rfl,rfl⟩⟩
  ·obtain rfl:i=l.length:=by have:=of_decide_eq_false h;omega
   subst hG;rw[hS,jB];exact⟨[0,1],rfl,rfl,⟨rfl,⟨_,rfl,.inl rfl⟩,trivial⟩,rfl,rfl,rfl,rfl⟩
 ·cases hx
end Wv
namespace Sh
open Rx Wv
set_option maxRecDepth 100000
set_option maxHeartbeats 4000000
def nR (l:List It) (a n:Nat):Row:=⟨[.int .i64 0,.int .i64 0],n,[⟨cut (l.map It.k) a n,[],[]⟩,⟨cut (l.map It.i) a n,[],[]⟩]⟩
theorem Cr (l:List It):nR l 0 l.length=iR l:=by unfold nR;simp only[cm]
theorem ahn (l:List It):(⟨[.int .i64 0,.int .i64 0],l.length,[⟨cut (l.map It.k) 0 l.length,[],[]⟩,⟨cut (l.map It.i) 0 l.length,[],[]⟩]⟩:Row)=iR l:=by simp only[cm]
theorem MI {β:Type} {l:List It} {i:Nat} (f:It->β) (d:β) (h:f iz=d):(l.map f).getD i d=f (l.getD i iz):=by
 subst h;rw[au,au,fu];cases l[i]?<;>rfl
theorem V9 (i:Nat):0+(i:Int).toNat=i:=by omega
theorem Ua {a b:It}:(a.k==b.k&&(a.i==b.i&&ao))=decide (a=b):=by
 rw[TF,Bool.eq_iff_iff];simp only[Bool.and_eq_true,beq_iff_eq,decide_eq_true_eq];exact⟨fun h=>It.KD h.1 h.2,fun h=>by rw[h];exact⟨rfl,rfl⟩⟩
def Qr (l:List It) (x:It):Int:=if n3 x l=ao then(qd x l:Int) else -1
abbrev bI {R:Type} (x:It):Option (SB R):=aa (.inl (31,[.int .i64 x.k,.int .i64 x.i]))
def atP {R:Type}:Prim R:=fun args hh=>match args,hh with
 |[.slice (aa ⟨0,0,aa 2000⟩) n c,.agg ⟨[.int .i64 a,.int .i64 b]⟩],[aa (.inr (.inr (.inl r)))]=>aa ⟨r=iR (gu r)/\n=(gu r).length/\(gu r).length≤100000,.int .i64 (Qr (gu r) ⟨a,b⟩),aj,hh,[],[]⟩
 |_,_=>aj
theorem al7 {R:Type} {D:fR R}:b8 D Tryz.prog 50 (a9 atP):=by
 refine fx Tryz.f50 fun args hh x hx=>?_
 unfold atP at hx;split at hx
 ·rename_i n c a b r;cases hx;refine q4 fun _ hv=>?_
  obtain⟨hr,rfl,hb⟩:=hv;generalize gu r=l at *;subst hr
  generalize hG:cj (R:=R) _ _=G;refine cK (T:=[]) trivial mixed 200 ?_;refine bM (q:=let Z1:=bk ar;At D Tryz.prog (dI Tryz.f50) 1 (iB Tryz.prog (dw (dx Tryz.f50)) G) [.inl [1,0,1,0],.inr (.inl 0),.inl [1,1]] (SS.mk (aa (br (aa ⟨0,0,aa 2000⟩) l.length c)::aa (bG (aP [Z1 a,Z1 b]))::aj::aa (aC (aa ⟨1,0,aj⟩))::aa (Z1 0)::aa (Z1 0)::n4 (n4 (n4 (aj::[])))) [] [aa (.inr (.inr (.inl (iR l)))),aa (.inl (31,[Z1 a,Z1 b]))])) ?_ (by kernel_rfl)
  intro Z1;subst Z1;refine kC (by kernel_rfl) (ι:=Nat) (fun i=>i≤l.length/\∀ j,j<i->l.getD j iz≠⟨a,b⟩) [0,3,5] (fun i=>[.slice (aa ⟨0,0,aa 2000⟩) l.length c,.pointer (aa ⟨1,0,aj⟩),.int .i64 i]) (fun i=>[vI l,bI ⟨a,b⟩]) (fun i=>l.length-i) 19 (fun i hi=>⟨rfl,rfl,by simp⟩) ⟨0,⟨dv _,fun j hj=>by omega⟩,⟨[0,1],rfl,⟨rfl,.inl rfl,trivial⟩,rfl,rfl,rfl,rfl⟩⟩ fun i hi=>?_
  obtain⟨hi,hn⟩:=hi;refine cK (T:=[]) trivial mixed 200 ?_;refine bM (q:=let Z3:=bk ar;let Z1:=(aB (aw It.i l) (0+(i:Int).toNat) (0:Int)==b&&ao);let Z2:=(if an=ao then !(aB (aw It.k l) (0+(i:Int).toNat) (0:Int)==a&&Z1) else aB (aw It.k l) (0+(i:Int).toNat) (0:Int)==a&&Z1);(decide ((↑i:Int)<(↑l.length:Int))=ao->Vc ((0:Int)≤(↑i:Int)/\(↑i:Int)<(↑l.length:Int)/\0+ae l≤ae l)/\Vc (0+(i:Int).toNat<ae l)/\(Z2=ao->aY (G (Z3 (↑i:Int)) [aa (.inr (.inr (.inl (iR l)))),aa (.inl (31,[Z3 a,Z3 b]))]))/\(Z2=an->Vc (fits ((↑i:Int)+(1:Int)))/\aY (∃ j,(j≤ae l/\∀ (MH:Nat),MH<j->aB l MH iz≠It.mk a b)/\ae l-j<ae l-i/\jJ R 1 19 [0,3,5] [.slice (aa ⟨0,0,aa 2000⟩) l.length c,.pointer (aa ⟨1,0,aj⟩),Z3 (↑j:Int)] [Wv.vI l,bI (It.mk a b)] [aa (br (aa ⟨0,0,aa 2000⟩) l.length c),aa (aC (aa ⟨1,0,aj⟩)),aa (Z3 ((↑i:Int)+(1:Int)))] [aa (.inr (.inr (.inl (iR l)))),aa (.inl (31,[Z3 a,Z3 b]))] 19)))/\(decide ((↑i:Int)<(↑l.length:Int))=an->aY (G (Z3 (-1:Int)) [aa (.inr (.inr (.inl (iR l)))),aa (.inl (31,[Z3 a,Z3 b]))]))) ?_ (by kernel_rfl)
  intro Z3 Z1 Z2;subst Z2 Z1 Z3;simp only[V9,MI It.k 0 rfl,MI It.i 0 rfl];simp only[fX,if_false];have hx:=Ua (a:=l.getD i iz) (b:=⟨a,b⟩);simp only at hx;simp only[hx];refine⟨fun h=>?_,fun h=>?_⟩
  ·have cd:i<l.length:=by have:=of_decide_eq_true h;omega
   refine⟨⟨by omega,by omega,by omega⟩,⟨cd⟩,fun h2=>⟨?_⟩,fun h2=>⟨⟨by omega,by omega⟩,⟨i+1,⟨cd,fun j hj=>?_⟩,by omega,⟨[0,1],rfl,⟨rfl,.inl rfl,trivial⟩,rfl,rfl,rfl,rfl⟩⟩⟩⟩
   ·have e:=akF hn cd (of_decide_eq_true h2);subst hG;unfold Qr n3;rw[e,decide_eq_true cd,if_pos rfl];exact⟨[0],rfl,rfl,⟨rfl,trivial⟩,rfl,rfl,rfl,rfl⟩
   ·rcases ct j i with c|c
    ·exact hn j c
    ·rw[show j=i by omega];exact of_decide_eq_false h2
  ·obtain rfl:i=l.length:=by have:=of_decide_eq_false h;omega
   have e:=akW hn;refine⟨?_⟩;subst hG;unfold Qr n3;rw[e,decide_eq_false (Nat.lt_irrefl _),if_neg (by decide)]
   exact⟨[0],rfl,rfl,⟨rfl,trivial⟩,rfl,rfl,rfl,rfl⟩
 ·cases hx
def TT {R:Type}:Prim R:=fun args hh=>match args,hh with
 |[.slice (aa ⟨0,0,aa 2000⟩) n c,.slice (aa ⟨1,0,aa 2000⟩) n' c'],[aa (.inr (.inr (.inl r))),aa (.inr (.inr (.inl r')))]=>aa ⟨r=iR (gu r)/\n=(gu r).length/\r'=iR (gu r')/\n'=(gu r').length/\(gu r).length≤100000,.bool (decide (gu r=gu r')),aj,hh,[],[]⟩
 |_,_=>aj
theorem XR {R:Type} {D:fR R}:b8 D Tryz.prog 26 (a9 TT):=by
 refine fx Tryz.f26 fun args hh x hx=>?_
 unfold TT at hx;split at hx
 ·rename_i n c n' c' r r';cases hx;refine q4 fun _ hv=>?_
  obtain⟨hr,rfl,um,rfl,hb⟩:=hv;generalize gu r=l at *;generalize gu r'=l' at *;subst hr;subst um
  generalize hG:cj (R:=R) _ _=G;refine cK (T:=[]) trivial mixed 200 ?_;refine bM (q:=let Z1:=(br (aa ⟨0,0,aa 2000⟩) l.length c);let Z2:=(br (aa ⟨1,0,aa 2000⟩) (ae l') c');(((↑l.length:Int) != (↑(ae l'):Int))=ao->aY (G (aE an) [aa (.inr (.inr (.inl (iR l)))),aa (.inr (.inr (.inl (iR l'))))]))/\(((↑l.length:Int) != (↑(ae l'):Int))=an->At D Tryz.prog (dI Tryz.f26) 2 (iB Tryz.prog (dw (dx Tryz.f26)) G) [.inl [1,1,0,1,0],.inr (.inl 0),.inl [1,1,1]] (SS.mk (aa Z1::aa Z2::aj::aj::aa (aE an)::aa (bk ar 0)::aa Z1::aa (bk ar (↑l.length:Int))::aa Z2::aa (bk ar (↑(ae l'):Int))::aa (aE an)::n4 (n4 (n4 (aj::aj::aj::[])))) [(10,an),(4,an)] [aa (.inr (.inr (.inl (iR l)))),aa (.inr (.inr (.inl (iR l'))))]))) ?_ (by kernel_rfl)
  intro Z1 Z2;subst Z2 Z1;refine⟨fun h=>⟨?_⟩,fun h=>?_⟩
  ·have h2:¬ l=l':=fun e=>by rw[e,bne_self_eq_false] at h;cases h
   subst hG;rw[decide_eq_false h2];exact⟨[0,1],rfl,rfl,⟨rfl,rfl,trivial⟩,rfl,rfl,rfl,rfl⟩
  have hl:l.length=l'.length:=by have:=(bne_eq_false_iff_eq).1 h;omega
  clear h;refine kC (by kernel_rfl) (ι:=Nat) (fun i=>i≤l.length/\∀ j,j<i->l.getD j iz=l'.getD j iz) [0,1,5] (fun i=>[.slice (aa ⟨0,0,aa 2000⟩) l.length c,.slice (aa ⟨1,0,aa 2000⟩) l'.length c',.int .i64 i]) (fun i=>[vI l,vI l']) (fun i=>l.length-i) 26 (fun i hi=>⟨rfl,rfl,by simp⟩) ⟨0,⟨dv _,fun j hj=>by omega⟩,⟨[0,1],rfl,⟨rfl,rfl,trivial⟩,rfl,rfl,rfl,rfl⟩⟩ fun i hi=>?_
  obtain⟨hi,hn⟩:=hi;refine cK (T:=[]) trivial mixed 200 ?_;refine bM (q:=let Z1:=(aB (aw It.i l) (0+(i:Int).toNat) (0:Int)==aB (aw It.i l') (0+(i:Int).toNat) (0:Int)&&ao);let Z2:=(if ao=ao then !(aB (aw It.k l) (0+(i:Int).toNat) (0:Int)==aB (aw It.k l') (0+(i:Int).toNat) (0:Int)&&Z1) else aB (aw It.k l) (0+(i:Int).toNat) (0:Int)==aB (aw It.k l') (0+(i:Int).toNat) (0:Int)&&Z1);(decide ((↑i:Int)<(↑l.length:Int))=ao->Vc ((0:Int)≤(↑i:Int)/\(↑i:Int)<(↑l.length:Int)/\0+ae l≤ae l)/\Vc (0+(i:Int).toNat<ae l)/\Vc ((0:Int)≤(↑i:Int)/\(↑i:Int)<(↑(ae l'):Int)/\0+ae l'≤ae l')/\Vc (0+(i:Int).toNat<ae l')/\(Z2=ao->aY (G (aE an) [aa (.inr (.inr (.inl (iR l)))),aa (.inr (.inr (.inl (iR l'))))]))/\(Z2=an->Vc (fits ((↑i:Int)+(1:Int)))/\aY (∃ j,(j≤ae l/\∀ (MH:Nat),MH<j->aB l MH iz=aB l' MH iz)/\ae l-j<ae l-i/\jJ R 2 26 [0,1,5] [.slice (aa ⟨0,0,aa 2000⟩) l.length c,.slice (aa ⟨1,0,aa 2000⟩) (ae l') c',.int ar (↑j:Int)] [Wv.vI l,Wv.vI l'] [aa (br (aa ⟨0,0,aa 2000⟩) l.length c),aa (br (aa ⟨1,0,aa 2000⟩) (ae l') c'),aa (bk ar ((↑i:Int)+(1:Int)))] [aa (.inr (.inr (.inl (iR l)))),aa (.inr (.inr (.inl (iR l'))))] 26)))/\(decide ((↑i:Int)<(↑l.length:Int))=an->aY (G (aE ao) [aa (.inr (.inr (.inl (iR l)))),aa (.inr (.inr (.inl (iR l'))))]))) ?_ (by kernel_rfl)
  intro Z1 Z2;subst Z2 Z1;simp only[V9,MI It.k 0 rfl,MI It.i 0 rfl];have hx:=Ua (a:=l.getD i iz) (b:=l'.getD i iz);simp only[hx,if_true,ite_true];refine⟨fun h=>?_,fun h=>?_⟩
  ·have cd:i<l.length:=by have:=of_decide_eq_true h;omega
   have Vk:i<l'.length:=by omega
   refine⟨⟨by omega,by omega,by omega⟩,⟨cd⟩,⟨by omega,by omega,by omega⟩,⟨Vk⟩,fun h2=>⟨?_⟩,fun h2=>⟨⟨by omega,by omega⟩,⟨i+1,⟨cd,fun j hj=>?_⟩,by omega,⟨[0,1],rfl,⟨rfl,rfl,trivial⟩,rfl,rfl,rfl,rfl⟩⟩⟩⟩
   ·have h3:¬ l.getD i iz=l'.getD i iz:=by simpa using h2
    have h4:¬ l=l':=fun e=>h3 (by rw[e])
    subst hG;rw[decide_eq_false h4];exact⟨[0,1],rfl,rfl,⟨rfl,rfl,trivial⟩,rfl,rfl,rfl,rfl⟩
   ·have h3:l.getD i iz=l'.getD i iz:=by simpa using h2
    rcases ct j i with c|c
    ·exact hn j c
    ·rw[show j=i by omega];exact h3
  ·obtain rfl:i=l.length:=by have:=of_decide_eq_false h;omega
   have e:l=l':=OJ hl fun j h1 h2=>by
    have:=hn j h1
    rwa [au,bc h1,au,bc h2] at this
   refine⟨?_⟩;subst hG;rw[decide_eq_true e];exact⟨[0,1],rfl,rfl,⟨rfl,rfl,trivial⟩,rfl,rfl,rfl,rfl⟩
 ·cases hx
theorem Km (l:List It) (x:It):decide (Qr l x<0) = !n3 x l:=by
 unfold Qr;cases n3 x l
 ·rfl
 ·simp only[if_true,Bool.not_true];exact decide_eq_false (by omega)
end Sh
namespace G9
open Rx Wv Sh
set_option maxRecDepth 100000
set_option maxHeartbeats 16000000
def UY:jo Rt:=⟨fun _ _=>aa ao,fun _ _=>aj,fun _ _=>aa ⟨True,.bool an,aj,[],[],[]⟩⟩
theorem Ru:Rk D2 UY:=by
 refine⟨fun _ X p F w h=>?_,fun e X x p F w hx=>by cases hx⟩
 obtain⟨MF,PJ,h1,h2,h3⟩:=h;obtain⟨t,cs,tl,hl⟩:∃ t cs tl,L2.lay X=aa (.inl (t,cs))::tl:=by cases X;exact⟨_,_,_,rfl⟩
 obtain⟨g1,g2,g3⟩:=(h3.at_ 0 (.inl (t,cs)) (by rw[hl];rfl)).1
 subst h1;exact⟨(h2 _).2 ⟨0,(g2 _).2 rfl⟩,_,_,g3⟩
def iW (s:Ts):List It:=s.l.map Sl.it
theorem YF {s:Ts} {l:List It} (h:s.l=mM l):iW s=l:=by
 unfold iW;rw[h];unfold mM;rw[List.map_map];exact List.map_id'' (fun _=>rfl) l
abbrev oS (l:List Sl):Option (SB Rt):=aa (.inr (.inl (75,⟨[.int .i64 0,.int .i64 0,.bool an,.int .i64 0],l.length,[⟨l.map fun e=>e.it.k,[],[]⟩,⟨l.map fun e=>e.it.i,[],[]⟩,⟨[],l.map fun e=>e.kK,[]⟩,⟨l.map fun e=>e.time,[],[]⟩]⟩)))
theorem ajb {α:Type} (v:α):cut [v] 0 1=[v]:=rfl
def TNw:eM Rt:=[(91,bJ zN 2 (a9 IH))]
theorem Uz:cN D2 Tryz.prog TNw:=⟨aT _ _ Rh,trivial⟩
def NG:Prim Rt:=fun args hh=>match args,hh with
 |[.int .i64 c],[]=>aa ⟨True,.pointer (aa ⟨0,0,aj⟩),aj,[oT (rj k9 c)],[],[(0,0)]⟩
 |_,_=>aj
theorem Wj:b8 D2 Tryz.prog 53 (a9 NG):=by
 refine fx Tryz.f53 fun args hh x hx=>?_
 unfold NG at hx;split at hx
 ·rename_i c;cases hx;refine q4 fun _ hv=>?_
  generalize hG:cj (R:=Rt) _ _=G;refine cK (T:=TNw) Uz mixed 200 ?_;refine bM (q:=Vc True/\aY (G (aC (aa ⟨0,0,aj⟩)) [aa (.inr (.inr (.inr (Rt.tree (rj k9 c)))))])) ?_ (by kernel_rfl)
  subst hG;exact⟨⟨trivial⟩,⟨⟨[0],rfl,rfl,⟨rfl,trivial⟩,rfl,rfl,rfl,rfl⟩⟩⟩
 ·cases hx
def TIt:eM Rt:=[(1000000000,UY),(61,bJ zN 2 (a9 IU)),(38,bJ zN 2 (a9 AK)),(94,bJ zN 2 (a9 AM)),(69,bJ zN 2 (a9 Nj))]
theorem acp:cN D2 Tryz.prog TIt:=⟨Ru,aT _ _ QV,aT _ _ Ck,aT _ _ Fc,aT _ _ KJ,trivial⟩
def Ur:Prim Rt:=fun args hh=>match args,hh with
 |[.pointer (aa ⟨0,0,aj⟩)],[aa (.inr (.inr (.inr (.tree s))))]=>aa ⟨s.gv,.slice (aa ⟨1,0,aa 2000⟩) s.l.length 0,aj,[oT s.seen.all,oI (iW s)],[],[(0,0)]⟩
 |_,_=>aj
theorem aeN:b8 D2 Tryz.prog 22 (a9 Ur):=by
 refine fx Tryz.f22 fun args hh x hx=>?_
 unfold Ur at hx;split at hx
 ·rename_i s;cases hx;refine q4 fun _ hv=>?_
  generalize hG:cj (R:=Rt) _ _=G;refine cK (T:=TIt) acp mixed 200 ?_;refine bM (q:=let Z5:=bk ar;let Z1:=(↑(ae (eY s)):Int);let Z2:=(aC (aa ⟨0,0,aj⟩));let Z3:=(br (aa ⟨2,0,aa 2000⟩) 0 (aD Z1));let Z4:=(eY (dC s));Vc (fa s)/\Vc ((0:Int)≤(0:Int)/\(0:Int)≤Z1/\Z1*(16:Int)≤(140737488355328:Int)/\Z1≤(140737488355328:Int))/\Vc (fa (dC s))/\At D2 Tryz.prog (dI Tryz.f22) 1 (iB Tryz.prog (dw (dx Tryz.f22)) G) [.inl [1,1,1,0,1,0],.inr (.inl 0),.inl [1,1,1,1]] (SS.mk (aa Z2::aj::aa (br (aa ⟨1,0,aa 2000⟩) 0 0)::aa Z3::aj::aj::aa Z2::aa (aE an)::aa Z2::aa (Z5 Z1)::aa Z3::aa Z2::aa (br (aa ⟨3,0,aa 4000⟩) (ae Z4) 0)::aa (Z5 (↑(ae Z4):Int))::aa (Z5 0)::n4 (n4 (aj::aj::[]))) [(7,an)] [aa (.inr (.inr (.inr (Rt.tree (sx (dC s)))))),aa (.inr (.inl (31,Row.mk [Z5 0,Z5 0] 0 [aW.mk [] [] [],aW.mk [] [] []]))),aa (.inr (.inl (31,Row.mk [Z5 0,Z5 0] 0 [aW.mk [] [] [],aW.mk [] [] []]))),aa (.inr (.inl (75,Row.mk [Z5 0,Z5 0,.bool an,Z5 0] (ae Z4) [aW.mk (aw (fun e=>It.k (Sl.it e)) Z4) [] [],aW.mk (aw (fun e=>It.i (Sl.it e)) Z4) [] [],aW.mk [] (aw (fun e=>Sl.kK e) Z4) [],aW.mk (aw (fun e=>Sl.time e) Z4) [] []])))])) ?_ (by kernel_rfl)
  intro Z5 Z1 Z2 Z3 Z4;subst Z4 Z3 Z2 Z1 Z5;have hb:=s.HR;refine⟨⟨hv⟩,⟨⟨by omega,by omega,by omega,by omega⟩⟩,⟨hv⟩,?_⟩
  have hL:(iW s).length=s.l.length:=by unfold iW;rw[fZ]
  refine kC (by kernel_rfl) (ι:=Nat×Nat) (fun x=>x.1≤s.l.length/\(x.1=s.l.length->x.2=0)) [3,12,13,14] (fun x=>[.slice (aa ⟨1,0,aa 2000⟩) ((iW s).take x.1).length x.2,.slice (aa ⟨2,0,aa 4000⟩) s.l.length 0,.int .i64 s.l.length,.int .i64 x.1]) (fun x=>[oT s.seen.all,oI ((iW s).take x.1),oS s.l]) (fun x=>s.l.length-x.1) 25 (fun i hi=>⟨rfl,rfl,by simp⟩) ⟨(0,(s.l.length:Int).toNat),⟨dv _,fun h=>by rw[← h];rfl⟩,⟨[0,2,3],rfl,⟨rfl,⟨_,rfl,.inl rfl⟩,⟨_,rfl,.inl rfl⟩,trivial⟩,rfl,rfl,rfl,rfl⟩⟩ fun x hx=>?_
  obtain⟨i,cp⟩:=x;obtain⟨hi,UU⟩:=hx;simp only at hi UU ⊢;refine cK (T:=TIt) acp mixed 200 ?_;refine bM (q:=let Z4:=bk ar;let Z1:=(eY s);let Z2:=(↑(ae Z1):Int);let Z3:=(h_ i (iW s));(decide ((↑i:Int)<Z2)=ao->Vc ((0:Int)≤(↑i:Int)/\(↑i:Int)<Z2/\0+ae Z1≤ae Z1)/\Vc (0+(i:Int).toNat<ae Z1)/\Vc (0+ae Z3≤ae Z3/\1≤1/\(ae Z3+1)*16≤140737488355328/\ae Z3+1≤140737488355328)/\Vc True/\aY (∃ j,(ay j≤ae Z1/\(ay j=ae Z1->av j=0))/\ae Z1-ay j<ae Z1-i/\jJ Rt 1 25 [3,12,13,14] [.slice (aa ⟨1,0,aa 2000⟩) (ae (h_ (ay j) (iW s))) (av j),.slice (aa ⟨2,0,aa 4000⟩) (ae Z1) 0,Z4 Z2,Z4 (↑(ay j):Int)] [oT (sx (dC s)),oI (h_ (ay j) (iW s)),oS Z1] [aa (br (aa ⟨5,0,aa 2000⟩) (ae Z3+1) 0),aa (br (aa ⟨2,0,aa 4000⟩) (ae Z1) 0),aa (Z4 Z2),aa (Z4 (ck ar ((↑i:Int)+(1:Int))))] [aa (.inr (.inr (.inr (Rt.tree (sx (dC s)))))),aj,aa (.inr (.inl (75,Row.mk [Z4 0,Z4 0,.bool an,Z4 0] (ae Z1) [aW.mk (aw (fun e=>It.k (Sl.it e)) Z1) [] [],aW.mk (aw (fun e=>It.i (Sl.it e)) Z1) [] [],aW.mk [] (aw (fun e=>Sl.kK e) Z1) [],aW.mk (aw (fun e=>Sl.time e) Z1) [] []]))),aa (.inl (75,[Z4 (aB (aw (fun e=>It.k (Sl.it e)) Z1) (0+(i:Int).toNat) (0:Int)),Z4 (aB (aw (fun e=>It.i (Sl.it e)) Z1) (0+(i:Int).toNat) (0:Int)),.bool (aB (aw (fun e=>Sl.kK e) Z1) (0+(i:Int).toNat) an),Z4 (aB (aw (fun e=>Sl.time e) Z1) (0+(i:Int).toNat) (0:Int))])),aa (.inr (.inl (31,Row.mk [Z4 0,Z4 0] 1 [aW.mk [aB (aw (fun e=>It.k (Sl.it e)) Z1) (0+(i:Int).toNat) (0:Int)] [] [],aW.mk [aB (aw (fun e=>It.i (Sl.it e)) Z1) (0+(i:Int).toNat) (0:Int)] [] []]))),aa (.inr (.inl (31,Row.mk [Z4 0,Z4 0] (ae Z3+1) [aW.mk (cut (aw It.k Z3) 0 (ae Z3)++cut [aB (aw (fun e=>It.k (Sl.it e)) Z1) (0+(i:Int).toNat) (0:Int)] 0 1) [] [],aW.mk (cut (aw It.i Z3) 0 (ae Z3)++cut [aB (aw (fun e=>It.i (Sl.it e)) Z1) (0+(i:Int).toNat) (0:Int)] 0 1) [] []])))] 25))/\(decide ((↑i:Int)<Z2)=an->aY (G (br (aa ⟨1,0,aa 2000⟩) (ae Z3) cp) [aa (.inr (.inr (.inr (Rt.tree (sx (dC s)))))),aa (.inr (.inl (31,iR Z3))),aa (.inr (.inl (75,Row.mk [Z4 0,Z4 0,.bool an,Z4 0] (ae Z1) [aW.mk (aw (fun e=>It.k (Sl.it e)) Z1) [] [],aW.mk (aw (fun e=>It.i (Sl.it e)) Z1) [] [],aW.mk [] (aw (fun e=>Sl.kK e) Z1) [],aW.mk (aw (fun e=>Sl.time e) Z1) [] []])))]))) ?_ (by kernel_rfl)
  intro Z4 Z1 Z2 Z3;subst Z3 Z2 Z1 Z4;have gS:∀ {β:Type} (f:Sl->β) (d:β),f Y2=d->(s.l.map f).getD i d=f (s.l.getD i Y2):=fun f d h=>by
   subst h;rw[au,au,fu];cases s.l[i]?<;>rfl
  have hS:i<s.l.length->(iW s).take (i+1)=(iW s).take i++[(s.l.getD i Y2).it]:=fun h=>by
   rw[ye iz (by omega)]
   unfold iW;rw[au,fu,au,bc h];rfl
  have Gr:=List.length_take_le i (iW s);simp only[gS (fun e=>e.it.k) 0 rfl,gS (fun e=>e.it.i) 0 rfl,gS (fun e=>e.kK) an rfl,gS (fun e=>e.time) 0 rfl,cm,ajb,V9]
  refine⟨fun h=>?_,fun h=>?_⟩
  ·have cd:i<s.l.length:=by have:=of_decide_eq_true h;omega
   have hW:ar.wrap ((i:Int)+1)=((i+1:Nat):Int):=oe ⟨by omega,by omega⟩
   refine⟨⟨by omega,by omega,by omega⟩,⟨by omega⟩,⟨by omega,by omega,by omega,by omega⟩,⟨trivial⟩,⟨(i+1,0),⟨cd,fun _=>rfl⟩,by simp only;omega,?_⟩⟩
   rw[hS cd,hW];simp only[oI,iR,bE,cy,jX,dM,gC,vf,bW];exact⟨[0,5,2],rfl,⟨rfl,⟨_,rfl,.inl rfl⟩,⟨_,rfl,.inl rfl⟩,trivial⟩,rfl,rfl,rfl,rfl⟩
  ·obtain rfl:i=s.l.length:=by have:=of_decide_eq_false h;omega
   obtain rfl:=UU rfl;refine⟨?_⟩;subst hG;rw[← hL,jB];exact⟨[0,1],rfl,rfl,⟨rfl,⟨_,rfl,.inl rfl⟩,trivial⟩,rfl,rfl,rfl,rfl⟩
 ·cases hx
end G9
namespace Br
open Rx Wv G8
set_option maxRecDepth 100000
def tkL (x:Option It):List Value:=[.bool x.isSome,.int .i64 (x.getD iz).k,.int .i64 (x.getD iz).i]
theorem TP {L:List Mk} {b:Int} (hl:L.length≤60) (MJ:-1099511627776≤b) (PE:b≤1099511627776):Gv.AT O8 S8 (kg b) (fun i=>decide (wo L b (i+1)≤0)) L:=ad_ fun p l q hL kG=>by
 have hn:=congrArg ae hL;simp only[bE] at hn;have hp:p.length≤60:=by omega
 have hq:l.length≤60:=by omega
 have h1:=Ti.A4 (Ge ZG hp) _ (a_ _);have h2:=Ti.G3 (Ge ZG hq) _ (a_ _);have e1:(S8 p).w.s=Ti.pj (p.map uR) (p.map uR).length:=rfl;have e2:(S8 l).w.l=Ti.qJ (l.map uR) (l.map uR).length:=rfl;rw[← e1] at h1;rw[← e2] at h2;unfold kg;have w1:nq (b+(S8 p).w.s)=b+(S8 p).w.s:=Gv.uK (by omega)
 have w2:nq (b+(S8 p).w.s+(S8 l).w.l)=b+(S8 p).w.s+(S8 l).w.l:=Gv.uK (by omega)
 rw[w1,w2,decide_eq_true_eq]
theorem SA (s:Ts):s.l.length≤60:=s.ok.dm
def CT (s:Ts) (p:Int):Ts:=s.seen.GM 0 (kO s.l.length p)
def FJ (s:Ts) (p b:Int):Ts:=if kO s.l.length p=0/\b≤0 then s.seen else s.seen.first (kg b) ((kO s.l.length p:Int)-1)
def Uw (s:Ts) (p b:Int):Ts:=s.seen.last (kg b) (kO s.l.length p)
def Hq (s:Ts) (p:Int):Ts:=s.seen.seen.GM (kO s.l.length p) s.l.length
theorem al5 (s:Ts) (p b:Int):(FJ s p b).l=s.l:=by unfold FJ;split<;>rfl
theorem amg (s:Ts) (p b:Int):(FJ s p b).n=s.n:=by unfold FJ;split<;>rfl
theorem alJ (s:Ts) (p b:Int):(FJ s p b).c=s.c:=by unfold FJ;split<;>rfl
theorem ah7 {s:Ts} {L:List Mk} {p b:Int} (hL:s.l=L) (MJ:-1099511627776≤b) (PE:b≤1099511627776):F2 (8*vl L.length+5) s.m (FJ s p b).m:=by
 subst hL;have h1:=s.sJ;have h3:=QO (s:=s.seen) (f:=(kO s.l.length p:Int)-1) (may:=kg b) (TP (L:=s.l) (SA s) MJ PE);unfold FJ;split
 ·exact h1.mono (by omega)
 ·exact(h1.trans h3).mono (by show 1+(4*vl s.l.length+1)≤_;omega)
theorem ahF {s:Ts} {L:List Mk} {p b:Int} (hL:s.l=L) (MJ:-1099511627776≤b) (PE:b≤1099511627776):F2 (8*vl L.length+5) s.m (Uw s p b).m:=by
 subst hL;have h1:=s.sJ;have h3:=Sg (s:=s.seen) (f:=(kO s.l.length p:Int)) (may:=kg b) (TP (L:=s.l) (SA s) MJ PE);exact(h1.trans h3).mono (by show 1+(4*vl s.l.length+1)≤_;omega)
set_option maxHeartbeats 8000000
def UY:jo Rt:=⟨fun _ _=>aa ao,fun _ _=>aj,fun _ _=>aa ⟨True,.bool an,aj,[],[],[]⟩⟩
theorem Ru:Rk D2 UY:=by
 refine⟨fun _ X p F w h=>?_,fun e X x p F w hx=>by cases hx⟩
 obtain⟨MF,PJ,h1,h2,h3⟩:=h;obtain⟨t,cs,tl,hl⟩:∃ t cs tl,L2.lay X=aa (.inl (t,cs))::tl:=by cases X;exact⟨_,_,_,rfl⟩
 obtain⟨g1,g2,g3⟩:=(h3.at_ 0 (.inl (t,cs)) (by rw[hl];rfl)).1
 subst h1;exact⟨(h2 _).2 ⟨0,(g2 _).2 rfl⟩,_,_,g3⟩
def TNw:eM Rt:=[(90,bJ zN 2 (a9 IH))]
theorem Uz:cN D2 Tryz.prog TNw:=⟨aT _ _ Rh,trivial⟩
def NG:Prim Rt:=fun args hh=>match args,hh with
 |[.int .i64 c],[]=>aa ⟨True,.pointer (aa ⟨0,0,aj⟩),aj,[oT (rj k8 c)],[],[(0,0)]⟩
 |_,_=>aj
theorem Wj:b8 D2 Tryz.prog 52 (a9 NG):=by
 refine fx Tryz.f52 fun args hh x hx=>?_
 unfold NG at hx;split at hx
 ·rename_i c;cases hx;refine q4 fun _ hv=>?_
  generalize hG:cj (R:=Rt) _ _=G;refine cK (T:=TNw) Uz mixed 200 ?_;refine bM (q:=Vc True/\aY (G (aC (aa ⟨0,0,aj⟩)) [aa (.inr (.inr (.inr (Rt.tree (rj k8 c)))))])) ?_ (by kernel_rfl)
  subst hG;exact⟨⟨trivial⟩,⟨⟨[0],rfl,rfl,⟨rfl,trivial⟩,rfl,rfl,rfl,rfl⟩⟩⟩
 ·cases hx
def TCl:eM Rt:=[(40,bJ zN 2 (a9 AK)),(78,bJ zN 2 (a9 Qv))]
theorem aio:cN D2 Tryz.prog TCl:=⟨aT _ _ Ck,aT _ _ RO,trivial⟩
def aae:Prim Rt:=fun args hh=>match args,hh with
 |[.pointer (aa ⟨0,0,aj⟩),.int .i64 p],[aa (.inr (.inr (.inr (.tree s))))]=>aa ⟨s.gv,.tuple ⟨[.pointer (aa ⟨0,0,aj⟩),.int .i64 (kO s.l.length p)]⟩,aj,[oT s.seen],[],[(0,0)]⟩
 |_,_=>aj
theorem ah_:b8 D2 Tryz.prog 132 (a9 aae):=by
 refine fx Tryz.f132 fun args hh x hx=>?_
 unfold aae at hx;split at hx
 ·rename_i p s;cases hx;refine q4 fun _ hv=>?_
  generalize hG:cj (R:=Rt) _ _=G;refine cK (T:=TCl) aio mixed 200 ?_;refine bM (q:=Vc (fa s)/\aY (G (cr (aP [.pointer (aa ⟨0,0,aj⟩),.int ar (if(↑(ae (eY s)):Int)<if(0:Int)>p then(0:Int) else p then(↑(ae (eY s)):Int) else if(0:Int)>p then(0:Int) else p)])) [aa (.inr (.inr (.inr (Rt.tree (dC s)))))])) ?_ (by kernel_rfl)
  have e:(if(s.l.length:Int)<(if 0>p then 0 else p) then(s.l.length:Int) else(if 0>p then 0 else p))=(kO s.l.length p:Int):=by unfold kO;split<;>split at *<;>omega
  rw[e];subst hG;exact⟨⟨hv⟩,⟨⟨[0],rfl,rfl,⟨rfl,trivial⟩,rfl,rfl,rfl,rfl⟩⟩⟩
 ·cases hx
theorem abX (l:List Mk) (p:Int):nj l (kO l.length p) l.length=l.drop (kO l.length p):=by
 show(l.drop _).take (l.length-_)=_
 rw[jw (by rw[jC];exact a_ _)]
theorem acE (l:List Mk) (p:Int):nj l 0 (kO l.length p)=l.take (kO l.length p):=rfl
theorem zB {s:Ts} (h:s.gv):s.seen.gv:=h
def aaD:Prim Rt:=fun args hh=>match args,hh with
 |[.int .i64 b],[]=>aa ⟨True,.func (.func 154) ⟨[]⟩ ⟨[.pointer (aa ⟨0,0,aj⟩)]⟩,aj,[aa (.inl (3,[.int .i64 b]))],[],[(0,0)]⟩
 |_,_=>aj
theorem ahB:b8 D2 Tryz.prog 133 (a9 aaD):=by
 refine fx Tryz.f133 fun args hh x hx=>?_
 unfold aaD at hx;split at hx
 ·rename_i b;cases hx;refine q4 fun _ hv=>?_
  generalize hG:cj (R:=Rt) _ _=G;refine cK (T:=[]) trivial mixed 200 ?_;refine bM (q:=Vc True/\aY (G (Value.func (Fn.func 154) (aP []) (aP [.pointer (aa ⟨0,0,aj⟩)])) [aa (.inl (3,[.int ar b]))])) ?_ (by kernel_rfl)
  subst hG;exact⟨⟨trivial⟩,⟨⟨[0],rfl,rfl,⟨.inl rfl,trivial⟩,rfl,rfl,rfl,rfl⟩⟩⟩
 ·cases hx
def TBr:eM Rt:=[(1000000000,UY),(132,bJ zN 2 (a9 aae)),(133,bJ zN 2 (a9 aaD)),(108,bJ zN 2 (a9 Nc)),(111,bJ zN 2 (a9 R4)),(40,bJ zN 2 (a9 AK)),(78,bJ zN 2 (a9 Qv))]
theorem Qg:cN D2 Tryz.prog TBr:=⟨Ru,aT _ _ ah_,aT _ _ ahB,aT _ _ Zl,aT _ _ acW,aT _ _ Ck,aT _ _ RO,trivial⟩
def aeo:Prim Rt:=fun args hh=>match args,hh with
 |[.pointer (aa ⟨0,0,aj⟩),.int .i64 p,.int .i64 b],[aa (.inr (.inr (.inr (.tree s))))]=>aa ⟨s.gv/\-1099511627776≤b/\b≤1099511627776,.int .i64 (Qx s.l p b),aj,[oT (FJ s p b)],[],[(0,0)]⟩
 |_,_=>aj
theorem aj8:b8 D2 Tryz.prog 112 (a9 aeo):=by
 refine fx Tryz.f112 fun args hh x hx=>?_
 unfold aeo at hx;split at hx
 ·rename_i p b s;cases hx;refine q4 fun _ hv=>?_
  generalize hG:cj (R:=Rt) _ _=G;refine cK (T:=TBr) Qg mixed 200 ?_;refine bM (q:=let Z2:=bk ar;let Z1:=(ck ar ((↑(kO (ae (eY s)) p):Int)-(1:Int)));Vc (fa s)/\(((↑(kO (ae (eY s)) p):Int)==(0:Int))=ao->(decide (b≤(0:Int))=ao->aY (G (Z2 0) [aa (.inr (.inr (.inr (Rt.tree (dC s)))))]))/\(decide (b≤(0:Int))=an->Vc True/\Vc True/\Vc (fa (dC s))/\(decide (pC (kg b) (dC s) Z1<(0:Int))=ao->aY (G (Z2 (-1:Int)) [aa (.inr (.inr (.inr (Rt.tree (zf (kg b) (dC s) Z1))))),aa (.inl (3,[Z2 b]))]))/\(decide (pC (kg b) (dC s) Z1<(0:Int))=an->Vc True/\aY (G (Z2 (ck ar (pC (kg b) (dC s) Z1+(1:Int)))) [aa (.inr (.inr (.inr (Rt.tree (zf (kg b) (dC s) Z1))))),aa (.inl (3,[Z2 b]))]))))/\(((↑(kO (ae (eY s)) p):Int)==(0:Int))=an->Vc True/\Vc True/\Vc (fa (dC s))/\(decide (pC (kg b) (dC s) Z1<(0:Int))=ao->aY (G (Z2 (-1:Int)) [aa (.inr (.inr (.inr (Rt.tree (zf (kg b) (dC s) Z1))))),aa (.inl (3,[Z2 b]))]))/\(decide (pC (kg b) (dC s) Z1<(0:Int))=an->Vc True/\aY (G (Z2 (ck ar (pC (kg b) (dC s) Z1+(1:Int)))) [aa (.inr (.inr (.inr (Rt.tree (zf (kg b) (dC s) Z1))))),aa (.inl (3,[Z2 b]))])))) ?_ (by kernel_rfl)
  intro Z2 Z1;subst Z1 Z2;obtain⟨mb,MJ,PE⟩:=hv;have done:∀ (x:Int) (rest:Hp Rt),x=Qx s.l p b->G (.int .i64 x) (oT (FJ s p b)::rest):=by
   intro x rest e;subst e;subst hG;exact⟨[0],rfl,rfl,⟨rfl,trivial⟩,rfl,rfl,rfl,rfl⟩
  clear hG;have hl:=SA s;have hc:=VP s.l.length p;have hN:=aa2 s.l p b;have hA:=TP (L:=s.l) hl MJ PE;have e1:ar.wrap ((kO s.l.length p:Int)-1)=(kO s.l.length p:Int)-1:=oe ⟨by omega,by omega⟩
  simp only[e1];refine⟨⟨mb⟩,fun h0=>⟨fun h1=>⟨?_⟩,fun h1=>?_⟩,fun h0=>?_⟩
  ·have h0:kO s.l.length p=0:=by have:=eq_of_beq h0;omega
   have h1:=of_decide_eq_true h1;rw[FJ,if_pos ⟨h0,h1⟩] at done;exact done _ _ (PL (.inr ⟨0,rfl,by omega,by omega,by rw[EU];exact h1,fun i g1 g2=>by omega⟩) hN)
  all_goals
   have cb:¬ (kO s.l.length p=0/\b≤0):=by
    first
    |exact fun c=>absurd c.2 (of_decide_eq_false h1)
    |exact fun c=>by have:=beq_eq_false_iff_ne.1 h0;omega
   rw[FJ,if_neg cb] at done;have hF:=Si (s:=s.seen) (f:=(kO s.l.length p:Int)-1) (may:=kg b) hA.toAsks;have hI:=Zo hc (fun c0 c1=>cb ⟨c0,c1⟩) hF
   generalize pC (kg b) s.seen ((kO s.l.length p:Int)-1)=r at *
   have hr:-1≤r/\r<60:=by
    rcases hF with⟨h1,_⟩|⟨j,h1,_,h3,_⟩
    ·omega
    ·have h3:j<s.l.length:=h3;omega
   refine⟨⟨trivial⟩,⟨trivial⟩,⟨zB mb⟩,fun h2=>⟨?_⟩,fun h2=>⟨⟨trivial⟩,⟨?_⟩⟩⟩
   ·rw[if_pos (of_decide_eq_true h2)] at hI;exact done _ _ (PL hI hN)
   ·rw[if_neg (of_decide_eq_false h2)] at hI;rw[show ar.wrap (r+1)=r+1 from oe ⟨by omega,by omega⟩]
    exact done _ _ (PL hI hN)
 ·cases hx
def aeO:Prim Rt:=fun args hh=>match args,hh with
 |[.pointer (aa ⟨0,0,aj⟩),.int .i64 p,.int .i64 b],[aa (.inr (.inr (.inr (.tree s))))]=>aa ⟨s.gv/\-1099511627776≤b/\b≤1099511627776,.int .i64 (FF s.l p b),aj,[oT (Uw s p b)],[],[(0,0)]⟩
 |_,_=>aj
theorem aki:b8 D2 Tryz.prog 95 (a9 aeO):=by
 refine fx Tryz.f95 fun args hh x hx=>?_
 unfold aeO at hx;split at hx
 ·rename_i p b s;cases hx;refine q4 fun _ hv=>?_
  generalize hG:cj (R:=Rt) _ _=G;refine cK (T:=TBr) Qg mixed 200 ?_;refine bM (q:=let Z2:=bk ar;let Z1:=(↑(kO (ae (eY s)) p):Int);Vc (fa s)/\Vc True/\Vc (fa (dC s))/\(decide (uf (kg b) (dC s) Z1<(0:Int))=ao->(decide (b>(0:Int))=ao->aY (G (Z2 (-1:Int)) [aa (.inr (.inr (.inr (Rt.tree (Ee (kg b) (dC s) Z1))))),aa (.inl (3,[Z2 b]))]))/\(decide (b>(0:Int))=an->Vc True/\aY (G (Z2 (ck ar (uf (kg b) (dC s) Z1+(1:Int)))) [aa (.inr (.inr (.inr (Rt.tree (Ee (kg b) (dC s) Z1))))),aa (.inl (3,[Z2 b]))])))/\(decide (uf (kg b) (dC s) Z1<(0:Int))=an->Vc True/\aY (G (Z2 (ck ar (uf (kg b) (dC s) Z1+(1:Int)))) [aa (.inr (.inr (.inr (Rt.tree (Ee (kg b) (dC s) Z1))))),aa (.inl (3,[Z2 b]))]))) ?_ (by kernel_rfl)
  intro Z2 Z1;subst Z1 Z2;obtain⟨mb,MJ,PE⟩:=hv;have done:∀ (x:Int) (rest:Hp Rt),x=FF s.l p b->G (.int .i64 x) (oT (Uw s p b)::rest):=by
   intro x rest e;subst e;subst hG;exact⟨[0],rfl,rfl,⟨rfl,trivial⟩,rfl,rfl,rfl,rfl⟩
  clear hG;have hl:=SA s;have hc:=VP s.l.length p;have hN:=Qt s.l p b;have hA:=TP (L:=s.l) hl MJ PE;have hF:=TG (s:=s.seen) (f:=(kO s.l.length p:Int)) (may:=kg b) hA.toAsks;have hI:=ae0 hc hF;unfold Uw at done;generalize uf (kg b) s.seen (kO s.l.length p)=r at *
  have hr:-1≤r/\r<60:=by
   rcases hF with⟨h1,_⟩|⟨j,h1,_,h3,_⟩
   ·omega
   ·have h3:j<s.l.length:=h3;omega
  refine⟨⟨mb⟩,⟨trivial⟩,⟨zB mb⟩,fun h=>⟨fun h2=>⟨?_⟩,fun h2=>⟨⟨trivial⟩,⟨?_⟩⟩⟩,fun h=>⟨⟨trivial⟩,⟨?_⟩⟩⟩
  ·have h:=of_decide_eq_true h;have h2:=of_decide_eq_true h2;rw[if_neg (by omega),if_neg (by omega)] at hI
   exact done _ _ (V2 hI hN)
  ·have h:=of_decide_eq_true h;have h2:=of_decide_eq_false h2;rw[if_neg (by omega),if_pos (by omega)] at hI
   rw[show ar.wrap (r+1)=0 from by rw[oe ⟨by omega,by omega⟩];omega]
   exact done _ _ (V2 hI hN)
  ·have h:=of_decide_eq_false h;rw[if_pos (by omega)] at hI
   rw[show ar.wrap (r+1)=r+1 from oe ⟨by omega,by omega⟩]
   exact done _ _ (V2 hI hN)
 ·cases hx
def adH:Prim Rt:=fun args hh=>match args,hh with
 |[.pointer (aa ⟨0,0,aj⟩),.int .i64 p],[aa (.inr (.inr (.inr (.tree s))))]=>aa ⟨s.gv,.agg ⟨tkL (uJ s.l p)⟩,aj,[oT (Hq s p)],[],[(0,0)]⟩
 |_,_=>aj
theorem alh:b8 D2 Tryz.prog 104 (a9 adH):=by
 refine fx Tryz.f104 fun args hh x hx=>?_
 unfold adH at hx;split at hx
 ·rename_i p s;cases hx;refine q4 fun _ hv=>?_
  generalize hG:cj (R:=Rt) _ _=G;refine cK (T:=TBr) Qg mixed 200 ?_;refine bM (q:=let Z1:=(S8 (nj (eY (dC (dC s))) (aD (↑(kO (ae (eY s)) p):Int)) (aD (↑(ae (eY (dC s))):Int))));Vc (fa s)/\Vc (fa (dC s))/\Vc (fa (dC (dC s)))/\aY (G (bG (aP [.bool (Sw.gf Z1),.int ar (It.k (Sw.g Z1)),.int ar (It.i (Sw.g Z1))])) [aa (.inr (.inr (.inr (Rt.tree (adp (dC (dC s)) (↑(kO (ae (eY s)) p):Int) (↑(ae (eY (dC s))):Int)))))),aa (.inl (47,[.bool (Sw.gf Z1),.int ar (It.k (Sw.g Z1)),.int ar (It.i (Sw.g Z1))]))])) ?_ (by kernel_rfl)
  intro Z1;subst Z1;subst hG;simp only[show eY (dC s)=s.l from rfl,show eY (dC (dC s))=s.l from rfl,iS,abX]
  exact⟨⟨hv⟩,⟨zB hv⟩,⟨zB (zB hv)⟩,⟨⟨[0],rfl,rfl,⟨rfl,trivial⟩,rfl,rfl,rfl,rfl⟩⟩⟩
 ·cases hx
def adV:Prim Rt:=fun args hh=>match args,hh with
 |[.pointer (aa ⟨0,0,aj⟩),.int .i64 p],[aa (.inr (.inr (.inr (.tree s))))]=>aa ⟨s.gv,.agg ⟨tkL (qh s.l p)⟩,aj,[oT (CT s p)],[],[(0,0)]⟩
 |_,_=>aj
theorem aij:b8 D2 Tryz.prog 109 (a9 adV):=by
 refine fx Tryz.f109 fun args hh x hx=>?_
 unfold adV at hx;split at hx
 ·rename_i p s;cases hx;refine q4 fun _ hv=>?_
  generalize hG:cj (R:=Rt) _ _=G;refine cK (T:=TBr) Qg mixed 200 ?_;refine bM (q:=let Z1:=(S8 (nj (eY (dC s)) 0 (aD (↑(kO (ae (eY s)) p):Int))));Vc (fa s)/\Vc (fa (dC s))/\aY (G (bG (aP [.bool (Sw.lf Z1),.int ar (It.k (Sw.l Z1)),.int ar (It.i (Sw.l Z1))])) [aa (.inr (.inr (.inr (Rt.tree (adp (dC s) (0:Int) (↑(kO (ae (eY s)) p):Int)))))),aa (.inl (47,[.bool (Sw.lf Z1),.int ar (It.k (Sw.l Z1)),.int ar (It.i (Sw.l Z1))]))])) ?_ (by kernel_rfl)
  intro Z1;subst Z1;subst hG;simp only[show eY (dC s)=s.l from rfl,iS,acE]
  exact⟨⟨hv⟩,⟨zB hv⟩,⟨⟨[0],rfl,rfl,⟨rfl,trivial⟩,rfl,rfl,rfl,rfl⟩⟩⟩
 ·cases hx
end Br
namespace Rx
open Go.RowKit State
structure HB (R0 R:Type) where
 e:R0->R
 d:R->Option R0
 de:∀ y x,d y=aa x->y=e x
section
variable {R R0:Type}
def eB (E:HB R0 R):SB R0->SB R
 |.inl x=>.inl x
 |.inr (.inl x)=>.inr (.inl x)
 |.inr (.inr (.inl r))=>.inr (.inr (.inl r))
 |.inr (.inr (.inr x))=>.inr (.inr (.inr (E.e x)))
def dB (E:HB R0 R):SB R->Option (SB R0)
 |.inl x=>aa (.inl x)
 |.inr (.inl x)=>aa (.inr (.inl x))
 |.inr (.inr (.inl r))=>aa (.inr (.inr (.inl r)))
 |.inr (.inr (.inr y))=>match E.d y with
  |some x=>aa (.inr (.inr (.inr x)))
  |none=>aj
def eS (E:HB R0 R):Option (SB R0)->Option (SB R)
 |none=>aj
 |some b=>aa (eB E b)
def eH (E:HB R0 R):Hp R0->Hp R
 |[]=>[]
 |b::l=>eS E b::eH E l
def dH (E:HB R0 R):Hp R->Option (Hp R0)
 |[]=>aa []
 |none::l=>match dH E l with
  |some l'=>aa (aj::l')
  |none=>aj
 |some b::l=>match dB E b with
  |some b'=>match dH E l with
   |some l'=>aa (aa b'::l')
   |none=>aj
  |none=>aj
variable {E:HB R0 R}
theorem aoa {b:SB R} {b0:SB R0} (h:dB E b=aa b0):b=eB E b0:=by
 rcases b with x|x|r|y
 ·injection h with h;subst h;rfl
 ·injection h with h;subst h;rfl
 ·injection h with h;subst h;rfl
 ·unfold dB at h;simp only at h;split at h
  ·rename_i x hx;injection h with h
   subst h;rw[E.de _ _ hx]
   rfl
  ·cases h
theorem aeM:∀ {h:Hp R} {h0:Hp R0},dH E h=aa h0->h=eH E h0
 |[],h0,hh=>by injection hh with hh;subst hh;rfl
 |none::l,h0,hh=>by
  unfold dH at hh;split at hh
  ·rename_i l' hl;injection hh with hh
   subst hh;rw[aeM hl];rfl
  ·cases hh
 |some b::l,h0,hh=>by
  unfold dH at hh;split at hh
  ·rename_i b' hb;split at hh
   ·rename_i l' hl;injection hh with hh
    subst hh;rw[aeM hl,aoa hb];rfl
   ·cases hh
  ·cases hh
theorem Fl:∀ h:Hp R0,(eH E h).length=h.length
 |[]=>rfl
 |b::l=>by show(eH E l).length+1=l.length+1;rw[Fl l]
theorem KQ:∀ (h:Hp R0) (i:Nat),(eH E h)[i]?=(h[i]?).map (eS E)
 |[],i=>by simp[eH]
 |b::l,0=>rfl
 |b::l,i+1=>by
  show(eS E b::eH E l)[i+1]?=_
  rw[bK,bK,KQ l i]
variable {D:fR R} {D0:fR R0} {P:Program} {C:Ctx} {ρ:Env} {w:World}
theorem acS (hD:∀ x p F w,D.H (E.e x) p F w↔D0.H x p F w) {i:Nat} {F:Nat->Prop} (b:SB R0):hold D C ρ i F w (eB E b)↔hold D0 C ρ i F w b:=by
 rcases b with x|x|r|x
 ·exact sD
 ·exact sD
 ·exact sD
 ·exact hD _ _ _ _
theorem UC {n:Nat} (b:SB R0):inside n (eB E b)↔inside n b:=by
 rcases b with x|x|r|x<;>exact sD
theorem aiY (hD:∀ x p F w,D.H (E.e x) p F w↔D0.H x p F w) {ft:Nat->Nat->Prop} {h:Hp R0}:HM D C ρ ft (eH E h) w↔HM D0 C ρ ft h w:=by
 constructor
 ·intro m;refine⟨fun i B hi=>?_,m.lt,m.fresh,m.apart,fun i k hk=>?_,m.kept⟩
  ·have h1:=m.at_ i (eB E B) (by rw[KQ,hi];rfl)
   rw[acS hD,UC,Fl] at h1;exact h1
  ·obtain⟨B,hB⟩:=m.some_ i k hk;rw[KQ] at hB;cases hc:h[i]? with
   |none=>rw[hc] at hB;cases hB
   |some o =>
    rw[hc] at hB;cases o with
    |none=>cases hB
    |some b=>exact⟨b,rfl⟩
 ·intro m;refine⟨fun i B hi=>?_,m.lt,m.fresh,m.apart,fun i k hk=>?_,m.kept⟩
  ·rw[KQ] at hi;cases hc:h[i]? with
   |none=>rw[hc] at hi;cases hi
   |some o =>
    rw[hc] at hi;cases o with
    |none=>cases hi
    |some b =>
     have hi:aa (aa (eB E b))=aa (aa B):=hi;injection hi with hi
     injection hi with hi
     subst hi;rw[acS hD,UC,Fl];exact m.at_ i b hc
  ·obtain⟨B,hB⟩:=m.some_ i k hk;exact⟨eB E B,by rw[KQ,hB];rfl⟩
def eO (E:HB R0 R) (x:Out R0):Out R:=⟨x.vc,x.v,x.lit,eH E x.hp,x.rd,x.wr⟩
def eP (E:HB R0 R) (p:Prim R0):Prim R:=fun args hh=>match dH E hh with
 |some h0=>match p args h0 with
  |some x=>aa (eO E x)
  |none=>aj
 |none=>aj
def eC (E:HB R0 R) (c:jo R0):jo R:=⟨fun args hh=>match dH E hh with
 |some h0=>c.when args h0
 |none=>aj,eP E c.yes,eP E c.no⟩
theorem LY {p:Prim R0} {args:List Value} {hh:Hp R} {x:Out R} (h:eP E p args hh=aa x):∃ h0 x0,dH E hh=aa h0/\hh=eH E h0/\p args h0=aa x0/\x=eO E x0:=by
 unfold eP at h;split at h
 ·rename_i h0 e0;split at h
  ·rename_i x0 e1;injection h with h
   exact⟨h0,x0,e0,aeM e0,e1,h.symm⟩
  ·cases h
 ·cases h
theorem alW (c:jo R0) (b:Bool):(eC E c).go b=eP E (c.go b):=by cases b<;>rfl
theorem ajk {f:FuncId} {c:jo R0} (hD:∀ x p F w,D.H (E.e x) p F w↔D0.H x p F w) (hc:b8 D0 P f c):b8 D P f (eC E c):=by
 intro b;have h:=hc b;rw[alW];refine⟨h.known,fun args hh x on hx C ρ ft w hm hv hi=>?_,fun args hh x hx=>?_,fun args hh x hx=>?_,fun args hh x hx hw=>?_⟩
 ·obtain⟨h0,x0,e0,e1,e2,e3⟩:=LY hx;subst e3;subst e1;have on0:su c b args h0:=by
   have on:(match dH E (eH E h0) with|some h0=>c.when args h0|none=>aj)=aj/\b=ao∨(match dH E (eH E h0) with|some h0=>c.when args h0|none=>aj)=aa b:=on
   rw[e0] at on;exact on
  rw[Fl] at hi;refine(h.run args h0 x0 on0 e2 C ρ ft w ((aiY hD).1 hm) hv hi).mono fun e w' ⟨gF,kF,g1,g2,g3⟩=>?_
  exact⟨gF,kF,fun i hi=>g1 i (by rwa [Fl] at hi),g2,(aiY hD).2 g3⟩
 ·obtain⟨h0,x0,e0,e1,e2,e3⟩:=LY hx;subst e3;subst e1;show(eH E h0).length≤(eH E x0.hp).length
  rw[Fl,Fl];exact h.len _ _ _ e2
 ·obtain⟨h0,x0,e0,e1,e2,e3⟩:=LY hx;subst e3;exact h.lit _ _ _ e2
 ·obtain⟨h0,x0,e0,e1,e2,e3⟩:=LY hx;subst e3;subst e1;show eH E x0.hp=eH E h0
  rw[h.still _ _ _ e2 hw]
end
def Vl {R1 R2:Type} (D1:fR R1) (D2:fR R2):fR (R1 ⊕ R2) where
 H x p F w:=match x with
  |.inl x=>D1.H x p F w
  |.inr x=>D2.H x p F w
 Iy x p F w w' h hk:=by
  cases x with
  |inl x=>exact D1.Iy x p F w w' h hk
  |inr x=>exact D2.Iy x p F w w' h hk
 lt x p F w k h hk:=by
  cases x with
  |inl x=>exact D1.lt x p F w k h hk
  |inr x=>exact D2.lt x p F w k h hk
def akV (R1 R2:Type):HB R1 (R1 ⊕ R2):=⟨.inl,fun y=>match y with|.inl x=>aa x|.inr _=>aj,fun y x h=>by cases y with|inl a=>injection h with h;rw[h]|inr a=>cases h⟩
def alA (R1 R2:Type):HB R2 (R1 ⊕ R2):=⟨.inr,fun y=>match y with|.inr x=>aa x|.inl _=>aj,fun y x h=>by cases y with|inr a=>injection h with h;rw[h]|inl a=>cases h⟩
theorem oi {R1 R2:Type} {D1:fR R1} {D2:fR R2} {P:Program} {f:FuncId} {c:jo R1} (hc:b8 D1 P f c):b8 (Vl D1 D2) P f (eC (akV R1 R2) c):=ajk (fun _ _ _ _=>sD) hc
theorem wH {R1 R2:Type} {D1:fR R1} {D2:fR R2} {P:Program} {f:FuncId} {c:jo R2} (hc:b8 D2 P f c):b8 (Vl D1 D2) P f (eC (alA R1 R2) c):=ajk (fun _ _ _ _=>sD) hc
end Rx
namespace Pa
open Rx Wv Br
open Sh (r_ wT mM sl n3)
abbrev T8:=G8.Ts
abbrev T9:=G9.Ts
structure QS where
 mt:T8
 pr:T9
 gn:T9
 cap:Int
def kY (t:Int):Mk:=⟨t,an,⟨0,0⟩,an,an,⟨0,0⟩⟩
def SR (t:Int) (x:It):Mk:=⟨t,ao,x,an,an,⟨0,0⟩⟩
def yC (q:QS):QS:=⟨q.mt.seen,q.pr,q.gn,q.cap⟩
def sh (q:QS):QS:=⟨q.mt.seen.GM 0 q.mt.l.length,q.pr,q.gn,q.cap⟩
def IA (q:QS):Int:=(vw q.mt.l).length
def nJ (q:QS):QS:=⟨(sh q).mt,q.pr,q.gn.seen,q.cap⟩
def rK (q:QS):Int:=IA q-q.gn.l.length
def mu (q:QS):QS:=⟨q.mt.seen.all,q.pr,q.gn,q.cap⟩
def nk (q:QS) (t:Int):Int:=if(q.mt.l.length:Int)=q.cap then 10 else if(fG O8 (kY t) q.mt.l).2=ao then 11 else 0
def n9 (q:QS) (t:Int):QS:=⟨if(q.mt.l.length:Int)=q.cap then q.mt.seen else q.mt.seen.find (kY t),q.pr,q.gn,q.cap⟩
def Bu (q:QS) (x:It):Bool:=(fG aN (sl x) q.pr.l).2||(fG aN (sl x) q.gn.l).2
def BQ (q:QS) (x:It):QS:=⟨q.mt,q.pr.find (sl x),q.gn.find (sl x),q.cap⟩
def B8 (q:QS) (m:Mk):Int:=(ze O8 m q.mt.l).length
def Z0 (q:QS) (m:Mk):QS:=⟨q.mt.kI m,q.pr,q.gn,q.cap⟩
def GI (q:QS) (p:Int):Int:=FF q.mt.l p (rK q)
def BO (q:QS) (p:Int):QS:=⟨Uw (nJ q).mt p (rK q),q.pr,(nJ q).gn,q.cap⟩
def Kq (q:QS) (p:Int):Int:=Qx q.mt.l p (rK q)
def Hm (q:QS) (p:Int):QS:=⟨FJ (nJ q).mt p (rK q),q.pr,(nJ q).gn,q.cap⟩
def ED (s:T8) (i:Int) (b:Bool):Mk:=⟨(mE O8 i s.l).1.t,(mE O8 i s.l).1.ins,(mE O8 i s.l).1.it,b,(mE O8 i s.l).1.tf,(mE O8 i s.l).1.tk⟩
def Bj (s:T8) (i:Int) (b:Bool):T8:=(s.at_ i).put (ED s i b)
def JH (q:QS) (f:Int):It:=(uJ q.mt.l f).getD iz
def SD (q:QS) (f:Int):T8:=(Hq q.mt f).first (qf (JH q f)) f
def Ul (q:QS) (f:Int):Int:=pC (qf (JH q f)) (Hq q.mt f) f
def wx (q:QS) (f:Int):QS:=if f<0 then q else⟨Bj (SD q f) (Ul q f) ao,q.pr.put (sl (JH q f)),q.gn.drop (sl (JH q f)),q.cap⟩
def yR (q:QS) (f:Int):List It:=if f<0 then[] else[JH q f]
def JZ (q:QS) (f:Int):Prop:=q.mt.gv/\q.pr.gv/\q.gn.gv/\(¬ f<0->((SD q f).at_ (Ul q f)).ls (ED (SD q f) (Ul q f) ao)/\q.pr.ls (sl (JH q f)))
def JA (q:QS) (u:Int):It:=(qh q.mt.l u).getD iz
def Sr (q:QS) (u:Int):T8:=(CT q.mt u).last (qi (JA q u)) u
def Vd (q:QS) (u:Int):Int:=uf (qi (JA q u)) (CT q.mt u) u
def PZ (q:QS) (u:Int):Bool:=(qh q.mt.l u).isSome
def GF (q:QS) (u:Int):QS:=if PZ q u=ao then⟨Bj (Sr q u) (Vd q u) an,q.pr.drop (sl (JA q u)),q.gn.put (sl (JA q u)),q.cap⟩ else⟨CT q.mt u,q.pr,q.gn,q.cap⟩
def Dq (q:QS) (u:Int):List It:=if PZ q u=ao then[JA q u] else[]
def KH (q:QS) (u:Int):Prop:=q.mt.gv/\q.pr.gv/\q.gn.gv/\(PZ q u=ao->((Sr q u).at_ (Vd q u)).ls (ED (Sr q u) (Vd q u) an)/\q.gn.ls (sl (JA q u)))
structure MQ (q:QS) (L:List Mk) (P G:List It) (c:Int) (n:Nat) (a:QS) (k:Int):Prop where
 m0:q.mt.l=L
 p0:q.pr.l=mM P
 g0:q.gn.l=mM G
 cap:q.cap=c
 c1:q.mt.c=c
 c2:q.pr.c=c
 c3:q.gn.c=c
 f1:q.mt.n≤n
 f2:q.pr.n≤n
 f3:q.gn.n≤n
 v1:0≤q.mt.m.cY/\q.mt.m.cY≤a.mt.m.cY+k
 v2:0≤q.pr.m.cY/\q.pr.m.cY≤a.pr.m.cY+k
 v3:0≤q.gn.m.cY/\q.gn.m.cY≤a.gn.m.cY+k
def VB (a:QS):Prop:=a.mt.m.cY≤1000000000000000/\a.pr.m.cY≤1000000000000000/\a.gn.m.cY≤1000000000000000
section
variable {q:QS} {L:List Mk} {P G:List It} {c:Int} {n:Nat} {a:QS} {k:Int}
theorem MQ.mb (h:MQ q L P G c n a k) (hn:n≤99999):q.mt.gv/\q.pr.gv/\q.gn.gv :=
 ⟨jk h.f1 (by omega),jk h.f2 (by omega),jk h.f3 (by omega)⟩
theorem MQ.short (h:MQ q L P G c n a k):L.length≤60:=by rw[← h.m0];exact SA q.mt
theorem MQ.Hw (h:MQ q L P G c n a k) (hB:VB a) (hk:k≤1000000) {s:T8} {L':List Mk} {d κ:Nat} (hl:s.l=L') (hc:s.c=q.mt.c) (hn:s.n≤q.mt.n+d) (hv:Gv.ns κ q.mt.m s.m) {e:Int} (hκ:(κ:Int)≤e) (he:e≤10000:=by omega):MQ ⟨s,q.pr,q.gn,q.cap⟩ L' P G c (n+d) a (k+e):=by
 obtain⟨b1,b2,b3⟩:=hB;have hw:=Lo hv h.v1.1 h.v1.2 (by omega)
 have:=h.f1;have:=h.f2;have:=h.f3;have:=h.v2;have:=h.v3;exact⟨hl,h.p0,h.g0,h.cap,hc.trans h.c1,h.c2,h.c3,by show s.n≤_;omega,by show q.pr.n≤_;omega,by show q.gn.n≤_;omega,⟨hw.1,by show s.m.cY≤_;omega⟩,⟨h.v2.1,by show q.pr.m.cY≤_;omega⟩,⟨h.v3.1,by show q.gn.m.cY≤_;omega⟩⟩
theorem MQ.pr' (h:MQ q L P G c n a k) (hB:VB a) (hk:k≤1000000) {s:T9} {P':List It} {d κ:Nat} (hl:s.l=mM P') (hc:s.c=q.pr.c) (hn:s.n≤q.pr.n+d) (hv:Gv.ns κ q.pr.m s.m) {e:Int} (hκ:(κ:Int)≤e) (he:e≤10000:=by omega):MQ ⟨q.mt,s,q.gn,q.cap⟩ L P' G c (n+d) a (k+e):=by
 obtain⟨b1,b2,b3⟩:=hB;have hw:=Lo hv h.v2.1 h.v2.2 (by omega)
 have:=h.f1;have:=h.f2;have:=h.f3;have:=h.v1;have:=h.v3;exact⟨h.m0,hl,h.g0,h.cap,h.c1,hc.trans h.c2,h.c3,by show q.mt.n≤_;omega,by show s.n≤_;omega,by show q.gn.n≤_;omega,⟨h.v1.1,by show q.mt.m.cY≤_;omega⟩,⟨hw.1,by show s.m.cY≤_;omega⟩,⟨h.v3.1,by show q.gn.m.cY≤_;omega⟩⟩
theorem MQ.gn' (h:MQ q L P G c n a k) (hB:VB a) (hk:k≤1000000) {s:T9} {G':List It} {d κ:Nat} (hl:s.l=mM G') (hc:s.c=q.gn.c) (hn:s.n≤q.gn.n+d) (hv:Gv.ns κ q.gn.m s.m) {e:Int} (hκ:(κ:Int)≤e) (he:e≤10000:=by omega):MQ ⟨q.mt,q.pr,s,q.cap⟩ L P G' c (n+d) a (k+e):=by
 obtain⟨b1,b2,b3⟩:=hB;have hw:=Lo hv h.v3.1 h.v3.2 (by omega)
 have:=h.f1;have:=h.f2;have:=h.f3;have:=h.v1;have:=h.v2;exact⟨h.m0,h.p0,hl,h.cap,h.c1,h.c2,hc.trans h.c3,by show q.mt.n≤_;omega,by show q.pr.n≤_;omega,by show s.n≤_;omega,⟨h.v1.1,by show q.mt.m.cY≤_;omega⟩,⟨h.v2.1,by show q.pr.m.cY≤_;omega⟩,⟨hw.1,by show s.m.cY≤_;omega⟩⟩
theorem MQ.lst (h:MQ q L P G c n a k) {L':List Mk} (e:L=L'):MQ q L' P G c n a k:=e▸h
theorem MQ.up (h:MQ q L P G c n a k) {n':Nat} {k':Int} (hn:n≤n') (hk:k≤k'):MQ q L P G c n' a k' :=
 ⟨h.m0,h.p0,h.g0,h.cap,h.c1,h.c2,h.c3,jz h.f1 hn,jz h.f2 hn,jz h.f3 hn,⟨h.v1.1,by have:=h.v1;omega⟩,⟨h.v2.1,by have:=h.v2;omega⟩,⟨h.v3.1,by have:=h.v3;omega⟩⟩
theorem MQ.len_ (h:MQ q L P G c n a k) (hB:VB a) (hk:k≤1000000):MQ (yC q) L P G c n a (k+10) :=
 h.Hw hB hk (s:=q.mt.seen) (e:=10) (d:=0) h.m0 rfl (a_ _) q.mt.sJ (by omega)
theorem MQ.alu (h:MQ q L P G c n a k) (hB:VB a) (hk:k≤1000000):MQ (sh q) L P G c n a (k+130) :=
 h.Hw hB hk (s:=(q.mt.seen.GM 0 q.mt.l.length)) (e:=130) (d:=0) h.m0 rfl (a_ _) (q.mt.sJ.trans (q.mt.seen.Lu 0 q.mt.l.length)) (by have:=q.mt.seen.qD;omega)
theorem MQ.aex (h:MQ q L P G c n a k) (hB:VB a) (hk:k≤990000):MQ (nJ q) L P G c n a (k+140) :=
 ((h.alu hB (by omega)).gn' hB (by omega) (e:=10) (s:=q.gn.seen) (d:=0) h.g0 rfl (a_ _) q.gn.sJ (by omega)).up (a_ _) (by omega)
theorem MQ.ann (h:MQ q L P G c n a k) (hB:VB a) (hk:k≤1000000):MQ (mu q) L P G c n a (k+2100) :=
 h.Hw hB hk (s:=q.mt.seen.all) (e:=2100) (d:=0) h.m0 rfl (a_ _) (q.mt.sJ.trans q.mt.seen.ahm) (by have:=q.mt.seen.HR;omega)
theorem MQ.Zx (h:MQ q L P G c n a k) (hB:VB a) (hk:k≤1000000) (t:Int):MQ (n9 q t) L P G c n a (k+50):=by
 unfold n9;split
 ·exact(h.len_ hB hk).up (a_ _) (by omega)
 ·exact h.Hw hB hk (s:=(q.mt.seen.find (kY t))) (e:=50) (d:=0) h.m0 rfl (a_ _) (q.mt.sJ.trans (q.mt.seen.IL (kY t))) (by have:=q.mt.seen.qD;omega)
theorem MQ.ajF (h:MQ q L P G c n a k) (hB:VB a) (hk:k≤990000) (x:It):MQ (BQ q x) L P G c n a (k+60) :=
 ((h.pr' hB (by omega) (e:=30) (s:=q.pr.find (sl x)) (d:=0) h.p0 rfl (a_ _) (q.pr.IL (sl x)) (by have:=q.pr.qD;omega)).gn' hB (by omega) (e:=30) (s:=q.gn.find (sl x)) (d:=0) h.g0 rfl (a_ _) (q.gn.IL (sl x)) (by have:=q.gn.qD;omega)).up (a_ _) (by omega)
theorem MQ.ajc (h:MQ q L P G c n a k) (hB:VB a) (hk:k≤1000000) (m:Mk):MQ ⟨q.mt.find m,q.pr,q.gn,q.cap⟩ L P G c n a (k+40) :=
 h.Hw hB hk (s:=(q.mt.find m)) (e:=40) (d:=0) h.m0 rfl (a_ _) (q.mt.IL m) (by have:=q.mt.qD;omega)
theorem MQ.aei (h:MQ q L P G c n a k) (hB:VB a) (hk:k≤1000000) (m:Mk):MQ (Z0 q m) L P G c n a (k+70) :=
 h.Hw hB hk (s:=(q.mt.kI m)) (e:=70) (d:=0) h.m0 rfl (a_ _) (q.mt.ae5 m) (by have:=q.mt.qD;omega)
theorem ahR (l:List Mk):(vw l).length≤l.length:=List.length_filter_le ..
theorem OV (q:QS):-1099511627776≤rK q/\rK q≤1099511627776:=by
 have h1:=ahR q.mt.l;have h2:=SA q.mt;have h3:=q.gn.HR;unfold rK IA;omega
theorem MQ.bu_ (h:MQ q L P G c n a k) (hB:VB a) (hk:k≤980000) (p:Int):MQ (BO q p) L P G c n a (k+400):=by
 have h1:=h.aex hB (by omega)
 have hb:=OV q;exact(h1.Hw hB (by omega) (e:=260) (s:=Uw (nJ q).mt p (rK q)) (d:=0) h1.m0 rfl (a_ _) (ahF rfl hb.1 hb.2) (by have:=(nJ q).mt.qD;omega)).up (a_ _) (by omega)
theorem MQ.bf_ (h:MQ q L P G c n a k) (hB:VB a) (hk:k≤980000) (p:Int):MQ (Hm q p) L P G c n a (k+400):=by
 have h1:=h.aex hB (by omega)
 have hb:=OV q;exact(h1.Hw hB (by omega) (e:=260) (s:=FJ (nJ q).mt p (rK q)) (d:=0) ((al5 _ _ _).trans h1.m0) (alJ _ _ _) (xL (amg _ _ _)) (ah7 rfl hb.1 hb.2) (by have:=(nJ q).mt.qD;omega)).up (a_ _) (by omega)
theorem Hg {s:T8} {m:Mk} (hf:s.gv) (hg:(rE O8 m s.l).length≤60):s.ls m:=⟨hf,hg⟩
theorem H_ {s:T9} {x:It} {P:List It} (h:s.l=mM P) (ho:Ord P) (hf:s.gv) (hl:P.length≤100):s.ls (sl x):=⟨hf,by
 show(rE aN (sl x) s.l).length≤1000
 rw[h,Sh.VM ho];have:=Sh.adO x P;have e:(mM (r_ x P)).length=(r_ x P).length:=fZ ..;omega⟩
theorem MQ.aep (h:MQ q L P G c n a k) (hB:VB a) (hk:k≤1000000) (hn:n≤99999) {m:Mk} (hg:(rE O8 m L).length≤60) (hp:(Az O8 m L).isSome=ao∨(L.length:Int)≠c):MQ ⟨q.mt.put m,q.pr,q.gn,q.cap⟩ (rE O8 m L) P G c (n+1) a (k+1000):=by
 have ok:q.mt.ls m:=Hg (h.mb hn).1 (by rw[h.m0];exact hg)
 refine h.Hw hB hk (s:=q.mt.put m) (e:=1000) (d:=1) ?_ (Hb ok) (xL (Hc ok)) (DL ok) (by have:=q.mt.qD;omega)
 rw[M3 ok];unfold QP;rw[if_pos,h.m0];· rfl
 unfold Jt;show((Az O8 m q.mt.l).isSome||decide ((q.mt.l.length:Int)≠q.mt.c))=ao
 rw[h.m0,h.c1];rcases hp with hp|hp
 ·rw[hp];rfl
 ·rw[decide_eq_true hp,W3]
theorem MQ.TH (h:MQ q L P G c n a k) (hB:VB a) (hk:k≤1000000) (m:Mk):MQ ⟨q.mt.drop m,q.pr,q.gn,q.cap⟩ (CB O8 m L) P G c (n+1) a (k+3500) :=
 h.Hw hB hk (s:=(q.mt.drop m)) (e:=3500) (d:=1) (by show CB O8 m q.mt.l=_;rw[h.m0]) rfl (a_ _) (q.mt.Nk m) (by have:=q.mt.qD;omega)
theorem ab7 {s:T9} {x:It} {P:List It} {c:Int} (h:s.l=mM P) (hc:s.c=c) (ho:Ord P) (ok:s.ls (sl x)) (hx:x∉P) (hl:(P.length:Int)≠c):(s.put (sl x)).l=mM (ig x P):=by
 rw[M3 ok];unfold QP;rw[if_pos,h]
 ·show rE aN (sl x) (mM P)=_
  rw[Sh.VM ho,YI ho hx]
 ·unfold Jt;have e:(mM P).length=P.length:=fZ ..;rw[h,hc,e,decide_eq_true hl,W3]
theorem MQ.Je (h:MQ q L P G c n a k) (hB:VB a) (hk:k≤1000000) (hn:n≤99999) {x:It} (ho:Ord P) (hx:x∉P) (hl:(P.length:Int)≠c) (BJ:P.length≤100):MQ ⟨q.mt,q.pr.put (sl x),q.gn,q.cap⟩ L (ig x P) G c (n+1) a (k+1000):=by
 have ok:q.pr.ls (sl x):=H_ h.p0 ho (h.mb hn).2.1 BJ;exact h.pr' hB hk (s:=(q.pr.put (sl x))) (e:=1000) (d:=1) (ab7 h.p0 h.c2 ho ok hx hl) (Hb ok) (xL (Hc ok)) (DL ok) (by have:=q.pr.qD;omega)
theorem MQ.Be (h:MQ q L P G c n a k) (hB:VB a) (hk:k≤1000000) (hn:n≤99999) {x:It} (ho:Ord G) (hx:x∉G) (hl:(G.length:Int)≠c) (BJ:G.length≤100):MQ ⟨q.mt,q.pr,q.gn.put (sl x),q.cap⟩ L P (ig x G) c (n+1) a (k+1000):=by
 have ok:q.gn.ls (sl x):=H_ h.g0 ho (h.mb hn).2.2 BJ;exact h.gn' hB hk (s:=(q.gn.put (sl x))) (e:=1000) (d:=1) (ab7 h.g0 h.c3 ho ok hx hl) (Hb ok) (xL (Hc ok)) (DL ok) (by have:=q.gn.qD;omega)
theorem YC {s:T9} {x:It} {P:List It} (h:s.l=mM P) (ho:Ord P):(s.drop (sl x)).l=mM (qb x P):=by
 show CB aN (sl x) s.l=_
 rw[h,Sh.agX ho,aeG ho]
theorem MQ.CH (h:MQ q L P G c n a k) (hB:VB a) (hk:k≤1000000) {x:It} (ho:Ord P):MQ ⟨q.mt,q.pr.drop (sl x),q.gn,q.cap⟩ L (qb x P) G c (n+1) a (k+3500) :=
 h.pr' hB hk (s:=(q.pr.drop (sl x))) (e:=3500) (d:=1) (YC h.p0 ho) rfl (a_ _) (q.pr.Nk (sl x)) (by have:=q.pr.qD;omega)
theorem MQ.ZJ (h:MQ q L P G c n a k) (hB:VB a) (hk:k≤1000000) {x:It} (ho:Ord G):MQ ⟨q.mt,q.pr,q.gn.drop (sl x),q.cap⟩ L P (qb x G) c (n+1) a (k+3500) :=
 h.gn' hB hk (s:=(q.gn.drop (sl x))) (e:=3500) (d:=1) (YC h.g0 ho) rfl (a_ _) (q.gn.Nk (sl x)) (by have:=q.gn.qD;omega)
end
theorem YQ {s:T8} {H H':List It} {l:List Op} {k:Nat} {b:Bool} (hl:s.l=gw H l) (ht:Tm l) (hn:(gB l).Nodup) (hk:k<l.length) (kQ:(og l k).ins=ao) (hb:b=decide ((og l k).it∈H')) (hH:∀ z,z≠(og l k).it->(z∈H↔z∈H')) (hf:s.gv) :
  (s.at_ (k:Int)).ls (ED s k b)/\(Bj s k b).l=gw H' l/\(Bj s k b).c=s.c/\(Bj s k b).n=s.n+1/\F2 1100 s.m (Bj s k b).m:=by
 have e0:(mE O8 (k:Int) s.l).1=vq H (og l k):=by
  unfold mE;rw[if_pos ⟨Int.natCast_nonneg _,by rw[hl,mV];omega⟩]
  show s.l.getD (k:Int).toNat mz=_
  rw[iS,hl,oN H hk]
 have e1:ED s k b=vq H' (og l k):=by
  unfold ED;rw[e0,hb];unfold vq;simp only[kQ,js]
 have hp:rE O8 (ED s k b) (gw H l)=gw H' l:=by
  rw[e1,agA ht hk rfl];exact flip hn hk kQ hH
 have ok:(s.at_ (k:Int)).ls (ED s k b):=Hg hf (by
  show(rE O8 (ED s k b) s.l).length≤60
  rw[hl,hp];have:=SA s;rw[hl] at this
  rwa [mV] at this ⊢)
 refine⟨ok,?_,Hb ok,Hc ok,?_⟩
 ·unfold Bj;rw[M3 ok];unfold QP;show(if Jt (s.at_ (k:Int)) (ED s k b)=ao then rE O8 (ED s k b) s.l else s.l)=_
  rw[hl,hp,if_pos];unfold Jt;show((Az O8 (ED s k b) s.l).isSome||_)=ao
  rw[hl,e1,(K6 (H:=H) (e:=vq H' (og l k)) ht hk rfl).1]
  rfl
 ·refine((s.alz k).trans (DL ok)).mono ?_;have h1:=s.qD;have h2:=(s.at_ (k:Int)).qD;omega
theorem aim {H:List It} {l:List Op} {f:Int} {z:It} (hf:¬ f<0) (h:uJ (gw H l) f=aa z) :
  ∃ k,k<l.length/\f.toNat≤k/\(og l k).ins=ao/\(og l k).it=z/\z∉H/\hi (mh an ((gw H l).drop f.toNat))=aa z:=by
 unfold uJ at h;obtain⟨m,h1,h2,h3,h4⟩:=uc.1 (Fi h);obtain⟨j,hj,rfl⟩:=mf h1;rw[List.getElem_drop] at h2 h3 h4;rw[jC,mV] at hj;have hc:kO l.length f=f.toNat:=by
  unfold kO at hj ⊢;rw[tY];rcases W4 f.toNat l.length with c|c
  ·exact c
  ·rw[OK c] at hj;omega
 rw[mV,hc] at h;have hk:kO l.length f+j<l.length:=by omega
 have e:∀ hh,(gw H l)[kO (gw H l).length f+j]'hh=vq H (og l (kO l.length f+j)):=fun hh=>by
  have:=oN H hk;rw[au,bc (by rw[mV];exact hk)] at this
  simpa only [mV,Option.getD_some] using this
 rw[e] at h2 h3 h4;have h2:(og l (kO l.length f+j)).ins=ao:=h2;have h4:(og l (kO l.length f+j)).it=z:=h4;have h3:((og l (kO l.length f+j)).ins&&decide ((og l (kO l.length f+j)).it∈H))=an:=h3;rw[h2,js,decide_eq_false_iff_not,h4] at h3;exact⟨_,hk,by omega,h2,h4,h3,h⟩
theorem aka {H:List It} {l:List Op} {u:Int} {z:It} (h:qh (gw H l) u=aa z) :
  ∃ k,k<l.length/\(k:Int)<u/\(og l k).ins=ao/\(og l k).it=z/\z∈H/\lo (mh ao ((gw H l).take u.toNat))=aa z:=by
 unfold qh at h;obtain⟨m,h1,h2,h3,h4⟩:=uc.1 (Ht h);obtain⟨j,hj,rfl⟩:=mf h1;rw[List.getElem_take] at h2 h3 h4;rw[ej,mV] at hj;have hk:j<l.length:=by omega
 have hu:j<u.toNat:=by unfold kO at hj;omega
 have e:∀ hh,(gw H l)[j]'hh=vq H (og l j):=fun hh=>by
  have:=oN H hk
  rwa [au,bc hh] at this
 rw[e] at h2 h3 h4;have h2:(og l j).ins=ao:=h2;have h4:(og l j).it=z:=h4;have h3:((og l j).ins&&decide ((og l j).it∈H))=ao:=h3;rw[h2,js,decide_eq_true_eq,h4] at h3;refine⟨_,hk,by omega,h2,h4,h3,?_⟩
 have:(gw H l).take (kO (gw H l).length u)=(gw H l).take u.toNat:=by
  unfold kO;rcases W4 u.toNat (gw H l).length with c|c
  ·rw[tY c]
  ·rw[OK c,jB,jw c]
 rw[this] at h;exact h
section
variable {q:QS} {H:List It} {l:List Op} {P G:List It} {c:Int} {n:Nat} {a:QS} {k:Int}
theorem MQ.age (h:MQ q (gw H l) P G c n a k) (hn:n≤99999) {f:Int} (hf:f<0):wx q f=q/\JZ q f/\yR q f=[]:=by
 unfold wx yR JZ;rw[if_pos hf,if_pos hf];exact⟨rfl,⟨(h.mb hn).1,(h.mb hn).2.1,(h.mb hn).2.2,fun c=>absurd hf c⟩,rfl⟩
theorem MQ.gb_ (h:MQ q (gw H l) P G c n a k) (hB:VB a) (hk:k≤900000) (hn:n≤99990) {f:Int} {z:It} (ht:Tm l) (hd:(gB l).Nodup) (hf:¬ f<0) (hz:uJ (gw H l) f=aa z) (hoP:Ord P) (hoG:Ord G) (hzP:z∉P) (hl:(P.length:Int)≠c) (BJ:P.length≤100) :
  MQ (wx q f) (gw (z::H) l) (ig z P) (qb z G) c (n+3) a (k+6500)/\JZ q f/\yR q f=[z]:=by
 obtain⟨i,h1,h2,h3,h4,h5,h6⟩:=aim hf hz;have eZ:JH q f=z:=by unfold JH;rw[h.m0,hz];rfl
 have mb:=h.mb (by omega)
 have hb:Gv.B5 (fun j=>isG z ((Hq q.mt f).l.getD j mz)) 0 (Hq q.mt f).l.length f (Ul q f):=by
  unfold Ul;rw[eZ];exact Si (s:=Hq q.mt f) (f:=f) (may:=qf z) (afJ z (Hq q.mt f).l).toAsks
 have el:(Hq q.mt f).l=gw H l:=h.m0;rw[el,show f=(f.toNat:Int) by omega] at hb
 have eP:Ul q f=(i:Int):=by
  have:=ag_ hd h1 h3 h4 h5 h2 h6 hb
  rwa [show((f.toNat:Nat):Int)=f by omega] at this
 have eT:(SD q f).l=gw H l:=h.m0;have T:=YQ (s:=SD q f) (H':=z::H) (b:=ao) eT ht hd h1 h3 (by rw[h4,decide_eq_true (List.mem_cons_self)]) (fun w hw=>by rw[h4] at hw;rw[List.mem_cons];exact⟨.inr,fun c=>c.resolve_left hw⟩) mb.1
 have hv:F2 2000 q.mt.m (Bj (SD q f) (i:Int) ao).m:=by
  have v1:=q.mt.sJ;have v2:=q.mt.seen.sJ;have v3:=q.mt.seen.seen.Lu (kO q.mt.l.length f) q.mt.l.length;have v4:=QO (s:=Hq q.mt f) (f:=f) (may:=qf (JH q f)) (afJ _ _);refine((((v1.trans v2).trans v3).trans v4).trans T.2.2.2.2).mono ?_;have a1:=q.mt.seen.seen.qD;have a2:=(Hq q.mt f).qD;omega
 have m1:=h.Hw hB (by omega) (e:=2000) (s:=Bj (SD q f) (i:Int) ao) (d:=1) T.2.1 T.2.2.1 (xL T.2.2.2.1) hv (by omega)
 have m2:=m1.ZJ hB (by omega) (x:=z) hoG
 have m3:=m2.Je hB (by omega) (by omega) (x:=z) hoP hzP hl BJ
 refine⟨?_,?_,?_⟩
 ·unfold wx;rw[if_neg hf,eZ,eP];exact m3.up (by omega) (by omega)
 ·refine⟨mb.1,mb.2.1,mb.2.2,fun _=>⟨?_,?_⟩⟩
  ·rw[eP];exact T.1
  ·rw[eZ];exact H_ h.p0 hoP mb.2.1 BJ
 ·unfold yR;rw[if_neg hf,eZ]
theorem MQ.agm (h:MQ q (gw H l) P G c n a k) (hB:VB a) (hk:k≤900000) (hn:n≤99990) {u:Int} (hz:qh (gw H l) u=aj):MQ (GF q u) (gw H l) P G c n a (k+6500)/\KH q u/\Dq q u=[]:=by
 have e:PZ q u=an:=by unfold PZ;rw[h.m0,hz];rfl
 have mb:=h.mb (by omega)
 unfold GF Dq KH;simp only[e,fX,if_false];refine⟨?_,⟨mb.1,mb.2.1,mb.2.2,fun c=>c.elim⟩,trivial⟩
 exact(h.Hw hB (by omega) (e:=2000) (s:=CT q.mt u) (d:=0) h.m0 rfl (a_ _) (q.mt.sJ.trans (q.mt.seen.Lu 0 (kO q.mt.l.length u))) (by have:=q.mt.seen.qD;omega)).up (a_ _) (by omega)
theorem MQ.ta_ (h:MQ q (gw H l) P G c n a k) (hB:VB a) (hk:k≤900000) (hn:n≤99990) {u:Int} {z:It} (ht:Tm l) (hd:(gB l).Nodup) (hz:qh (gw H l) u=aa z) (hoP:Ord P) (hoG:Ord G) (hzG:z∉G) (hl:(G.length:Int)≠c) (BJ:G.length≤100) :
  MQ (GF q u) (gw (qb z H) l) (qb z P) (ig z G) c (n+3) a (k+6500)/\KH q u/\Dq q u=[z]:=by
 obtain⟨i,h1,h2,h3,h4,h5,h6⟩:=aka hz;have eB:PZ q u=ao:=by unfold PZ;rw[h.m0,hz];rfl
 have eZ:JA q u=z:=by unfold JA;rw[h.m0,hz];rfl
 have mb:=h.mb (by omega)
 have hb:Gv.EZ (fun j=>isL z ((CT q.mt u).l.getD j mz)) 0 (CT q.mt u).l.length u (Vd q u):=by
  unfold Vd;rw[eZ];exact TG (s:=CT q.mt u) (f:=u) (may:=qi z) (afA z (CT q.mt u).l).toAsks
 have el:(CT q.mt u).l=gw H l:=h.m0;rw[el,show u=(u.toNat:Int) by omega] at hb
 have eP:Vd q u=(i:Int):=by
  have:=ajj hd h1 h3 h4 h5 (by omega:i<u.toNat) h6 hb
  rwa [show((u.toNat:Nat):Int)=u by omega] at this
 have eT:(Sr q u).l=gw H l:=h.m0;have T:=YQ (s:=Sr q u) (H':=qb z H) (b:=an) eT ht hd h1 h3 (by rw[h4,decide_eq_false (fun c=>(pE.1 c).2 rfl)]) (fun w hw=>by rw[h4] at hw;rw[pE];exact⟨fun c=>⟨c,hw⟩,fun c=>c.1⟩) mb.1
 have hv:F2 2000 q.mt.m (Bj (Sr q u) (i:Int) an).m:=by
  have v1:=q.mt.sJ;have v3:=q.mt.seen.Lu 0 (kO q.mt.l.length u);have v4:=Sg (s:=CT q.mt u) (f:=u) (may:=qi (JA q u)) (afA _ _);refine(((v1.trans v3).trans v4).trans T.2.2.2.2).mono ?_;have a1:=q.mt.seen.qD;have a2:=(CT q.mt u).qD;omega
 have m1:=h.Hw hB (by omega) (e:=2000) (s:=Bj (Sr q u) (i:Int) an) (d:=1) T.2.1 T.2.2.1 (xL T.2.2.2.1) hv (by omega)
 have m2:=m1.CH hB (by omega) (x:=z) hoP
 have m3:=m2.Be hB (by omega) (by omega) (x:=z) hoG hzG hl BJ
 refine⟨?_,?_,?_⟩
 ·unfold GF;rw[if_pos eB,eZ,eP];exact m3.up (by omega) (by omega)
 ·refine⟨mb.1,mb.2.1,mb.2.2,fun _=>⟨?_,?_⟩⟩
  ·rw[eP];exact T.1
  ·rw[eZ];exact H_ h.g0 hoG mb.2.2 BJ
 ·unfold Dq;rw[if_pos eB,eZ]
end
end Pa
end Go.Proofs.YtjlomlgdgpoepaaGreat
