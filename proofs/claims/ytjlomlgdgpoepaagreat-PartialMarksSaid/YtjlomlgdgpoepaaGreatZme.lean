import Derived.Test.YtjlomlgdgpoepaaGreatZmd
import Derived.Test.YtjlomlgdgpoepaaGreatZmc
import Derived.Test.YtjlomlgdgpoepaaGreatZmb
set_option linter.unusedVariables false
set_option linter.unusedSimpArgs false
namespace Go.Proofs.YtjlomlgdgpoepaaGreat
open Gv renaming Ae→C9,Aw→C_,BD→B6,DG→Ba,Deep→jb,Dl→Fm,Part→HA,Ref→bn,W→mW,Yc→KO,aH→aK,cH→b7,dZ→eG,dp→jc,drop→v_,fW→gW,find→iB,glue→sg,has→yA,iH→kc,iv→fv,jD→KN,jK→jO,jj→gK,jw→xR,kV→nF,kv→lK,l_→lg,last→jX,level→gr,lh→th,link→kx,lk→bt,look→jN,m9→B7,mT→ja,nO→uP,nextIdx→vr,nk→uR,nv→Ft,oD→yB,oV→vt,oW→vu,one→nN,p7→mf,pF→te,pick→js,put→tF,qH→lx,qk→sF,replace→nG,re→oQ,seen→HB,sj→xg,sm→qw,sub→mS,sw→DV,tC→vv,tV→vw,tie→sE,tx→vx
open Gv.Node renaming all→bw,e→b8,h→cw,l→a_,mk→fy,r→bo
open Gv.PM renaming cY→gY,cap→ic,dD→dP,free→dV,held→fP,live→eV,vs→cK
open Gv.Part renaming mk→mr,n→bP,sum→bG
open Gv.Ref renaming g→cC,i→cB,mk→aN
open Gv.TS renaming AT→tN,F3→acF,Ka→IX,Li→Da,MB→Qe,RM→Qd,S5→Gw,TJ→RG,Tp→Gx,UR→RF,V0→KP,XX→SV,ZT→Mt,first→yC,gE→fE,last→DC,l→gu,new→qN,put_eq→Wh,seen→fb,tn→Fs,uo→pd
open Gv.iL renaming cmp→gZ,sum→IQ
open Pa renaming iC→jY,p9→Lx
open Rx renaming Ends→ct
open Sh renaming F2→IW,O9→aM,Sl→jC,Sz→Qc,zI→xS
open Sh.Sl renaming it→lI,lS→o4,mk→jr,time→qx
open Sh.Sz renaming mk→aep,n→pq
open Ti.Td renaming mk→iN
open Wv renaming Mk→ia,O8→aA,S8→t_
open Wv.It renaming i→m7,k→mZ,mk→cX
open Wv.Sw renaming mk→xh
open _root_.And renaming intro→cZ,right→ig
open _root_.Array renaming mk→aO,toList→dF
open _root_.Bool renaming and_false→uM,and_true→SU,false_eq_true→fu,false→ao,not_false→RH,or_true→Wi,true_and→ji,true→aq
open _root_.Eq renaming symm→qV
open _root_.False renaming elim→kG
open _root_.Go.Addr renaming mk→RD
open _root_.Go.Func renaming ntmps→pc,results→dG
open _root_.Go.IntKind renaming i64→av,wrap→cr
open _root_.Go.Value renaming agg→bE,bool→aD,int→bs,pointer→aE,slice→bK,tuple→cv
open _root_.Iff renaming rfl→r_
open _root_.Int renaming toNat_natCast→iF,toNat→aI
open _root_.List renaming ext_getElem→N7,filter_cons→kd,getD_eq_getElem?_getD→ax,getD→ay,getElem?_cons_succ→bH,getElem?_cons_zero→cf,getElem?_eq_getElem→bj,getElem?_map→gh,getElem_of_mem→sK,length_append→bJ,length_cons→cI,length_drop→jq,length_filter_le→uL,length_map→gX,length_nil→ky,length_set→e_,length_take→eu,length→ae,map_append→dT,map_cons→gC,map_drop→ns,map_set→Fl,map_take→nr,map→au,mem_append→b9,mem_cons→bR,range→oi,set→qc,take_append_drop→cT,take_length→kC,take_of_length_le→jl,take→gF
open _root_.Nat renaming le_add_left→tG,le_of_eq→xl,le_refl→bc,le_succ→mH,le_total→Wj,le_trans→iY,lt_of_le_of_lt→iZ,lt_or_ge→cx,lt_succ_self→fC,min_eq_left→qX,min_eq_right→N8,sub_le→A',succ_pos→sD,zero_add→b5,zero_le→dx
open _root_.Option renaming none→aj,some_ne_none→wk,some→aa
open _root_.Option.some renaming injEq→cu,inj→o9
open _root_.Prod renaming ext→kb,fst→aB,snd→aw
namespace G8
open Rx
set_option maxRecDepth 100000
set_option maxHeartbeats 16000000
def Rw (K:Nat):Prim Rs:=fun args hh=>match args,hh with
 |[.pointer (aa ⟨0,0,aj⟩),.int .i64 f_,.func (.func 110) ⟨[]⟩ ⟨[.pointer (aa ⟨1,0,aj⟩)]⟩],[aa (.inl (110,[.pointer (aa ⟨2,0,aj⟩),.int .i64 ti,.int .i64 tg])),aa (.inl (75,[.int .i64 xk,.int .i64 xi,.bool xe,.int .i64 xt])),aa (.inr (.inr (.inr (.dd m))))]=>aa ⟨PP m/\gK aA K (aK m (⟨ti,tg⟩:bn)) (bt aA m (⟨ti,tg⟩:bn)),.int .i64 (jX aA (Lx ⟨xk,xi⟩) K (aK m (⟨ti,tg⟩:bn)) (bt aA m (⟨ti,tg⟩:bn)) ⟨0,aA.a0⟩ f_).1,aj,[aa (.inl (110,[.pointer (aa ⟨2,0,aj⟩),.int .i64 ti,.int .i64 tg])),aa (.inl (75,[.int .i64 xk,.int .i64 xi,.bool xe,.int .i64 xt])),aa (.inr (.inr (.inr (.dd (jX aA (Lx ⟨xk,xi⟩) K (aK m (⟨ti,tg⟩:bn)) (bt aA m (⟨ti,tg⟩:bn)) ⟨0,aA.a0⟩ f_).2))))],[],[(0,0)]⟩
 |_,_=>aj
def X_ (K:Nat):eK Rs:=[(80,bM zN 2 (a9 j7)),(143,bM zN 2 (a9 (Jt K)))]
theorem abt (K:Nat):ck D Tryz.prog 111 (a9 (Rw K)):=by
 refine fw Tryz.f111 fun args hh x hx=>?_
 unfold Rw at hx;split at hx
 ·rename_i f_ ti tg xk xi xe xt m;cases hx;refine q4 fun _ hv=>?_
  obtain⟨hp,hd⟩:=hv;generalize hG:ct (R:=Rs) _ _=G;refine cW (T:=(X_ K)) (show cQ D Tryz.prog (X_ K) from⟨aX _ _ look_ok,aX _ _ (VQ K),trivial⟩) mixed 200 ?_
  refine bN (q:=let Z1:=(bt aA m (aN ti tg));let Z2:=(b6 (mr 0 (xh (iN 0 0 0) (iN 0 0 0) 0 0 (cX 0 0) ao (cX 0 0) ao (cX 0 0))));let Z3:=(jX aA (Lx (cX xk xi)) K (aK m (aN ti tg)) Z1 (mr (0:Int) (xh (iN (0:Int) (0:Int) (0:Int)) (iN (0:Int) (0:Int) (0:Int)) (0:Int) (0:Int) (cX (0:Int) (0:Int)) ao (cX (0:Int) (0:Int)) ao (cX (0:Int) (0:Int)))) f_);Vc (PP m)/\Vc ((bk Z1)=bk Z1/\Z2=Z2/\PP (aK m (aN ti tg))/\gK aA K (aK m (aN ti tg)) Z1)/\aY (G (bs av (aB Z3)) [dC 2 ti tg,aa (.inl (75,[.int av xk,.int av xi,.bool xe,.int av xt])),oP (aw Z3)])) ?_ (by kernel_rfl)
  intro Z1 Z2 Z3;subst Z3 Z2 Z1;subst hG
  repeat' (first|apply cZ|apply Vc.mk|apply fits.mk|intro h|apply aY.mk)
  all_goals (try simp only[sB] at *)
  all_goals first|contradiction|omega|exact ju ‹_›|exact jt ‹_›|exact jv ‹_›|exact⟨rfl,by omega⟩|exact rfl|(simp[*,-ax];done)|skip
  all_goals first|assumption|(simp only[ja];assumption)|skip
  exact⟨[0,1,2],rfl,rfl,⟨.inl rfl,.inl rfl,rfl,trivial⟩,rfl,rfl,rfl,rfl⟩
 ·cases hx
end G8
namespace G8
open Rx
open Gv (KK)
set_option maxRecDepth 100000
set_option maxHeartbeats 8000000
def H9:Prim Rt:=fun args hh=>match args,hh with
 |[.int .i64 c],[]=>aa ⟨True,.pointer (aa ⟨0,0,aj⟩),aj,[oT (qN k8 c)],[],[(0,0)]⟩
 |_,_=>aj
theorem Qn:ck D2 Tryz.prog 90 (a9 H9):=by
 refine nc (c:=a9 Ik) Qu fun args hh x hx=>?_
 unfold H9 at hx;split at hx
 ·rename_i c;cases hx;refine⟨dx _,mg rfl,(fun hw=>by cases hw),fun hv=>⟨⟨_,.inl ⟨rfl,rfl⟩,rfl,?_,?_,?_⟩,rfl,rfl⟩⟩
  ·trivial
  ·rfl
  ·rfl
 ·cases hx
def B8:Prim Rt:=fun args hh=>match args,hh with
 |[.pointer (aa ⟨0,0,aj⟩)],[aa (.inr (.inr (.inr (.tree s))))]=>aa ⟨s.gE,.int .i64 s.l.length,aj,[oT s.seen],[],[(0,0)]⟩
 |_,_=>aj
theorem DU:ck D2 Tryz.prog 40 (a9 B8):=by
 refine nc (c:=a9 BQ) JM fun args hh x hx=>?_
 unfold B8 at hx;split at hx
 ·rename_i s;cases hx;refine⟨bc _,mg rfl,(fun hw=>by cases hw),fun hv=>⟨⟨_,.inl ⟨rfl,rfl⟩,rfl,?_,?_,?_⟩,rfl,rfl⟩⟩
  ·exact s.pp hv
  ·rfl
  ·exact congrArg (bs av) s.ok.nn
 ·cases hx
def IB:Prim Rt:=fun args hh=>match args,hh with
 |[.pointer (aa ⟨0,0,aj⟩)],[aa (.inr (.inr (.inr (.tree s))))]=>aa ⟨True,.int .i64 s.m.cY,aj,hh,[],[]⟩
 |_,_=>aj
theorem Q1:ck D2 Tryz.prog 76 (a9 IB):=by
 refine nc (c:=a9 yP) HK fun args hh x hx=>?_
 unfold IB at hx;split at hx
 ·rename_i s;cases hx;refine⟨bc _,mg rfl,(fun _=>rfl),fun hv=>⟨⟨_,.inl ⟨rfl,rfl⟩,rfl,?_,?_,?_⟩,rfl,rfl⟩⟩
  ·trivial
  ·rfl
  ·rfl
 ·cases hx
def Dt:Prim Rt:=fun args hh=>match args,hh with
 |[.pointer (aa ⟨0,0,aj⟩),.agg ⟨[.int .i64 k0,.bool k1,.int .i64 k2,.int .i64 k3,.bool k4,.bool k5,.int .i64 k6,.int .i64 k7]⟩],[aa (.inr (.inr (.inr (.tree s))))]=>aa ⟨s.kS (⟨k0,k1,⟨k2,k3⟩,k4,k5,⟨k6,k7⟩⟩:ia),.bool (s.Ka (⟨k0,k1,⟨k2,k3⟩,k4,k5,⟨k6,k7⟩⟩:ia)),aj,[oT (s.put (⟨k0,k1,⟨k2,k3⟩,k4,k5,⟨k6,k7⟩⟩:ia))],[],[(0,0)]⟩
 |_,_=>aj
theorem GR:ck D2 Tryz.prog 67 (a9 Dt):=by
 refine nc (c:=a9 (Ip KK)) (Ro KK) fun args hh x hx=>?_
 unfold Dt at hx;split at hx
 ·rename_i k0 k1 k2 k3 k4 k5 k6 k7 s;cases hx;refine⟨bc _,mg rfl,(fun hw=>by cases hw),fun hv=>⟨⟨_,.inl ⟨rfl,rfl⟩,rfl,?_,?_,?_⟩,rfl,rfl⟩⟩
  ·exact⟨rfl,s.pp hv.lV,(Fs hv).1⟩
  ·rw[Wh hv];rfl
  ·exact congrArg aD (Fs hv).2.1
 ·cases hx
def Cl:Prim Rt:=fun args hh=>match args,hh with
 |[.pointer (aa ⟨0,0,aj⟩),.agg ⟨[.int .i64 k0,.bool k1,.int .i64 k2,.int .i64 k3,.bool k4,.bool k5,.int .i64 k6,.int .i64 k7]⟩],[aa (.inr (.inr (.inr (.tree s))))]=>aa ⟨s.gE,.tuple #[.agg ⟨[.int .i64 (fv aA (⟨k0,k1,⟨k2,k3⟩,k4,k5,⟨k6,k7⟩⟩:ia) s.l).1.t,.bool (fv aA (⟨k0,k1,⟨k2,k3⟩,k4,k5,⟨k6,k7⟩⟩:ia) s.l).1.ins,.int .i64 (fv aA (⟨k0,k1,⟨k2,k3⟩,k4,k5,⟨k6,k7⟩⟩:ia) s.l).1.it.k,.int .i64 (fv aA (⟨k0,k1,⟨k2,k3⟩,k4,k5,⟨k6,k7⟩⟩:ia) s.l).1.it.i,.bool (fv aA (⟨k0,k1,⟨k2,k3⟩,k4,k5,⟨k6,k7⟩⟩:ia) s.l).1.here,.bool (fv aA (⟨k0,k1,⟨k2,k3⟩,k4,k5,⟨k6,k7⟩⟩:ia) s.l).1.tf,.int .i64 (fv aA (⟨k0,k1,⟨k2,k3⟩,k4,k5,⟨k6,k7⟩⟩:ia) s.l).1.tk.k,.int .i64 (fv aA (⟨k0,k1,⟨k2,k3⟩,k4,k5,⟨k6,k7⟩⟩:ia) s.l).1.tk.i]⟩,.bool (fv aA (⟨k0,k1,⟨k2,k3⟩,k4,k5,⟨k6,k7⟩⟩:ia) s.l).2],aj,[oT (s.drop (⟨k0,k1,⟨k2,k3⟩,k4,k5,⟨k6,k7⟩⟩:ia))],[],[(0,0)]⟩
 |_,_=>aj
theorem HF:ck D2 Tryz.prog 74 (a9 Cl):=by
 refine nc (c:=a9 (Ex KK)) (M2 KK) fun args hh x hx=>?_
 unfold Cl at hx;split at hx
 ·rename_i k0 k1 k2 k3 k4 k5 k6 k7 s;cases hx;refine⟨bc _,mg rfl,(fun hw=>by cases hw),fun hv=>⟨⟨_,.inl ⟨rfl,rfl⟩,rfl,?_,?_,?_⟩,rfl,rfl⟩⟩
  ·exact⟨rfl,s.pp hv,(s.tc (⟨k0,k1,⟨k2,k3⟩,k4,k5,⟨k6,k7⟩⟩:ia)).1⟩
  ·rfl
  ·obtain⟨_,h1,h2,_⟩:=s.tc (⟨k0,k1,⟨k2,k3⟩,k4,k5,⟨k6,k7⟩⟩:ia);show cv #[.agg ⟨[.int .i64 (jO aA KK s.m s.r (⟨k0,k1,⟨k2,k3⟩,k4,k5,⟨k6,k7⟩⟩:ia)).1.t,.bool (jO aA KK s.m s.r (⟨k0,k1,⟨k2,k3⟩,k4,k5,⟨k6,k7⟩⟩:ia)).1.ins,.int .i64 (jO aA KK s.m s.r (⟨k0,k1,⟨k2,k3⟩,k4,k5,⟨k6,k7⟩⟩:ia)).1.it.k,.int .i64 (jO aA KK s.m s.r (⟨k0,k1,⟨k2,k3⟩,k4,k5,⟨k6,k7⟩⟩:ia)).1.it.i,.bool (jO aA KK s.m s.r (⟨k0,k1,⟨k2,k3⟩,k4,k5,⟨k6,k7⟩⟩:ia)).1.here,.bool (jO aA KK s.m s.r (⟨k0,k1,⟨k2,k3⟩,k4,k5,⟨k6,k7⟩⟩:ia)).1.tf,.int .i64 (jO aA KK s.m s.r (⟨k0,k1,⟨k2,k3⟩,k4,k5,⟨k6,k7⟩⟩:ia)).1.tk.k,.int .i64 (jO aA KK s.m s.r (⟨k0,k1,⟨k2,k3⟩,k4,k5,⟨k6,k7⟩⟩:ia)).1.tk.i]⟩,.bool (jO aA KK s.m s.r (⟨k0,k1,⟨k2,k3⟩,k4,k5,⟨k6,k7⟩⟩:ia)).2.1]=_
   have h1:(jO aA KK s.m s.r (⟨k0,k1,⟨k2,k3⟩,k4,k5,⟨k6,k7⟩⟩:ia)).1=(fv aA (⟨k0,k1,⟨k2,k3⟩,k4,k5,⟨k6,k7⟩⟩:ia) s.l).1:=h1;have h2:(jO aA KK s.m s.r (⟨k0,k1,⟨k2,k3⟩,k4,k5,⟨k6,k7⟩⟩:ia)).2.1=(fv aA (⟨k0,k1,⟨k2,k3⟩,k4,k5,⟨k6,k7⟩⟩:ia) s.l).2:=h2;rw[h1,h2]
   rfl
 ·cases hx
def CR:Prim Rt:=fun args hh=>match args,hh with
 |[.pointer (aa ⟨0,0,aj⟩),.agg ⟨[.int .i64 k0,.bool k1,.int .i64 k2,.int .i64 k3,.bool k4,.bool k5,.int .i64 k6,.int .i64 k7]⟩],[aa (.inr (.inr (.inr (.tree s))))]=>aa ⟨s.gE,.tuple #[.agg ⟨[.int .i64 (fv aA (⟨k0,k1,⟨k2,k3⟩,k4,k5,⟨k6,k7⟩⟩:ia) s.l).1.t,.bool (fv aA (⟨k0,k1,⟨k2,k3⟩,k4,k5,⟨k6,k7⟩⟩:ia) s.l).1.ins,.int .i64 (fv aA (⟨k0,k1,⟨k2,k3⟩,k4,k5,⟨k6,k7⟩⟩:ia) s.l).1.it.k,.int .i64 (fv aA (⟨k0,k1,⟨k2,k3⟩,k4,k5,⟨k6,k7⟩⟩:ia) s.l).1.it.i,.bool (fv aA (⟨k0,k1,⟨k2,k3⟩,k4,k5,⟨k6,k7⟩⟩:ia) s.l).1.here,.bool (fv aA (⟨k0,k1,⟨k2,k3⟩,k4,k5,⟨k6,k7⟩⟩:ia) s.l).1.tf,.int .i64 (fv aA (⟨k0,k1,⟨k2,k3⟩,k4,k5,⟨k6,k7⟩⟩:ia) s.l).1.tk.k,.int .i64 (fv aA (⟨k0,k1,⟨k2,k3⟩,k4,k5,⟨k6,k7⟩⟩:ia) s.l).1.tk.i]⟩,.bool (fv aA (⟨k0,k1,⟨k2,k3⟩,k4,k5,⟨k6,k7⟩⟩:ia) s.l).2],aj,[oT (s.find (⟨k0,k1,⟨k2,k3⟩,k4,k5,⟨k6,k7⟩⟩:ia))],[],[(0,0)]⟩
 |_,_=>aj
theorem H5:ck D2 Tryz.prog 73 (a9 CR):=by
 refine nc (c:=a9 (EU KK)) (NG KK) fun args hh x hx=>?_
 unfold CR at hx;split at hx
 ·rename_i k0 k1 k2 k3 k4 k5 k6 k7 s;cases hx;refine⟨bc _,mg rfl,(fun hw=>by cases hw),fun hv=>⟨⟨_,.inl ⟨rfl,rfl⟩,rfl,?_,?_,?_⟩,rfl,rfl⟩⟩
  ·exact⟨rfl,s.pp hv,(s.ok.find (e:=(⟨k0,k1,⟨k2,k3⟩,k4,k5,⟨k6,k7⟩⟩:ia)) s.k1).1⟩
  ·rfl
  ·obtain⟨_,m',h1,_⟩:=s.ok.find (K:=KK) (e:=(⟨k0,k1,⟨k2,k3⟩,k4,k5,⟨k6,k7⟩⟩:ia)) s.k1;have h1:(iB aA KK (aK s.m s.r) (bt aA s.m s.r) (⟨k0,k1,⟨k2,k3⟩,k4,k5,⟨k6,k7⟩⟩:ia))=((fv aA (⟨k0,k1,⟨k2,k3⟩,k4,k5,⟨k6,k7⟩⟩:ia) s.l),m'):=h1;show cv #[.agg ⟨[.int .i64 (iB aA KK (aK s.m s.r) (bt aA s.m s.r) (⟨k0,k1,⟨k2,k3⟩,k4,k5,⟨k6,k7⟩⟩:ia)).1.1.t,.bool (iB aA KK (aK s.m s.r) (bt aA s.m s.r) (⟨k0,k1,⟨k2,k3⟩,k4,k5,⟨k6,k7⟩⟩:ia)).1.1.ins,.int .i64 (iB aA KK (aK s.m s.r) (bt aA s.m s.r) (⟨k0,k1,⟨k2,k3⟩,k4,k5,⟨k6,k7⟩⟩:ia)).1.1.it.k,.int .i64 (iB aA KK (aK s.m s.r) (bt aA s.m s.r) (⟨k0,k1,⟨k2,k3⟩,k4,k5,⟨k6,k7⟩⟩:ia)).1.1.it.i,.bool (iB aA KK (aK s.m s.r) (bt aA s.m s.r) (⟨k0,k1,⟨k2,k3⟩,k4,k5,⟨k6,k7⟩⟩:ia)).1.1.here,.bool (iB aA KK (aK s.m s.r) (bt aA s.m s.r) (⟨k0,k1,⟨k2,k3⟩,k4,k5,⟨k6,k7⟩⟩:ia)).1.1.tf,.int .i64 (iB aA KK (aK s.m s.r) (bt aA s.m s.r) (⟨k0,k1,⟨k2,k3⟩,k4,k5,⟨k6,k7⟩⟩:ia)).1.1.tk.k,.int .i64 (iB aA KK (aK s.m s.r) (bt aA s.m s.r) (⟨k0,k1,⟨k2,k3⟩,k4,k5,⟨k6,k7⟩⟩:ia)).1.1.tk.i]⟩,.bool (iB aA KK (aK s.m s.r) (bt aA s.m s.r) (⟨k0,k1,⟨k2,k3⟩,k4,k5,⟨k6,k7⟩⟩:ia)).1.2]=_
   rw[h1]
   rfl
 ·cases hx
def GC:Prim Rt:=fun args hh=>match args,hh with
 |[.pointer (aa ⟨0,0,aj⟩),.agg ⟨[.int .i64 k0,.bool k1,.int .i64 k2,.int .i64 k3,.bool k4,.bool k5,.int .i64 k6,.int .i64 k7]⟩],[aa (.inr (.inr (.inr (.tree s))))]=>aa ⟨s.gE,.int .i64 (yB aA (⟨k0,k1,⟨k2,k3⟩,k4,k5,⟨k6,k7⟩⟩:ia) s.l).length,aj,[oT (s.kv (⟨k0,k1,⟨k2,k3⟩,k4,k5,⟨k6,k7⟩⟩:ia))],[],[(0,0)]⟩
 |_,_=>aj
theorem TR:ck D2 Tryz.prog 65 (a9 GC):=by
 refine nc (c:=a9 (D4 KK)) (Ni KK) fun args hh x hx=>?_
 unfold GC at hx;split at hx
 ·rename_i k0 k1 k2 k3 k4 k5 k6 k7 s;cases hx;refine⟨bc _,mg rfl,(fun hw=>by cases hw),fun hv=>⟨⟨_,.inl ⟨rfl,rfl⟩,rfl,?_,?_,?_⟩,rfl,rfl⟩⟩
  ·exact⟨rfl,s.pp hv,(s.ok.kv (e:=(⟨k0,k1,⟨k2,k3⟩,k4,k5,⟨k6,k7⟩⟩:ia)) s.k1).1⟩
  ·rfl
  ·obtain⟨_,m',h1,_⟩:=s.ok.kv (K:=KK) (e:=(⟨k0,k1,⟨k2,k3⟩,k4,k5,⟨k6,k7⟩⟩:ia)) s.k1;have h1:(lK aA KK (aK s.m s.r) (bt aA s.m s.r) (⟨k0,k1,⟨k2,k3⟩,k4,k5,⟨k6,k7⟩⟩:ia) 0)=(((yB aA (⟨k0,k1,⟨k2,k3⟩,k4,k5,⟨k6,k7⟩⟩:ia) s.l).length:Int),m'):=h1;show bs av (lK aA KK (aK s.m s.r) (bt aA s.m s.r) (⟨k0,k1,⟨k2,k3⟩,k4,k5,⟨k6,k7⟩⟩:ia) 0).1=_
   rw[h1]
   rfl
 ·cases hx
def Iz:Prim Rt:=fun args hh=>match args,hh with
 |[.pointer (aa ⟨0,0,aj⟩)],[aa (.inr (.inr (.inr (.tree s))))]=>aa ⟨s.gE,.slice (aa ⟨1,0,aa 8000⟩) s.l.length 0,aj,[oT s.all,aa (.inr (.inl (49,⟨[.int .i64 0,.bool ao,.int .i64 0,.int .i64 0,.bool ao,.bool ao,.int .i64 0,.int .i64 0],s.l.length,[⟨s.l.map fun e=>e.t,[],[]⟩,⟨[],s.l.map fun e=>e.ins,[]⟩,⟨s.l.map fun e=>e.it.k,[],[]⟩,⟨s.l.map fun e=>e.it.i,[],[]⟩,⟨[],s.l.map fun e=>e.here,[]⟩,⟨[],s.l.map fun e=>e.tf,[]⟩,⟨s.l.map fun e=>e.tk.k,[],[]⟩,⟨s.l.map fun e=>e.tk.i,[],[]⟩]⟩)))],[],[(0,0)]⟩
 |_,_=>aj
theorem Ra:ck D2 Tryz.prog 21 (a9 Iz):=by
 refine nc (c:=a9 (H_ KK)) (Ql KK) fun args hh x hx=>?_
 unfold Iz at hx;split at hx
 ·rename_i s;cases hx;refine⟨mH _,mg rfl,(fun hw=>by cases hw),fun hv=>⟨⟨_,.inl ⟨rfl,rfl⟩,rfl,?_,?_,?_⟩,rfl,rfl⟩⟩
  ·exact⟨s.pp hv,(s.ok.all (K:=KK) s.k1).1⟩
  ·obtain⟨_,m',h1,_⟩:=s.ok.all (K:=KK) s.k1;have h1:(b7 aA KK (aK s.m s.r) s.r)=(s.l,m'):=h1;show([aa (.inl (110,[.pointer (aa ⟨1,0,aj⟩),.int .i64 s.r.i,.int .i64 s.r.g])),aa (.inr (.inr (.inr (.dd (b7 aA KK (aK s.m s.r) s.r).2)))),aa (.inr (.inl (49,⟨[.int .i64 0,.bool ao,.int .i64 0,.int .i64 0,.bool ao,.bool ao,.int .i64 0,.int .i64 0],(b7 aA KK (aK s.m s.r) s.r).1.length,[⟨(b7 aA KK (aK s.m s.r) s.r).1.map fun e=>e.t,[],[]⟩,⟨[],(b7 aA KK (aK s.m s.r) s.r).1.map fun e=>e.ins,[]⟩,⟨(b7 aA KK (aK s.m s.r) s.r).1.map fun e=>e.it.k,[],[]⟩,⟨(b7 aA KK (aK s.m s.r) s.r).1.map fun e=>e.it.i,[],[]⟩,⟨[],(b7 aA KK (aK s.m s.r) s.r).1.map fun e=>e.here,[]⟩,⟨[],(b7 aA KK (aK s.m s.r) s.r).1.map fun e=>e.tf,[]⟩,⟨(b7 aA KK (aK s.m s.r) s.r).1.map fun e=>e.tk.k,[],[]⟩,⟨(b7 aA KK (aK s.m s.r) s.r).1.map fun e=>e.tk.i,[],[]⟩]⟩)))]:Hp Rs)=[aa (.inl (110,[.pointer (aa ⟨1,0,aj⟩),.int .i64 s.r.i,.int .i64 s.r.g])),aa (.inr (.inr (.inr (.dd (b7 aA KK (aK s.m s.r) s.r).2)))),aa (.inr (.inl (49,⟨[.int .i64 0,.bool ao,.int .i64 0,.int .i64 0,.bool ao,.bool ao,.int .i64 0,.int .i64 0],s.l.length,[⟨s.l.map fun e=>e.t,[],[]⟩,⟨[],s.l.map fun e=>e.ins,[]⟩,⟨s.l.map fun e=>e.it.k,[],[]⟩,⟨s.l.map fun e=>e.it.i,[],[]⟩,⟨[],s.l.map fun e=>e.here,[]⟩,⟨[],s.l.map fun e=>e.tf,[]⟩,⟨s.l.map fun e=>e.tk.k,[],[]⟩,⟨s.l.map fun e=>e.tk.i,[],[]⟩]⟩)))]
   rw[h1]
  ·obtain⟨_,m',h1,_⟩:=s.ok.all (K:=KK) s.k1;have h1:(b7 aA KK (aK s.m s.r) s.r)=(s.l,m'):=h1;show bK (aa ⟨2,0,aa 8000⟩) (b7 aA KK (aK s.m s.r) s.r).1.length 0=_
   rw[h1]
   rfl
 ·cases hx
def QC:Prim Rt:=fun args hh=>match args,hh with
 |[.pointer (aa ⟨0,0,aj⟩),.int .i64 i_],[aa (.inr (.inr (.inr (.tree s))))]=>aa ⟨s.gE,.tuple #[.agg ⟨[.int .i64 (mf aA i_ s.l).1.t,.bool (mf aA i_ s.l).1.ins,.int .i64 (mf aA i_ s.l).1.it.k,.int .i64 (mf aA i_ s.l).1.it.i,.bool (mf aA i_ s.l).1.here,.bool (mf aA i_ s.l).1.tf,.int .i64 (mf aA i_ s.l).1.tk.k,.int .i64 (mf aA i_ s.l).1.tk.i]⟩,.bool (mf aA i_ s.l).2],aj,[oT (s.at_ i_)],[],[(0,0)]⟩
 |_,_=>aj
theorem abJ:ck D2 Tryz.prog 141 (a9 QC):=by
 refine nc (c:=a9 (NQ KK)) (TP KK) fun args hh x hx=>?_
 unfold QC at hx;split at hx
 ·rename_i i_ s;cases hx;refine⟨bc _,mg rfl,(fun hw=>by cases hw),fun hv=>⟨⟨_,.inl ⟨rfl,rfl⟩,rfl,?_,?_,?_⟩,rfl,rfl⟩⟩
  ·exact⟨s.pp hv,(s.ok.at_ (i:=i_) s.k1).1⟩
  ·rfl
  ·obtain⟨_,m',h1,_⟩:=s.ok.at_ (K:=KK) (i:=i_) s.k1;have h1:(lx aA KK s.m s.r i_)=((mf aA i_ s.l),m'):=h1;show cv #[.agg ⟨[.int .i64 (lx aA KK s.m s.r i_).1.1.t,.bool (lx aA KK s.m s.r i_).1.1.ins,.int .i64 (lx aA KK s.m s.r i_).1.1.it.k,.int .i64 (lx aA KK s.m s.r i_).1.1.it.i,.bool (lx aA KK s.m s.r i_).1.1.here,.bool (lx aA KK s.m s.r i_).1.1.tf,.int .i64 (lx aA KK s.m s.r i_).1.1.tk.k,.int .i64 (lx aA KK s.m s.r i_).1.1.tk.i]⟩,.bool (lx aA KK s.m s.r i_).1.2]=_
   rw[h1]
   rfl
 ·cases hx
def PR:Prim Rt:=fun args hh=>match args,hh with
 |[.pointer (aa ⟨0,0,aj⟩),.int .i64 x_,.int .i64 y_],[aa (.inr (.inr (.inr (.tree s))))]=>aa ⟨s.gE,.agg ⟨[.int .i64 (t_ (mS s.l x_.toNat y_.toNat)).c.n,.int .i64 (t_ (mS s.l x_.toNat y_.toNat)).c.s,.int .i64 (t_ (mS s.l x_.toNat y_.toNat)).c.l,.int .i64 (t_ (mS s.l x_.toNat y_.toNat)).w.n,.int .i64 (t_ (mS s.l x_.toNat y_.toNat)).w.s,.int .i64 (t_ (mS s.l x_.toNat y_.toNat)).w.l,.int .i64 (t_ (mS s.l x_.toNat y_.toNat)).d,.int .i64 (t_ (mS s.l x_.toNat y_.toNat)).f,.int .i64 (t_ (mS s.l x_.toNat y_.toNat)).m.k,.int .i64 (t_ (mS s.l x_.toNat y_.toNat)).m.i,.bool (t_ (mS s.l x_.toNat y_.toNat)).gf,.int .i64 (t_ (mS s.l x_.toNat y_.toNat)).g.k,.int .i64 (t_ (mS s.l x_.toNat y_.toNat)).g.i,.bool (t_ (mS s.l x_.toNat y_.toNat)).lf,.int .i64 (t_ (mS s.l x_.toNat y_.toNat)).l.k,.int .i64 (t_ (mS s.l x_.toNat y_.toNat)).l.i]⟩,aj,[oT (s.F3 x_ y_)],[],[(0,0)]⟩
 |_,_=>aj
theorem Qp:ck D2 Tryz.prog 78 (a9 PR):=by
 refine nc (c:=a9 (YL KK)) (afQ KK) fun args hh x hx=>?_
 unfold PR at hx;split at hx
 ·rename_i x_ y_ s;cases hx;refine⟨bc _,mg rfl,(fun hw=>by cases hw),fun hv=>⟨⟨_,.inl ⟨rfl,rfl⟩,rfl,?_,?_,?_⟩,rfl,rfl⟩⟩
  ·exact⟨s.pp hv,(s.ok.F3 (f:=x_) (u:=y_) s.k1).1⟩
  ·rfl
  ·obtain⟨_,m',h1,_⟩:=s.ok.F3 (K:=KK) (f:=x_) (u:=y_) s.k1;have h1:(gW aA KK (aK s.m s.r) (bt aA s.m s.r) x_ y_)=(⟨(mS s.l x_.toNat y_.toNat).length,(t_ (mS s.l x_.toNat y_.toNat))⟩,m'):=h1;show(.agg ⟨[.int .i64 (gW aA KK (aK s.m s.r) (bt aA s.m s.r) x_ y_).1.sum.c.n,.int .i64 (gW aA KK (aK s.m s.r) (bt aA s.m s.r) x_ y_).1.sum.c.s,.int .i64 (gW aA KK (aK s.m s.r) (bt aA s.m s.r) x_ y_).1.sum.c.l,.int .i64 (gW aA KK (aK s.m s.r) (bt aA s.m s.r) x_ y_).1.sum.w.n,.int .i64 (gW aA KK (aK s.m s.r) (bt aA s.m s.r) x_ y_).1.sum.w.s,.int .i64 (gW aA KK (aK s.m s.r) (bt aA s.m s.r) x_ y_).1.sum.w.l,.int .i64 (gW aA KK (aK s.m s.r) (bt aA s.m s.r) x_ y_).1.sum.d,.int .i64 (gW aA KK (aK s.m s.r) (bt aA s.m s.r) x_ y_).1.sum.f,.int .i64 (gW aA KK (aK s.m s.r) (bt aA s.m s.r) x_ y_).1.sum.m.k,.int .i64 (gW aA KK (aK s.m s.r) (bt aA s.m s.r) x_ y_).1.sum.m.i,.bool (gW aA KK (aK s.m s.r) (bt aA s.m s.r) x_ y_).1.sum.gf,.int .i64 (gW aA KK (aK s.m s.r) (bt aA s.m s.r) x_ y_).1.sum.g.k,.int .i64 (gW aA KK (aK s.m s.r) (bt aA s.m s.r) x_ y_).1.sum.g.i,.bool (gW aA KK (aK s.m s.r) (bt aA s.m s.r) x_ y_).1.sum.lf,.int .i64 (gW aA KK (aK s.m s.r) (bt aA s.m s.r) x_ y_).1.sum.l.k,.int .i64 (gW aA KK (aK s.m s.r) (bt aA s.m s.r) x_ y_).1.sum.l.i]⟩:Value)=_
   rw[h1]
   rfl
 ·cases hx
def Mu:Prim Rt:=fun args hh=>match args,hh with
 |[.pointer (aa ⟨0,0,aj⟩),.int .i64 f_,.func (.func 154) ⟨[]⟩ ⟨[.pointer (aa ⟨1,0,aj⟩)]⟩],[aa (.inr (.inr (.inr (.tree s)))),aa (.inl (3,[.int .i64 xx]))]=>aa ⟨s.gE,.int .i64 (pd (jY xx) s f_),aj,[oT (yC (jY xx) s f_),aa (.inl (3,[.int .i64 xx]))],[],[(0,0)]⟩
 |_,_=>aj
theorem Zf:ck D2 Tryz.prog 108 (a9 Mu):=by
 refine nc (c:=bM zN 2 (a9 (MJ KK))) (aX _ _ (ZA KK)).ok fun args hh x hx=>?_
 unfold Mu at hx;split at hx
 ·rename_i f_ s xx;cases hx;refine⟨bc _,mg rfl,(fun hw=>by cases hw),fun hv=>⟨⟨_,.inl ⟨rfl,rfl⟩,rfl,?_,?_,?_⟩,rfl,rfl⟩⟩
  ·exact⟨s.pp hv,s.KT⟩
  ·rfl
  ·rfl
 ·cases hx
def Qx:Prim Rt:=fun args hh=>match args,hh with
 |[.pointer (aa ⟨0,0,aj⟩),.int .i64 f_,.func (.func 154) ⟨[]⟩ ⟨[.pointer (aa ⟨1,0,aj⟩)]⟩],[aa (.inr (.inr (.inr (.tree s)))),aa (.inl (3,[.int .i64 xx]))]=>aa ⟨s.gE,.int .i64 (tN (jY xx) s f_),aj,[oT (DC (jY xx) s f_),aa (.inl (3,[.int .i64 xx]))],[],[(0,0)]⟩
 |_,_=>aj
theorem abG:ck D2 Tryz.prog 111 (a9 Qx):=by
 refine nc (c:=bM zN 2 (a9 (Re KK))) (aX _ _ (aaT KK)).ok fun args hh x hx=>?_
 unfold Qx at hx;split at hx
 ·rename_i f_ s xx;cases hx;refine⟨bc _,mg rfl,(fun hw=>by cases hw),fun hv=>⟨⟨_,.inl ⟨rfl,rfl⟩,rfl,?_,?_,?_⟩,rfl,rfl⟩⟩
  ·exact⟨s.pp hv,s.KT⟩
  ·rfl
  ·rfl
 ·cases hx
def MS:Prim Rt:=fun args hh=>match args,hh with
 |[.pointer (aa ⟨0,0,aj⟩),.int .i64 f_,.func (.func 105) ⟨[]⟩ ⟨[.pointer (aa ⟨1,0,aj⟩)]⟩],[aa (.inr (.inr (.inr (.tree s)))),aa (.inl (75,[.int .i64 xk,.int .i64 xi,.bool xe,.int .i64 xt]))]=>aa ⟨s.gE,.int .i64 (pd (Pa.pZ ⟨xk,xi⟩) s f_),aj,[oT (yC (Pa.pZ ⟨xk,xi⟩) s f_),aa (.inl (75,[.int .i64 xk,.int .i64 xi,.bool xe,.int .i64 xt]))],[],[(0,0)]⟩
 |_,_=>aj
theorem Zd:ck D2 Tryz.prog 108 (a9 MS):=by
 refine nc (c:=bM zN 2 (a9 (NL KK))) (aX _ _ (Y7 KK)).ok fun args hh x hx=>?_
 unfold MS at hx;split at hx
 ·rename_i f_ s xk xi xe xt;cases hx;refine⟨bc _,mg rfl,(fun hw=>by cases hw),fun hv=>⟨⟨_,.inl ⟨rfl,rfl⟩,rfl,?_,?_,?_⟩,rfl,rfl⟩⟩
  ·exact⟨s.pp hv,s.KT⟩
  ·rfl
  ·rfl
 ·cases hx
def QI:Prim Rt:=fun args hh=>match args,hh with
 |[.pointer (aa ⟨0,0,aj⟩),.int .i64 f_,.func (.func 110) ⟨[]⟩ ⟨[.pointer (aa ⟨1,0,aj⟩)]⟩],[aa (.inr (.inr (.inr (.tree s)))),aa (.inl (75,[.int .i64 xk,.int .i64 xi,.bool xe,.int .i64 xt]))]=>aa ⟨s.gE,.int .i64 (tN (Lx ⟨xk,xi⟩) s f_),aj,[oT (DC (Lx ⟨xk,xi⟩) s f_),aa (.inl (75,[.int .i64 xk,.int .i64 xi,.bool xe,.int .i64 xt]))],[],[(0,0)]⟩
 |_,_=>aj
theorem abB:ck D2 Tryz.prog 111 (a9 QI):=by
 refine nc (c:=bM zN 2 (a9 (Rw KK))) (aX _ _ (abt KK)).ok fun args hh x hx=>?_
 unfold QI at hx;split at hx
 ·rename_i f_ s xk xi xe xt;cases hx;refine⟨bc _,mg rfl,(fun hw=>by cases hw),fun hv=>⟨⟨_,.inl ⟨rfl,rfl⟩,rfl,?_,?_,?_⟩,rfl,rfl⟩⟩
  ·exact⟨s.pp hv,s.KT⟩
  ·rfl
  ·rfl
 ·cases hx
end G8
namespace G9
open Rx
set_option maxRecDepth 100000
abbrev Nd:=Gv.Node jC Qc
abbrev Pl:=Gv.PM Nd
def bk (n:Nd):List Value:=[.int .i64 n.e.it.k,.int .i64 n.e.it.i,.bool n.e.lS,.int .i64 n.e.time,.int .i64 n.l.i,.int .i64 n.l.g,.int .i64 n.r.i,.int .i64 n.r.g,.int .i64 n.all.n,.int .i64 n.all.sum.n,.int .i64 n.h]
def b6 (p:HA Qc):List Value:=[.int .i64 p.n,.int .i64 p.sum.n]
def du (e:jC):List Value:=[.int .i64 e.it.k,.int .i64 e.it.i,.bool e.lS,.int .i64 e.time]
def kj (s:Qc):List Value:=[.int .i64 s.n]
def fR (l:List Value):jC:=⟨⟨(vI (gj l 0)),(vI (gj l 1))⟩,(vB (gj l 2)),(vI (gj l 3))⟩
def o6 (l:List Value):HA Qc:=⟨(vI (gj l 0)),⟨(vI (gj l 1))⟩⟩
def fS (l:List Value):Nd:=⟨⟨⟨(vI (gj l 0)),(vI (gj l 1))⟩,(vB (gj l 2)),(vI (gj l 3))⟩,⟨(vI (gj l 4)),(vI (gj l 5))⟩,⟨(vI (gj l 6)),(vI (gj l 7))⟩,⟨(vI (gj l 8)),⟨(vI (gj l 9))⟩⟩,(vI (gj l 10))⟩
def dj:List Value:=[.int .i64 0,.int .i64 0,.bool ao,.int .i64 0,.int .i64 0,.int .i64 0,.int .i64 0,.int .i64 0,.int .i64 0,.int .i64 0,.int .i64 0,.int .i64 0,.bool ao]
abbrev zd:Nd:=Gv.zn aM
def cV (a:List Int) (b:List Int) (c:List Bool) (d:List Int) (e:List Int) (f:List Int) (g:List Int) (h:List Int) (i:List Int) (j:List Int) (k:List Int) (l:List Int) (m:List Bool):List aT:=[⟨a,[],[]⟩,⟨b,[],[]⟩,⟨[],c,[]⟩,⟨d,[],[]⟩,⟨e,[],[]⟩,⟨f,[],[]⟩,⟨g,[],[]⟩,⟨h,[],[]⟩,⟨i,[],[]⟩,⟨j,[],[]⟩,⟨k,[],[]⟩,⟨l,[],[]⟩,⟨[],m,[]⟩]
def cM (v:List Nd) (g:List Int) (b:List Bool):List aT:=cV (v.map fun n:Nd=>n.e.it.k) (v.map fun n:Nd=>n.e.it.i) (v.map fun n:Nd=>n.e.lS) (v.map fun n:Nd=>n.e.time) (v.map fun n:Nd=>n.l.i) (v.map fun n:Nd=>n.l.g) (v.map fun n:Nd=>n.r.i) (v.map fun n:Nd=>n.r.g) (v.map fun n:Nd=>n.all.n) (v.map fun n:Nd=>n.all.sum.n) (v.map fun n:Nd=>n.h) g b
def cS (v:List Nd) (k:Nat) (x:Nd) (g:List Int) (b:List Bool):List aT:=cV ((v.map fun n:Nd=>n.e.it.k).set k x.e.it.k) ((v.map fun n:Nd=>n.e.it.i).set k x.e.it.i) ((v.map fun n:Nd=>n.e.lS).set k x.e.lS) ((v.map fun n:Nd=>n.e.time).set k x.e.time) ((v.map fun n:Nd=>n.l.i).set k x.l.i) ((v.map fun n:Nd=>n.l.g).set k x.l.g) ((v.map fun n:Nd=>n.r.i).set k x.r.i) ((v.map fun n:Nd=>n.r.g).set k x.r.g) ((v.map fun n:Nd=>n.all.n).set k x.all.n) ((v.map fun n:Nd=>n.all.sum.n).set k x.all.sum.n) ((v.map fun n:Nd=>n.h).set k x.h) g b
def cG (v:List Nd) (k:Nat) (x:Nd) (g:List Int) (b:List Bool):List aT:=cV (((v.map fun n:Nd=>n.e.it.k)++[0]).set k x.e.it.k) (((v.map fun n:Nd=>n.e.it.i)++[0]).set k x.e.it.i) (((v.map fun n:Nd=>n.e.lS)++[ao]).set k x.e.lS) (((v.map fun n:Nd=>n.e.time)++[0]).set k x.e.time) (((v.map fun n:Nd=>n.l.i)++[0]).set k x.l.i) (((v.map fun n:Nd=>n.l.g)++[0]).set k x.l.g) (((v.map fun n:Nd=>n.r.i)++[0]).set k x.r.i) (((v.map fun n:Nd=>n.r.g)++[0]).set k x.r.g) (((v.map fun n:Nd=>n.all.n)++[0]).set k x.all.n) (((v.map fun n:Nd=>n.all.sum.n)++[0]).set k x.all.sum.n) (((v.map fun n:Nd=>n.h)++[0]).set k x.h) g b
def gM (v:List Nd) (k:Nat):List Value:=[.int .i64 ((v.map fun n:Nd=>n.e.it.k).getD k 0),.int .i64 ((v.map fun n:Nd=>n.e.it.i).getD k 0),.bool ((v.map fun n:Nd=>n.e.lS).getD k ao),.int .i64 ((v.map fun n:Nd=>n.e.time).getD k 0),.int .i64 ((v.map fun n:Nd=>n.l.i).getD k 0),.int .i64 ((v.map fun n:Nd=>n.l.g).getD k 0),.int .i64 ((v.map fun n:Nd=>n.r.i).getD k 0),.int .i64 ((v.map fun n:Nd=>n.r.g).getD k 0),.int .i64 ((v.map fun n:Nd=>n.all.n).getD k 0),.int .i64 ((v.map fun n:Nd=>n.all.sum.n).getD k 0),.int .i64 ((v.map fun n:Nd=>n.h).getD k 0)]
def QH (m:Pl):Hp Empty :=
 [aa (.inl (194,[.slice (aa ⟨1,0,aa 13000⟩) m.vs.length 0,.slice (aa ⟨2,0,aa 1000⟩) m.free.length 0,.int .i64 m.held,.int .i64 m.cap,.int .i64 m.cY])),
 aa (.inr (.inl (197,⟨dj,m.vs.length,cM m.vs m.dD m.live⟩))),
 aa (.inr (.inl (3,⟨[.int .i64 0],m.free.length,[⟨m.free,[],[]⟩]⟩)))]
end G9
namespace G9
open Rx
inductive Rs
 |dd (m:Pl)
def lay:Rs->Hp Empty
 |.dd m=>QH m
def L:EF Rs Empty where
 lay:=lay
 ne x:=by cases x<;>exact sD _
 own x b X h:=by cases x<;>exact Ce rfl h
 ins x:=by cases x<;>rfl
def D:fK Rs:=FA sT L
set_option maxRecDepth 100000
abbrev k9:Gv.Kd jC Qc:=Sh.k9
abbrev Ts:=Gv.TS k9
inductive Rt
 |tree (s:Ts)
def HE:Rt->Hp Rs
 |.tree s=>[aa (.inl (132,[.pointer (aa ⟨1,0,aj⟩),.int .i64 s.r.i,.int .i64 s.r.g])),aa (.inr (.inr (.inr (.dd s.m))))]
def L2:EF Rt Rs where
 lay:=HE
 ne x:=by cases x<;>exact sD _
 own x b X h:=by
  cases x with
  |tree s =>
   match b,h with
   |0,h=>simp only[HE,cf,cu] at h;subst h;rfl
   |1,h=>simp only[HE,bH,cf,cu] at h;subst h;rfl
   |b+2,h=>simp[HE] at h
 ins x:=by cases x<;>rfl
def D2:fK Rt:=FA D L2
abbrev oT (s:Ts):Option (SB Rt):=aa (.inr (.inr (.inr (.tree s))))
def px (n:Nat) (c:aT):Prop:=∃ l:List Int,c=⟨l,[],[]⟩/\l.length=n
def OL (n:Nat) (c:aT):Prop:=∃ l:List Bool,c=⟨[],l,[]⟩/\l.length=n
def q7 (n:Nat) (gs:List Int) (lv:List Bool) (i g:Int):Bool:=decide (0≤i)&&decide (i<n)&&lv.getD i.toNat ao&&decide (gs.getD i.toNat 0=g)
structure adF (n:Nat) (c0 c1 c2 c3 c4 c5 c6 c7 c8 c9 oA om oo:aT):Prop where
 Df:px n c0
 PG:px n c1
 pS:OL n c2
 R6:px n c3
 hc4:px n c4
 hc5:px n c5
 hc6:px n c6
 hc7:px n c7
 hc8:px n c8
 hc9:px n c9
 am0:px n oA
 amO:px n om
 amZ:OL n oo
def mQ (n:Nat):List aT->Prop
 |[c0,c1,c2,c3,c4,c5,c6,c7,c8,c9,oA,om,oo]=>adF n c0 c1 c2 c3 c4 c5 c6 c7 c8 c9 oA om oo
 |_=>False
def VD:List Value->Hp Empty->Option Bool:=fun args hh=>match args,hh with
 |[.pointer (aa ⟨0,0,aj⟩),.agg ⟨[.int .i64 i,.int .i64 g]⟩],[aa (.inl (194,[.slice (aa ⟨1,0,aa 13000⟩) n cp,.slice (aa ⟨2,0,aa 1000⟩) fn fc,.int .i64 hd,.int .i64 ca,.int .i64 vi])),aa (.inr (.inl (197,⟨tm,n2,[c0,c1,c2,c3,c4,c5,c6,c7,c8,c9,oA,om,oo]⟩))),aa (.inr (.inl (3,⟨[.int .i64 0],f2,[⟨fr,[],[]⟩]⟩)))]=>aa (q7 n om.i oo.b i g)
 |_,_=>aj
def J':Prim Empty:=fun args hh=>match args,hh with
 |[.pointer (aa ⟨0,0,aj⟩),.agg ⟨[.int .i64 i,.int .i64 g]⟩],[aa (.inl (194,[.slice (aa ⟨1,0,aa 13000⟩) n cp,.slice (aa ⟨2,0,aa 1000⟩) fn fc,.int .i64 hd,.int .i64 ca,.int .i64 vi])),aa (.inr (.inl (197,⟨tm,n2,[c0,c1,c2,c3,c4,c5,c6,c7,c8,c9,oA,om,oo]⟩))),aa (.inr (.inl (3,⟨[.int .i64 0],f2,[⟨fr,[],[]⟩]⟩)))]=>aa ⟨tm=dj/\n2=n/\n<1000000/\mQ n [c0,c1,c2,c3,c4,c5,c6,c7,c8,c9,oA,om,oo],.pointer (aa ⟨1,i.toNat,aa 13000⟩),aj,[aa (.inl (194,[.slice (aa ⟨1,0,aa 13000⟩) n cp,.slice (aa ⟨2,0,aa 1000⟩) fn fc,.int .i64 hd,.int .i64 ca,.int .i64 (av.wrap (vi+1))])),aa (.inr (.inl (197,⟨tm,n2,[c0,c1,c2,c3,c4,c5,c6,c7,c8,c9,oA,om,oo]⟩))),aa (.inr (.inl (3,⟨[.int .i64 0],f2,[⟨fr,[],[]⟩]⟩)))],[],[(0,0)]⟩
 |_,_=>aj
def Jw:Prim Empty:=fun args hh=>match args,hh with
 |[.pointer (aa ⟨0,0,aj⟩),.agg ⟨[.int .i64 i,.int .i64 g]⟩],[aa (.inl (194,[.slice (aa ⟨1,0,aa 13000⟩) n cp,.slice (aa ⟨2,0,aa 1000⟩) fn fc,.int .i64 hd,.int .i64 ca,.int .i64 vi])),aa (.inr (.inl (197,⟨tm,n2,[c0,c1,c2,c3,c4,c5,c6,c7,c8,c9,oA,om,oo]⟩))),aa (.inr (.inl (3,⟨[.int .i64 0],f2,[⟨fr,[],[]⟩]⟩)))]=>aa ⟨tm=dj/\n2=n/\n<1000000/\mQ n [c0,c1,c2,c3,c4,c5,c6,c7,c8,c9,oA,om,oo],.pointer aj,aj,hh,[],[]⟩
 |_,_=>aj
def qM:je Empty:=⟨VD,J',Jw⟩
def Vr:eK Empty:=[(1000000000,lJ)]
theorem KA:cQ sT Tryz.prog Vr:=⟨iu,trivial⟩
theorem J9:rB sT Tryz.prog 147 (rW qM aq) (qM.go aq):=by
 refine v8 (fn:=Tryz.f147) (root:=dM Tryz.f147) (by kernel_rfl) (by kernel_rfl) (by kernel_rfl) fun args hh x hx=>?_
 unfold qM je.go J' at hx;simp only at hx;split at hx
 ·rename_i i g n cp fn fc hd ca vi tm n2 c0 c1 c2 c3 c4 c5 c6 c7 c8 c9 oA om oo f2 fr;cases hx;refine⟨bc _,(fun b hb=>by cases hb),(fun hw=>by first|rfl|cases hw),fun mK hv=>?_⟩
  obtain⟨rfl,rfl,u6,⟨⟨l0,rfl,n_⟩,⟨l1,rfl,zW⟩,⟨l2,rfl,Bj⟩,⟨l3,rfl,yr⟩,⟨l4,rfl,yb⟩,⟨l5,rfl,EZ⟩,⟨l6,rfl,EJ⟩,⟨l7,rfl,En⟩,⟨l8,rfl,EG⟩,⟨l9,rfl,ED⟩,⟨qJ,rfl,yM⟩,⟨nI,rfl,yU⟩,⟨mP,rfl,yI⟩⟩⟩:=hv;have hw:q7 n2 nI mP i g=aq:=by
   rcases mK with⟨h,_⟩|h
   ·exact(wk _ h).elim
   ·exact o9 h
  clear mK;generalize hG:ct (R:=Empty) _ _=G;refine cW (T:=Vr) KA mixed 200 ?_;refine bN (q:=let Z1:=bs av;(decide (i<(0:Int))=aq->Vc (aD (decide (i<(0:Int)))=aD aq)/\aY (G (aE aj) [aa (.inl (194,[.slice (aa ⟨1,0,aa 13000⟩) n2 cp,.slice (aa ⟨2,0,aa 1000⟩) fn fc,Z1 hd,Z1 ca,Z1 vi])),aa (.inr (.inl (197,Row.mk dj n2 (cV l0 l1 l2 l3 l4 l5 l6 l7 l8 l9 qJ nI mP)))),aa (.inr (.inl (3,Row.mk [Z1 0] f2 [aT.mk fr [] []]))),aa (.inl (108,[Z1 i,Z1 g]))]))/\(decide (i<(0:Int))=ao->Vc (aD (decide (i<(0:Int)))=aD ao)/\(decide (i≥(↑n2:Int))=aq->aY (G (aE aj) [aa (.inl (194,[.slice (aa ⟨1,0,aa 13000⟩) n2 cp,.slice (aa ⟨2,0,aa 1000⟩) fn fc,Z1 hd,Z1 ca,Z1 vi])),aa (.inr (.inl (197,Row.mk dj n2 (cV l0 l1 l2 l3 l4 l5 l6 l7 l8 l9 qJ nI mP)))),aa (.inr (.inl (3,Row.mk [Z1 0] f2 [aT.mk fr [] []]))),aa (.inl (108,[Z1 i,Z1 g]))]))/\(decide (i≥(↑n2:Int))=ao->Vc ((0:Int)≤i/\i<(↑n2:Int)/\0+n2≤n2)/\Vc (0+aI i<n2)/\((!ay mP (0+aI i) ao)=aq->Vc (0+aI i<n2)/\Vc ((aD !ay mP (0+aI i) ao)=aD aq)/\aY (G (aE aj) [aa (.inl (194,[.slice (aa ⟨1,0,aa 13000⟩) n2 cp,.slice (aa ⟨2,0,aa 1000⟩) fn fc,Z1 hd,Z1 ca,Z1 vi])),aa (.inr (.inl (197,Row.mk dj n2 (cV l0 l1 l2 l3 l4 l5 l6 l7 l8 l9 qJ nI mP)))),aa (.inr (.inl (3,Row.mk [Z1 0] f2 [aT.mk fr [] []]))),aa (.inl (108,[Z1 i,Z1 g]))]))/\((!ay mP (0+aI i) ao)=ao->Vc (0+aI i<n2)/\Vc ((aD !ay mP (0+aI i) ao)=aD ao)/\Vc (0+aI i<n2)/\((ay nI (0+aI i) (0:Int) != g)=aq->aY (G (aE aj) [aa (.inl (194,[.slice (aa ⟨1,0,aa 13000⟩) n2 cp,.slice (aa ⟨2,0,aa 1000⟩) fn fc,Z1 hd,Z1 ca,Z1 vi])),aa (.inr (.inl (197,Row.mk dj n2 (cV l0 l1 l2 l3 l4 l5 l6 l7 l8 l9 qJ nI mP)))),aa (.inr (.inl (3,Row.mk [Z1 0] f2 [aT.mk fr [] []]))),aa (.inl (108,[Z1 i,Z1 g]))]))/\((ay nI (0+aI i) (0:Int) != g)=ao->Vc True/\aY (G (aE (aa (RD 1 (0+aI i) (aa 13000)))) [aa (.inl (194,[.slice (aa ⟨1,0,aa 13000⟩) n2 cp,.slice (aa ⟨2,0,aa 1000⟩) fn fc,Z1 hd,Z1 ca,Z1 (cr av (vi+(1:Int)))])),aa (.inr (.inl (197,Row.mk dj n2 (cV l0 l1 l2 l3 l4 l5 l6 l7 l8 l9 qJ nI mP)))),aa (.inr (.inl (3,Row.mk [Z1 0] f2 [aT.mk fr [] []]))),aa (.inl (108,[Z1 i,Z1 g]))])))))) ?_ (by kernel_rfl)
  intro Z1;subst Z1;have e0:0+i.toNat=i.toNat:=b5 _;rw[e0];clear n_ zW Bj yr yb EZ EJ En EG ED yM yU yI;subst hG;have rU:q7 n2 nI mP i g=(decide (0≤i)&&decide (i<n2)&&(mP).getD i.toNat ao&&decide ((nI).getD i.toNat 0=g)):=rfl;refine⟨fun h=>⟨⟨congrArg aD h⟩,⟨?_⟩⟩,fun h=>⟨⟨congrArg aD h⟩,fun h2=>⟨?_⟩,fun h2=>?_⟩⟩
  rotate_left 2
  ·have i0:=of_decide_eq_false h;have i1:=of_decide_eq_false h2;rw[decide_eq_true (by omega),decide_eq_true (by omega),ji,ji] at rU
   refine⟨⟨by omega,by omega,by omega⟩,⟨by omega⟩,fun h3=>⟨⟨by omega⟩,⟨congrArg aD h3⟩,⟨?_⟩⟩,fun h3=>⟨⟨by omega⟩,⟨congrArg aD h3⟩,⟨by omega⟩,fun h4=>⟨?_⟩,fun h4=>⟨⟨trivial⟩,⟨?_⟩⟩⟩⟩
   ·rw[Bool.not_eq_true'] at h3;rw[hw,h3] at rU;cases rU
   ·rw[hw,decide_eq_false (ne_of_beq_false (by simpa using h4)),uM] at rU;cases rU
   ·exact⟨[0,1,2],rfl,rfl,⟨.inl rfl,⟨_,rfl,.inl rfl⟩,⟨_,rfl,.inl rfl⟩,trivial⟩,rfl,rfl,rfl,rfl⟩
  ·have:=of_decide_eq_true h;rw[hw,decide_eq_false (by omega)] at rU;cases rU
  ·have:=of_decide_eq_true h2;rw[hw,decide_eq_false (p:=i<n2) (by omega),uM] at rU;cases rU
 ·cases hx
theorem KF:rB sT Tryz.prog 147 (rW qM ao) (qM.go ao):=by
 refine v8 (fn:=Tryz.f147) (root:=dM Tryz.f147) (by kernel_rfl) (by kernel_rfl) (by kernel_rfl) fun args hh x hx=>?_
 unfold qM je.go Jw at hx;simp only at hx;split at hx
 ·rename_i i g n cp fn fc hd ca vi tm n2 c0 c1 c2 c3 c4 c5 c6 c7 c8 c9 oA om oo f2 fr;cases hx;refine⟨bc _,(fun b hb=>by cases hb),(fun hw=>by first|rfl|cases hw),fun mK hv=>?_⟩
  obtain⟨rfl,rfl,u6,⟨⟨l0,rfl,n_⟩,⟨l1,rfl,zW⟩,⟨l2,rfl,Bj⟩,⟨l3,rfl,yr⟩,⟨l4,rfl,yb⟩,⟨l5,rfl,EZ⟩,⟨l6,rfl,EJ⟩,⟨l7,rfl,En⟩,⟨l8,rfl,EG⟩,⟨l9,rfl,ED⟩,⟨qJ,rfl,yM⟩,⟨nI,rfl,yU⟩,⟨mP,rfl,yI⟩⟩⟩:=hv;have hw:q7 n2 nI mP i g=ao:=by
   rcases mK with⟨h,_⟩|h
   ·exact(wk _ h).elim
   ·exact o9 h
  clear mK;generalize hG:ct (R:=Empty) _ _=G;refine cW (T:=Vr) KA mixed 200 ?_;refine bN (q:=let Z1:=bs av;(decide (i<(0:Int))=aq->Vc (aD (decide (i<(0:Int)))=aD aq)/\aY (G (aE aj) [aa (.inl (194,[.slice (aa ⟨1,0,aa 13000⟩) n2 cp,.slice (aa ⟨2,0,aa 1000⟩) fn fc,Z1 hd,Z1 ca,Z1 vi])),aa (.inr (.inl (197,Row.mk dj n2 (cV l0 l1 l2 l3 l4 l5 l6 l7 l8 l9 qJ nI mP)))),aa (.inr (.inl (3,Row.mk [Z1 0] f2 [aT.mk fr [] []]))),aa (.inl (108,[Z1 i,Z1 g]))]))/\(decide (i<(0:Int))=ao->Vc (aD (decide (i<(0:Int)))=aD ao)/\(decide (i≥(↑n2:Int))=aq->aY (G (aE aj) [aa (.inl (194,[.slice (aa ⟨1,0,aa 13000⟩) n2 cp,.slice (aa ⟨2,0,aa 1000⟩) fn fc,Z1 hd,Z1 ca,Z1 vi])),aa (.inr (.inl (197,Row.mk dj n2 (cV l0 l1 l2 l3 l4 l5 l6 l7 l8 l9 qJ nI mP)))),aa (.inr (.inl (3,Row.mk [Z1 0] f2 [aT.mk fr [] []]))),aa (.inl (108,[Z1 i,Z1 g]))]))/\(decide (i≥(↑n2:Int))=ao->Vc ((0:Int)≤i/\i<(↑n2:Int)/\0+n2≤n2)/\Vc (0+aI i<n2)/\((!ay mP (0+aI i) ao)=aq->Vc (0+aI i<n2)/\Vc ((aD !ay mP (0+aI i) ao)=aD aq)/\aY (G (aE aj) [aa (.inl (194,[.slice (aa ⟨1,0,aa 13000⟩) n2 cp,.slice (aa ⟨2,0,aa 1000⟩) fn fc,Z1 hd,Z1 ca,Z1 vi])),aa (.inr (.inl (197,Row.mk dj n2 (cV l0 l1 l2 l3 l4 l5 l6 l7 l8 l9 qJ nI mP)))),aa (.inr (.inl (3,Row.mk [Z1 0] f2 [aT.mk fr [] []]))),aa (.inl (108,[Z1 i,Z1 g]))]))/\((!ay mP (0+aI i) ao)=ao->Vc (0+aI i<n2)/\Vc ((aD !ay mP (0+aI i) ao)=aD ao)/\Vc (0+aI i<n2)/\((ay nI (0+aI i) (0:Int) != g)=aq->aY (G (aE aj) [aa (.inl (194,[.slice (aa ⟨1,0,aa 13000⟩) n2 cp,.slice (aa ⟨2,0,aa 1000⟩) fn fc,Z1 hd,Z1 ca,Z1 vi])),aa (.inr (.inl (197,Row.mk dj n2 (cV l0 l1 l2 l3 l4 l5 l6 l7 l8 l9 qJ nI mP)))),aa (.inr (.inl (3,Row.mk [Z1 0] f2 [aT.mk fr [] []]))),aa (.inl (108,[Z1 i,Z1 g]))]))/\((ay nI (0+aI i) (0:Int) != g)=ao->Vc True/\aY (G (aE (aa (RD 1 (0+aI i) (aa 13000)))) [aa (.inl (194,[.slice (aa ⟨1,0,aa 13000⟩) n2 cp,.slice (aa ⟨2,0,aa 1000⟩) fn fc,Z1 hd,Z1 ca,Z1 (cr av (vi+(1:Int)))])),aa (.inr (.inl (197,Row.mk dj n2 (cV l0 l1 l2 l3 l4 l5 l6 l7 l8 l9 qJ nI mP)))),aa (.inr (.inl (3,Row.mk [Z1 0] f2 [aT.mk fr [] []]))),aa (.inl (108,[Z1 i,Z1 g]))])))))) ?_ (by kernel_rfl)
  intro Z1;subst Z1;have e0:0+i.toNat=i.toNat:=b5 _;rw[e0];clear n_ zW Bj yr yb EZ EJ En EG ED yM yU yI;subst hG;have rU:q7 n2 nI mP i g=(decide (0≤i)&&decide (i<n2)&&(mP).getD i.toNat ao&&decide ((nI).getD i.toNat 0=g)):=rfl;refine⟨fun h=>⟨⟨congrArg aD h⟩,⟨?_⟩⟩,fun h=>⟨⟨congrArg aD h⟩,fun h2=>⟨?_⟩,fun h2=>?_⟩⟩
  rotate_left 2
  ·have i0:=of_decide_eq_false h;have i1:=of_decide_eq_false h2;rw[decide_eq_true (by omega),decide_eq_true (by omega),ji,ji] at rU
   refine⟨⟨by omega,by omega,by omega⟩,⟨by omega⟩,fun h3=>⟨⟨by omega⟩,⟨congrArg aD h3⟩,⟨?_⟩⟩,fun h3=>⟨⟨by omega⟩,⟨congrArg aD h3⟩,⟨by omega⟩,fun h4=>⟨?_⟩,fun h4=>⟨⟨trivial⟩,⟨?_⟩⟩⟩⟩
   ·exact⟨[0,1,2],rfl,rfl,⟨.inl rfl,⟨_,rfl,.inl rfl⟩,⟨_,rfl,.inl rfl⟩,trivial⟩,rfl,rfl,rfl,rfl⟩
   ·exact⟨[0,1,2],rfl,rfl,⟨.inl rfl,⟨_,rfl,.inl rfl⟩,⟨_,rfl,.inl rfl⟩,trivial⟩,rfl,rfl,rfl,rfl⟩
   ·rw[hw,decide_eq_true (by simpa using h4),SU] at rU;rw[Bool.not_eq_false'] at h3;rw[h3] at rU;cases rU
  ·exact⟨[0,1,2],rfl,rfl,⟨.inl rfl,⟨_,rfl,.inl rfl⟩,⟨_,rfl,.inl rfl⟩,trivial⟩,rfl,rfl,rfl,rfl⟩
  ·exact⟨[0,1,2],rfl,rfl,⟨.inl rfl,⟨_,rfl,.inl rfl⟩,⟨_,rfl,.inl rfl⟩,trivial⟩,rfl,rfl,rfl,rfl⟩
 ·cases hx
theorem NM:ck sT Tryz.prog 147 qM:=fun b=>by cases b;exact KF;exact J9
theorem Rl:Vc (fits (-1)):=⟨⟨by omega,by omega⟩⟩
theorem Uj {n:Nat} (h:n<1000000):Vc (0+n≤n/\1≤1/\(n+1)*104≤140737488355328/\n+1≤140737488355328):=⟨by omega,by omega,by omega,by omega⟩
theorem QJ {n:Nat} (h:n<1000000):Vc (fits (((n+1:Nat):Int)-1)):=⟨⟨by omega,by omega⟩⟩
theorem Yx (n:Nat):((n+1:Nat):Int)-1=n:=by omega
def YY:List Value->Hp Empty->Option Bool:=fun args hh=>match args,hh with
 |[.pointer (aa ⟨0,0,aj⟩)],[aa (.inl (194,[.slice (aa ⟨1,0,aa 13000⟩) n cp,.slice (aa ⟨2,0,aa 1000⟩) fn fc,.int .i64 hd,.int .i64 ca,.int .i64 vi])),aa (.inr (.inl (197,⟨tm,n2,[c0,c1,c2,c3,c4,c5,c6,c7,c8,c9,oA,om,oo]⟩))),aa (.inr (.inl (3,⟨[.int .i64 0],f2,[⟨fr,[],[]⟩]⟩)))]=>aa (decide (fn=0))
 |_,_=>aj
def PO:Prim Empty:=fun args hh=>match args,hh with
 |[.pointer (aa ⟨0,0,aj⟩)],[aa (.inl (194,[.slice (aa ⟨1,0,aa 13000⟩) n cp,.slice (aa ⟨2,0,aa 1000⟩) fn fc,.int .i64 hd,.int .i64 ca,.int .i64 vi])),aa (.inr (.inl (197,⟨tm,n2,[c0,c1,c2,c3,c4,c5,c6,c7,c8,c9,oA,om,oo]⟩))),aa (.inr (.inl (3,⟨[.int .i64 0],f2,[⟨fr,[],[]⟩]⟩)))]=>aa ⟨fn=0/\f2=fn/\fc=0/\cp=0/\tm=dj/\n2=n/\n<1000000/\mQ n [c0,c1,c2,c3,c4,c5,c6,c7,c8,c9,oA,om,oo],.int .i64 n,aj,[aa (.inl (194,[.slice (aa ⟨3,0,aa 13000⟩) (n+1) 0,.slice (aa ⟨2,0,aa 1000⟩) fn fc,.int .i64 hd,.int .i64 ca,.int .i64 vi])),aj,aa (.inr (.inl (3,⟨[.int .i64 0],f2,[⟨fr,[],[]⟩]⟩))),aa (.inr (.inl (197,⟨tm,(n+1),[⟨c0.i++[0],[],[]⟩,⟨c1.i++[0],[],[]⟩,⟨[],c2.b++[ao],[]⟩,⟨c3.i++[0],[],[]⟩,⟨c4.i++[0],[],[]⟩,⟨c5.i++[0],[],[]⟩,⟨c6.i++[0],[],[]⟩,⟨c7.i++[0],[],[]⟩,⟨c8.i++[0],[],[]⟩,⟨c9.i++[0],[],[]⟩,⟨oA.i++[0],[],[]⟩,⟨om.i++[0],[],[]⟩,⟨[],oo.b++[ao],[]⟩]⟩)))],[],[(0,0)]⟩
 |_,_=>aj
def Oh:Prim Empty:=fun args hh=>match args,hh with
 |[.pointer (aa ⟨0,0,aj⟩)],[aa (.inl (194,[.slice (aa ⟨1,0,aa 13000⟩) n cp,.slice (aa ⟨2,0,aa 1000⟩) fn fc,.int .i64 hd,.int .i64 ca,.int .i64 vi])),aa (.inr (.inl (197,⟨tm,n2,[c0,c1,c2,c3,c4,c5,c6,c7,c8,c9,oA,om,oo]⟩))),aa (.inr (.inl (3,⟨[.int .i64 0],f2,[⟨fr,[],[]⟩]⟩)))]=>aa ⟨fn≠0/\f2=fn/\fr.length=fn/\fc=0/\cp=0/\fn<1000000/\tm=dj/\n2=n/\n<1000000/\mQ n [c0,c1,c2,c3,c4,c5,c6,c7,c8,c9,oA,om,oo],.int .i64 (fr.getD (fn-1) 0),aj,[aa (.inl (194,[.slice (aa ⟨1,0,aa 13000⟩) n 0,.slice (aa ⟨2,0,aa 1000⟩) (fn-1) 0,.int .i64 hd,.int .i64 ca,.int .i64 vi])),aa (.inr (.inl (197,⟨tm,n2,[c0,c1,c2,c3,c4,c5,c6,c7,c8,c9,oA,om,oo]⟩))),aa (.inr (.inl (3,⟨[.int .i64 0],(fn-1),[⟨(fr.take (fn-1)),[],[]⟩]⟩)))],[],[(0,0)]⟩
 |_,_=>aj
def tz:je Empty:=⟨YY,PO,Oh⟩
theorem Nf:rB sT Tryz.prog 138 (rW tz aq) (tz.go aq):=by
 refine v8 (fn:=Tryz.f138) (root:=dM Tryz.f138) (by kernel_rfl) (by kernel_rfl) (by kernel_rfl) fun args hh x hx=>?_
 unfold tz je.go PO at hx;simp only at hx;split at hx
 ·rename_i n cp fn fc hd ca vi tm n2 c0 c1 c2 c3 c4 c5 c6 c7 c8 c9 oA om oo f2 fr;cases hx;refine⟨by first|exact bc _|exact mH _,(fun b hb=>by cases hb),(fun hw=>by first|rfl|cases hw),fun mK hv=>?_⟩
  obtain⟨rfl,rfl,rfl,rfl,hv⟩:=hv;obtain⟨rfl,rfl,u6,⟨⟨l0,rfl,n_⟩,⟨l1,rfl,zW⟩,⟨l2,rfl,Bj⟩,⟨l3,rfl,yr⟩,⟨l4,rfl,yb⟩,⟨l5,rfl,EZ⟩,⟨l6,rfl,EJ⟩,⟨l7,rfl,En⟩,⟨l8,rfl,EG⟩,⟨l9,rfl,ED⟩,⟨qJ,rfl,yM⟩,⟨nI,rfl,yU⟩,⟨mP,rfl,yI⟩⟩⟩:=hv;clear mK;generalize hG:ct (R:=Empty) _ _=G;refine cW (T:=[]) trivial mixed 200 ?_;refine bN (q:=let Z2:=bs av;let Z1:=(0:Int);Vc (fits (-1:Int))/\(aq=aq->Vc (0+n2≤n2/\1≤1/\(n2+1)*104≤140737488355328/\n2+1≤140737488355328)/\Vc (fits ((↑(n2+1):Int)-(1:Int)))/\aY (G (Z2 ((↑(n2+1):Int)-(1:Int))) [aa (.inl (194,[.slice (aa ⟨4,0,aa 13000⟩) (n2+1) 0,.slice (aa ⟨2,0,aa 1000⟩) 0 0,Z2 hd,Z2 ca,Z2 vi])),aj,aa (.inr (.inl (3,Row.mk [Z2 0] 0 [aT.mk fr [] []]))),aa (.inr (.inl (197,Row.mk dj 1 [aT.mk [Z1] [] [],aT.mk [Z1] [] [],aT.mk [] [ao] [],aT.mk [Z1] [] [],aT.mk [Z1] [] [],aT.mk [Z1] [] [],aT.mk [Z1] [] [],aT.mk [Z1] [] [],aT.mk [Z1] [] [],aT.mk [Z1] [] [],aT.mk [Z1] [] [],aT.mk [Z1] [] [],aT.mk [] [ao] []]))),aa (.inr (.inl (197,Row.mk dj (n2+1) (cV (cut l0 0 n2++[Z1]) (cut l1 0 n2++[Z1]) (cut l2 0 n2++[ao]) (cut l3 0 n2++[Z1]) (cut l4 0 n2++[Z1]) (cut l5 0 n2++[Z1]) (cut l6 0 n2++[Z1]) (cut l7 0 n2++[Z1]) (cut l8 0 n2++[Z1]) (cut l9 0 n2++[Z1]) (cut qJ 0 n2++[Z1]) (cut nI 0 n2++[Z1]) (cut mP 0 n2++[ao])))))]))/\(aq=ao->Vc (Z1≤(-1:Int)/\(-1:Int)<Z1/\0≤0)/\Vc (0<0)/\Vc (Z1≤(-1:Int)/\(-1:Int)≤Z1/\0≤0)/\aY (G (Z2 (ay fr 0 Z1)) [aa (.inl (194,[.slice (aa ⟨1,0,aa 13000⟩) n2 0,.slice (aa ⟨2,0,aa 1000⟩) 0 0,Z2 hd,Z2 ca,Z2 vi])),aa (.inr (.inl (197,Row.mk dj n2 (cV l0 l1 l2 l3 l4 l5 l6 l7 l8 l9 qJ nI mP)))),aa (.inr (.inl (3,Row.mk [Z2 0] 0 [aT.mk fr [] []])))]))) ?_ (by kernel_rfl)
  intro Z2 Z1;subst Z1 Z2;subst hG;refine⟨Rl,fun _=>⟨Uj u6,QJ u6,⟨?_⟩⟩,fun h=>by cases h⟩
  simp only[fD n_,fD zW,fD Bj,fD yr,fD yb,fD EZ,fD EJ,fD En,fD EG,fD ED,fD yM,fD yU,fD yI,Yx];exact⟨[0,1,2,4],rfl,rfl,⟨.inl rfl,⟨_,rfl,.inl rfl⟩,⟨_,rfl,.inl rfl⟩,trivial⟩,rfl,rfl,rfl,(by kernel_rfl)⟩
 ·cases hx
theorem Nn:rB sT Tryz.prog 138 (rW tz ao) (tz.go ao):=by
 refine v8 (fn:=Tryz.f138) (root:=dM Tryz.f138) (by kernel_rfl) (by kernel_rfl) (by kernel_rfl) fun args hh x hx=>?_
 unfold tz je.go Oh at hx;simp only at hx;split at hx
 ·rename_i n cp fn fc hd ca vi tm n2 c0 c1 c2 c3 c4 c5 c6 c7 c8 c9 oA om oo f2 fr;cases hx;refine⟨by first|exact bc _|exact mH _,(fun b hb=>by cases hb),(fun hw=>by first|rfl|cases hw),fun mK hv=>?_⟩
  obtain⟨h0,rfl,hf,rfl,rfl,Vl,hv⟩:=hv;obtain⟨rfl,rfl,u6,⟨⟨l0,rfl,n_⟩,⟨l1,rfl,zW⟩,⟨l2,rfl,Bj⟩,⟨l3,rfl,yr⟩,⟨l4,rfl,yb⟩,⟨l5,rfl,EZ⟩,⟨l6,rfl,EJ⟩,⟨l7,rfl,En⟩,⟨l8,rfl,EG⟩,⟨l9,rfl,ED⟩,⟨qJ,rfl,yM⟩,⟨nI,rfl,yU⟩,⟨mP,rfl,yI⟩⟩⟩:=hv;clear mK;generalize hG:ct (R:=Empty) _ _=G;refine cW (T:=[]) trivial mixed 200 ?_;refine bN (q:=let Z2:=bs av;let Z1:=(0:Int);Vc (fits ((↑f2:Int)-(1:Int)))/\(decide ((↑f2:Int)-(1:Int)<Z1)=aq->Vc (0+n2≤n2/\1≤1/\(n2+1)*104≤140737488355328/\n2+1≤140737488355328)/\Vc (fits ((↑(n2+1):Int)-(1:Int)))/\aY (G (Z2 ((↑(n2+1):Int)-(1:Int))) [aa (.inl (194,[.slice (aa ⟨4,0,aa 13000⟩) (n2+1) 0,.slice (aa ⟨2,0,aa 1000⟩) f2 0,Z2 hd,Z2 ca,Z2 vi])),aj,aa (.inr (.inl (3,Row.mk [Z2 0] f2 [aT.mk fr [] []]))),aa (.inr (.inl (197,Row.mk dj 1 [aT.mk [Z1] [] [],aT.mk [Z1] [] [],aT.mk [] [ao] [],aT.mk [Z1] [] [],aT.mk [Z1] [] [],aT.mk [Z1] [] [],aT.mk [Z1] [] [],aT.mk [Z1] [] [],aT.mk [Z1] [] [],aT.mk [Z1] [] [],aT.mk [Z1] [] [],aT.mk [Z1] [] [],aT.mk [] [ao] []]))),aa (.inr (.inl (197,Row.mk dj (n2+1) (cV (cut l0 0 n2++[Z1]) (cut l1 0 n2++[Z1]) (cut l2 0 n2++[ao]) (cut l3 0 n2++[Z1]) (cut l4 0 n2++[Z1]) (cut l5 0 n2++[Z1]) (cut l6 0 n2++[Z1]) (cut l7 0 n2++[Z1]) (cut l8 0 n2++[Z1]) (cut l9 0 n2++[Z1]) (cut qJ 0 n2++[Z1]) (cut nI 0 n2++[Z1]) (cut mP 0 n2++[ao])))))]))/\(decide ((↑f2:Int)-(1:Int)<Z1)=ao->Vc (Z1≤(↑f2:Int)-(1:Int)/\(↑f2:Int)-(1:Int)<(↑f2:Int)/\0+f2≤f2)/\Vc (0+aI ((↑f2:Int)-(1:Int))<f2)/\Vc (Z1≤(↑f2:Int)-(1:Int)/\(↑f2:Int)-(1:Int)≤(↑f2:Int)/\0+f2≤f2)/\aY (G (Z2 (ay fr (0+aI ((↑f2:Int)-(1:Int))) Z1)) [aa (.inl (194,[.slice (aa ⟨1,0,aa 13000⟩) n2 0,.slice (aa ⟨2,0,aa 1000⟩) (aI ((↑f2:Int)-(1:Int))) 0,Z2 hd,Z2 ca,Z2 vi])),aa (.inr (.inl (197,Row.mk dj n2 (cV l0 l1 l2 l3 l4 l5 l6 l7 l8 l9 qJ nI mP)))),aa (.inr (.inl (3,Row.mk [Z2 0] f2 [aT.mk fr [] []])))]))) ?_ (by kernel_rfl)
  intro Z2 Z1;subst Z1 Z2;subst hG;clear n_ zW Bj yr yb EZ EJ En EG ED yM yU yI;have e1:((f2:Int)-1).toNat=f2-1:=by omega
  simp only[e1,b5];refine⟨⟨by omega,by omega⟩,fun h=>absurd (of_decide_eq_true h) (by omega),fun _=>⟨⟨by omega,by omega,by omega⟩,⟨by omega⟩,⟨by omega,by omega,by omega⟩,⟨?_⟩⟩⟩
  exact⟨[0,1,2],rfl,rfl,⟨.inl rfl,⟨_,rfl,.inl rfl⟩,⟨_,rfl,.inr ⟨rfl,A' _ _,by simp[BE]⟩⟩,trivial⟩,rfl,rfl,rfl,(by kernel_rfl)⟩
 ·cases hx
theorem QA:ck sT Tryz.prog 138 tz:=fun b=>by cases b;exact Nn;exact Nf
def TA:eK Empty:=[(138,bM zN 2 tz),(147,bM zN 2 qM)]
theorem xG:cQ sT Tryz.prog TA:=⟨aX _ _ QA,aX _ _ NM,trivial⟩
abbrev PP (m:Pl):Prop:=Gv.fX 100000 m
theorem BK (m:Pl) (i g:Int):q7 m.vs.length m.dD m.live i g=yA m ⟨i,g⟩:=rfl
theorem Ev {m:Pl} {i g:Int} (h:yA m ⟨i,g⟩=aq):0≤i/\i<m.vs.length/\m.live.getD i.toNat ao=aq/\m.dD.getD i.toNat 0=g:=Gv.si h
theorem gR {α:Type} (f:Nd->α) (m:Pl) (k:Nat) (a:α) (ha:f zd=a):(m.vs.map f).getD k a=f (m.vs.getD k zd):=by
 subst ha;simp only[ax,gh];cases m.vs[k]?<;>rfl
theorem GN (m:Pl) (k:Nat):gM m.vs k=bk (m.vs.getD k zd):=by
 unfold gM bk;simp only[gR (fun n:Nd=>n.e.it.k) m _ 0 rfl,gR (fun n:Nd=>n.e.it.i) m _ 0 rfl,gR (fun n:Nd=>n.e.lS) m _ ao rfl,gR (fun n:Nd=>n.e.time) m _ 0 rfl,gR (fun n:Nd=>n.l.i) m _ 0 rfl,gR (fun n:Nd=>n.l.g) m _ 0 rfl,gR (fun n:Nd=>n.r.i) m _ 0 rfl,gR (fun n:Nd=>n.r.g) m _ 0 rfl,gR (fun n:Nd=>n.all.n) m _ 0 rfl,gR (fun n:Nd=>n.all.sum.n) m _ 0 rfl,gR (fun n:Nd=>n.h) m _ 0 rfl]
theorem BF (m:Pl) (k:Nat) (x:Nd) (g:List Int) (b:List Bool):(⟨dj,m.vs.length,cS m.vs k x g b⟩:Row)=⟨dj,(m.vs.set k x).length,cM (m.vs.set k x) g b⟩:=by
 unfold cS cM;simp only[Fl,e_]
theorem gT {α:Type} (f:Nd->α) (m:Pl):(m.vs.map f).length=m.vs.length:=gX ..
theorem Bn {m:Pl} (hv:PP m):mQ m.vs.length (cM m.vs m.dD m.live):=⟨⟨_,rfl,gT _ m⟩,⟨_,rfl,gT _ m⟩,⟨_,rfl,gT _ m⟩,⟨_,rfl,gT _ m⟩,⟨_,rfl,gT _ m⟩,⟨_,rfl,gT _ m⟩,⟨_,rfl,gT _ m⟩,⟨_,rfl,gT _ m⟩,⟨_,rfl,gT _ m⟩,⟨_,rfl,gT _ m⟩,⟨_,rfl,gT _ m⟩,⟨_,rfl,hv.dD⟩,⟨_,rfl,hv.live⟩⟩
theorem uG {m:Pl} (hv:PP m):True/\True/\m.vs.length<1000000/\mQ m.vs.length (cM m.vs m.dD m.live):=⟨trivial,trivial,by have:=hv.cells;omega,Bn hv⟩
def MP:Prim Rs:=fun args hh=>match args,hh with
 |[.int .i64 c],[]=>aa ⟨True,.pointer (aa ⟨0,0,aj⟩),aj,[aa (.inr (.inr (.inr (.dd ⟨[],[],[],[],0,min (max c 0) 16777216,0⟩))))],[],[(0,0)]⟩
 |_,_=>aj
theorem U_:ck D Tryz.prog 131 (a9 MP):=by
 refine pY (qY (L:=L) (D0:=sT) (fn:=Tryz.f131) (root:=dM Tryz.f131) (by kernel_rfl) (by kernel_rfl) (by kernel_rfl) fun args hh x hx=>?_)
 unfold MP at hx;split at hx
 ·rename_i c;cases hx;refine q4 fun _ hv=>?_
  generalize hG:xH (R:=Rs) (R0:=Empty) _ _ _=G;refine cW (T:=TA) xG mixed 200 ?_;refine bN (q:=aY (G (aE (aa ⟨0,0,aj⟩)) [aa (.inl (194,[.slice aj 0 0,.slice aj 0 0,.int av 0,.int av (if(16777216:Int)<if(0:Int)>c then(0:Int) else c then(16777216:Int) else if(0:Int)>c then(0:Int) else c),.int av 0]))])) ?_ (by kernel_rfl)
  subst hG;have e:(if 16777216<if 0>c then 0 else c then 16777216 else if 0>c then 0 else c)=min (max c 0) 16777216:=by
   by_cases h1:0>c
   ·rw[if_pos h1];simp;omega
   ·rw[if_neg h1];split<;>omega
  rw[e];refine⟨⟨[0,1,1],rfl,rfl,⟨.inl rfl,⟨rfl,sD _,rfl⟩,⟨rfl,sD _,rfl⟩,trivial⟩,rfl,rfl,rfl,rfl,rfl⟩⟩
 ·cases hx
def MM:Prim Rs:=fun args hh=>match args,hh with
 |[.pointer (aa ⟨0,0,aj⟩),.agg ⟨[.int .i64 i,.int .i64 g]⟩],[aa (.inr (.inr (.inr (.dd m))))]=>aa ⟨PP m,.tuple #[.agg ⟨bk (jN zd m ⟨i,g⟩)⟩,.bool (yA m ⟨i,g⟩)],aj,[aa (.inr (.inr (.inr (.dd (aK m ⟨i,g⟩)))))],[],[(0,0)]⟩
 |_,_=>aj
theorem UE:ck D Tryz.prog 120 (a9 MM):=by
 refine pY (qY (L:=L) (D0:=sT) (fn:=Tryz.f120) (root:=dM Tryz.f120) (by kernel_rfl) (by kernel_rfl) (by kernel_rfl) fun args hh x hx=>?_)
 unfold MM at hx;split at hx
 ·rename_i i g m;cases hx;refine q4 fun _ hv=>?_
  generalize hG:xH (R:=Rs) (R0:=Empty) _ _ _=G;refine cW (T:=TA) xG mixed 200 ?_;refine bN (q:=let Z3:=bs av;let Z1:=(ae (cK m));let Z2:=(bk (fy (jr (cX 0 0) ao 0) (aN 0 0) (aN 0 0) (mr 0 (aep 0)) 0));(q7 Z1 (dP m) (eV m) i g=aq->Vc (dj=dj/\ae (cK m)=ae (cK m)/\ae (cK m)<1000000/\mQ Z1 (cM (cK m) (dP m) (eV m)))/\Vc (aI i<ae (cK m))/\aY (G (cv (aO [.agg (aO (gM (cK m) (aI i))),.bool aq])) [aa (.inl (194,[.slice (aa ⟨1,0,aa 13000⟩) Z1 0,.slice (aa ⟨2,0,aa 1000⟩) (ae (dV m)) 0,Z3 (fP m),Z3 (ic m),Z3 (cr av (gY m+(1:Int)))])),aa (.inr (.inl (197,Row.mk dj Z1 (cM (cK m) (dP m) (eV m))))),aa (.inr (.inl (3,Row.mk [Z3 0] (ae (dV m)) [aT.mk (dV m) [] []]))),aa (.inl (108,[Z3 i,Z3 g])),aa (.inl (128,(gM (cK m) (aI i))))]))/\(q7 Z1 (dP m) (eV m) i g=ao->Vc (dj=dj/\ae (cK m)=ae (cK m)/\ae (cK m)<1000000/\mQ Z1 (cM (cK m) (dP m) (eV m)))/\aY (G (cv (aO [.agg (aO Z2),.bool ao])) [aa (.inl (194,[.slice (aa ⟨1,0,aa 13000⟩) Z1 0,.slice (aa ⟨2,0,aa 1000⟩) (ae (dV m)) 0,Z3 (fP m),Z3 (ic m),Z3 (gY m)])),aa (.inr (.inl (197,Row.mk dj Z1 (cM (cK m) (dP m) (eV m))))),aa (.inr (.inl (3,Row.mk [Z3 0] (ae (dV m)) [aT.mk (dV m) [] []]))),aa (.inl (108,[Z3 i,Z3 g])),aa (.inl (128,Z2)),aa (.inl (128,Z2))]))) ?_ (by kernel_rfl)
  intro Z3 Z1 Z2;subst Z2 Z1 Z3;subst hG;simp only[BK,b5];refine⟨fun h=>⟨⟨uG hv⟩,⟨by have:=Ev h;omega⟩,⟨?_⟩⟩,fun h=>⟨⟨uG hv⟩,⟨?_⟩⟩⟩
  ·have e1:jN zd m ⟨i,g⟩=m.vs.getD i.toNat zd:=by unfold jN;rw[if_pos h]
   have e2:aK m ⟨i,g⟩=HB m:=by unfold aK;rw[if_pos h]
   rw[GN m i.toNat,e1,e2,h];exact⟨[0,1,2],rfl,rfl,⟨.inl rfl,⟨_,rfl,.inl rfl⟩,⟨_,rfl,.inl rfl⟩,trivial⟩,rfl,rfl,rfl,rfl,rfl⟩
  ·have e1:jN zd m ⟨i,g⟩=zd:=by unfold jN;rw[if_neg (by rw[h];decide)]
   have e2:aK m ⟨i,g⟩=m:=by unfold aK;rw[if_neg (by rw[h];decide)]
   rw[e1,e2,h];exact⟨[0,1,2],rfl,rfl,⟨.inl rfl,⟨_,rfl,.inl rfl⟩,⟨_,rfl,.inl rfl⟩,trivial⟩,rfl,rfl,rfl,rfl,rfl⟩
 ·cases hx
def M4:Prim Rs:=fun args hh=>match args,hh with
 |[.pointer (aa ⟨0,0,aj⟩),.agg ⟨[.int .i64 i,.int .i64 g]⟩,.agg ⟨xN⟩],[aa (.inr (.inr (.inr (.dd m))))]=>aa ⟨xN=bk (fS xN)/\PP m,.bool (yA m ⟨i,g⟩),aj,[aa (.inr (.inr (.inr (.dd (te m ⟨i,g⟩ (fS xN))))))],[],[(0,0)]⟩
 |_,_=>aj
theorem UF:ck D Tryz.prog 175 (a9 M4):=by
 refine pY (qY (L:=L) (D0:=sT) (fn:=Tryz.f175) (root:=dM Tryz.f175) (by kernel_rfl) (by kernel_rfl) (by kernel_rfl) fun args hh x hx=>?_)
 unfold M4 at hx;split at hx
 ·rename_i i g xN m;cases hx;refine q4 fun _ hv=>?_
  obtain⟨hq,hv⟩:=hv;generalize fS xN=x at *;subst hq
  generalize hG:xH (R:=Rs) (R0:=Empty) _ _ _=G;refine cW (T:=TA) xG mixed 200 ?_;refine bN (q:=let Z2:=bs av;let Z1:=(ae (cK m));(q7 Z1 (dP m) (eV m) i g=aq->Vc (dj=dj/\ae (cK m)=ae (cK m)/\ae (cK m)<1000000/\mQ Z1 (cM (cK m) (dP m) (eV m)))/\Vc (aI i<ae (cK m))/\aY (G (aD aq) [aa (.inl (194,[.slice (aa ⟨1,0,aa 13000⟩) Z1 0,.slice (aa ⟨2,0,aa 1000⟩) (ae (dV m)) 0,Z2 (fP m),Z2 (ic m),Z2 (cr av (gY m+(1:Int)))])),aa (.inr (.inl (197,Row.mk dj Z1 (cS (cK m) (aI i) x (dP m) (eV m))))),aa (.inr (.inl (3,Row.mk [Z2 0] (ae (dV m)) [aT.mk (dV m) [] []]))),aa (.inl (108,[Z2 i,Z2 g])),aa (.inl (128,(bk x)))]))/\(q7 Z1 (dP m) (eV m) i g=ao->Vc (dj=dj/\ae (cK m)=ae (cK m)/\ae (cK m)<1000000/\mQ Z1 (cM (cK m) (dP m) (eV m)))/\aY (G (aD ao) [aa (.inl (194,[.slice (aa ⟨1,0,aa 13000⟩) Z1 0,.slice (aa ⟨2,0,aa 1000⟩) (ae (dV m)) 0,Z2 (fP m),Z2 (ic m),Z2 (gY m)])),aa (.inr (.inl (197,Row.mk dj Z1 (cM (cK m) (dP m) (eV m))))),aa (.inr (.inl (3,Row.mk [Z2 0] (ae (dV m)) [aT.mk (dV m) [] []]))),aa (.inl (108,[Z2 i,Z2 g])),aa (.inl (128,(bk x)))]))) ?_ (by kernel_rfl)
  intro Z2 Z1;subst Z1 Z2;subst hG;simp only[BK,b5];refine⟨fun h=>⟨⟨uG hv⟩,⟨by have:=Ev h;omega⟩,⟨?_⟩⟩,fun h=>⟨⟨uG hv⟩,⟨?_⟩⟩⟩
  ·have e2:∀ y,te m ⟨i,g⟩ y={ HB m with vs:=m.vs.set i.toNat y }:=fun y=>by unfold te;rw[if_pos h]
   rw[e2,h];exact⟨[0,1,2],rfl,rfl,⟨.inl (by rw[e_];rfl),⟨_,rfl,.inl (BF m i.toNat x _ _).symm⟩,⟨_,rfl,.inl rfl⟩,trivial⟩,rfl,rfl,rfl,rfl,rfl⟩
  ·have e2:∀ y,te m ⟨i,g⟩ y=m:=fun y=>by unfold te;rw[if_neg (by rw[h];decide)]
   rw[e2,h];exact⟨[0,1,2],rfl,rfl,⟨.inl rfl,⟨_,rfl,.inl rfl⟩,⟨_,rfl,.inl rfl⟩,trivial⟩,rfl,rfl,rfl,rfl,rfl⟩
 ·cases hx
def BY:Prim Rs:=fun args hh=>match args,hh with
 |[.pointer (aa ⟨0,0,aj⟩)],[aa (.inr (.inr (.inr (.dd m))))]=>aa ⟨True,.int .i64 m.cY,aj,hh,[],[]⟩
 |_,_=>aj
theorem Kz:ck D Tryz.prog 118 (a9 BY):=by
 refine pY (qY (L:=L) (D0:=sT) (fn:=Tryz.f118) (root:=dM Tryz.f118) (by kernel_rfl) (by kernel_rfl) (by kernel_rfl) fun args hh x hx=>?_)
 unfold BY at hx;split at hx
 ·rename_i m;cases hx;refine q4 fun _ hv=>?_
  generalize hG:xH (R:=Rs) (R0:=Empty) _ _ _=G;refine cW (T:=TA) xG mixed 200 ?_;refine bN (q:=let Z1:=bs av;aY (G (Z1 (gY m)) [aa (.inl (194,[.slice (aa ⟨1,0,aa 13000⟩) (ae (cK m)) 0,.slice (aa ⟨2,0,aa 1000⟩) (ae (dV m)) 0,Z1 (fP m),Z1 (ic m),Z1 (gY m)])),aa (.inr (.inl (197,Row.mk dj (ae (cK m)) (cM (cK m) (dP m) (eV m))))),aa (.inr (.inl (3,Row.mk [Z1 0] (ae (dV m)) [aT.mk (dV m) [] []])))])) ?_ (by kernel_rfl)
  intro Z1;subst Z1;subst hG;exact⟨⟨[0,1,2],rfl,rfl,⟨.inl rfl,⟨_,rfl,.inl rfl⟩,⟨_,rfl,.inl rfl⟩,trivial⟩,rfl,rfl,rfl,rfl,rfl⟩⟩
 ·cases hx
def Cb:Prim Rs:=fun args hh=>match args,hh with
 |[.pointer (aa ⟨0,0,aj⟩),.agg ⟨[.int .i64 i,.int .i64 g]⟩],[aa (.inr (.inr (.inr (.dd m))))]=>aa ⟨PP m,.tuple #[.agg ⟨bk (jN zd m ⟨i,g⟩)⟩,.bool (yA m ⟨i,g⟩)],aj,[aa (.inr (.inr (.inr (.dd (v_ zd m ⟨i,g⟩)))))],[],[(0,0)]⟩
 |_,_=>aj
theorem tc:ck D Tryz.prog 116 (a9 Cb):=by
 refine pY (qY (L:=L) (D0:=sT) (fn:=Tryz.f116) (root:=dM Tryz.f116) (by kernel_rfl) (by kernel_rfl) (by kernel_rfl) fun args hh x hx=>?_)
 unfold Cb at hx;split at hx
 ·rename_i i g m;cases hx;refine q4 fun _ hv=>?_
  generalize hG:xH (R:=Rs) (R0:=Empty) _ _ _=G;refine cW (T:=TA) xG mixed 200 ?_;refine bN (q:=let Z7:=bs av;let Z1:=(ae (cK m));let Z2:=(aI i<ae (cK m));let Z3:=(ay (dP m) (aI i) (0:Int)<(4294967295:Int));let Z4:=(cv (aO [.agg (aO (gM (cK m) (aI i))),.bool aq]));let Z5:=(bk (fy (jr (cX 0 0) ao 0) (aN 0 0) (aN 0 0) (mr 0 (aep 0)) 0));let Z6:=(ae (dV m));(q7 Z1 (dP m) (eV m) i g=aq->Vc (dj=dj/\ae (cK m)=ae (cK m)/\ae (cK m)<1000000/\mQ Z1 (cM (cK m) (dP m) (eV m)))/\Vc Z2/\Vc Z2/\Vc Z2/\Vc (fits (fP m-(1:Int)))/\Vc Z2/\(decide Z3=aq->Vc (0+ae (dV m)≤ae (dV m)/\1≤1/\(ae (dV m)+1)*8≤140737488355328/\ae (dV m)+1≤140737488355328)/\aY (G Z4 [aa (.inl (194,[.slice (aa ⟨1,0,aa 13000⟩) Z1 0,.slice (aa ⟨8,0,aa 1000⟩) (ae (dV m)+1) 0,Z7 (fP m-(1:Int)),Z7 (ic m),Z7 (cr av (gY m+(1:Int)))])),aa (.inr (.inl (197,Row.mk dj Z1 (cS (cK m) (aI i) zd (dP m) (qc (eV m) (aI i) ao))))),aj,aa (.inl (108,[Z7 i,Z7 g])),aa (.inl (128,(gM (cK m) (aI i)))),aa (.inl (128,Z5)),aa (.inl (128,(gM (cK m) (aI i)))),aa (.inr (.inl (3,Row.mk [Z7 0] 1 [aT.mk [i] [] []]))),aa (.inr (.inl (3,Row.mk [Z7 0] (ae (dV m)+1) [aT.mk (cut (dV m) 0 Z6++cut [i] 0 1) [] []])))]))/\(decide Z3=ao->aY (G Z4 [aa (.inl (194,[.slice (aa ⟨1,0,aa 13000⟩) Z1 0,.slice (aa ⟨2,0,aa 1000⟩) Z6 0,Z7 (fP m-(1:Int)),Z7 (ic m),Z7 (cr av (gY m+(1:Int)))])),aa (.inr (.inl (197,Row.mk dj Z1 (cS (cK m) (aI i) zd (dP m) (qc (eV m) (aI i) ao))))),aa (.inr (.inl (3,Row.mk [Z7 0] Z6 [aT.mk (dV m) [] []]))),aa (.inl (108,[Z7 i,Z7 g])),aa (.inl (128,(gM (cK m) (aI i)))),aa (.inl (128,Z5)),aa (.inl (128,(gM (cK m) (aI i))))])))/\(q7 Z1 (dP m) (eV m) i g=ao->Vc (dj=dj/\ae (cK m)=ae (cK m)/\ae (cK m)<1000000/\mQ Z1 (cM (cK m) (dP m) (eV m)))/\aY (G (cv (aO [.agg (aO Z5),.bool ao])) [aa (.inl (194,[.slice (aa ⟨1,0,aa 13000⟩) Z1 0,.slice (aa ⟨2,0,aa 1000⟩) Z6 0,Z7 (fP m),Z7 (ic m),Z7 (gY m)])),aa (.inr (.inl (197,Row.mk dj Z1 (cM (cK m) (dP m) (eV m))))),aa (.inr (.inl (3,Row.mk [Z7 0] Z6 [aT.mk (dV m) [] []]))),aa (.inl (108,[Z7 i,Z7 g])),aa (.inl (128,Z5)),aa (.inl (128,Z5))]))) ?_ (by kernel_rfl)
  intro Z7 Z1 Z2 Z3 Z4 Z5 Z6;subst Z6 Z5 Z4 Z3 Z2 Z1 Z7;subst hG;simp only[BK,b5];have hgb:=C9 (i:=i.toNat) hv.gen;have hhl:=hv.Sn;have hfr:=hv.pG;refine⟨fun h=>?_,fun h=>⟨⟨uG hv⟩,⟨?_⟩⟩⟩
  ·have cl:i.toNat<m.vs.length:=by have:=Ev h;omega
   have g3:m.dD.getD i.toNat 0<4294967295:=by omega
   have e1:jN zd m ⟨i,g⟩=m.vs.getD i.toNat zd:=by unfold jN;rw[if_pos h]
   have e2:v_ zd m ⟨i,g⟩={ HB m with vs:=m.vs.set i.toNat zd,live:=m.live.set i.toNat ao,held:=m.held-1,free:=m.free++[i] }:=by unfold v_;rw[if_pos h,if_pos g3]
   have ec:cut m.free 0 m.free.length++cut [i] 0 1=m.free++[i]:=by rw[fD rfl];rfl
   rw[ec];refine⟨⟨uG hv⟩,⟨cl⟩,⟨cl⟩,⟨cl⟩,⟨⟨by omega,by omega⟩⟩,⟨cl⟩,fun _=>⟨⟨by omega,by omega,by omega,by omega⟩,⟨?_⟩⟩,fun h2=>absurd g3 (of_decide_eq_false h2)⟩
   rw[GN m i.toNat,e1,e2,h];exact⟨[0,1,8],rfl,rfl,⟨.inl (by rw[e_,bJ];rfl),⟨_,rfl,.inl (BF m i.toNat zd _ _).symm⟩,⟨_,rfl,.inl (by rw[bJ];rfl)⟩,trivial⟩,rfl,rfl,rfl,rfl,rfl⟩
  ·have e1:jN zd m ⟨i,g⟩=zd:=by unfold jN;rw[if_neg (by rw[h];decide)]
   have e2:v_ zd m ⟨i,g⟩=m:=by unfold v_;rw[if_neg (by rw[h];decide)]
   rw[e1,e2,h];exact⟨[0,1,2],rfl,rfl,⟨.inl rfl,⟨_,rfl,.inl rfl⟩,⟨_,rfl,.inl rfl⟩,trivial⟩,rfl,rfl,rfl,rfl,rfl⟩
 ·cases hx
theorem QO (m:Pl) (k:Nat) (x:Nd) (g:List Int) (b:List Bool):(⟨dj,m.vs.length+1,cG m.vs k x g b⟩:Row)=⟨dj,((m.vs++[zd]).set k x).length,cM ((m.vs++[zd]).set k x) g b⟩:=by
 unfold cG cM;simp only[Fl,dT,e_,bJ,gC,List.map_nil,cI,ky]
 rfl
theorem Eg {m:Pl} (h0:m.held=m.cap) (x:Nd):tF zd m x=m/\lg zd m=⟨0,0⟩:=by
 unfold tF lg;rw[if_pos h0,if_pos h0];exact⟨rfl,rfl⟩
theorem EL {m:Pl} (h0:¬ m.held=m.cap) (hf:m.free.length=0) (x:Nd):tF zd m x=⟨(m.vs++[zd]).set m.vs.length x,(m.dD++[0]).set m.vs.length ((m.dD++[0]).getD m.vs.length 0+1),(m.live++[ao]).set m.vs.length aq,m.free,m.held+1,m.cap,m.cY⟩/\lg zd m=⟨m.vs.length,(m.dD++[0]).getD m.vs.length 0+1⟩:=by
 have en:vr m=m.vs.length:=by rw[vr,if_pos hf]
 unfold tF lg Gv.Au KN;rw[if_neg h0,if_neg h0];simp only[if_pos hf,en,iF]
 constructor<;>first|rfl|trivial
theorem Ee {m:Pl} (h0:¬ m.held=m.cap) (hf:¬ m.free.length=0) (x:Nd):tF zd m x=⟨m.vs.set (m.free.getD (m.free.length-1) 0).toNat x,m.dD.set (m.free.getD (m.free.length-1) 0).toNat (m.dD.getD (m.free.getD (m.free.length-1) 0).toNat 0+1),m.live.set (m.free.getD (m.free.length-1) 0).toNat aq,m.free.take (m.free.length-1),m.held+1,m.cap,m.cY⟩/\lg zd m=⟨m.free.getD (m.free.length-1) 0,m.dD.getD (m.free.getD (m.free.length-1) 0).toNat 0+1⟩:=by
 have en:vr m=m.free.getD (m.free.length-1) 0:=by rw[vr,if_neg hf]
 unfold tF lg Gv.Au KN;rw[if_neg h0,if_neg h0];simp only[if_neg hf,en]
 constructor<;>first|rfl|trivial
structure Bds (m:Pl):Prop where
 dD:m.dD.length=m.vs.length
 cells:m.vs.length<1000000
 pG:m.free.length<1000000
 held:-1000000≤m.held/\m.held<1000000
 gen:∀ i,0≤m.dD.getD i 0/\m.dD.getD i 0≤100000
 last:¬ m.free.length=0->0≤m.free.getD (m.free.length-1) 0/\m.free.getD (m.free.length-1) 0<m.vs.length
theorem bds {m:Pl} (hv:PP m):Bds m:=by
 have v1:=hv.dD;have v3:=hv.cells;have v4:=hv.pG;have v5:=hv.Sn;refine⟨v1,by omega,by omega,by omega,fun i=>?_,fun h=>?_⟩
 ·have:=C9 (i:=i) hv.gen;omega
 ·have:=hv.inn _ (yK (d:=0) (l:=m.free) (i:=m.free.length-1) (by omega))
  exact⟨this.1,this.2.1⟩
theorem DZ (l:List Int) (k:Nat) (x:Int) (h:k<l.length):(l.set k x).getD k 0=x:=by
 rw[oq,if_pos ⟨rfl,h⟩]
def H4:Prim Rs:=fun args hh=>match args,hh with
 |[.pointer (aa ⟨0,0,aj⟩),.agg ⟨xN⟩],[aa (.inr (.inr (.inr (.dd m))))]=>aa ⟨xN=bk (fS xN)/\PP m,.tuple #[.agg ⟨[.int .i64 (lg zd m).i,.int .i64 (lg zd m).g]⟩,.bool (!decide (m.held=m.cap))],aj,[aa (.inr (.inr (.inr (.dd (tF zd m (fS xN))))))],[],[(0,0)]⟩
 |_,_=>aj
theorem tn:ck D Tryz.prog 101 (a9 H4):=by
 refine pY (qY (L:=L) (D0:=sT) (fn:=Tryz.f101) (root:=dM Tryz.f101) (by kernel_rfl) (by kernel_rfl) (by kernel_rfl) fun args hh x hx=>?_)
 unfold H4 at hx;split at hx
 ·rename_i xN m;cases hx;refine q4 fun _ hv=>?_
  obtain⟨hq,hv⟩:=hv;generalize fS xN=x at *;subst hq
  generalize hG:xH (R:=Rs) (R0:=Empty) _ _ _=G;refine cW (T:=TA) xG mixed 200 ?_;refine bN (q:=let cz:=bs av;let Z1:=(cK m);let Z2:=(ae Z1);let Z3:=(dV m);let Z4:=(cM Z1 (dP m) (eV m));let Z5:=(ay (dP m++[(0:Int)]) (0+(Z2:Int).toNat) (0:Int)+(1:Int));let Z6:=(qc (dP m++[(0:Int)]) (0+(Z2:Int).toNat) Z5);let Z7:=(ae Z3-1);let Z8:=(ay Z3 Z7 (0:Int));let Z9:=(ay (dP m) (0+aI Z8) (0:Int)+(1:Int));let cP:=(ay (qc (dP m) (0+aI Z8) Z9) (0+aI Z8) (0:Int));((fP m==ic m)=aq->aY (G (cv (aO [.agg (aO [cz 0,cz 0]),.bool ao])) [aa (.inl (194,[.slice (aa ⟨1,0,aa 13000⟩) Z2 0,.slice (aa ⟨2,0,aa 1000⟩) (ae Z3) 0,cz (fP m),cz (ic m),cz (gY m)])),aa (.inr (.inl (197,Row.mk dj Z2 Z4))),aa (.inr (.inl (3,Row.mk [cz 0] (ae Z3) [aT.mk Z3 [] []]))),aa (.inl (128,(bk x))),aa (.inl (108,[cz 0,cz 0]))]))/\((fP m==ic m)=ao->(decide (ae Z3=0)=aq->Vc (ae Z3=0/\ae Z3=ae Z3/\0=0/\0=0/\dj=dj/\ae Z1=ae Z1/\ae Z1<1000000/\mQ Z2 Z4)/\Vc ((0:Int)≤(↑Z2:Int)/\(↑Z2:Int)<(↑(ae Z1+1):Int)/\0+(ae Z1+1)≤ae Z1+1)/\Vc (0+(Z2:Int).toNat<ae Z1+1)/\Vc (0+(Z2:Int).toNat<ae Z1+1)/\Vc (0+(Z2:Int).toNat<ae Z1+1)/\Vc (fits Z5)/\Vc (0+(Z2:Int).toNat<ae Z1+1)/\Vc (fits (fP m+(1:Int)))/\Vc (0+(Z2:Int).toNat<ae Z1+1)/\aY (G (cv (aO [.agg (aO [cz (↑Z2:Int),cz (ay Z6 (0+(Z2:Int).toNat) (0:Int))]),.bool aq])) [aa (.inl (194,[.slice (aa ⟨5,0,aa 13000⟩) (ae Z1+1) 0,.slice (aa ⟨2,0,aa 1000⟩) (ae Z3) 0,cz (fP m+(1:Int)),cz (ic m),cz (gY m)])),aj,aa (.inr (.inl (3,Row.mk [cz 0] (ae Z3) [aT.mk Z3 [] []]))),aa (.inl (128,(bk x))),aa (.inl (108,[cz (↑Z2:Int),cz (ay Z6 (0+(Z2:Int).toNat) (0:Int))])),aa (.inr (.inl (197,Row.mk dj (ae Z1+1) (cG Z1 (0+(Z2:Int).toNat) x Z6 (qc (eV m++[ao]) (0+(Z2:Int).toNat) aq)))))]))/\(decide (ae Z3=0)=ao->Vc (ae Z3≠0/\ae Z3=ae Z3/\ae Z3=ae Z3/\0=0/\0=0/\ae Z3<1000000/\dj=dj/\ae Z1=ae Z1/\ae Z1<1000000/\mQ Z2 Z4)/\Vc ((0:Int)≤ay Z3 Z7 (0:Int)/\ay Z3 Z7 (0:Int)<(↑Z2:Int)/\0+ae Z1≤ae Z1)/\Vc (0+aI Z8<ae Z1)/\Vc (0+aI Z8<ae Z1)/\Vc (0+aI Z8<ae Z1)/\Vc (fits Z9)/\Vc (0+aI Z8<ae Z1)/\Vc (fits (fP m+(1:Int)))/\Vc (0+aI Z8<ae Z1)/\aY (G (cv (aO [.agg (aO [cz Z8,cz cP]),.bool aq])) [aa (.inl (194,[.slice (aa ⟨1,0,aa 13000⟩) Z2 0,.slice (aa ⟨2,0,aa 1000⟩) Z7 0,cz (fP m+(1:Int)),cz (ic m),cz (gY m)])),aa (.inr (.inl (197,Row.mk dj Z2 (cS Z1 (0+aI Z8) x (qc (dP m) (0+aI Z8) Z9) (qc (eV m) (0+aI Z8) aq))))),aa (.inr (.inl (3,Row.mk [cz 0] Z7 [aT.mk (gF Z7 Z3) [] []]))),aa (.inl (128,(bk x))),aa (.inl (108,[cz Z8,cz cP]))])))) ?_ (by kernel_rfl)
  intro cz Z1 Z2 Z3 Z4 Z5 Z6 Z7 Z8 Z9 cP;subst cP Z9 Z8 Z7 Z6 Z5 Z4 Z3 Z2 Z1 cz;subst hG;simp only[b5,iF];have hb:=bds hv;refine⟨fun h=>?_,fun h=>⟨fun hf=>?_,fun hf=>?_⟩⟩
  ·have h0:m.held=m.cap:=eq_of_beq h;rw[(Eg h0 x).1,(Eg h0 x).2,decide_eq_true h0];exact⟨⟨[0,1,2],rfl,rfl,⟨.inl rfl,⟨_,rfl,.inl rfl⟩,⟨_,rfl,.inl rfl⟩,trivial⟩,rfl,rfl,rfl,rfl,rfl⟩⟩
  ·have h0:¬ m.held=m.cap:=fun c=>by rw[c,beq_self_eq_true] at h;cases h
   have h1:m.free.length=0:=of_decide_eq_true hf;have hk:m.vs.length<(m.dD++[0]).length:=by rw[bJ,hb.dD];exact fC _
   have e1:(m.dD++[0]).getD m.vs.length 0=0:=by rw[uf,if_pos hb.dD.symm]
   rw[(EL h0 h1 x).1,(EL h0 h1 x).2,decide_eq_false h0,DZ _ _ _ hk];refine⟨⟨h1,trivial,trivial,trivial,trivial,trivial,hb.cells,Bn hv⟩,⟨by omega,by omega,bc _⟩,⟨fC _⟩,⟨fC _⟩,⟨fC _⟩,⟨by rw[e1];exact⟨by omega,by omega⟩⟩,⟨fC _⟩,⟨by have:=hb.held;exact⟨by omega,by omega⟩⟩,⟨fC _⟩,⟨[0,5,2],rfl,rfl,?_,rfl,rfl,rfl,rfl,rfl⟩⟩
   exact⟨.inl (by rw[e_,bJ];rfl),⟨_,rfl,.inl (QO m m.vs.length x _ _).symm⟩,⟨_,rfl,.inl rfl⟩,trivial⟩
  ·have h0:¬ m.held=m.cap:=fun c=>by rw[c,beq_self_eq_true] at h;cases h
   have h1:¬ m.free.length=0:=of_decide_eq_false hf;have hl:=hb.last h1;have hk:(m.free.getD (m.free.length-1) 0).toNat<m.vs.length:=by omega
   rw[(Ee h0 h1 x).1,(Ee h0 h1 x).2,decide_eq_false h0,DZ _ _ _ (by rw[hb.dD];exact hk)]
   refine⟨⟨h1,trivial,trivial,trivial,trivial,hb.pG,trivial,trivial,hb.cells,Bn hv⟩,⟨hl.1,hl.2,bc _⟩,⟨hk⟩,⟨hk⟩,⟨hk⟩,⟨by have:=hb.gen (m.free.getD (m.free.length-1) 0).toNat;exact⟨by omega,by omega⟩⟩,⟨hk⟩,⟨by have:=hb.held;exact⟨by omega,by omega⟩⟩,⟨hk⟩,⟨[0,1,2],rfl,rfl,?_,rfl,rfl,rfl,rfl,rfl⟩⟩
   exact⟨.inl (by rw[e_,eu,qX (A' _ _)];rfl),⟨_,rfl,.inl (BF m _ x _ _).symm⟩,⟨_,rfl,.inl (by rw[eu,qX (A' _ _)])⟩,trivial⟩
 ·cases hx
abbrev dC (b:Nat) (i g:Int):Option (SB Rs):=aa (.inl (132,[.pointer (aa ⟨b,0,aj⟩),.int .i64 i,.int .i64 g]))
abbrev oP (m:Pl):Option (SB Rs):=aa (.inr (.inr (.inr (.dd m))))
def U3 {R:Type}:eK R:=[(241,bM zN 2 (a9 Sh.Zl))]
theorem Q7 {R:Type} {D:fK R}:cQ D Tryz.prog (U3:eK R):=⟨aX _ _ Sh.agp,trivial⟩
def PL {R:Type}:eK R:=[(1000000000,lJ),(242,bM zN 2 (a9 Sh.T'))]
theorem NB {R:Type} {D:fK R}:cQ D Tryz.prog (PL:eK R):=⟨iu,aX _ _ Sh.adn,trivial⟩
def Ag {R:Type}:Prim R:=fun args hh=>match args,hh with
 |[.agg ⟨kE⟩],[]=>aa ⟨kE=du (fR kE)/\(True),.agg ⟨b6 (nN aM (fR kE))⟩,aj,hh,[],[]⟩
 |_,_=>aj
theorem yz {R:Type} {D:fK R}:ck D Tryz.prog 102 (a9 Ag):=by
 refine fw Tryz.f102 fun args hh x hx=>?_
 unfold Ag at hx;split at hx
 ·rename_i kE;cases hx;refine q4 fun _ hv=>?_
  obtain⟨jQ,hv⟩:=hv;generalize fR kE=ke at *;subst jQ
  generalize hG:ct (R:=R) _ _=G;refine cW (T:=U3) Q7 mixed 200 ?_;refine bN (q:=Vc True/\Vc True/\aY (G (bE (aO [.int av 1,.int av (pq (IQ aM ke))])) [aa (.inl (75,(du ke))),aa (.inl (126,[.int av 1,.int av (pq (IQ aM ke))]))])) ?_ (by kernel_rfl)
  subst hG
  repeat' (first|apply cZ|apply Vc.mk|apply fits.mk|intro h|apply aY.mk)
  all_goals (try simp only[sB] at *)
  all_goals first|contradiction|omega|exact ju ‹_›|exact jt ‹_›|exact jv ‹_›|exact⟨rfl,by omega⟩|exact rfl|(simp[*,-ax];done)|skip
  exact⟨[],rfl,rfl,trivial,rfl,rfl,rfl,rfl⟩
 ·cases hx
def dZ {R:Type}:Prim R:=fun args hh=>match args,hh with
 |[.agg ⟨pP⟩,.agg ⟨qP⟩],[]=>aa ⟨pP=b6 (o6 pP)/\qP=b6 (o6 qP)/\(True),.agg ⟨b6 (eG aM (o6 pP) (o6 qP))⟩,aj,hh,[],[]⟩
 |_,_=>aj
theorem uc {R:Type} {D:fK R}:ck D Tryz.prog 174 (a9 dZ):=by
 refine fw Tryz.f174 fun args hh x hx=>?_
 unfold dZ at hx;split at hx
 ·rename_i pP qP;cases hx;refine q4 fun _ hv=>?_
  obtain⟨jQ,sr,hv⟩:=hv;generalize o6 pP=pp at *;subst jQ;generalize o6 qP=qp at *;subst sr
  generalize hG:ct (R:=R) _ _=G;refine cW (T:=PL) NB mixed 200 ?_;refine bN (q:=let Z2:=bs av;let Z1:=(pq (Gv.iL.plus aM (bG pp) (bG qp)));((bP pp==(0:Int))=aq->aY (G (bE (aO [Z2 (bP qp),Z2 (pq (bG qp))])) [aa (.inl (126,[Z2 (bP pp),Z2 (pq (bG pp))])),aa (.inl (126,[Z2 (bP qp),Z2 (pq (bG qp))])),aa (.inl (126,[Z2 (bP qp),Z2 (pq (bG qp))]))]))/\((bP pp==(0:Int))=ao->((bP qp==(0:Int))=aq->aY (G (bE (aO [Z2 (bP pp),Z2 (pq (bG pp))])) [aa (.inl (126,[Z2 (bP pp),Z2 (pq (bG pp))])),aa (.inl (126,[Z2 (bP qp),Z2 (pq (bG qp))])),aa (.inl (126,[Z2 (bP pp),Z2 (pq (bG pp))]))]))/\((bP qp==(0:Int))=ao->Vc True/\Vc True/\Vc True/\aY (G (bE (aO [Z2 (cr av (bP pp+bP qp)),Z2 Z1])) [aa (.inl (126,[Z2 (bP pp),Z2 (pq (bG pp))])),aa (.inl (126,[Z2 (bP qp),Z2 (pq (bG qp))])),aa (.inl (126,[Z2 (cr av (bP pp+bP qp)),Z2 Z1]))])))) ?_ (by kernel_rfl)
  intro Z2 Z1;subst Z1 Z2;have done:∀ (p:HA Qc) (hp:Hp R),p=eG aM pp qp->G (.agg ⟨b6 p⟩) hp:=by
   intro p hp e;subst e;subst hG;exact⟨⟨[],rfl,rfl,trivial,rfl,rfl,rfl,rfl⟩⟩
  clear hG
  repeat' (first|apply cZ|apply Vc.mk|apply fits.mk|intro h|apply aY.mk)
  all_goals (try simp only[sB] at *)
  all_goals first|contradiction|omega|exact ju ‹_›|exact jt ‹_›|exact jv ‹_›|exact⟨rfl,by omega⟩|exact rfl|(simp[*,-ax];done)|skip
  ·have h:pp.n=0:=by assumption
   exact done qp _ (by rw[eG,if_pos h])
  ·have h:pp.n≠0:=by assumption
   have h2:qp.n=0:=by assumption
   exact done pp _ (by rw[eG,if_neg h,if_pos h2])
  ·have h:pp.n≠0:=by assumption
   have h2:qp.n≠0:=by assumption
   exact done ⟨mW (pp.n+qp.n),aM.plus pp.sum qp.sum⟩ _ (by rw[eG,if_neg h,if_neg h2])
 ·cases hx
def O0:eK Rs:=[(120,bM zN 2 (a9 MM))]
theorem MO:cQ D Tryz.prog O0:=⟨aX _ _ UE,trivial⟩
def j7:Prim Rs:=fun args hh=>match args,hh with
 |[.pointer (aa ⟨0,0,aj⟩),.agg ⟨[.int .i64 ri,.int .i64 rg]⟩],[aa (.inl (132,[.pointer (aa ⟨1,0,aj⟩),.int .i64 ti,.int .i64 tg])),aa (.inr (.inr (.inr (.dd m))))]=>aa ⟨PP m,.agg ⟨bk (bt aM m ⟨ri,rg⟩)⟩,aj,[aa (.inl (132,[.pointer (aa ⟨1,0,aj⟩),.int .i64 ti,.int .i64 tg])),aa (.inr (.inr (.inr (.dd (aK m ⟨ri,rg⟩)))))],[],[(0,0)]⟩
 |_,_=>aj
theorem look_ok:ck D Tryz.prog 79 (a9 j7):=by
 refine fw Tryz.f79 fun args hh x hx=>?_
 unfold j7 at hx;split at hx
 ·rename_i ri rg ti tg m;cases hx;refine q4 fun _ hv=>?_
  generalize hG:ct (R:=Rs) _ _=G;refine cW (T:=O0) MO mixed 200 ?_;refine bN (q:=Vc (PP m)/\aY (G (bE (aO (bk (jN zd m (aN ri rg))))) [dC 1 ti tg,oP (aK m (aN ri rg)),aa (.inl (108,[.int av ri,.int av rg])),aa (.inl (128,(bk (jN zd m (aN ri rg))))),aa (.inl (128,(bk (jN zd m (aN ri rg)))))])) ?_ (by kernel_rfl)
  subst hG;exact⟨⟨hv⟩,⟨⟨[0,1],rfl,rfl,⟨.inl rfl,rfl,trivial⟩,rfl,rfl,rfl,rfl⟩⟩⟩
 ·cases hx
def U7:eK Rs:=[(1000000000,lJ),(102,bM zN 2 (a9 Ag)),(174,bM zN 2 (a9 dZ)),(175,bM zN 2 (a9 M4))]
theorem Qt:cQ D Tryz.prog U7:=⟨iu,aX _ _ yz,aX _ _ uc,aX _ _ UF,trivial⟩
def Ah:Prim Rs:=fun args hh=>match args,hh with
 |[.pointer (aa ⟨0,0,aj⟩),.agg ⟨[.int .i64 ri,.int .i64 rg]⟩,.agg ⟨xN⟩,.agg ⟨yN⟩,.agg ⟨zN⟩],[aa (.inl (132,[.pointer (aa ⟨1,0,aj⟩),.int .i64 ti,.int .i64 tg])),aa (.inr (.inr (.inr (.dd m))))]=>aa ⟨xN=bk (fS xN)/\yN=bk (fS yN)/\zN=bk (fS zN)/\(PP m),.agg ⟨[.int .i64 ri,.int .i64 rg]⟩,aj,[aa (.inl (132,[.pointer (aa ⟨1,0,aj⟩),.int .i64 ti,.int .i64 tg])),aa (.inr (.inr (.inr (.dd (DV aM m ⟨ri,rg⟩ (fS xN) (fS yN) (fS zN))))))],[],[(0,0)]⟩
 |_,_=>aj
theorem xq:ck D Tryz.prog 158 (a9 Ah):=by
 refine fw Tryz.f158 fun args hh x hx=>?_
 unfold Ah at hx;split at hx
 ·rename_i ri rg xN yN zN ti tg m;cases hx;refine q4 fun _ hv=>?_
  obtain⟨jQ,sr,FW,hv⟩:=hv;generalize fS xN=xn at *;subst jQ;generalize fS yN=yn at *;subst sr;generalize fS zN=zn at *;subst FW
  generalize hG:ct (R:=Rs) _ _=G;refine cW (T:=U7) Qt mixed 200 ?_;refine bN (q:=let Z4:=bs av;let Z1:=(nN aM (b8 xn));let Z2:=(eG aM (bw yn) Z1);let Z3:=(fy (b8 xn) (a_ xn) (bo xn) (eG aM Z2 (bw zn)) (cr av ((1:Int)+if cw zn>cw yn then cw zn else cw yn)));Vc True/\Vc ((du (b8 xn))=du (b8 xn)/\True)/\Vc ([Z4 (bP (bw yn)),Z4 (pq (bG (bw yn)))]=b6 (bw yn)/\[Z4 (bP Z1),Z4 (pq (bG Z1))]=b6 Z1/\True)/\Vc ([Z4 (bP Z2),Z4 (pq (bG Z2))]=b6 Z2/\[Z4 (bP (bw zn)),Z4 (pq (bG (bw zn)))]=b6 (bw zn)/\True)/\Vc ((bk Z3)=bk Z3/\PP m)/\aY (G (bE (aO [Z4 ri,Z4 rg])) [dC 1 ti tg,oP (te m (aN ri rg) Z3),aa (.inl (108,[Z4 ri,Z4 rg])),aa (.inl (128,(bk Z3))),aa (.inl (128,(bk yn))),aa (.inl (128,(bk zn))),aa (.inl (108,[Z4 ri,Z4 rg]))])) ?_ (by kernel_rfl)
  intro Z4 Z1 Z2 Z3;subst Z3 Z2 Z1 Z4;subst hG
  repeat' (first|apply cZ|apply Vc.mk|apply fits.mk|intro h|apply aY.mk)
  all_goals (try simp only[sB] at *)
  all_goals first|contradiction|omega|exact ju ‹_›|exact jt ‹_›|exact jv ‹_›|exact⟨rfl,by omega⟩|exact rfl|(simp[*,-ax];done)|skip
  all_goals first|assumption|exact⟨[0,1],rfl,rfl,⟨.inl rfl,rfl,trivial⟩,rfl,rfl,rfl,rfl⟩
 ·cases hx
def Vg:eK Rs:=[(79,bM zN 2 (a9 j7)),(158,bM zN 2 (a9 Ah))]
theorem Qh:cQ D Tryz.prog Vg:=⟨aX _ _ look_ok,aX _ _ xq,trivial⟩
def If:Prim Rs:=fun args hh=>match args,hh with
 |[.pointer (aa ⟨0,0,aj⟩),.agg ⟨[.int .i64 ri,.int .i64 rg]⟩,.agg ⟨xN⟩],[aa (.inl (132,[.pointer (aa ⟨1,0,aj⟩),.int .i64 ti,.int .i64 tg])),aa (.inr (.inr (.inr (.dd m))))]=>aa ⟨xN=bk (fS xN)/\(PP m),.agg ⟨[.int .i64 ri,.int .i64 rg]⟩,aj,[aa (.inl (132,[.pointer (aa ⟨1,0,aj⟩),.int .i64 ti,.int .i64 tg])),aa (.inr (.inr (.inr (.dd (sE aM m ⟨ri,rg⟩ (fS xN))))))],[],[(0,0)]⟩
 |_,_=>aj
theorem Ai:ck D Tryz.prog 137 (a9 If):=by
 refine fw Tryz.f137 fun args hh x hx=>?_
 unfold If at hx;split at hx
 ·rename_i ri rg xN ti tg m;cases hx;refine q4 fun _ hv=>?_
  obtain⟨jQ,hv⟩:=hv;generalize fS xN=xn at *;subst jQ
  generalize hG:ct (R:=Rs) _ _=G;refine cW (T:=Vg) Qh mixed 200 ?_;refine bN (q:=let Z2:=bs av;let Z1:=(bt aM (aK m (a_ xn)) (bo xn));Vc (PP m)/\Vc (PP (aK m (a_ xn)))/\Vc ((bk xn)=bk xn/\(bk (bt aM m (a_ xn)))=bk (bt aM m (a_ xn))/\(bk Z1)=bk Z1/\PP (aK (aK m (a_ xn)) (bo xn)))/\aY (G (bE (aO [Z2 ri,Z2 rg])) [dC 1 ti tg,oP (DV aM (aK (aK m (a_ xn)) (bo xn)) (aN ri rg) xn (bt aM m (a_ xn)) Z1),aa (.inl (108,[Z2 ri,Z2 rg])),aa (.inl (128,(bk xn))),aa (.inl (108,[Z2 ri,Z2 rg]))])) ?_ (by kernel_rfl)
  intro Z2 Z1;subst Z1 Z2;subst hG
  repeat' (first|apply cZ|apply Vc.mk|apply fits.mk|intro h|apply aY.mk)
  all_goals (try simp only[sB] at *)
  all_goals first|contradiction|omega|exact ju ‹_›|exact jt ‹_›|exact jv ‹_›|exact⟨rfl,by omega⟩|exact rfl|(simp[*,-ax];done)|skip
  all_goals first|assumption|(simp only[ja];assumption)|skip
  exact⟨[0,1],rfl,rfl,⟨.inl rfl,rfl,trivial⟩,rfl,rfl,rfl,rfl⟩
 ·cases hx
def HV:eK Rs:=[(79,bM zN 2 (a9 j7)),(137,bM zN 2 (a9 If))]
theorem EB:cQ D Tryz.prog HV:=⟨aX _ _ look_ok,aX _ _ Ai,trivial⟩
def Ey:Prim Rs:=fun args hh=>match args,hh with
 |[.pointer (aa ⟨0,0,aj⟩),.agg ⟨[.int .i64 ri,.int .i64 rg]⟩,.agg ⟨xN⟩],[aa (.inl (132,[.pointer (aa ⟨1,0,aj⟩),.int .i64 ti,.int .i64 tg])),aa (.inr (.inr (.inr (.dd m))))]=>aa ⟨xN=bk (fS xN)/\(PP m),.agg ⟨[.int .i64 (fS xN).r.i,.int .i64 (fS xN).r.g]⟩,aj,[aa (.inl (132,[.pointer (aa ⟨1,0,aj⟩),.int .i64 ti,.int .i64 tg])),aa (.inr (.inr (.inr (.dd (vt aM m ⟨ri,rg⟩ (fS xN))))))],[],[(0,0)]⟩
 |_,_=>aj
theorem Bx:ck D Tryz.prog 159 (a9 Ey):=by
 refine fw Tryz.f159 fun args hh x hx=>?_
 unfold Ey at hx;split at hx
 ·rename_i ri rg xN ti tg m;cases hx;refine q4 fun _ hv=>?_
  obtain⟨jQ,hv⟩:=hv;generalize fS xN=xn at *;subst jQ
  generalize hG:ct (R:=Rs) _ _=G;refine cW (T:=HV) EB mixed 200 ?_;refine bN (q:=let Z5:=bs av;let Z1:=(bt aM m (bo xn));let Z2:=(fy (b8 xn) (a_ xn) (a_ Z1) (bw xn) (cw xn));let Z3:=(fy (b8 Z1) (aN ri rg) (bo Z1) (bw Z1) (cw Z1));let Z4:=(sE aM (aK m (bo xn)) (aN ri rg) Z2);Vc (PP m)/\Vc ((bk Z2)=bk Z2/\PP (aK m (bo xn)))/\Vc ((bk Z3)=bk Z3/\PP Z4)/\aY (G (bE (aO [Z5 (cB (bo xn)),Z5 (cC (bo xn))])) [dC 1 ti tg,oP (sE aM Z4 (bo xn) Z3),aa (.inl (108,[Z5 ri,Z5 rg])),aa (.inl (128,(bk Z2))),aa (.inl (108,[Z5 (cB (bo xn)),Z5 (cC (bo xn))])),aa (.inl (108,[Z5 (cB (bo xn)),Z5 (cC (bo xn))])),aa (.inl (128,(bk Z3)))])) ?_ (by kernel_rfl)
  intro Z5 Z1 Z2 Z3 Z4;subst Z4 Z3 Z2 Z1 Z5;subst hG
  repeat' (first|apply cZ|apply Vc.mk|apply fits.mk|intro h|apply aY.mk)
  all_goals (try simp only[sB] at *)
  all_goals first|contradiction|omega|exact ju ‹_›|exact jt ‹_›|exact jv ‹_›|exact⟨rfl,by omega⟩|exact rfl|(simp[*,-ax];done)|skip
  all_goals first|assumption|(simp only[ja];assumption)|skip
  exact⟨[0,1],rfl,rfl,⟨.inl rfl,rfl,trivial⟩,rfl,rfl,rfl,rfl⟩
 ·cases hx
def Ef:Prim Rs:=fun args hh=>match args,hh with
 |[.pointer (aa ⟨0,0,aj⟩),.agg ⟨[.int .i64 ri,.int .i64 rg]⟩,.agg ⟨xN⟩],[aa (.inl (132,[.pointer (aa ⟨1,0,aj⟩),.int .i64 ti,.int .i64 tg])),aa (.inr (.inr (.inr (.dd m))))]=>aa ⟨xN=bk (fS xN)/\(PP m),.agg ⟨[.int .i64 (fS xN).l.i,.int .i64 (fS xN).l.g]⟩,aj,[aa (.inl (132,[.pointer (aa ⟨1,0,aj⟩),.int .i64 ti,.int .i64 tg])),aa (.inr (.inr (.inr (.dd (vu aM m ⟨ri,rg⟩ (fS xN))))))],[],[(0,0)]⟩
 |_,_=>aj
theorem Bo:ck D Tryz.prog 160 (a9 Ef):=by
 refine fw Tryz.f160 fun args hh x hx=>?_
 unfold Ef at hx;split at hx
 ·rename_i ri rg xN ti tg m;cases hx;refine q4 fun _ hv=>?_
  obtain⟨jQ,hv⟩:=hv;generalize fS xN=xn at *;subst jQ
  generalize hG:ct (R:=Rs) _ _=G;refine cW (T:=HV) EB mixed 200 ?_;refine bN (q:=let Z5:=bs av;let Z1:=(bt aM m (a_ xn));let Z2:=(fy (b8 xn) (bo Z1) (bo xn) (bw xn) (cw xn));let Z3:=(fy (b8 Z1) (a_ Z1) (aN ri rg) (bw Z1) (cw Z1));let Z4:=(sE aM (aK m (a_ xn)) (aN ri rg) Z2);Vc (PP m)/\Vc ((bk Z2)=bk Z2/\PP (aK m (a_ xn)))/\Vc ((bk Z3)=bk Z3/\PP Z4)/\aY (G (bE (aO [Z5 (cB (a_ xn)),Z5 (cC (a_ xn))])) [dC 1 ti tg,oP (sE aM Z4 (a_ xn) Z3),aa (.inl (108,[Z5 ri,Z5 rg])),aa (.inl (128,(bk Z2))),aa (.inl (108,[Z5 (cB (a_ xn)),Z5 (cC (a_ xn))])),aa (.inl (108,[Z5 (cB (a_ xn)),Z5 (cC (a_ xn))])),aa (.inl (128,(bk Z3)))])) ?_ (by kernel_rfl)
  intro Z5 Z1 Z2 Z3 Z4;subst Z4 Z3 Z2 Z1 Z5;subst hG
  repeat' (first|apply cZ|apply Vc.mk|apply fits.mk|intro h|apply aY.mk)
  all_goals (try simp only[sB] at *)
  all_goals first|contradiction|omega|exact ju ‹_›|exact jt ‹_›|exact jv ‹_›|exact⟨rfl,by omega⟩|exact rfl|(simp[*,-ax];done)|skip
  all_goals first|assumption|(simp only[ja];assumption)|skip
  exact⟨[0,1],rfl,rfl,⟨.inl rfl,rfl,trivial⟩,rfl,rfl,rfl,rfl⟩
 ·cases hx
def TO:eK Rs:=[(1000000000,lJ),(79,bM zN 2 (a9 j7)),(158,bM zN 2 (a9 Ah)),(159,bM zN 2 (a9 Ey)),(160,bM zN 2 (a9 Ef))]
theorem Qv:cQ D Tryz.prog TO:=⟨iu,aX _ _ look_ok,aX _ _ xq,aX _ _ Bx,aX _ _ Bo,trivial⟩
def uq:Prim Rs:=fun args hh=>match args,hh with
 |[.pointer (aa ⟨0,0,aj⟩),.agg ⟨[.int .i64 ri,.int .i64 rg]⟩,.agg ⟨xN⟩],[aa (.inl (132,[.pointer (aa ⟨1,0,aj⟩),.int .i64 ti,.int .i64 tg])),aa (.inr (.inr (.inr (.dd m))))]=>aa ⟨xN=bk (fS xN)/\(PP m),.agg ⟨[.int .i64 (gr aM m ⟨ri,rg⟩ (fS xN)).1.i,.int .i64 (gr aM m ⟨ri,rg⟩ (fS xN)).1.g]⟩,aj,[aa (.inl (132,[.pointer (aa ⟨1,0,aj⟩),.int .i64 ti,.int .i64 tg])),aa (.inr (.inr (.inr (.dd (gr aM m ⟨ri,rg⟩ (fS xN)).2))))],[],[(0,0)]⟩
 |_,_=>aj
theorem sq:ck D Tryz.prog 139 (a9 uq):=by
 refine fw Tryz.f139 fun args hh x hx=>?_
 unfold uq at hx;split at hx
 ·rename_i ri rg xN ti tg m;cases hx;refine q4 fun _ hv=>?_
  obtain⟨jQ,hv⟩:=hv;generalize fS xN=xn at *;subst jQ
  generalize hG:ct (R:=Rs) _ _=G;refine cW (T:=TO) Qv mixed 200 ?_;refine bN (q:=let dR:=bs av;let Z1:=(bt aM m (a_ xn));let Z2:=(bt aM (aK m (a_ xn)) (bo xn));let Z3:=(cw Z1>cr av (cw Z2+(1:Int)));let Z4:=(aK (aK m (a_ xn)) (bo xn));let Z5:=(cw (bt aM Z4 (bo Z1))>cw (bt aM (aK Z4 (bo Z1)) (a_ Z1)));let Z6:=(aK (aK Z4 (bo Z1)) (a_ Z1));let Z7:=(fy (b8 xn) (bo Z1) (bo xn) (bw xn) (cw xn));let Z8:=(cw Z2>cr av (cw Z1+(1:Int)));let Z9:=(cw (bt aM Z4 (a_ Z2))>cw (bt aM (aK Z4 (a_ Z2)) (bo Z2)));let cP:=(aK (aK Z4 (a_ Z2)) (bo Z2));let cz:=(fy (b8 xn) (a_ xn) (a_ Z2) (bw xn) (cw xn));Vc (PP m)/\Vc (PP (aK m (a_ xn)))/\Vc True/\(decide Z3=aq->Vc (PP Z4)/\Vc (PP (aK Z4 (bo Z1)))/\(decide Z5=aq->Vc ((bk Z1)=bk Z1/\PP Z6)/\Vc ((bk Z7)=bk Z7/\PP (vt aM Z6 (a_ xn) Z1))/\aY (G (bE (aO [dR (cB (a_ Z7)),dR (cC (a_ Z7))])) [dC 1 ti tg,oP (vu aM (vt aM Z6 (a_ xn) Z1) (aN ri rg) Z7),aa (.inl (108,[dR ri,dR rg])),aa (.inl (128,(bk Z7))),aa (.inl (108,[dR (cB (a_ Z7)),dR (cC (a_ Z7))])),aa (.inl (128,(bk Z1))),aa (.inl (128,(bk Z2)))]))/\(decide Z5=ao->Vc ((bk xn)=bk xn/\PP Z6)/\aY (G (bE (aO [dR (cB (a_ xn)),dR (cC (a_ xn))])) [dC 1 ti tg,oP (vu aM Z6 (aN ri rg) xn),aa (.inl (108,[dR ri,dR rg])),aa (.inl (128,(bk xn))),aa (.inl (108,[dR (cB (a_ xn)),dR (cC (a_ xn))])),aa (.inl (128,(bk Z1))),aa (.inl (128,(bk Z2)))])))/\(decide Z3=ao->Vc True/\(decide Z8=aq->Vc (PP Z4)/\Vc (PP (aK Z4 (a_ Z2)))/\(decide Z9=aq->Vc ((bk Z2)=bk Z2/\PP cP)/\Vc ((bk cz)=bk cz/\PP (vu aM cP (bo xn) Z2))/\aY (G (bE (aO [dR (cB (bo cz)),dR (cC (bo cz))])) [dC 1 ti tg,oP (vt aM (vu aM cP (bo xn) Z2) (aN ri rg) cz),aa (.inl (108,[dR ri,dR rg])),aa (.inl (128,(bk cz))),aa (.inl (108,[dR (cB (bo cz)),dR (cC (bo cz))])),aa (.inl (128,(bk Z1))),aa (.inl (128,(bk Z2)))]))/\(decide Z9=ao->Vc ((bk xn)=bk xn/\PP cP)/\aY (G (bE (aO [dR (cB (bo xn)),dR (cC (bo xn))])) [dC 1 ti tg,oP (vt aM cP (aN ri rg) xn),aa (.inl (108,[dR ri,dR rg])),aa (.inl (128,(bk xn))),aa (.inl (108,[dR (cB (bo xn)),dR (cC (bo xn))])),aa (.inl (128,(bk Z1))),aa (.inl (128,(bk Z2)))])))/\(decide Z8=ao->Vc ((bk xn)=bk xn/\(bk Z1)=bk Z1/\(bk Z2)=bk Z2/\PP Z4)/\aY (G (bE (aO [dR ri,dR rg])) [dC 1 ti tg,oP (DV aM Z4 (aN ri rg) xn Z1 Z2),aa (.inl (108,[dR ri,dR rg])),aa (.inl (128,(bk xn))),aa (.inl (108,[dR ri,dR rg])),aa (.inl (128,(bk Z1))),aa (.inl (128,(bk Z2)))])))) ?_ (by kernel_rfl)
  intro dR Z1 Z2 Z3 Z4 Z5 Z6 Z7 Z8 Z9 cP cz;subst cz cP Z9 Z8 Z7 Z6 Z5 Z4 Z3 Z2 Z1 dR;have done:∀ (i g:Int) (m':Pl) (rest:Hp Rs),gr aM m ⟨ri,rg⟩ xn=(⟨i,g⟩,m')->G (.agg ⟨[.int .i64 i,.int .i64 g]⟩) ([aa (.inl (132,[.pointer (aa ⟨1,0,aj⟩),.int .i64 ti,.int .i64 tg])),aa (.inr (.inr (.inr (.dd m'))))]++rest):=by
   intro i g m' rest e;subst hG;refine⟨[0,1],?_,rfl,⟨.inl rfl,?_,trivial⟩,rfl,rfl,rfl,rfl⟩
   ·simp only[e];rfl
   ·simp only[e];rfl
  clear hG
  repeat' (first|apply cZ|apply Vc.mk|apply fits.mk|intro h|apply aY.mk)
  all_goals (try simp only[sB] at *)
  all_goals first|contradiction|omega|exact ju ‹_›|exact jt ‹_›|exact jv ‹_›|exact⟨rfl,by omega⟩|exact rfl|(simp[*,-ax];done)|skip
  all_goals first|assumption|(simp only[ja];assumption)|skip
  all_goals (refine done _ _ _ _ ?_;unfold gr;(try dsimp only [mW]);repeat' split)
  all_goals first|rfl|(exfalso;omega)
 ·cases hx
def Az  (k:Nat):Prim Rs:=fun args hh=>match args,hh with
 |[.pointer (aa ⟨0,0,aj⟩),.agg ⟨[.int .i64 ri,.int .i64 rg]⟩,.agg ⟨[.int .i64 fi,.int .i64 fg]⟩,.agg ⟨kE⟩],[aa (.inl (132,[.pointer (aa ⟨1,0,aj⟩),.int .i64 ti,.int .i64 tg])),aa (.inr (.inr (.inr (.dd m))))]=>aa ⟨kE=du (fR kE)/\(PP m/\jb aM k m ⟨ri,rg⟩),.agg ⟨[.int .i64 (nF aM k m ⟨ri,rg⟩ ⟨fi,fg⟩ (fR kE)).1.i,.int .i64 (nF aM k m ⟨ri,rg⟩ ⟨fi,fg⟩ (fR kE)).1.g]⟩,aj,[aa (.inl (132,[.pointer (aa ⟨1,0,aj⟩),.int .i64 ti,.int .i64 tg])),aa (.inr (.inr (.inr (.dd (nF aM k m ⟨ri,rg⟩ ⟨fi,fg⟩ (fR kE)).2))))],[],[(0,0)]⟩
 |_,_=>aj
def PJ (k:Nat):eK Rs:=[(106,bM zN 2 (a9 IW)),(79,bM zN 2 (a9 j7)),(139,bM zN 2 (a9 uq)),(103,bM zN 2 (a9 (Az k)))]
theorem xK:∀ k:Nat,ck D Tryz.prog 103 (a9 (Az k))
 |0=>by
  refine fw Tryz.f103 fun args hh x hx=>?_
  unfold Az at hx;split at hx
  ·rename_i ri rg fi fg kE ti tg m;cases hx;refine q4 fun _ hv=>?_
   exact kG (ig (ig hv))
  ·cases hx
 |k+1=>by
  have ih:=xK k;refine fw Tryz.f103 fun args hh x hx=>?_
  unfold Az at hx;split at hx
  ·rename_i ri rg fi fg kE ti tg m;cases hx;refine q4 fun _ hv=>?_
   obtain⟨jQ,hv⟩:=hv;generalize fR kE=ke at *;subst jQ;obtain⟨hp,hd⟩:=hv
   generalize hG:ct (R:=Rs) _ _=G;refine cW (T:=(PJ k)) (show cQ D Tryz.prog (PJ k) from⟨aX _ _ xS,aX _ _ look_ok,aX _ _ sq,aX _ _ ih,trivial⟩) mixed 200 ?_
   refine bN (q:=let cz:=bs av;let Z1:=(bt aM m (aN ri rg));let Z2:=(aK m (aN ri rg));let Z3:=(fy (b8 Z1) (aB (nF aM k Z2 (a_ Z1) (aN fi fg) ke)) (bo Z1) (bw Z1) (cw Z1));let Z4:=(aw (nF aM k Z2 (a_ Z1) (aN fi fg) ke));let Z5:=(cB (aB (gr aM Z4 (aN ri rg) Z3)));let Z6:=(cC (aB (gr aM Z4 (aN ri rg) Z3)));let Z7:=(fy (b8 Z1) (a_ Z1) (aB (nF aM k Z2 (bo Z1) (aN fi fg) ke)) (bw Z1) (cw Z1));let Z8:=(aw (nF aM k Z2 (bo Z1) (aN fi fg) ke));let Z9:=(cB (aB (gr aM Z8 (aN ri rg) Z7)));let cP:=(cC (aB (gr aM Z8 (aN ri rg) Z7)));Vc (PP m)/\((cw Z1==(0:Int))=aq->aY (G (bE (aO [cz fi,cz fg])) [dC 1 ti tg,oP Z2,aa (.inl (108,[cz ri,cz rg])),aa (.inl (108,[cz fi,cz fg])),aa (.inl (75,(du ke))),aa (.inl (108,[cz fi,cz fg])),aa (.inl (128,(bk Z1)))]))/\((cw Z1==(0:Int))=ao->Vc True/\Vc True/\(decide (gZ aM ke (b8 Z1)<(0:Int))=aq->Vc ((du ke)=du ke/\PP Z2/\jb aM k Z2 (a_ Z1))/\Vc ((bk Z3)=bk Z3/\PP Z4)/\aY (G (bE (aO [cz Z5,cz Z6])) [dC 1 ti tg,oP (aw (gr aM Z4 (aN ri rg) Z3)),aa (.inl (108,[cz ri,cz rg])),aa (.inl (108,[cz fi,cz fg])),aa (.inl (75,(du ke))),aa (.inl (108,[cz Z5,cz Z6])),aa (.inl (128,(bk Z3)))]))/\(decide (gZ aM ke (b8 Z1)<(0:Int))=ao->Vc ((du ke)=du ke/\PP Z2/\jb aM k Z2 (bo Z1))/\Vc ((bk Z7)=bk Z7/\PP Z8)/\aY (G (bE (aO [cz Z9,cz cP])) [dC 1 ti tg,oP (aw (gr aM Z8 (aN ri rg) Z7)),aa (.inl (108,[cz ri,cz rg])),aa (.inl (108,[cz fi,cz fg])),aa (.inl (75,(du ke))),aa (.inl (108,[cz Z9,cz cP])),aa (.inl (128,(bk Z7)))])))) ?_ (by kernel_rfl)
   intro cz Z1 Z2 Z3 Z4 Z5 Z6 Z7 Z8 Z9 cP;subst cP Z9 Z8 Z7 Z6 Z5 Z4 Z3 Z2 Z1 cz;simp only[jb] at hd;have done:∀ (i g:Int) (m':Pl) (rest:Hp Rs),nF aM (k+1) m ⟨ri,rg⟩ ⟨fi,fg⟩ ke=(⟨i,g⟩,m')->G (.agg ⟨[.int .i64 i,.int .i64 g]⟩) ([aa (.inl (132,[.pointer (aa ⟨1,0,aj⟩),.int .i64 ti,.int .i64 tg])),aa (.inr (.inr (.inr (.dd m'))))]++rest):=by
    intro i g m' rest e;subst hG;refine⟨[0,1],?_,rfl,⟨.inl rfl,?_,trivial⟩,rfl,rfl,rfl,rfl⟩
    ·simp only[e];rfl
    ·simp only[e];rfl
   clear hG
   repeat' (first|apply cZ|apply Vc.mk|apply fits.mk|intro h|apply aY.mk)
   all_goals (try simp only[sB] at *)
   all_goals first|contradiction|omega|exact ju ‹_›|exact jt ‹_›|exact jv ‹_›|exact⟨rfl,by omega⟩|exact rfl|(simp[*,-ax];done)|skip
   all_goals first|assumption|(simp only[ja];assumption)|skip
   all_goals first|(rw[qw];rcases hd with hd|hd;exfalso;omega;first|exact hd.1|exact hd.2)|skip
   all_goals (refine done _ _ _ _ ?_;rw[nF];(try dsimp only [mW]);repeat' split)
   all_goals first|rfl|(exfalso;omega)|contradiction|exact kb (qV (by assumption)) rfl|(exfalso;simp_all;done)
  ·cases hx
def sy  (k:Nat):Prim Rs:=fun args hh=>match args,hh with
 |[.pointer (aa ⟨0,0,aj⟩),.agg ⟨[.int .i64 ri,.int .i64 rg]⟩,.agg ⟨kE⟩],[aa (.inl (132,[.pointer (aa ⟨1,0,aj⟩),.int .i64 ti,.int .i64 tg])),aa (.inr (.inr (.inr (.dd m))))]=>aa ⟨kE=du (fR kE)/\(PP m/\jb aM k m ⟨ri,rg⟩),.bool (nG aM k m ⟨ri,rg⟩ (fR kE)).1,aj,[aa (.inl (132,[.pointer (aa ⟨1,0,aj⟩),.int .i64 ti,.int .i64 tg])),aa (.inr (.inr (.inr (.dd (nG aM k m ⟨ri,rg⟩ (fR kE)).2))))],[],[(0,0)]⟩
 |_,_=>aj
def Pb (k:Nat):eK Rs:=[(106,bM zN 2 (a9 IW)),(79,bM zN 2 (a9 j7)),(137,bM zN 2 (a9 If)),(100,bM zN 2 (a9 (sy k)))]
theorem rN:∀ k:Nat,ck D Tryz.prog 100 (a9 (sy k))
 |0=>by
  refine fw Tryz.f100 fun args hh x hx=>?_
  unfold sy at hx;split at hx
  ·rename_i ri rg kE ti tg m;cases hx;refine q4 fun _ hv=>?_
   exact kG (ig (ig hv))
  ·cases hx
 |k+1=>by
  have ih:=rN k;refine fw Tryz.f100 fun args hh x hx=>?_
  unfold sy at hx;split at hx
  ·rename_i ri rg kE ti tg m;cases hx;refine q4 fun _ hv=>?_
   obtain⟨jQ,hv⟩:=hv;generalize fR kE=ke at *;subst jQ;obtain⟨hp,hd⟩:=hv
   generalize hG:ct (R:=Rs) _ _=G;refine cW (T:=(Pb k)) (show cQ D Tryz.prog (Pb k) from⟨aX _ _ xS,aX _ _ look_ok,aX _ _ Ai,aX _ _ ih,trivial⟩) mixed 200 ?_
   refine bN (q:=let Z6:=bs av;let Z1:=(bt aM m (aN ri rg));let Z2:=(aK m (aN ri rg));let Z3:=(nG aM k Z2 (a_ Z1) ke);let Z4:=(nG aM k Z2 (bo Z1) ke);let Z5:=(fy ke (a_ Z1) (bo Z1) (bw Z1) (cw Z1));Vc (PP m)/\((cw Z1==(0:Int))=aq->aY (G (aD ao) [dC 1 ti tg,oP Z2,aa (.inl (108,[Z6 ri,Z6 rg])),aa (.inl (75,(du ke))),aa (.inl (128,(bk Z1)))]))/\((cw Z1==(0:Int))=ao->Vc True/\Vc True/\(decide (gZ aM ke (b8 Z1)<(0:Int))=aq->Vc ((du ke)=du ke/\PP Z2/\jb aM k Z2 (a_ Z1))/\(aB Z3=aq->Vc ((bk Z1)=bk Z1/\PP (aw Z3))/\aY (G (aD (aB Z3)) [dC 1 ti tg,oP (sE aM (aw Z3) (aN ri rg) Z1),aa (.inl (108,[Z6 ri,Z6 rg])),aa (.inl (75,(du ke))),aa (.inl (128,(bk Z1)))]))/\(aB Z3=ao->aY (G (aD (aB Z3)) [dC 1 ti tg,oP (aw Z3),aa (.inl (108,[Z6 ri,Z6 rg])),aa (.inl (75,(du ke))),aa (.inl (128,(bk Z1)))])))/\(decide (gZ aM ke (b8 Z1)<(0:Int))=ao->(decide (gZ aM ke (b8 Z1)>(0:Int))=aq->Vc ((du ke)=du ke/\PP Z2/\jb aM k Z2 (bo Z1))/\(aB Z4=aq->Vc ((bk Z1)=bk Z1/\PP (aw Z4))/\aY (G (aD (aB Z4)) [dC 1 ti tg,oP (sE aM (aw Z4) (aN ri rg) Z1),aa (.inl (108,[Z6 ri,Z6 rg])),aa (.inl (75,(du ke))),aa (.inl (128,(bk Z1)))]))/\(aB Z4=ao->aY (G (aD (aB Z4)) [dC 1 ti tg,oP (aw Z4),aa (.inl (108,[Z6 ri,Z6 rg])),aa (.inl (75,(du ke))),aa (.inl (128,(bk Z1)))])))/\(decide (gZ aM ke (b8 Z1)>(0:Int))=ao->Vc ((bk Z5)=bk Z5/\PP Z2)/\aY (G (aD aq) [dC 1 ti tg,oP (sE aM Z2 (aN ri rg) Z5),aa (.inl (108,[Z6 ri,Z6 rg])),aa (.inl (75,(du ke))),aa (.inl (128,(bk Z5)))]))))) ?_ (by kernel_rfl)
   intro Z6 Z1 Z2 Z3 Z4 Z5;subst Z5 Z4 Z3 Z2 Z1 Z6;simp only[jb] at hd;have done:∀ (b:Bool) (m':Pl) (rest:Hp Rs),nG aM (k+1) m ⟨ri,rg⟩ ke=(b,m')->G (.bool b) ([aa (.inl (132,[.pointer (aa ⟨1,0,aj⟩),.int .i64 ti,.int .i64 tg])),aa (.inr (.inr (.inr (.dd m'))))]++rest):=by
    intro b m' rest e;subst hG;refine⟨[0,1],?_,rfl,⟨.inl rfl,?_,trivial⟩,rfl,rfl,rfl,rfl⟩
    ·simp only[e];rfl
    ·simp only[e];rfl
   clear hG
   repeat' (first|apply cZ|apply Vc.mk|apply fits.mk|intro h|apply aY.mk)
   all_goals (try simp only[sB] at *)
   all_goals first|contradiction|omega|exact ju ‹_›|exact jt ‹_›|exact jv ‹_›|exact⟨rfl,by omega⟩|exact rfl|(simp[*,-ax];done)|skip
   all_goals first|assumption|(simp only[ja];assumption)|skip
   all_goals first|(rw[qw];rcases hd with hd|hd;exfalso;omega;first|exact hd.1|exact hd.2)|skip
   all_goals (refine done _ _ _ ?_;rw[nG];(try dsimp only [mW]);repeat' split)
   all_goals first|rfl|(exfalso;omega)|contradiction|exact kb (qV (by assumption)) rfl|(exfalso;simp_all;done)
  ·cases hx
def wP  (k:Nat):Prim Rs:=fun args hh=>match args,hh with
 |[.pointer (aa ⟨0,0,aj⟩),.agg ⟨[.int .i64 ri,.int .i64 rg]⟩],[aa (.inl (132,[.pointer (aa ⟨1,0,aj⟩),.int .i64 ti,.int .i64 tg])),aa (.inr (.inr (.inr (.dd m))))]=>aa ⟨PP m/\xg aM k m ⟨ri,rg⟩,.tuple #[.agg ⟨[.int .i64 (kc aM k m ⟨ri,rg⟩).1.i,.int .i64 (kc aM k m ⟨ri,rg⟩).1.g]⟩,.agg ⟨[.int .i64 (kc aM k m ⟨ri,rg⟩).2.1.i,.int .i64 (kc aM k m ⟨ri,rg⟩).2.1.g]⟩],aj,[aa (.inl (132,[.pointer (aa ⟨1,0,aj⟩),.int .i64 ti,.int .i64 tg])),aa (.inr (.inr (.inr (.dd (kc aM k m ⟨ri,rg⟩).2.2))))],[],[(0,0)]⟩
 |_,_=>aj
def Kn (k:Nat):eK Rs:=[(79,bM zN 2 (a9 j7)),(139,bM zN 2 (a9 uq)),(165,bM zN 2 (a9 (wP k)))]
theorem vj:∀ k:Nat,ck D Tryz.prog 165 (a9 (wP k))
 |0=>by
  refine fw Tryz.f165 fun args hh x hx=>?_
  unfold wP at hx;split at hx
  ·rename_i ri rg ti tg m;cases hx;refine q4 fun _ hv=>?_
   exact kG (ig hv)
  ·cases hx
 |k+1=>by
  have ih:=vj k;refine fw Tryz.f165 fun args hh x hx=>?_
  unfold wP at hx;split at hx
  ·rename_i ri rg ti tg m;cases hx;refine q4 fun _ hv=>?_
   obtain⟨hp,hd⟩:=hv;generalize hG:ct (R:=Rs) _ _=G;refine cW (T:=(Kn k)) (show cQ D Tryz.prog (Kn k) from⟨aX _ _ look_ok,aX _ _ sq,aX _ _ ih,trivial⟩) mixed 200 ?_
   refine bN (q:=let Z9:=bs av;let Z1:=(bt aM m (aN ri rg));let Z2:=(if ao=aq then !(cB (a_ Z1)==(0:Int)&&(cC (a_ Z1)==(0:Int)&&aq)) else cB (a_ Z1)==(0:Int)&&(cC (a_ Z1)==(0:Int)&&aq));let Z3:=(aK m (aN ri rg));let Z4:=(fy (b8 Z1) (aB (kc aM k Z3 (a_ Z1))) (bo Z1) (bw Z1) (cw Z1));let Z5:=(aw (aw (kc aM k Z3 (a_ Z1))));let Z6:=(cB (aB (gr aM Z5 (aN ri rg) Z4)));let Z7:=(cC (aB (gr aM Z5 (aN ri rg) Z4)));let Z8:=(aB (aw (kc aM k Z3 (a_ Z1))));Vc (PP m)/\(Z2=aq->aY (G (cv (aO [.agg (aO [Z9 (cB (bo Z1)),Z9 (cC (bo Z1))]),bE (aO [Z9 ri,Z9 rg])])) [dC 1 ti tg,oP Z3,aa (.inl (108,[Z9 ri,Z9 rg])),aa (.inl (108,[Z9 (cB (bo Z1)),Z9 (cC (bo Z1))])),aa (.inl (108,[Z9 ri,Z9 rg])),aa (.inl (128,(bk Z1)))]))/\(Z2=ao->Vc (PP Z3/\xg aM k Z3 (a_ Z1))/\Vc ((bk Z4)=bk Z4/\PP Z5)/\aY (G (cv (aO [.agg (aO [Z9 Z6,Z9 Z7]),bE (aO [Z9 (cB Z8),Z9 (cC Z8)])])) [dC 1 ti tg,oP (aw (gr aM Z5 (aN ri rg) Z4)),aa (.inl (108,[Z9 ri,Z9 rg])),aa (.inl (108,[Z9 Z6,Z9 Z7])),aa (.inl (108,[Z9 (cB Z8),Z9 (cC Z8)])),aa (.inl (128,(bk Z4)))]))) ?_ (by kernel_rfl)
   intro Z9 Z1 Z2 Z3 Z4 Z5 Z6 Z7 Z8;subst Z8 Z7 Z6 Z5 Z4 Z3 Z2 Z1 Z9;simp only[xg] at hd;have done:∀ (i g i2 g2:Int) (m':Pl) (rest:Hp Rs),kc aM (k+1) m ⟨ri,rg⟩=(⟨i,g⟩,⟨i2,g2⟩,m')->G (.tuple #[.agg ⟨[.int .i64 i,.int .i64 g]⟩,.agg ⟨[.int .i64 i2,.int .i64 g2]⟩]) ([aa (.inl (132,[.pointer (aa ⟨1,0,aj⟩),.int .i64 ti,.int .i64 tg])),aa (.inr (.inr (.inr (.dd m'))))]++rest):=by
    intro i g i2 g2 m' rest e;subst hG;refine⟨[0,1],?_,rfl,⟨.inl rfl,?_,trivial⟩,rfl,rfl,rfl,rfl⟩
    ·simp only[e];rfl
    ·simp only[e];rfl
   clear hG
   try simp only[KO,Ba]
   repeat' (first|apply cZ|apply Vc.mk|apply fits.mk|intro h|apply aY.mk)
   all_goals (try simp only[sB] at *)
   all_goals first|contradiction|omega|exact ju ‹_›|exact jt ‹_›|exact jv ‹_›|exact⟨rfl,by omega⟩|exact rfl|(simp[*,-ax];done)|skip
   all_goals first|assumption|(simp only[ja];assumption)|skip
   all_goals first|(rw[C_];first|assumption|(rw[if_neg (by assumption),C_] at hd;exact hd))|skip
   all_goals (refine done _ _ _ _ _ _ ?_;rw[kc];(try dsimp only [mW]);repeat' split)
   all_goals first|rfl|(exfalso;omega)|contradiction|exact kb (qV (by assumption)) rfl|(exfalso;simp_all;done)
  ·cases hx
def Ay  (k:Nat):Prim Rs:=fun args hh=>match args,hh with
 |[.pointer (aa ⟨0,0,aj⟩),.agg ⟨[.int .i64 ai,.int .i64 ag]⟩,.agg ⟨[.int .i64 bi,.int .i64 bg]⟩,.agg ⟨[.int .i64 ci,.int .i64 cg]⟩],[aa (.inl (132,[.pointer (aa ⟨1,0,aj⟩),.int .i64 ti,.int .i64 tg])),aa (.inr (.inr (.inr (.dd m))))]=>aa ⟨PP m/\vv aM k m ⟨ai,ag⟩ ⟨bi,bg⟩ ⟨ci,cg⟩,.agg ⟨[.int .i64 (kx aM k m ⟨ai,ag⟩ ⟨bi,bg⟩ ⟨ci,cg⟩).1.i,.int .i64 (kx aM k m ⟨ai,ag⟩ ⟨bi,bg⟩ ⟨ci,cg⟩).1.g]⟩,aj,[aa (.inl (132,[.pointer (aa ⟨1,0,aj⟩),.int .i64 ti,.int .i64 tg])),aa (.inr (.inr (.inr (.dd (kx aM k m ⟨ai,ag⟩ ⟨bi,bg⟩ ⟨ci,cg⟩).2))))],[],[(0,0)]⟩
 |_,_=>aj
def OS (k:Nat):eK Rs:=[(1000000000,lJ),(79,bM zN 2 (a9 j7)),(139,bM zN 2 (a9 uq)),(158,bM zN 2 (a9 Ah)),(166,bM zN 2 (a9 (Ay k)))]
theorem xF:∀ k:Nat,ck D Tryz.prog 166 (a9 (Ay k))
 |0=>by
  refine fw Tryz.f166 fun args hh x hx=>?_
  unfold Ay at hx;split at hx
  ·rename_i ai ag bi bg ci cg ti tg m;cases hx;refine q4 fun _ hv=>?_
   exact kG (ig hv)
  ·cases hx
 |k+1=>by
  have ih:=xF k;refine fw Tryz.f166 fun args hh x hx=>?_
  unfold Ay at hx;split at hx
  ·rename_i ai ag bi bg ci cg ti tg m;cases hx;refine q4 fun _ hv=>?_
   obtain⟨hp,hd⟩:=hv;generalize hG:ct (R:=Rs) _ _=G;refine cW (T:=(OS k)) (show cQ D Tryz.prog (OS k) from⟨iu,aX _ _ look_ok,aX _ _ sq,aX _ _ xq,aX _ _ ih,trivial⟩) mixed 200 ?_
   refine bN (q:=let gP:=bs av;let Z1:=(aN ai ag);let Z2:=(bt aM m Z1);let Z3:=(aN ci cg);let Z4:=(bt aM (aK m Z1) Z3);let Z5:=(cw Z2>cr av (cw Z4+(1:Int)));let Z6:=(aK (aK m Z1) Z3);let Z7:=(aN bi bg);let Z8:=(fy (b8 Z2) (a_ Z2) (aB (kx aM k Z6 (bo Z2) Z7 Z3)) (bw Z2) (cw Z2));let Z9:=(gr aM (aw (kx aM k Z6 (bo Z2) Z7 Z3)) Z1 Z8);let cP:=(cw Z4>cr av (cw Z2+(1:Int)));let cz:=(fy (b8 Z4) (aB (kx aM k Z6 Z1 Z7 (a_ Z4))) (bo Z4) (bw Z4) (cw Z4));let dR:=(gr aM (aw (kx aM k Z6 Z1 Z7 (a_ Z4))) Z3 cz);let fJ:=(fy (b8 (bt aM Z6 Z7)) Z1 Z3 (bw (bt aM Z6 Z7)) (cw (bt aM Z6 Z7)));Vc (PP m)/\Vc (PP (aK m Z1))/\Vc True/\(decide Z5=aq->Vc (PP Z6/\vv aM k Z6 (bo Z2) Z7 Z3)/\Vc ((bk Z8)=bk Z8/\PP (aw (kx aM k Z6 (bo Z2) Z7 Z3)))/\aY (G (bE (aO [gP (cB (aB Z9)),gP (cC (aB Z9))])) [dC 1 ti tg,oP (aw Z9),aa (.inl (108,[gP ai,gP ag])),aa (.inl (108,[gP bi,gP bg])),aa (.inl (108,[gP ci,gP cg])),aa (.inl (108,[gP (cB (aB Z9)),gP (cC (aB Z9))])),aa (.inl (128,(bk Z8))),aa (.inl (128,(bk Z4)))]))/\(decide Z5=ao->Vc True/\(decide cP=aq->Vc (PP Z6/\vv aM k Z6 Z1 Z7 (a_ Z4))/\Vc ((bk cz)=bk cz/\PP (aw (kx aM k Z6 Z1 Z7 (a_ Z4))))/\aY (G (bE (aO [gP (cB (aB dR)),gP (cC (aB dR))])) [dC 1 ti tg,oP (aw dR),aa (.inl (108,[gP ai,gP ag])),aa (.inl (108,[gP bi,gP bg])),aa (.inl (108,[gP ci,gP cg])),aa (.inl (108,[gP (cB (aB dR)),gP (cC (aB dR))])),aa (.inl (128,(bk Z2))),aa (.inl (128,(bk cz)))]))/\(decide cP=ao->Vc (PP Z6)/\Vc ((bk fJ)=bk fJ/\(bk Z2)=bk Z2/\(bk Z4)=bk Z4/\PP (aK Z6 Z7))/\aY (G (bE (aO [gP bi,gP bg])) [dC 1 ti tg,oP (DV aM (aK Z6 Z7) Z7 fJ Z2 Z4),aa (.inl (108,[gP ai,gP ag])),aa (.inl (108,[gP bi,gP bg])),aa (.inl (108,[gP ci,gP cg])),aa (.inl (108,[gP bi,gP bg])),aa (.inl (128,(bk Z2))),aa (.inl (128,(bk Z4))),aa (.inl (128,(bk fJ)))])))) ?_ (by kernel_rfl)
   intro gP Z1 Z2 Z3 Z4 Z5 Z6 Z7 Z8 Z9 cP cz dR fJ;subst fJ dR cz cP Z9 Z8 Z7 Z6 Z5 Z4 Z3 Z2 Z1 gP;rw[vv] at hd
   dsimp only [mW] at hd
   have done:∀ (i g:Int) (m':Pl) (rest:Hp Rs),kx aM (k+1) m ⟨ai,ag⟩ ⟨bi,bg⟩ ⟨ci,cg⟩=(⟨i,g⟩,m')->G (.agg ⟨[.int .i64 i,.int .i64 g]⟩) ([aa (.inl (132,[.pointer (aa ⟨1,0,aj⟩),.int .i64 ti,.int .i64 tg])),aa (.inr (.inr (.inr (.dd m'))))]++rest):=by
    intro i g m' rest e;subst hG;refine⟨[0,1],?_,rfl,⟨.inl rfl,?_,trivial⟩,rfl,rfl,rfl,rfl⟩
    ·simp only[e];rfl
    ·simp only[e];rfl
   clear hG
   repeat' (first|apply cZ|apply Vc.mk|apply fits.mk|intro h|apply aY.mk)
   all_goals (try simp only[sB] at *)
   all_goals first|contradiction|omega|exact ju ‹_›|exact jt ‹_›|exact jv ‹_›|exact⟨rfl,by omega⟩|exact rfl|(simp[*,-ax];done)|skip
   all_goals first|assumption|(simp only[ja];assumption)|skip
   all_goals first|(rw[if_pos (by assumption)] at hd;exact hd)|(rw[if_neg (by omega),if_pos (by assumption)] at hd;exact hd)|skip
   all_goals (refine done _ _ _ _ ?_;rw[kx];(try dsimp only [mW]);repeat' split)
   all_goals first|rfl|(exfalso;omega)|contradiction|exact kb (qV (by assumption)) rfl|(exfalso;simp_all;done)
  ·cases hx
def ID (K:Nat):Prim Rs:=fun args hh=>match args,hh with
 |[.pointer (aa ⟨0,0,aj⟩),.agg ⟨[.int .i64 ai,.int .i64 ag]⟩,.agg ⟨[.int .i64 ci,.int .i64 cg]⟩],[aa (.inl (132,[.pointer (aa ⟨1,0,aj⟩),.int .i64 ti,.int .i64 tg])),aa (.inr (.inr (.inr (.dd m))))]=>aa ⟨PP m/\Fm aM K m ⟨ai,ag⟩ ⟨ci,cg⟩,.agg ⟨[.int .i64 (sg aM K m ⟨ai,ag⟩ ⟨ci,cg⟩).1.i,.int .i64 (sg aM K m ⟨ai,ag⟩ ⟨ci,cg⟩).1.g]⟩,aj,[aa (.inl (132,[.pointer (aa ⟨1,0,aj⟩),.int .i64 ti,.int .i64 tg])),aa (.inr (.inr (.inr (.dd (sg aM K m ⟨ai,ag⟩ ⟨ci,cg⟩).2))))],[],[(0,0)]⟩
 |_,_=>aj
def OO (K:Nat):eK Rs:=[(165,bM zN 2 (a9 (wP K))),(166,bM zN 2 (a9 (Ay K)))]
theorem Hb (K:Nat):ck D Tryz.prog 146 (a9 (ID K)):=by
 refine fw Tryz.f146 fun args hh x hx=>?_
 unfold ID at hx;split at hx
 ·rename_i ai ag ci cg ti tg m;cases hx;refine q4 fun _ hv=>?_
  obtain⟨hp,hd⟩:=hv;generalize hG:ct (R:=Rs) _ _=G;refine cW (T:=(OO K)) (show cQ D Tryz.prog (OO K) from⟨aX _ _ (vj K),aX _ _ (xF K),trivial⟩) mixed 200 ?_
  refine bN (q:=let Z7:=bs av;let Z1:=(if ao=aq then !(ci==(0:Int)&&(cg==(0:Int)&&aq)) else ci==(0:Int)&&(cg==(0:Int)&&aq));let Z2:=(aw (aw (kc aM K m (aN ci cg))));let Z3:=(aB (aw (kc aM K m (aN ci cg))));let Z4:=(aB (kc aM K m (aN ci cg)));let Z5:=(cB (aB (kx aM K Z2 (aN ai ag) Z3 Z4)));let Z6:=(cC (aB (kx aM K Z2 (aN ai ag) Z3 Z4)));(Z1=aq->aY (G (bE (aO [Z7 ai,Z7 ag])) [dC 1 ti tg,oP m,aa (.inl (108,[Z7 ai,Z7 ag])),aa (.inl (108,[Z7 ci,Z7 cg])),aa (.inl (108,[Z7 ai,Z7 ag]))]))/\(Z1=ao->Vc (PP m/\xg aM K m (aN ci cg))/\Vc (PP Z2/\vv aM K Z2 (aN ai ag) Z3 Z4)/\aY (G (bE (aO [Z7 Z5,Z7 Z6])) [dC 1 ti tg,oP (aw (kx aM K Z2 (aN ai ag) Z3 Z4)),aa (.inl (108,[Z7 ai,Z7 ag])),aa (.inl (108,[Z7 ci,Z7 cg])),aa (.inl (108,[Z7 Z5,Z7 Z6])),aa (.inl (108,[Z7 (cB Z4),Z7 (cC Z4)])),aa (.inl (108,[Z7 (cB Z3),Z7 (cC Z3)]))]))) ?_ (by kernel_rfl)
  intro Z7 Z1 Z2 Z3 Z4 Z5 Z6;subst Z6 Z5 Z4 Z3 Z2 Z1 Z7;unfold Fm at hd;have done:∀ (i g:Int) (m':Pl) (rest:Hp Rs),sg aM K m ⟨ai,ag⟩ ⟨ci,cg⟩=(⟨i,g⟩,m')->G (.agg ⟨[.int .i64 i,.int .i64 g]⟩) ([aa (.inl (132,[.pointer (aa ⟨1,0,aj⟩),.int .i64 ti,.int .i64 tg])),aa (.inr (.inr (.inr (.dd m'))))]++rest):=by
   intro i g m' rest e;subst hG;refine⟨[0,1],?_,rfl,⟨.inl rfl,?_,trivial⟩,rfl,rfl,rfl,rfl⟩
   ·simp only[e];rfl
   ·simp only[e];rfl
  clear hG
  try simp only[KO,Ba]
  repeat' (first|apply cZ|apply Vc.mk|apply fits.mk|intro h|apply aY.mk)
  all_goals (try simp only[sB] at *)
  all_goals first|contradiction|omega|exact ju ‹_›|exact jt ‹_›|exact jv ‹_›|exact⟨rfl,by omega⟩|exact rfl|(simp[*,-ax];done)|skip
  all_goals first|assumption|(simp only[ja];assumption)|skip
  all_goals first|(rw[if_neg (by assumption)] at hd;first|exact hd.1|exact hd.2)|skip
  all_goals (refine done _ _ _ _ ?_;unfold sg;(try dsimp only [mW]);repeat' split)
  all_goals first|rfl|(exfalso;omega)|contradiction|exact kb (qV (by assumption)) rfl|(exfalso;simp_all;done)
 ·cases hx
def AD (K:Nat) (k:Nat):Prim Rs:=fun args hh=>match args,hh with
 |[.pointer (aa ⟨0,0,aj⟩),.agg ⟨[.int .i64 ri,.int .i64 rg]⟩,.agg ⟨kE⟩],[aa (.inl (132,[.pointer (aa ⟨1,0,aj⟩),.int .i64 ti,.int .i64 tg])),aa (.inr (.inr (.inr (.dd m))))]=>aa ⟨kE=du (fR kE)/\(PP m/\sF aM K k m ⟨ri,rg⟩ (fR kE)),.tuple #[.agg ⟨[.int .i64 (js aM K k m ⟨ri,rg⟩ (fR kE)).1.i,.int .i64 (js aM K k m ⟨ri,rg⟩ (fR kE)).1.g]⟩,.agg ⟨[.int .i64 (js aM K k m ⟨ri,rg⟩ (fR kE)).2.1.i,.int .i64 (js aM K k m ⟨ri,rg⟩ (fR kE)).2.1.g]⟩],aj,[aa (.inl (132,[.pointer (aa ⟨1,0,aj⟩),.int .i64 ti,.int .i64 tg])),aa (.inr (.inr (.inr (.dd (js aM K k m ⟨ri,rg⟩ (fR kE)).2.2))))],[],[(0,0)]⟩
 |_,_=>aj
def PE (K:Nat) (k:Nat):eK Rs:=[(106,bM zN 2 (a9 IW)),(79,bM zN 2 (a9 j7)),(139,bM zN 2 (a9 uq)),(146,bM zN 2 (a9 (ID K))),(115,bM zN 2 (a9 (AD K k)))]
theorem xv (K:Nat):∀ k:Nat,ck D Tryz.prog 115 (a9 (AD K k))
 |0=>by
  refine fw Tryz.f115 fun args hh x hx=>?_
  unfold AD at hx;split at hx
  ·rename_i ri rg kE ti tg m;cases hx;refine q4 fun _ hv=>?_
   exact kG (ig (ig hv))
  ·cases hx
 |k+1=>by
  have ih:=xv K k;refine fw Tryz.f115 fun args hh x hx=>?_
  unfold AD at hx;split at hx
  ·rename_i ri rg kE ti tg m;cases hx;refine q4 fun _ hv=>?_
   obtain⟨jQ,hv⟩:=hv;generalize fR kE=ke at *;subst jQ;obtain⟨hp,hd⟩:=hv
   generalize hG:ct (R:=Rs) _ _=G;refine cW (T:=(PE K k)) (show cQ D Tryz.prog (PE K k) from⟨aX _ _ xS,aX _ _ look_ok,aX _ _ sq,aX _ _ (Hb K),aX _ _ ih,trivial⟩) mixed 200 ?_
   refine bN (q:=let fx:=bs av;let Z1:=(bt aM m (aN ri rg));let Z2:=(aO [fx ri,fx rg]);let Z3:=(aK m (aN ri rg));let Z4:=(aB (aw (js aM K k Z3 (a_ Z1) ke)));let Z5:=(if ao=aq then !(cB Z4==(0:Int)&&(cC Z4==(0:Int)&&aq)) else cB Z4==(0:Int)&&(cC Z4==(0:Int)&&aq));let Z6:=(aw (aw (js aM K k Z3 (a_ Z1) ke)));let Z7:=(fy (b8 Z1) (aB (js aM K k Z3 (a_ Z1) ke)) (bo Z1) (bw Z1) (cw Z1));let Z8:=(cB (aB (gr aM Z6 (aN ri rg) Z7)));let Z9:=(cC (aB (gr aM Z6 (aN ri rg) Z7)));let cP:=(aB (aw (js aM K k Z3 (bo Z1) ke)));let cz:=(if ao=aq then !(cB cP==(0:Int)&&(cC cP==(0:Int)&&aq)) else cB cP==(0:Int)&&(cC cP==(0:Int)&&aq));let dR:=(aw (aw (js aM K k Z3 (bo Z1) ke)));let fJ:=(fy (b8 Z1) (a_ Z1) (aB (js aM K k Z3 (bo Z1) ke)) (bw Z1) (cw Z1));let gP:=(cB (aB (gr aM dR (aN ri rg) fJ)));let n6:=(cC (aB (gr aM dR (aN ri rg) fJ)));let mY:=(aB (sg aM K Z3 (a_ Z1) (bo Z1)));Vc (PP m)/\((cw Z1==(0:Int))=aq->aY (G (cv (aO [.agg Z2,bE (aO [fx 0,fx 0])])) [dC 1 ti tg,oP Z3,aa (.inl (108,[fx ri,fx rg])),aa (.inl (75,(du ke))),aa (.inl (108,[fx ri,fx rg])),aa (.inl (108,[fx 0,fx 0])),aa (.inl (128,(bk Z1)))]))/\((cw Z1==(0:Int))=ao->Vc True/\Vc True/\(decide (gZ aM ke (b8 Z1)<(0:Int))=aq->Vc ((du ke)=du ke/\PP Z3/\sF aM K k Z3 (a_ Z1) ke)/\(Z5=aq->aY (G (cv (aO [.agg Z2,bE (aO [fx (cB Z4),fx (cC Z4)])])) [dC 1 ti tg,oP Z6,aa (.inl (108,[fx ri,fx rg])),aa (.inl (75,(du ke))),aa (.inl (108,[fx ri,fx rg])),aa (.inl (108,[fx (cB Z4),fx (cC Z4)])),aa (.inl (128,(bk Z7)))]))/\(Z5=ao->Vc ((bk Z7)=bk Z7/\PP Z6)/\aY (G (cv (aO [.agg (aO [fx Z8,fx Z9]),bE (aO [fx (cB Z4),fx (cC Z4)])])) [dC 1 ti tg,oP (aw (gr aM Z6 (aN ri rg) Z7)),aa (.inl (108,[fx ri,fx rg])),aa (.inl (75,(du ke))),aa (.inl (108,[fx Z8,fx Z9])),aa (.inl (108,[fx (cB Z4),fx (cC Z4)])),aa (.inl (128,(bk Z7)))])))/\(decide (gZ aM ke (b8 Z1)<(0:Int))=ao->(decide (gZ aM ke (b8 Z1)>(0:Int))=aq->Vc ((du ke)=du ke/\PP Z3/\sF aM K k Z3 (bo Z1) ke)/\(cz=aq->aY (G (cv (aO [.agg Z2,bE (aO [fx (cB cP),fx (cC cP)])])) [dC 1 ti tg,oP dR,aa (.inl (108,[fx ri,fx rg])),aa (.inl (75,(du ke))),aa (.inl (108,[fx ri,fx rg])),aa (.inl (108,[fx (cB cP),fx (cC cP)])),aa (.inl (128,(bk fJ)))]))/\(cz=ao->Vc ((bk fJ)=bk fJ/\PP dR)/\aY (G (cv (aO [.agg (aO [fx gP,fx n6]),bE (aO [fx (cB cP),fx (cC cP)])])) [dC 1 ti tg,oP (aw (gr aM dR (aN ri rg) fJ)),aa (.inl (108,[fx ri,fx rg])),aa (.inl (75,(du ke))),aa (.inl (108,[fx gP,fx n6])),aa (.inl (108,[fx (cB cP),fx (cC cP)])),aa (.inl (128,(bk fJ)))])))/\(decide (gZ aM ke (b8 Z1)>(0:Int))=ao->Vc (PP Z3/\Fm aM K Z3 (a_ Z1) (bo Z1))/\aY (G (cv (aO [.agg (aO [fx (cB mY),fx (cC mY)]),bE Z2])) [dC 1 ti tg,oP (aw (sg aM K Z3 (a_ Z1) (bo Z1))),aa (.inl (108,[fx ri,fx rg])),aa (.inl (75,(du ke))),aa (.inl (108,[fx (cB mY),fx (cC mY)])),aa (.inl (108,[fx ri,fx rg])),aa (.inl (128,(bk Z1)))]))))) ?_ (by kernel_rfl)
   intro fx Z1 Z2 Z3 Z4 Z5 Z6 Z7 Z8 Z9 cP cz dR fJ gP n6 mY;subst mY n6 gP fJ dR cz cP Z9 Z8 Z7 Z6 Z5 Z4 Z3 Z2 Z1 fx;rw[sF] at hd;have done:∀ (i g i2 g2:Int) (m':Pl) (rest:Hp Rs),js aM K (k+1) m ⟨ri,rg⟩ ke=(⟨i,g⟩,⟨i2,g2⟩,m')->G (.tuple #[.agg ⟨[.int .i64 i,.int .i64 g]⟩,.agg ⟨[.int .i64 i2,.int .i64 g2]⟩]) ([aa (.inl (132,[.pointer (aa ⟨1,0,aj⟩),.int .i64 ti,.int .i64 tg])),aa (.inr (.inr (.inr (.dd m'))))]++rest):=by
    intro i g i2 g2 m' rest e;subst hG;refine⟨[0,1],?_,rfl,⟨.inl rfl,?_,trivial⟩,rfl,rfl,rfl,rfl⟩
    ·simp only[e];rfl
    ·simp only[e];rfl
   clear hG
   try simp only[KO,Ba]
   repeat' (first|apply cZ|apply Vc.mk|apply fits.mk|intro h|apply aY.mk)
   all_goals (try simp only[sB] at *)
   all_goals first|contradiction|omega|exact ju ‹_›|exact jt ‹_›|exact jv ‹_›|exact⟨rfl,by omega⟩|exact rfl|(simp[*,-ax];done)|skip
   all_goals first|assumption|(simp only[ja];assumption)|skip
   all_goals first|(rw[if_neg (by assumption),if_pos (by assumption)] at hd;exact hd)|(rw[if_neg (by assumption),if_neg (by omega),if_pos (by assumption)] at hd;exact hd)|(rw[if_neg (by assumption),if_neg (by omega),if_neg (by omega)] at hd;exact hd)|skip
   all_goals (refine done _ _ _ _ _ _ ?_;rw[js];(try dsimp only [mW]);repeat' split)
   all_goals first|rfl|(exfalso;omega)|contradiction|exact kb (qV (by assumption)) rfl|(exfalso;simp_all;done)
  ·cases hx
def uh  (k:Nat):Prim Rs:=fun args hh=>match args,hh with
 |[.pointer (aa ⟨0,0,aj⟩),.slice (aa ⟨1,0,aa 4000⟩) n cp,.agg ⟨[.int .i64 ri,.int .i64 rg]⟩],[aa (.inl (132,[.pointer (aa ⟨2,0,aj⟩),.int .i64 ti,.int .i64 tg])),aa (.inr (.inl (75,⟨[.int .i64 0,.int .i64 0,.bool ao,.int .i64 0],n2,[⟨a0,[],[]⟩,⟨a1,[],[]⟩,⟨[],a2,[]⟩,⟨a3,[],[]⟩]⟩))),aa (.inr (.inr (.inr (.dd m))))]=>aa ⟨(PP m/\n2=n/\a0.length=n/\a1.length=n/\a2.length=n/\a3.length=n/\n+(b7 aM k m ⟨ri,rg⟩).1.length<900000)/\jb aM k m ⟨ri,rg⟩,.slice (aa ⟨3,0,aa 4000⟩) (n+(b7 aM k m ⟨ri,rg⟩).1.length) (if(b7 aM k m ⟨ri,rg⟩).1.length=0 then cp else 0),aj,[aa (.inl (132,[.pointer (aa ⟨2,0,aj⟩),.int .i64 ti,.int .i64 tg])),aj,aa (.inr (.inr (.inr (.dd (b7 aM k m ⟨ri,rg⟩).2)))),aa (.inr (.inl (75,⟨[.int .i64 0,.int .i64 0,.bool ao,.int .i64 0],(n+(b7 aM k m ⟨ri,rg⟩).1.length),[⟨(a0++(b7 aM k m ⟨ri,rg⟩).1.map fun e=>e.it.k),[],[]⟩,⟨(a1++(b7 aM k m ⟨ri,rg⟩).1.map fun e=>e.it.i),[],[]⟩,⟨[],(a2++(b7 aM k m ⟨ri,rg⟩).1.map fun e=>e.lS),[]⟩,⟨(a3++(b7 aM k m ⟨ri,rg⟩).1.map fun e=>e.time),[],[]⟩]⟩)))],[],[(0,0)]⟩
 |_,_=>aj
def Hr (k:Nat):eK Rs:=[(79,bM zN 2 (a9 j7)),(93,bM zN 2 (a9 (uh k)))]
theorem rQ:∀ k:Nat,ck D Tryz.prog 93 (a9 (uh k))
 |0=>by
  refine fw Tryz.f93 fun args hh x hx=>?_
  unfold uh at hx;split at hx
  ·rename_i n cp ri rg ti tg n2 a0 a1 a2 a3 m;cases hx;refine q4 fun _ hv=>?_
   exact kG (ig hv)
  ·cases hx
 |k+1=>by
  have ih:=rQ k;refine fw Tryz.f93 fun args hh x hx=>?_
  unfold uh at hx;split at hx
  ·rename_i n cp ri rg ti tg n2 a0 a1 a2 a3 m;cases hx;refine q4 fun _ hv=>?_
   obtain⟨⟨hp,rfl,ha0,ha1,ha2,ha3,hb⟩,hd⟩:=hv;generalize hG:ct (R:=Rs) _ _=G;refine cW (T:=(Hr k)) (show cQ D Tryz.prog (Hr k) from⟨aX _ _ look_ok,aX _ _ ih,trivial⟩) mixed 200 ?_
   refine bN (q:=let Z1:=(bt aM m (aN ri rg));let Z2:=(du (jr (cX 0 0) ao 0));let Z3:=(aK m (aN ri rg));let Z4:=(aB (b7 aM k Z3 (a_ Z1)));let Z5:=(n2+ae Z4);let Z6:=(aw (b7 aM k Z3 (a_ Z1)));let Z7:=(b8 Z1);let Z8:=(aB (b7 aM k Z6 (bo Z1)));Vc (PP m)/\((cw Z1==(0:Int))=aq->aY (G (bK (aa ⟨1,0,aa 4000⟩) n2 cp) [dC 2 ti tg,aa (.inr (.inl (75,Row.mk Z2 n2 [aT.mk a0 [] [],aT.mk a1 [] [],aT.mk [] a2 [],aT.mk a3 [] []]))),oP Z3,aa (.inl (108,[.int av ri,.int av rg])),aa (.inr (.inl (75,Row.mk Z2 0 [aT.mk [] [] [],aT.mk [] [] [],aT.mk [] [] [],aT.mk [] [] []]))),aa (.inl (128,(bk Z1)))]))/\((cw Z1==(0:Int))=ao->Vc ((PP Z3/\n2=n2/\ae a0=n2/\ae a1=n2/\ae a2=n2/\ae a3=n2/\n2+ae Z4<900000)/\jb aM k Z3 (a_ Z1))/\Vc (0+Z5≤n2+ae Z4/\1≤1/\(n2+ae Z4+1)*32≤140737488355328/\n2+ae Z4+1≤140737488355328)/\Vc ((PP Z6/\n2+ae Z4+1=n2+ae Z4+1/\ae (cut (a0++au (fun e=>mZ (lI e)) Z4) 0 Z5++cut [mZ (lI Z7)] 0 1)=n2+ae Z4+1/\ae (cut (a1++au (fun e=>m7 (lI e)) Z4) 0 Z5++cut [m7 (lI Z7)] 0 1)=n2+ae Z4+1/\ae (cut (a2++au (fun e=>o4 e) Z4) 0 Z5++cut [o4 Z7] 0 1)=n2+ae Z4+1/\ae (cut (a3++au (fun e=>qx e) Z4) 0 Z5++cut [qx Z7] 0 1)=n2+ae Z4+1/\n2+ae Z4+1+ae Z8<900000)/\jb aM k Z6 (bo Z1))/\aY (G (bK (aa ⟨9,0,aa 4000⟩) (n2+ae Z4+1+ae Z8) (if ae Z8=0 then 0 else 0)) [dC 2 ti tg,aj,oP (aw (b7 aM k Z6 (bo Z1))),aa (.inl (108,[.int av ri,.int av rg])),aa (.inr (.inl (75,Row.mk Z2 0 [aT.mk [] [] [],aT.mk [] [] [],aT.mk [] [] [],aT.mk [] [] []]))),aa (.inl (128,(bk Z1))),aj,aa (.inr (.inl (75,Row.mk Z2 1 [aT.mk [mZ (lI Z7)] [] [],aT.mk [m7 (lI Z7)] [] [],aT.mk [] [o4 Z7] [],aT.mk [qx Z7] [] []]))),aj,aa (.inr (.inl (75,Row.mk Z2 (n2+ae Z4+1+ae Z8) [aT.mk (cut (a0++au (fun e=>mZ (lI e)) Z4) 0 Z5++cut [mZ (lI Z7)] 0 1++au (fun e=>mZ (lI e)) Z8) [] [],aT.mk (cut (a1++au (fun e=>m7 (lI e)) Z4) 0 Z5++cut [m7 (lI Z7)] 0 1++au (fun e=>m7 (lI e)) Z8) [] [],aT.mk [] (cut (a2++au (fun e=>o4 e) Z4) 0 Z5++cut [o4 Z7] 0 1++au (fun e=>o4 e) Z8) [],aT.mk (cut (a3++au (fun e=>qx e) Z4) 0 Z5++cut [qx Z7] 0 1++au (fun e=>qx e) Z8) [] []])))]))) ?_ (by kernel_rfl)
   intro Z1 Z2 Z3 Z4 Z5 Z6 Z7 Z8;subst Z8 Z7 Z6 Z5 Z4 Z3 Z2 Z1;simp only[jb] at hd;subst hG;have c1:∀ x:Int,cut [x] 0 1=[x]:=fun x=>rfl
   have c2:∀ x:Bool,cut [x] 0 1=[x]:=fun x=>rfl
   have e0:(bt aM m (⟨ri,rg⟩:bn)).h=0->b7 aM (k+1) m (⟨ri,rg⟩:bn)=([],aK m (⟨ri,rg⟩:bn)):=fun h=>by rw[b7,if_pos h]
   have e1:(bt aM m (⟨ri,rg⟩:bn)).h≠0->b7 aM (k+1) m (⟨ri,rg⟩:bn)=((b7 aM k (aK m (⟨ri,rg⟩:bn)) (bt aM m (⟨ri,rg⟩:bn)).l).1++(bt aM m (⟨ri,rg⟩:bn)).e::(b7 aM k (b7 aM k (aK m (⟨ri,rg⟩:bn)) (bt aM m (⟨ri,rg⟩:bn)).l).2 (bt aM m (⟨ri,rg⟩:bn)).r).1,(b7 aM k (b7 aM k (aK m (⟨ri,rg⟩:bn)) (bt aM m (⟨ri,rg⟩:bn)).l).2 (bt aM m (⟨ri,rg⟩:bn)).r).2):=fun h=>by rw[b7,if_neg h]
   have L6:(bt aM m (⟨ri,rg⟩:bn)).h≠0->n2+((b7 aM k (aK m (⟨ri,rg⟩:bn)) (bt aM m (⟨ri,rg⟩:bn)).l).1.length+((b7 aM k (b7 aM k (aK m (⟨ri,rg⟩:bn)) (bt aM m (⟨ri,rg⟩:bn)).l).2 (bt aM m (⟨ri,rg⟩:bn)).r).1.length+1))<900000:=fun h=>by rw[e1 h] at hb;simpa using hb
   generalize hx:b7 aM k (aK m (⟨ri,rg⟩:bn)) (bt aM m (⟨ri,rg⟩:bn)).l=x at *
   generalize hy:b7 aM k x.2 (bt aM m (⟨ri,rg⟩:bn)).r=y at *
   have hxp:PP x.2:=by rw[← hx];exact Gv.rQ.2 (jc.2 hp)
   have xa:∀ q,jb aM k x.2 q↔jb aM k m q:=fun q=>by rw[← hx,Gv.LX,qw]
   simp only[fD (show(a0++x.1.map fun e=>e.it.k).length=n2+x.1.length by simp[ha0]),fD (show(a1++x.1.map fun e=>e.it.i).length=n2+x.1.length by simp[ha1]),fD (show(a2++x.1.map fun e=>e.lS).length=n2+x.1.length by simp[ha2]),fD (show(a3++x.1.map fun e=>e.time).length=n2+x.1.length by simp[ha3]),c1,c2,qw,xa]
   repeat' (first|apply cZ|apply Vc.mk|apply fits.mk|intro h|apply aY.mk)
   all_goals (try simp only[sB] at *)
   all_goals first|contradiction|omega|exact ju ‹_›|exact jt ‹_›|exact jv ‹_›|exact⟨rfl,by omega⟩|exact rfl|(simp[*,-ax];done)|skip
   all_goals first|omega|assumption|exact jc.2 hp|(rcases hd with hd|hd;exfalso;omega;first|exact hd.1|exact hd.2)|(have:=L6 (by assumption);omega)|(simp;omega)|skip
   ·have h0:(bt aM m (⟨ri,rg⟩:bn)).h=0:=by assumption
    rw[e0 h0];simp only[ky,if_true];refine⟨[0,1,2,1],?_,rfl,?_,rfl,rfl,rfl,(by kernel_rfl)⟩
    ·rfl
    ·simp[du,tW,AL,nth,fU,w7,pw,lQ,gg,vW,uu,BL,zo,FE,yO,AE]
   ·have h0:(bt aM m (⟨ri,rg⟩:bn)).h≠0:=by assumption
    rw[e1 h0];have e2:n2+(x.1++(bt aM m (⟨ri,rg⟩:bn)).e::y.1).length=n2+x.1.length+1+y.1.length:=by simp;omega
    have e3:(x.1++(bt aM m (⟨ri,rg⟩:bn)).e::y.1).length≠0:=by simp
    simp only[e2,if_neg e3,ite_self];refine⟨[0,1,2,9],?_,rfl,?_,rfl,rfl,rfl,(by kernel_rfl)⟩
    ·rfl
    ·simp[du,tW,AL,nth,fU,w7,pw,lQ,gg,vW,uu,BL,zo,FE,yO,AE]
     all_goals first|rfl|omega|skip
  ·cases hx
set_option maxHeartbeats 16000000
def Vt:eK Rs:=[(131,bM zN 2 (a9 MP))]
theorem Q0:cQ D Tryz.prog Vt:=⟨aX _ _ U_,trivial⟩
def Ik:Prim Rs:=fun args hh=>match args,hh with
 |[.int .i64 c],[]=>aa ⟨True,.pointer (aa ⟨0,0,aj⟩),aj,[aa (.inl (132,[.pointer (aa ⟨1,0,aj⟩),.int .i64 Gv.r0.i,.int .i64 Gv.r0.g])),aa (.inr (.inr (.inr (.dd ⟨[],[],[],[],0,min (max c 0) 16777216,0⟩))))],[],[(0,0)]⟩
 |_,_=>aj
theorem Qu:ck D Tryz.prog 91 (a9 Ik):=by
 refine fw Tryz.f91 fun args hh x hx=>?_
 unfold Ik at hx;split at hx
 ·rename_i c;cases hx;refine q4 fun _ hv=>?_
  generalize hG:ct (R:=Rs) _ _=G;refine cW (T:=Vt) Q0 mixed 200 ?_;refine bN (q:=Vc True/\aY (G (aE (aa ⟨1,0,aj⟩)) [oP (Gv.PM.mk [] [] [] [] (0:Int) (min (max c (0:Int)) (16777216:Int)) (0:Int)),dC 0 0 0])) ?_ (by kernel_rfl)
  subst hG
  repeat' (first|apply cZ|apply Vc.mk|apply fits.mk|intro h|apply aY.mk)
  all_goals (try simp only[sB] at *)
  all_goals first|contradiction|omega|exact ju ‹_›|exact jt ‹_›|exact jv ‹_›|exact⟨rfl,by omega⟩|exact rfl|(simp[*,-ax];done)|skip
  exact⟨[1,0],rfl,rfl,⟨.inl rfl,rfl,trivial⟩,rfl,rfl,rfl,rfl⟩
 ·cases hx
def KC:eK Rs:=[(79,bM zN 2 (a9 j7))]
theorem Kg:cQ D Tryz.prog KC:=⟨aX _ _ look_ok,trivial⟩
def BQ:Prim Rs:=fun args hh=>match args,hh with
 |[.pointer (aa ⟨0,0,aj⟩)],[aa (.inl (132,[.pointer (aa ⟨1,0,aj⟩),.int .i64 ti,.int .i64 tg])),aa (.inr (.inr (.inr (.dd m))))]=>aa ⟨PP m,.int .i64 (bt aM m (⟨ti,tg⟩:bn)).all.n,aj,[aa (.inl (132,[.pointer (aa ⟨1,0,aj⟩),.int .i64 ti,.int .i64 tg])),aa (.inr (.inr (.inr (.dd (aK m (⟨ti,tg⟩:bn))))))],[],[(0,0)]⟩
 |_,_=>aj
theorem JM:ck D Tryz.prog 38 (a9 BQ):=by
 refine fw Tryz.f38 fun args hh x hx=>?_
 unfold BQ at hx;split at hx
 ·rename_i ti tg m;cases hx;refine q4 fun _ hv=>?_
  generalize hG:ct (R:=Rs) _ _=G;refine cW (T:=KC) Kg mixed 200 ?_;refine bN (q:=Vc (PP m)/\aY (G (bs av (bP (bw (bt aM m (aN ti tg))))) [dC 1 ti tg,oP (aK m (aN ti tg))])) ?_ (by kernel_rfl)
  subst hG
  repeat' (first|apply cZ|apply Vc.mk|apply fits.mk|intro h|apply aY.mk)
  all_goals (try simp only[sB] at *)
  all_goals first|contradiction|omega|exact ju ‹_›|exact jt ‹_›|exact jv ‹_›|exact⟨rfl,by omega⟩|exact rfl|(simp[*,-ax];done)|skip
  all_goals first|assumption|(simp only[ja];assumption)|skip
  exact⟨[0,1],rfl,rfl,⟨.inl rfl,rfl,trivial⟩,rfl,rfl,rfl,rfl⟩
 ·cases hx
def U0:eK Rs:=[(118,bM zN 2 (a9 BY))]
theorem Rz:cQ D Tryz.prog U0:=⟨aX _ _ Kz,trivial⟩
def yP:Prim Rs:=fun args hh=>match args,hh with
 |[.pointer (aa ⟨0,0,aj⟩)],[aa (.inl (132,[.pointer (aa ⟨1,0,aj⟩),.int .i64 ti,.int .i64 tg])),aa (.inr (.inr (.inr (.dd m))))]=>aa ⟨True,.int .i64 m.cY,aj,hh,[],[]⟩
 |_,_=>aj
theorem HK:ck D Tryz.prog 77 (a9 yP):=by
 refine fw Tryz.f77 fun args hh x hx=>?_
 unfold yP at hx;split at hx
 ·rename_i ti tg m;cases hx;refine q4 fun _ hv=>?_
  generalize hG:ct (R:=Rs) _ _=G;refine cW (T:=U0) Rz mixed 200 ?_;refine bN (q:=Vc True/\aY (G (bs av (gY m)) [dC 1 ti tg,oP m])) ?_ (by kernel_rfl)
  subst hG
  repeat' (first|apply cZ|apply Vc.mk|apply fits.mk|intro h|apply aY.mk)
  all_goals (try simp only[sB] at *)
  all_goals first|contradiction|omega|exact ju ‹_›|exact jt ‹_›|exact jv ‹_›|exact⟨rfl,by omega⟩|exact rfl|(simp[*,-ax];done)|skip
  exact⟨[0,1],rfl,rfl,⟨.inl rfl,rfl,trivial⟩,rfl,rfl,rfl,rfl⟩
 ·cases hx
def Ip (K:Nat):Prim Rs:=fun args hh=>match args,hh with
 |[.pointer (aa ⟨0,0,aj⟩),.agg ⟨kE⟩],[aa (.inl (132,[.pointer (aa ⟨1,0,aj⟩),.int .i64 ti,.int .i64 tg])),aa (.inr (.inr (.inr (.dd m))))]=>aa ⟨kE=du (fR kE)/\(PP m/\Gv.Qi aM K m (⟨ti,tg⟩:bn) (fR kE)),.bool (uP aM K m (⟨ti,tg⟩:bn) (fR kE)).1,aj,[aa (.inl (132,[.pointer (aa ⟨1,0,aj⟩),.int .i64 (uP aM K m (⟨ti,tg⟩:bn) (fR kE)).2.1.i,.int .i64 (uP aM K m (⟨ti,tg⟩:bn) (fR kE)).2.1.g])),aa (.inr (.inr (.inr (.dd (uP aM K m (⟨ti,tg⟩:bn) (fR kE)).2.2))))],[],[(0,0)]⟩
 |_,_=>aj
def Oq (K:Nat):eK Rs:=[(100,bM zN 2 (a9 (sy K))),(102,bM zN 2 (a9 Ag)),(101,bM zN 2 (a9 H4)),(103,bM zN 2 (a9 (Az K)))]
theorem Ro (K:Nat):ck D Tryz.prog 68 (a9 (Ip K)):=by
 refine fw Tryz.f68 fun args hh x hx=>?_
 unfold Ip at hx;split at hx
 ·rename_i kE ti tg m;cases hx;refine q4 fun _ hv=>?_
  obtain⟨jQ,hv⟩:=hv;generalize fR kE=ke at *;subst jQ;obtain⟨hp,hd⟩:=hv
  generalize hG:ct (R:=Rs) _ _=G;refine cW (T:=(Oq K)) (show cQ D Tryz.prog (Oq K) from⟨aX _ _ (rN K),aX _ _ yz,aX _ _ tn,aX _ _ (xK K),trivial⟩) mixed 200 ?_
  refine bN (q:=let Z1:=(nG aM K m (aN ti tg) ke);let Z2:=(fy ke (aN (0:Int) (0:Int)) (aN (0:Int) (0:Int)) (nN aM ke) (1:Int));let Z3:=(tF zd (aw Z1) Z2);let Z4:=(aD !decide (fP (aw Z1)=ic (aw Z1)));let Z5:=(nF aM K Z3 (aN ti tg) (lg zd (aw Z1)) ke);Vc ((du ke)=du ke/\PP m/\jb aM K m (aN ti tg))/\(aB Z1=aq->aY (G (aD aq) [dC 1 ti tg,oP (aw Z1),aa (.inl (75,(du ke)))]))/\(aB Z1=ao->Vc ((du ke)=du ke/\True)/\Vc ((bk (fy ke (aN 0 0) (aN 0 0) (nN aM ke) 1))=bk Z2/\PP (aw Z1))/\((!decide (fP (aw Z1)=ic (aw Z1)))=aq->Vc ((du ke)=du ke/\PP Z3/\jb aM K Z3 (aN ti tg))/\aY (G Z4 [dC 1 (cB (aB Z5)) (cC (aB Z5)),oP (aw Z5),aa (.inl (75,(du ke))),aa (.inl (108,[.int av (cB (lg zd (aw Z1))),.int av (cC (lg zd (aw Z1)))]))]))/\((!decide (fP (aw Z1)=ic (aw Z1)))=ao->aY (G Z4 [dC 1 ti tg,oP Z3,aa (.inl (75,(du ke))),aa (.inl (108,[.int av (cB (lg zd (aw Z1))),.int av (cC (lg zd (aw Z1)))]))])))) ?_ (by kernel_rfl)
  intro Z1 Z2 Z3 Z4 Z5;subst Z5 Z4 Z3 Z2 Z1;obtain⟨T_,xa⟩:=hd;have done:∀ (b:Bool) (i g:Int) (m':Pl) (rest:Hp Rs),uP aM K m (⟨ti,tg⟩:bn) ke=(b,⟨i,g⟩,m')->G (.bool b) ([aa (.inl (132,[.pointer (aa ⟨1,0,aj⟩),.int .i64 (⟨i,g⟩:bn).i,.int .i64 (⟨i,g⟩:bn).g])),aa (.inr (.inr (.inr (.dd m'))))]++rest):=by
   intro b i g m' rest e;subst hG;refine⟨[0,1],?_,rfl,⟨.inl ?_,?_,trivial⟩,rfl,rfl,rfl,rfl⟩
   ·simp only[e];rfl
   ·simp only[e];rfl
   ·simp only[e];rfl
  clear hG
  repeat' (first|apply cZ|apply Vc.mk|apply fits.mk|intro h|apply aY.mk)
  all_goals (try simp only[sB] at *)
  all_goals first|contradiction|omega|exact ju ‹_›|exact jt ‹_›|exact jv ‹_›|exact⟨rfl,by omega⟩|exact rfl|(simp[*,-ax];done)|skip
  all_goals first|assumption|(simp only[ja];assumption)|skip
  all_goals first|exact(xa (by assumption)).1|exact(xa (by assumption)).2|skip
  all_goals (refine done _ _ _ _ _ ?_;unfold uP;repeat' split)
  all_goals first|rfl|(exfalso;simp_all;done)|(refine kb ?_ rfl;simp[*];done)
 ·cases hx
def Ex (K:Nat):Prim Rs:=fun args hh=>match args,hh with
 |[.pointer (aa ⟨0,0,aj⟩),.agg ⟨kE⟩],[aa (.inl (132,[.pointer (aa ⟨1,0,aj⟩),.int .i64 ti,.int .i64 tg])),aa (.inr (.inr (.inr (.dd m))))]=>aa ⟨kE=du (fR kE)/\(PP m/\sF aM K K m (⟨ti,tg⟩:bn) (fR kE)),.tuple #[.agg ⟨du (jO aM K m (⟨ti,tg⟩:bn) (fR kE)).1⟩,.bool (jO aM K m (⟨ti,tg⟩:bn) (fR kE)).2.1],aj,[aa (.inl (132,[.pointer (aa ⟨1,0,aj⟩),.int .i64 (jO aM K m (⟨ti,tg⟩:bn) (fR kE)).2.2.1.i,.int .i64 (jO aM K m (⟨ti,tg⟩:bn) (fR kE)).2.2.1.g])),aa (.inr (.inr (.inr (.dd (jO aM K m (⟨ti,tg⟩:bn) (fR kE)).2.2.2))))],[],[(0,0)]⟩
 |_,_=>aj
def JQ (K:Nat):eK Rs:=[(115,bM zN 2 (a9 (AD K K))),(116,bM zN 2 (a9 Cb))]
theorem M2 (K:Nat):ck D Tryz.prog 75 (a9 (Ex K)):=by
 refine fw Tryz.f75 fun args hh x hx=>?_
 unfold Ex at hx;split at hx
 ·rename_i kE ti tg m;cases hx;refine q4 fun _ hv=>?_
  obtain⟨jQ,hv⟩:=hv;generalize fR kE=ke at *;subst jQ;obtain⟨hp,hd⟩:=hv
  generalize hG:ct (R:=Rs) _ _=G;refine cW (T:=(JQ K)) (show cQ D Tryz.prog (JQ K) from⟨aX _ _ (xv K K),aX _ _ tc,trivial⟩) mixed 200 ?_
  refine bN (q:=let Z1:=(aw (aw (js aM K K m (aN ti tg) ke)));let Z2:=(aB (aw (js aM K K m (aN ti tg) ke)));let Z3:=(cB (aB (js aM K K m (aN ti tg) ke)));let Z4:=(cC (aB (js aM K K m (aN ti tg) ke)));Vc ((du ke)=du ke/\PP m/\sF aM K K m (aN ti tg) ke)/\Vc (PP Z1)/\aY (G (cv (aO [.agg (aO (du (b8 (jN zd Z1 Z2)))),.bool (yA Z1 Z2)])) [dC 1 Z3 Z4,oP (v_ zd Z1 Z2),aa (.inl (75,(du ke))),aa (.inl (75,(du (b8 (jN zd Z1 Z2))))),aa (.inl (108,[.int av Z3,.int av Z4])),aa (.inl (108,[.int av (cB Z2),.int av (cC Z2)])),aa (.inl (128,(bk (jN zd Z1 Z2))))])) ?_ (by kernel_rfl)
  intro Z1 Z2 Z3 Z4;subst Z4 Z3 Z2 Z1;subst hG
  repeat' (first|apply cZ|apply Vc.mk|apply fits.mk|intro h|apply aY.mk)
  all_goals (try simp only[sB] at *)
  all_goals first|contradiction|omega|exact ju ‹_›|exact jt ‹_›|exact jv ‹_›|exact⟨rfl,by omega⟩|exact rfl|(simp[*,-ax];done)|skip
  all_goals first|assumption|(simp only[ja];assumption)|skip
  exact⟨[0,1],rfl,rfl,⟨.inl rfl,rfl,trivial⟩,rfl,rfl,rfl,rfl⟩
 ·cases hx
theorem Nr:K9 [0] (a9 BQ):=by
 intro b args h x hx i hi hl;cases b with
 |false=>cases hx
 |true =>
  simp only[a9,je.go,BQ] at hx;split at hx
  ·injection hx with hx
   subst hx;simp only[List.mem_singleton] at hi;subst hi
   rfl
  ·cases hx
def H_ (K:Nat):Prim Rs:=fun args hh=>match args,hh with
 |[.pointer (aa ⟨0,0,aj⟩)],[aa (.inl (132,[.pointer (aa ⟨1,0,aj⟩),.int .i64 ti,.int .i64 tg])),aa (.inr (.inr (.inr (.dd m))))]=>aa ⟨PP m/\jb aM K m (⟨ti,tg⟩:bn)/\(bt aM m (⟨ti,tg⟩:bn)).all.n=(b7 aM K (aK m (⟨ti,tg⟩:bn)) (⟨ti,tg⟩:bn)).1.length/\(b7 aM K (aK m (⟨ti,tg⟩:bn)) (⟨ti,tg⟩:bn)).1.length<900000,.slice (aa ⟨2,0,aa 4000⟩) (b7 aM K (aK m (⟨ti,tg⟩:bn)) (⟨ti,tg⟩:bn)).1.length 0,aj,[aa (.inl (132,[.pointer (aa ⟨1,0,aj⟩),.int .i64 ti,.int .i64 tg])),aa (.inr (.inr (.inr (.dd (b7 aM K (aK m (⟨ti,tg⟩:bn)) (⟨ti,tg⟩:bn)).2)))),aa (.inr (.inl (75,⟨[.int .i64 0,.int .i64 0,.bool ao,.int .i64 0],(b7 aM K (aK m (⟨ti,tg⟩:bn)) (⟨ti,tg⟩:bn)).1.length,[⟨((b7 aM K (aK m (⟨ti,tg⟩:bn)) (⟨ti,tg⟩:bn)).1.map fun e=>e.it.k),[],[]⟩,⟨((b7 aM K (aK m (⟨ti,tg⟩:bn)) (⟨ti,tg⟩:bn)).1.map fun e=>e.it.i),[],[]⟩,⟨[],((b7 aM K (aK m (⟨ti,tg⟩:bn)) (⟨ti,tg⟩:bn)).1.map fun e=>e.lS),[]⟩,⟨((b7 aM K (aK m (⟨ti,tg⟩:bn)) (⟨ti,tg⟩:bn)).1.map fun e=>e.time),[],[]⟩]⟩)))],[],[(0,0)]⟩
 |_,_=>aj
def PW (K:Nat):eK Rs:=[(38,Cy [0] 2 (a9 BQ)),(93,bM zN 2 (a9 (uh K)))]
theorem Ql (K:Nat):ck D Tryz.prog 61 (a9 (H_ K)):=by
 refine fw Tryz.f61 fun args hh x hx=>?_
 unfold H_ at hx;split at hx
 ·rename_i ti tg m;cases hx;refine q4 fun _ hv=>?_
  obtain⟨hp,hd⟩:=hv;generalize hG:ct (R:=Rs) _ _=G;refine cW (T:=(PW K)) (show cQ D Tryz.prog (PW K) from⟨Cu _ _ JM Nr,aX _ _ (rQ K),trivial⟩) mixed 200 ?_
  refine bN (q:=let Z1:=(bw (bt aM m (aN ti tg)));let Z2:=(b7 aM K (aK m (aN ti tg)) (aN ti tg));Vc (PP m)/\Vc ((0:Int)≤(0:Int)/\(0:Int)≤bP Z1/\bP Z1*(32:Int)≤(140737488355328:Int)/\bP Z1≤(140737488355328:Int))/\Vc ((PP (aK m (aN ti tg))/\0=0/\0=0/\0=0/\0=0/\0=0/\0+ae (aB Z2)<900000)/\jb aM K (aK m (aN ti tg)) (aN ti tg))/\aY (G (bK (aa ⟨4,0,aa 4000⟩) (0+ae (aB Z2)) (if ae (aB Z2)=0 then aI (bP Z1) else 0)) [dC 1 ti tg,oP (aw Z2),aa (.inr (.inl (75,Row.mk (du (jr (cX 0 0) ao 0)) 0 [aT.mk [] [] [],aT.mk [] [] [],aT.mk [] [] [],aT.mk [] [] []]))),aj,aa (.inr (.inl (75,Row.mk (du (jr (cX 0 0) ao 0)) (0+ae (aB Z2)) [aT.mk ([]++au (fun e=>mZ (lI e)) (aB Z2)) [] [],aT.mk ([]++au (fun e=>m7 (lI e)) (aB Z2)) [] [],aT.mk [] ([]++au (fun e=>o4 e) (aB Z2)) [],aT.mk ([]++au (fun e=>qx e) (aB Z2)) [] []])))])) ?_ (by kernel_rfl)
  intro Z1 Z2;subst Z2 Z1;subst hG;obtain⟨T_,xa,hd4⟩:=hd;have hd5:=(qw (s:=(⟨ti,tg⟩:bn))).2 T_;have e2:(if(b7 aM K (aK m (⟨ti,tg⟩:bn)) (⟨ti,tg⟩:bn)).1.length=0 then(bt aM m (⟨ti,tg⟩:bn)).all.n.toNat else 0)=0:=by rw[xa];split<;>omega
  simp only[e2,b5,List.nil_append]
  repeat' (first|apply cZ|apply Vc.mk|apply fits.mk|intro h|apply aY.mk)
  all_goals (try simp only[sB] at *)
  all_goals first|contradiction|omega|exact ju ‹_›|exact jt ‹_›|exact jv ‹_›|exact⟨rfl,by omega⟩|exact rfl|(simp[*,-ax];done)|skip
  all_goals first|omega|assumption|exact jc.2 hp|(simp;done)|skip
  refine⟨[0,1,4],?_,rfl,?_,rfl,rfl,rfl,rfl⟩
  ·rfl
  ·simp[du,tW,AL,nth,fU,w7,pw,lQ,gg,vW,uu,BL,zo,FE,yO,AE]
   all_goals first|rfl|skip
 ·cases hx
def EU (K:Nat):Prim Rs:=fun args hh=>match args,hh with
 |[.pointer (aa ⟨0,0,aj⟩),.agg ⟨kE⟩],[aa (.inl (132,[.pointer (aa ⟨1,0,aj⟩),.int .i64 ti,.int .i64 tg])),aa (.inr (.inr (.inr (.dd m))))]=>aa ⟨kE=du (fR kE)/\(PP m/\vw aM K (aK m (⟨ti,tg⟩:bn)) (bt aM m (⟨ti,tg⟩:bn)) (fR kE)),.tuple #[.agg ⟨du (iB aM K (aK m (⟨ti,tg⟩:bn)) (bt aM m (⟨ti,tg⟩:bn)) (fR kE)).1.1⟩,.bool (iB aM K (aK m (⟨ti,tg⟩:bn)) (bt aM m (⟨ti,tg⟩:bn)) (fR kE)).1.2],aj,[aa (.inl (132,[.pointer (aa ⟨1,0,aj⟩),.int .i64 ti,.int .i64 tg])),aa (.inr (.inr (.inr (.dd (iB aM K (aK m (⟨ti,tg⟩:bn)) (bt aM m (⟨ti,tg⟩:bn)) (fR kE)).2))))],[],[(0,0)]⟩
 |_,_=>aj
def Al (K:Nat):eK Rs:=[(79,bM zN 2 (a9 j7)),(106,bM zN 2 (a9 IW))]
theorem NG (K:Nat):ck D Tryz.prog 94 (a9 (EU K)):=by
 refine fw Tryz.f94 fun args hh x hx=>?_
 unfold EU at hx;split at hx
 ·rename_i kE ti tg m;cases hx;refine q4 fun _ hv=>?_
  obtain⟨jQ,hv⟩:=hv;generalize fR kE=ke at *;subst jQ;obtain⟨hp,hd⟩:=hv
  generalize hG:ct (R:=Rs) _ _=G;refine cW (T:=(Al K)) (show cQ D Tryz.prog (Al K) from⟨aX _ _ look_ok,aX _ _ xS,trivial⟩) mixed 200 ?_
  refine bN (q:=let Z1:=(aE (aa ⟨0,0,aj⟩));Vc (PP m)/\At D Tryz.prog (dM Tryz.f94) 2 (iD Tryz.prog (dF (dG Tryz.f94)) G) [.inl [1,1,0,0],.inr (.inl 0),.inl [1,1,1]] (SS.mk (aa Z1::aa (bE (aO (du ke)))::aj::aa (aE (aa ⟨2,0,aj⟩))::aa (aE (aa ⟨3,0,aj⟩))::aa (aD ao)::aa (aE (aa ⟨4,0,aj⟩))::aj::aj::aa Z1::aa Z1::aa Z1::aa (aE (aa ⟨0,1,aj⟩))::aa (bE (aO [.int av ti,.int av tg]))::aa (bE (aO (bk (bt aM m (aN ti tg)))))::nH (n4 (aj::aj::aj::[]))) [(5,ao)] [dC 1 ti tg,oP (aK m (aN ti tg)),aa (.inl (75,(du ke))),aa (.inl (75,(du (jr (cX 0 0) ao 0)))),aa (.inl (128,(bk (bt aM m (aN ti tg)))))])) ?_ (by kernel_rfl)
  intro Z1;subst Z1;refine⟨⟨hp⟩,?_⟩;refine lC (by kernel_rfl) (ι:=Nat×Nd×Pl) (fun s=>PP s.2.2/\vw aM s.1 s.2.2 s.2.1 ke/\iB aM s.1 s.2.2 s.2.1 ke=iB aM K (aK m (⟨ti,tg⟩:bn)) (bt aM m (⟨ti,tg⟩:bn)) ke) [0,3,4,5,6] (fun s=>[.pointer (aa ⟨0,0,aj⟩),.pointer (aa ⟨2,0,aj⟩),.pointer (aa ⟨3,0,aj⟩),.bool ao,.pointer (aa ⟨4,0,aj⟩)]) (fun s=>[aa (.inl (132,[.pointer (aa ⟨1,0,aj⟩),.int .i64 ti,.int .i64 tg])),aa (.inr (.inr (.inr (.dd s.2.2)))),aa (.inl (75,du ke)),aa (.inl (75,[.int .i64 0,.int .i64 0,.bool ao,.int .i64 0])),aa (.inl (128,bk s.2.1))]) (fun s=>s.1) (Tryz.f94).ntmps (fun s hs=>⟨rfl,rfl,tG _ _⟩) ⟨(K,bt aM m (⟨ti,tg⟩:bn),aK m (⟨ti,tg⟩:bn)),⟨jc.2 hp,hd,rfl⟩,⟨[0,1,2,3,4],rfl,⟨.inl rfl,rfl,.inl rfl,.inl rfl,.inl rfl,trivial⟩,rfl,rfl,rfl,rfl⟩⟩ fun s hs=>?_
  obtain⟨k,n,m2⟩:=s;obtain⟨s1,s2,s3⟩:=hs;simp only at s1 s2 s3;rcases k with _|k
  ·exact s2.elim
  refine cW (T:=Al K) (show cQ D Tryz.prog (Al K) from⟨aX _ _ look_ok,aX _ _ xS,trivial⟩) mixed 200 ?_
  refine bN (q:=let Z5:=aE (aa ⟨4,0,aj⟩);let Z6:=aE (aa ⟨3,0,aj⟩);let Z7:=aE (aa ⟨0,0,aj⟩);let Z8:=aE (aa ⟨2,0,aj⟩);let Z1:=(gZ aM ke (b8 (aB (n,m2)))==(0:Int));let Z2:=(aw (n,m2));let Z3:=(gZ aM ke (b8 (aB (n,m2)))<(0:Int));let Z4:=(du (jr (cX 0 0) ao 0));(decide (cw (aB (n,m2))>(0:Int))=aq->Vc True/\Vc True/\(Z1=aq->aY (G (cv (aO [.agg (aO (du (b8 (aB (n,m2))))),.bool aq])) [dC 1 ti tg,oP Z2,aa (.inl (75,(du ke))),aa (.inl (75,(du (b8 (aB (n,m2)))))),aa (.inl (128,(bk (aB (n,m2)))))]))/\(Z1=ao->(decide Z3=aq->Vc (PP Z2)/\aY (∃ j,(PP (aw (aw j))/\vw aM (aB j) (aw (aw j)) (aB (aw j)) ke/\iB aM (aB j) (aw (aw j)) (aB (aw j)) ke=iB aM K (aK m (aN ti tg)) (bt aM m (aN ti tg)) ke)/\aB j<k+1/\j4 Rs 2 (pc Tryz.f94) [0,3,4,5,6] [Z7,Z8,Z6,.bool ao,Z5] [dC 1 ti tg,oP (aw (aw j)),aa (.inl ((75:TypeId),du ke)),aa (.inl ((75:TypeId),Z4)),aa (.inl ((128:TypeId),bk (aB (aw j))))] [aa (Z7),aa (Z8),aa (Z6),aa (aD ao),aa (Z5)] [dC 1 ti tg,oP (aK Z2 (a_ (aB (n,m2)))),aa (.inl (75,(du ke))),aa (.inl (75,Z4)),aa (.inl (128,(bk (bt aM Z2 (a_ (aB (n,m2)))))))] 38))/\(decide Z3=ao->Vc (PP Z2)/\aY (∃ j,(PP (aw (aw j))/\vw aM (aB j) (aw (aw j)) (aB (aw j)) ke/\iB aM (aB j) (aw (aw j)) (aB (aw j)) ke=iB aM K (aK m (aN ti tg)) (bt aM m (aN ti tg)) ke)/\aB j<k+1/\j4 Rs 2 (pc Tryz.f94) [0,3,4,5,6] [Z7,Z8,Z6,.bool ao,Z5] [dC 1 ti tg,oP (aw (aw j)),aa (.inl ((75:TypeId),du ke)),aa (.inl ((75:TypeId),Z4)),aa (.inl ((128:TypeId),bk (aB (aw j))))] [aa (Z7),aa (Z8),aa (Z6),aa (aD ao),aa (Z5)] [dC 1 ti tg,oP (aK Z2 (bo (aB (n,m2)))),aa (.inl (75,(du ke))),aa (.inl (75,Z4)),aa (.inl (128,(bk (bt aM Z2 (bo (aB (n,m2)))))))] 38))))/\(decide (cw (aB (n,m2))>(0:Int))=ao->aY (G (cv (aO [.agg (aO Z4),.bool ao])) [dC 1 ti tg,oP Z2,aa (.inl (75,(du ke))),aa (.inl (75,Z4)),aa (.inl (128,(bk (aB (n,m2))))),aa (.inl (75,Z4))]))) ?_ (by kernel_rfl)
  intro Z5 Z6 Z7 Z8 Z1 Z2 Z3 Z4;subst Z4 Z3 Z2 Z1 Z8 Z7 Z6 Z5;rw[vw] at s2;rw[iB] at s3;subst hG
  repeat' (first|apply cZ|apply Vc.mk|apply fits.mk|intro h|apply aY.mk)
  all_goals (try simp only[sB] at *)
  all_goals first|contradiction|omega|exact ju ‹_›|exact jt ‹_›|exact jv ‹_›|exact⟨rfl,by omega⟩|exact rfl|(simp[*,-ax];done)|skip
  all_goals first|assumption|skip
  ·have h1:n.h>0:=by assumption
   have h2:aM.cmp ke n.e=0:=by assumption
   rw[if_pos h1,if_pos h2] at s3;rw[← s3];exact⟨[0,1],rfl,rfl,⟨.inl rfl,rfl,trivial⟩,rfl,rfl,rfl,rfl⟩
  ·have h1:n.h>0:=by assumption
   have h2:aM.cmp ke n.e≠0:=by assumption
   have h3:aM.cmp ke n.e<0:=by assumption
   rw[if_pos h1,if_neg h2,if_pos h3] at s3;exact⟨(k,bt aM m2 n.l,aK m2 n.l),⟨jc.2 s1,(s2 h1 h2).1 (by omega),s3⟩,fC _,⟨[0,1,2,3,4],rfl,⟨.inl rfl,rfl,.inl rfl,.inl rfl,.inl rfl,trivial⟩,rfl,rfl,rfl,rfl⟩⟩
  ·have h1:n.h>0:=by assumption
   have h2:aM.cmp ke n.e≠0:=by assumption
   have h3:¬ aM.cmp ke n.e<0:=by omega
   rw[if_pos h1,if_neg h2,if_neg h3] at s3;exact⟨(k,bt aM m2 n.r,aK m2 n.r),⟨jc.2 s1,(s2 h1 h2).2 (by omega),s3⟩,fC _,⟨[0,1,2,3,4],rfl,⟨.inl rfl,rfl,.inl rfl,.inl rfl,.inl rfl,trivial⟩,rfl,rfl,rfl,rfl⟩⟩
  ·have h1:¬ n.h>0:=by omega
   rw[if_neg h1] at s3;rw[← s3];exact⟨[0,1],rfl,rfl,⟨.inl rfl,rfl,trivial⟩,rfl,rfl,rfl,rfl⟩
 ·cases hx
def D4 (K:Nat):Prim Rs:=fun args hh=>match args,hh with
 |[.pointer (aa ⟨0,0,aj⟩),.agg ⟨kE⟩],[aa (.inl (132,[.pointer (aa ⟨1,0,aj⟩),.int .i64 ti,.int .i64 tg])),aa (.inr (.inr (.inr (.dd m))))]=>aa ⟨kE=du (fR kE)/\(PP m/\vx aM K (aK m (⟨ti,tg⟩:bn)) (bt aM m (⟨ti,tg⟩:bn)) (fR kE) 0),.int .i64 (lK aM K (aK m (⟨ti,tg⟩:bn)) (bt aM m (⟨ti,tg⟩:bn)) (fR kE) 0).1,aj,[aa (.inl (132,[.pointer (aa ⟨1,0,aj⟩),.int .i64 ti,.int .i64 tg])),aa (.inr (.inr (.inr (.dd (lK aM K (aK m (⟨ti,tg⟩:bn)) (bt aM m (⟨ti,tg⟩:bn)) (fR kE) 0).2))))],[],[(0,0)]⟩
 |_,_=>aj
def Av (K:Nat):eK Rs:=[(1000000000,lJ),(79,bM zN 2 (a9 j7)),(106,bM zN 2 (a9 IW))]
theorem Ni (K:Nat):ck D Tryz.prog 129 (a9 (D4 K)):=by
 refine fw Tryz.f129 fun args hh x hx=>?_
 unfold D4 at hx;split at hx
 ·rename_i kE ti tg m;cases hx;refine q4 fun _ hv=>?_
  obtain⟨jQ,hv⟩:=hv;generalize fR kE=ke at *;subst jQ;obtain⟨hp,hd⟩:=hv
  generalize hG:ct (R:=Rs) _ _=G;refine cW (T:=(Av K)) (show cQ D Tryz.prog (Av K) from⟨iu,aX _ _ look_ok,aX _ _ xS,trivial⟩) mixed 200 ?_
  refine bN (q:=let Z1:=(aE (aa ⟨0,0,aj⟩));Vc (PP m)/\At D Tryz.prog (dM Tryz.f129) 2 (iD Tryz.prog (dF (dG Tryz.f129)) G) [.inl [1,1,1,0,0],.inr (.inl 0),.inl [1,1,1,1]] (SS.mk (aa Z1::aa (bE (aO (du ke)))::aj::aa (aE (aa ⟨2,0,aj⟩))::aa (bs av 0)::aa (bs av 0)::aa (aE (aa ⟨3,0,aj⟩))::aj::aa Z1::aa Z1::aa Z1::aa (aE (aa ⟨0,1,aj⟩))::aa (bE (aO [.int av ti,.int av tg]))::aa (bE (aO (bk (bt aM m (aN ti tg)))))::nH (n4 (n4 (n4 ([]))))) [] [dC 1 ti tg,oP (aK m (aN ti tg)),aa (.inl (75,(du ke))),aa (.inl (128,(bk (bt aM m (aN ti tg)))))])) ?_ (by kernel_rfl)
  intro Z1;subst Z1;refine⟨⟨hp⟩,?_⟩;refine lC (by kernel_rfl) (ι:=Nat×Nd×Pl×Int) (fun s=>PP s.2.2.1/\vx aM s.1 s.2.2.1 s.2.1 ke s.2.2.2/\lK aM s.1 s.2.2.1 s.2.1 ke s.2.2.2=lK aM K (aK m (⟨ti,tg⟩:bn)) (bt aM m (⟨ti,tg⟩:bn)) ke 0) [0,3,5,6] (fun s=>[.pointer (aa ⟨0,0,aj⟩),.pointer (aa ⟨2,0,aj⟩),.int .i64 s.2.2.2,.pointer (aa ⟨3,0,aj⟩)]) (fun s=>[aa (.inl (132,[.pointer (aa ⟨1,0,aj⟩),.int .i64 ti,.int .i64 tg])),aa (.inr (.inr (.inr (.dd s.2.2.1)))),aa (.inl (75,du ke)),aa (.inl (128,bk s.2.1))]) (fun s=>s.1) (Tryz.f129).ntmps (fun s hs=>⟨rfl,rfl,tG _ _⟩) ⟨(K,bt aM m (⟨ti,tg⟩:bn),aK m (⟨ti,tg⟩:bn),0),⟨jc.2 hp,hd,rfl⟩,⟨[0,1,2,3],rfl,⟨.inl rfl,rfl,.inl rfl,.inl rfl,trivial⟩,rfl,rfl,rfl,rfl⟩⟩ fun s hs=>?_
  obtain⟨k,n,m2,c⟩:=s;obtain⟨s1,s2,s3⟩:=hs;simp only at s1 s2 s3;rcases k with _|k
  ·exact s2.elim
  refine cW (T:=Av K) (show cQ D Tryz.prog (Av K) from⟨iu,aX _ _ look_ok,aX _ _ xS,trivial⟩) mixed 200 ?_
  refine bN (q:=let Z3:=aE (aa ⟨3,0,aj⟩);let Z4:=aE (aa ⟨0,0,aj⟩);let Z5:=aE (aa ⟨2,0,aj⟩);let Z6:=bs av;let Z1:=(aB (n,m2,c));let Z2:=(aB (aw (n,m2,c)));(decide (cw Z1>(0:Int))=aq->Vc True/\Vc True/\(decide (gZ aM ke (b8 Z1)≤(0:Int))=aq->Vc (PP Z2)/\aY (∃ j,(PP (aB (aw (aw j)))/\vx aM (aB j) (aB (aw (aw j))) (aB (aw j)) ke (aw (aw (aw j)))/\lK aM (aB j) (aB (aw (aw j))) (aB (aw j)) ke (aw (aw (aw j)))=lK aM K (aK m (aN ti tg)) (bt aM m (aN ti tg)) ke (0:Int))/\aB j<k+1/\j4 Rs 2 (pc Tryz.f129) [0,3,5,6] [Z4,Z5,Z6 (aw (aw (aw j))),Z3] [dC 1 ti tg,oP (aB (aw (aw j))),aa (.inl ((75:TypeId),du ke)),aa (.inl ((128:TypeId),bk (aB (aw j))))] [aa (Z4),aa (Z5),aa (Z6 (aw (aw (n,m2,c)))),aa (Z3)] [dC 1 ti tg,oP (aK Z2 (a_ Z1)),aa (.inl (75,(du ke))),aa (.inl (128,(bk (bt aM Z2 (a_ Z1)))))] 42))/\(decide (gZ aM ke (b8 Z1)≤(0:Int))=ao->Vc (PP Z2)/\Vc True/\Vc True/\aY (∃ j,(PP (aB (aw (aw j)))/\vx aM (aB j) (aB (aw (aw j))) (aB (aw j)) ke (aw (aw (aw j)))/\lK aM (aB j) (aB (aw (aw j))) (aB (aw j)) ke (aw (aw (aw j)))=lK aM K (aK m (aN ti tg)) (bt aM m (aN ti tg)) ke (0:Int))/\aB j<k+1/\j4 Rs 2 (pc Tryz.f129) [0,3,5,6] [Z4,Z5,Z6 (aw (aw (aw j))),Z3] [dC 1 ti tg,oP (aB (aw (aw j))),aa (.inl ((75:TypeId),du ke)),aa (.inl ((128:TypeId),bk (aB (aw j))))] [aa (Z4),aa (Z5),aa (Z6 (cr av (aw (aw (n,m2,c))+cr av (bP (bw Z1)-bP (bw (bt aM Z2 (bo Z1))))))),aa (Z3)] [dC 1 ti tg,oP (aK Z2 (bo Z1)),aa (.inl (75,(du ke))),aa (.inl (128,(bk (bt aM Z2 (bo Z1))))),aa (.inl (128,(bk (bt aM Z2 (bo Z1)))))] 42)))/\(decide (cw Z1>(0:Int))=ao->aY (G (Z6 (aw (aw (n,m2,c)))) [dC 1 ti tg,oP Z2,aa (.inl (75,(du ke))),aa (.inl (128,(bk Z1)))]))) ?_ (by kernel_rfl)
  intro Z3 Z4 Z5 Z6 Z1 Z2;subst Z2 Z1 Z6 Z5 Z4 Z3;rw[vx] at s2;rw[lK] at s3;subst hG
  repeat' (first|apply cZ|apply Vc.mk|apply fits.mk|intro h|apply aY.mk)
  all_goals (try simp only[sB] at *)
  all_goals first|contradiction|omega|exact ju ‹_›|exact jt ‹_›|exact jv ‹_›|exact⟨rfl,by omega⟩|exact rfl|(simp[*,-ax];done)|skip
  all_goals first|assumption|skip
  ·have h1:n.h>0:=by assumption
   have h2:aM.cmp ke n.e≤0:=by assumption
   rw[if_pos h1,if_pos h2] at s3;exact⟨(k,bt aM m2 n.l,aK m2 n.l,c),⟨jc.2 s1,(s2 h1).1 (by omega),s3⟩,fC _,⟨[0,1,2,3],rfl,⟨.inl rfl,rfl,.inl rfl,.inl rfl,trivial⟩,rfl,rfl,rfl,rfl⟩⟩
  ·have h1:n.h>0:=by assumption
   have h2:¬ aM.cmp ke n.e≤0:=by omega
   rw[if_pos h1,if_neg h2] at s3;exact⟨(k,bt aM m2 n.r,aK m2 n.r,mW (c+mW (n.all.n-(bt aM m2 n.r).all.n))),⟨jc.2 s1,(s2 h1).2 (by omega),s3⟩,fC _,⟨[0,1,2,3],rfl,⟨.inl rfl,rfl,.inl rfl,.inl rfl,trivial⟩,rfl,rfl,rfl,rfl⟩⟩
  ·have h1:¬ n.h>0:=by omega
   rw[if_neg h1] at s3;rw[← s3];exact⟨[0,1],rfl,rfl,⟨.inl rfl,rfl,trivial⟩,rfl,rfl,rfl,rfl⟩
 ·cases hx
def NQ (K:Nat):Prim Rs:=fun args hh=>match args,hh with
 |[.pointer (aa ⟨0,0,aj⟩),.int .i64 i_],[aa (.inl (132,[.pointer (aa ⟨1,0,aj⟩),.int .i64 ti,.int .i64 tg])),aa (.inr (.inr (.inr (.dd m))))]=>aa ⟨PP m/\Gv.AtD aM K m (⟨ti,tg⟩:bn) i_,.tuple #[.agg ⟨du (lx aM K m (⟨ti,tg⟩:bn) i_).1.1⟩,.bool (lx aM K m (⟨ti,tg⟩:bn) i_).1.2],aj,[aa (.inl (132,[.pointer (aa ⟨1,0,aj⟩),.int .i64 ti,.int .i64 tg])),aa (.inr (.inr (.inr (.dd (lx aM K m (⟨ti,tg⟩:bn) i_).2))))],[],[(0,0)]⟩
 |_,_=>aj
def HZ (K:Nat):eK Rs:=[(1000000000,lJ),(79,bM zN 2 (a9 j7))]
theorem TP (K:Nat):ck D Tryz.prog 122 (a9 (NQ K)):=by
 refine fw Tryz.f122 fun args hh x hx=>?_
 unfold NQ at hx;split at hx
 ·rename_i i_ ti tg m;cases hx;refine q4 fun _ hv=>?_
  obtain⟨hp,hd⟩:=hv;generalize hG:ct (R:=Rs) _ _=G;refine cW (T:=(HZ K)) (show cQ D Tryz.prog (HZ K) from⟨iu,aX _ _ look_ok,trivial⟩) mixed 200 ?_
  refine bN (q:=let Z3:=bs av;let Z1:=(i_≥bP (bw (bt aM m (aN ti tg))));let Z2:=(aE (aa ⟨0,0,aj⟩));Vc (PP m)/\(decide (i_<(0:Int))=ao->(decide Z1=aq->aY (G (cv (aO [.agg (aO (du (jr (cX 0 0) ao 0))),.bool ao])) [dC 1 ti tg,oP (aK m (aN ti tg)),aa (.inl (75,(du (jr (cX 0 0) ao 0)))),aa (.inl (75,(du (jr (cX 0 0) ao 0)))),aa (.inl (128,(bk (bt aM m (aN ti tg)))))]))/\(decide Z1=ao->At D Tryz.prog (dM Tryz.f122) 2 (iD Tryz.prog (dF (dG Tryz.f122)) G) [.inl [1,1,1,1,0],.inr (.inl 0)] (SS.mk (aa Z2::aa (Z3 i_)::aj::aj::aa (aE (aa ⟨2,0,aj⟩))::aa (aD ao)::aa (aE (aa ⟨3,0,aj⟩))::aa (aE (aa ⟨4,0,aj⟩))::aj::aa Z2::aa Z2::aa Z2::aa (aE (aa ⟨0,1,aj⟩))::aa (bE (aO [Z3 ti,Z3 tg]))::aa (bE (aO (bk (bt aM m (aN ti tg)))))::aa (Z3 i_)::aa (aD (decide (i_<(0:Int))))::aa (aD ao)::aa (Z3 i_)::aa (aE (aa ⟨4,8,aj⟩))::aa (aE (aa ⟨4,8,aj⟩))::aa (Z3 (bP (bw (bt aM m (aN ti tg)))))::aa (aD (decide Z1))::aa (aD ao)::nH (n4 (n4 (n4 ([]))))) [(23,ao),(17,ao),(5,ao)] [dC 1 ti tg,oP (aK m (aN ti tg)),aa (.inl (75,(du (jr (cX 0 0) ao 0)))),aa (.inl (75,(du (jr (cX 0 0) ao 0)))),aa (.inl (128,(bk (bt aM m (aN ti tg)))))])))/\(decide (i_<(0:Int))=aq->aY (G (cv (aO [.agg (aO (du (jr (cX 0 0) ao 0))),.bool ao])) [dC 1 ti tg,oP (aK m (aN ti tg)),aa (.inl (75,(du (jr (cX 0 0) ao 0)))),aa (.inl (75,(du (jr (cX 0 0) ao 0)))),aa (.inl (128,(bk (bt aM m (aN ti tg)))))]))) ?_ (by kernel_rfl)
  intro Z3 Z1 Z2;subst Z2 Z1 Z3;have n1:i_<0∨i_≥(bt aM m (⟨ti,tg⟩:bn)).all.n->G (.tuple #[.agg ⟨[.int .i64 0,.int .i64 0,.bool ao,.int .i64 0]⟩,.bool ao])=G (.tuple #[.agg ⟨[.int .i64 0,.int .i64 0,.bool ao,.int .i64 0]⟩,.bool ao]):=fun _=>rfl
  have en:∀ rest,i_<0∨i_≥(bt aM m (⟨ti,tg⟩:bn)).all.n->G (.tuple #[.agg ⟨[.int .i64 0,.int .i64 0,.bool ao,.int .i64 0]⟩,.bool ao]) ([aa (.inl (132,[.pointer (aa ⟨1,0,aj⟩),.int .i64 ti,.int .i64 tg])),aa (.inr (.inr (.inr (.dd (aK m (⟨ti,tg⟩:bn))))))]++rest):=by
   intro rest h;have e:lx aM K m (⟨ti,tg⟩:bn) i_=((aM.e0,ao),aK m (⟨ti,tg⟩:bn)):=by rw[lx,if_pos h]
   subst hG;rw[e];exact⟨[0,1],rfl,rfl,⟨.inl rfl,rfl,trivial⟩,rfl,rfl,rfl,rfl⟩
  refine⟨⟨hp⟩,fun h=>⟨fun h2=>⟨en _ (.inr (by simpa using h2))⟩,fun h2=>?_⟩,fun h=>⟨en _ (.inl (by simpa using h))⟩⟩
  have h3:¬ i_<0:=by simpa using h
  have h4:¬ i_≥(bt aM m (⟨ti,tg⟩:bn)).all.n:=by simpa using h2
  have ee:lx aM K m (⟨ti,tg⟩:bn) i_=(((oQ aM K (aK m (⟨ti,tg⟩:bn)) (bt aM m (⟨ti,tg⟩:bn)) i_).1,aq),(oQ aM K (aK m (⟨ti,tg⟩:bn)) (bt aM m (⟨ti,tg⟩:bn)) i_).2):=by rw[lx,if_neg (by omega)]
  have xa:=hd h3 h4;refine lC (by kernel_rfl) (ι:=Nat×Nd×Pl×Int) (fun s=>PP s.2.2.1/\B6 aM s.1 s.2.2.1 s.2.1 s.2.2.2/\oQ aM s.1 s.2.2.1 s.2.1 s.2.2.2=oQ aM K (aK m (⟨ti,tg⟩:bn)) (bt aM m (⟨ti,tg⟩:bn)) i_) [0,1,4,7] (fun s=>[.pointer (aa ⟨0,0,aj⟩),.int .i64 s.2.2.2,.pointer (aa ⟨2,0,aj⟩),.pointer (aa ⟨3,0,aj⟩)]) (fun s=>[aa (.inl (132,[.pointer (aa ⟨1,0,aj⟩),.int .i64 ti,.int .i64 tg])),aa (.inr (.inr (.inr (.dd s.2.2.1)))),aa (.inl (75,[.int .i64 0,.int .i64 0,.bool ao,.int .i64 0])),aa (.inl (128,bk s.2.1))]) (fun s=>s.1) (Tryz.f122).ntmps (fun s hs=>⟨rfl,rfl,tG _ _⟩) ⟨(K,bt aM m (⟨ti,tg⟩:bn),aK m (⟨ti,tg⟩:bn),i_),⟨jc.2 hp,xa,rfl⟩,⟨[0,1,2,4],rfl,⟨.inl rfl,rfl,.inl rfl,.inl rfl,trivial⟩,rfl,rfl,rfl,rfl⟩⟩ fun s hs=>?_
  obtain⟨k,n,m2,c⟩:=s;obtain⟨s1,s2,s3⟩:=hs;simp only at s1 s2 s3;rcases k with _|k
  ·exact s2.elim
  refine cW (T:=HZ K) (show cQ D Tryz.prog (HZ K) from⟨iu,aX _ _ look_ok,trivial⟩) mixed 200 ?_
  refine bN (q:=let Z4:=aE (aa ⟨3,0,aj⟩);let Z5:=aE (aa ⟨0,0,aj⟩);let Z6:=aE (aa ⟨2,0,aj⟩);let Z1:=(aw (n,m2,c));let Z2:=(bt aM (aB Z1) (a_ (aB (n,m2,c))));let Z3:=(aK (aB Z1) (a_ (aB (n,m2,c))));Vc (PP (aB Z1))/\((aw Z1==bP (bw Z2))=aq->aY (G (cv (aO [.agg (aO (du (b8 (aB (n,m2,c))))),.bool aq])) [dC 1 ti tg,oP Z3,aa (.inl (75,(du (b8 (aB (n,m2,c)))))),aa (.inl (128,(bk (aB (n,m2,c))))),aa (.inl (128,(bk Z2)))]))/\((aw Z1==bP (bw Z2))=ao->(decide (aw Z1<bP (bw Z2))=aq->aY (∃ j,(PP (aB (aw (aw j)))/\B6 aM (aB j) (aB (aw (aw j))) (aB (aw j)) (aw (aw (aw j)))/\oQ aM (aB j) (aB (aw (aw j))) (aB (aw j)) (aw (aw (aw j)))=oQ aM K (aK m (aN ti tg)) (bt aM m (aN ti tg)) i_)/\aB j<k+1/\j4 Rs 2 (pc Tryz.f122) [0,1,4,7] [Z5,.int av (aw (aw (aw j))),Z6,Z4] [dC 1 ti tg,oP (aB (aw (aw j))),aa (.inl ((75:TypeId),(du (jr (cX 0 0) ao 0)))),aa (.inl ((128:TypeId),bk (aB (aw j))))] [aa (Z5),aa (bs av (aw Z1)),aa (Z6),aa (Z4)] [dC 1 ti tg,oP Z3,aa (.inl (75,(du (jr (cX 0 0) ao 0)))),aa (.inl (128,(bk Z2))),aa (.inl (128,(bk Z2)))] 52))/\(decide (aw Z1<bP (bw Z2))=ao->Vc True/\Vc True/\Vc (PP Z3)/\aY (∃ j,(PP (aB (aw (aw j)))/\B6 aM (aB j) (aB (aw (aw j))) (aB (aw j)) (aw (aw (aw j)))/\oQ aM (aB j) (aB (aw (aw j))) (aB (aw j)) (aw (aw (aw j)))=oQ aM K (aK m (aN ti tg)) (bt aM m (aN ti tg)) i_)/\aB j<k+1/\j4 Rs 2 (pc Tryz.f122) [0,1,4,7] [Z5,.int av (aw (aw (aw j))),Z6,Z4] [dC 1 ti tg,oP (aB (aw (aw j))),aa (.inl ((75:TypeId),(du (jr (cX 0 0) ao 0)))),aa (.inl ((128:TypeId),bk (aB (aw j))))] [aa (Z5),aa (bs av (cr av (aw Z1-cr av (bP (bw Z2)+(1:Int))))),aa (Z6),aa (Z4)] [dC 1 ti tg,oP (aK Z3 (bo (aB (n,m2,c)))),aa (.inl (75,(du (jr (cX 0 0) ao 0)))),aa (.inl (128,(bk (bt aM Z3 (bo (aB (n,m2,c))))))),aa (.inl (128,(bk Z2)))] 52)))) ?_ (by kernel_rfl)
  intro Z4 Z5 Z6 Z1 Z2 Z3;subst Z3 Z2 Z1 Z6 Z5 Z4;rw[B6] at s2;rw[oQ] at s3;subst hG
  repeat' (first|apply cZ|apply Vc.mk|apply fits.mk|intro h|apply aY.mk)
  all_goals (try simp only[sB] at *)
  all_goals first|contradiction|omega|exact ju ‹_›|exact jt ‹_›|exact jv ‹_›|exact⟨rfl,by omega⟩|exact rfl|(simp[*,-ax];done)|skip
  all_goals first|assumption|exact jc.2 s1|skip
  ·have h1:c=(bt aM m2 n.l).all.n:=by assumption
   rw[if_pos h1] at s3;rw[ee,← s3];exact⟨[0,1],rfl,rfl,⟨.inl rfl,rfl,trivial⟩,rfl,rfl,rfl,rfl⟩
  ·have h1:c≠(bt aM m2 n.l).all.n:=by assumption
   have h2:c<(bt aM m2 n.l).all.n:=by assumption
   rw[if_neg h1,if_pos h2] at s3;exact⟨(k,bt aM m2 n.l,aK m2 n.l,c),⟨jc.2 s1,(s2 h1).1 (by omega),s3⟩,fC _,⟨[0,1,2,3],rfl,⟨.inl rfl,rfl,.inl rfl,.inl rfl,trivial⟩,rfl,rfl,rfl,rfl⟩⟩
  ·have h1:c≠(bt aM m2 n.l).all.n:=by assumption
   have h2:¬ c<(bt aM m2 n.l).all.n:=by omega
   rw[if_neg h1,if_neg h2] at s3;exact⟨(k,bt aM (aK m2 n.l) n.r,aK (aK m2 n.l) n.r,mW (c-mW ((bt aM m2 n.l).all.n+1))),⟨jc.2 (jc.2 s1),(s2 h1).2 (by omega),s3⟩,fC _,⟨[0,1,2,3],rfl,⟨.inl rfl,rfl,.inl rfl,.inl rfl,trivial⟩,rfl,rfl,rfl,rfl⟩⟩
 ·cases hx
end G9
namespace G9
open Rx
open Gv (KK)
set_option maxRecDepth 100000
set_option maxHeartbeats 8000000
def H9:Prim Rt:=fun args hh=>match args,hh with
 |[.int .i64 c],[]=>aa ⟨True,.pointer (aa ⟨0,0,aj⟩),aj,[oT (qN k9 c)],[],[(0,0)]⟩
 |_,_=>aj
theorem Qn:ck D2 Tryz.prog 91 (a9 H9):=by
 refine nc (c:=a9 Ik) Qu fun args hh x hx=>?_
 unfold H9 at hx;split at hx
 ·rename_i c;cases hx;refine⟨dx _,mg rfl,(fun hw=>by cases hw),fun hv=>⟨⟨_,.inl ⟨rfl,rfl⟩,rfl,?_,?_,?_⟩,rfl,rfl⟩⟩
  ·trivial
  ·rfl
  ·rfl
 ·cases hx
def B8:Prim Rt:=fun args hh=>match args,hh with
 |[.pointer (aa ⟨0,0,aj⟩)],[aa (.inr (.inr (.inr (.tree s))))]=>aa ⟨s.gE,.int .i64 s.l.length,aj,[oT s.seen],[],[(0,0)]⟩
 |_,_=>aj
theorem DU:ck D2 Tryz.prog 38 (a9 B8):=by
 refine nc (c:=a9 BQ) JM fun args hh x hx=>?_
 unfold B8 at hx;split at hx
 ·rename_i s;cases hx;refine⟨bc _,mg rfl,(fun hw=>by cases hw),fun hv=>⟨⟨_,.inl ⟨rfl,rfl⟩,rfl,?_,?_,?_⟩,rfl,rfl⟩⟩
  ·exact s.pp hv
  ·rfl
  ·exact congrArg (bs av) s.ok.nn
 ·cases hx
def IB:Prim Rt:=fun args hh=>match args,hh with
 |[.pointer (aa ⟨0,0,aj⟩)],[aa (.inr (.inr (.inr (.tree s))))]=>aa ⟨True,.int .i64 s.m.cY,aj,hh,[],[]⟩
 |_,_=>aj
theorem Q1:ck D2 Tryz.prog 77 (a9 IB):=by
 refine nc (c:=a9 yP) HK fun args hh x hx=>?_
 unfold IB at hx;split at hx
 ·rename_i s;cases hx;refine⟨bc _,mg rfl,(fun _=>rfl),fun hv=>⟨⟨_,.inl ⟨rfl,rfl⟩,rfl,?_,?_,?_⟩,rfl,rfl⟩⟩
  ·trivial
  ·rfl
  ·rfl
 ·cases hx
def Dt:Prim Rt:=fun args hh=>match args,hh with
 |[.pointer (aa ⟨0,0,aj⟩),.agg ⟨[.int .i64 k0,.int .i64 k1,.bool k2,.int .i64 k3]⟩],[aa (.inr (.inr (.inr (.tree s))))]=>aa ⟨s.kS (⟨⟨k0,k1⟩,k2,k3⟩:jC),.bool (s.Ka (⟨⟨k0,k1⟩,k2,k3⟩:jC)),aj,[oT (s.put (⟨⟨k0,k1⟩,k2,k3⟩:jC))],[],[(0,0)]⟩
 |_,_=>aj
theorem GR:ck D2 Tryz.prog 68 (a9 Dt):=by
 refine nc (c:=a9 (Ip KK)) (Ro KK) fun args hh x hx=>?_
 unfold Dt at hx;split at hx
 ·rename_i k0 k1 k2 k3 s;cases hx;refine⟨bc _,mg rfl,(fun hw=>by cases hw),fun hv=>⟨⟨_,.inl ⟨rfl,rfl⟩,rfl,?_,?_,?_⟩,rfl,rfl⟩⟩
  ·exact⟨rfl,s.pp hv.lV,(Fs hv).1⟩
  ·rw[Wh hv];rfl
  ·exact congrArg aD (Fs hv).2.1
 ·cases hx
def Cl:Prim Rt:=fun args hh=>match args,hh with
 |[.pointer (aa ⟨0,0,aj⟩),.agg ⟨[.int .i64 k0,.int .i64 k1,.bool k2,.int .i64 k3]⟩],[aa (.inr (.inr (.inr (.tree s))))]=>aa ⟨s.gE,.tuple #[.agg ⟨[.int .i64 (fv aM (⟨⟨k0,k1⟩,k2,k3⟩:jC) s.l).1.it.k,.int .i64 (fv aM (⟨⟨k0,k1⟩,k2,k3⟩:jC) s.l).1.it.i,.bool (fv aM (⟨⟨k0,k1⟩,k2,k3⟩:jC) s.l).1.lS,.int .i64 (fv aM (⟨⟨k0,k1⟩,k2,k3⟩:jC) s.l).1.time]⟩,.bool (fv aM (⟨⟨k0,k1⟩,k2,k3⟩:jC) s.l).2],aj,[oT (s.drop (⟨⟨k0,k1⟩,k2,k3⟩:jC))],[],[(0,0)]⟩
 |_,_=>aj
theorem HF:ck D2 Tryz.prog 75 (a9 Cl):=by
 refine nc (c:=a9 (Ex KK)) (M2 KK) fun args hh x hx=>?_
 unfold Cl at hx;split at hx
 ·rename_i k0 k1 k2 k3 s;cases hx;refine⟨bc _,mg rfl,(fun hw=>by cases hw),fun hv=>⟨⟨_,.inl ⟨rfl,rfl⟩,rfl,?_,?_,?_⟩,rfl,rfl⟩⟩
  ·exact⟨rfl,s.pp hv,(s.tc (⟨⟨k0,k1⟩,k2,k3⟩:jC)).1⟩
  ·rfl
  ·obtain⟨_,h1,h2,_⟩:=s.tc (⟨⟨k0,k1⟩,k2,k3⟩:jC);show cv #[.agg ⟨[.int .i64 (jO aM KK s.m s.r (⟨⟨k0,k1⟩,k2,k3⟩:jC)).1.it.k,.int .i64 (jO aM KK s.m s.r (⟨⟨k0,k1⟩,k2,k3⟩:jC)).1.it.i,.bool (jO aM KK s.m s.r (⟨⟨k0,k1⟩,k2,k3⟩:jC)).1.lS,.int .i64 (jO aM KK s.m s.r (⟨⟨k0,k1⟩,k2,k3⟩:jC)).1.time]⟩,.bool (jO aM KK s.m s.r (⟨⟨k0,k1⟩,k2,k3⟩:jC)).2.1]=_
   have h1:(jO aM KK s.m s.r (⟨⟨k0,k1⟩,k2,k3⟩:jC)).1=(fv aM (⟨⟨k0,k1⟩,k2,k3⟩:jC) s.l).1:=h1;have h2:(jO aM KK s.m s.r (⟨⟨k0,k1⟩,k2,k3⟩:jC)).2.1=(fv aM (⟨⟨k0,k1⟩,k2,k3⟩:jC) s.l).2:=h2;rw[h1,h2]
   rfl
 ·cases hx
def CR:Prim Rt:=fun args hh=>match args,hh with
 |[.pointer (aa ⟨0,0,aj⟩),.agg ⟨[.int .i64 k0,.int .i64 k1,.bool k2,.int .i64 k3]⟩],[aa (.inr (.inr (.inr (.tree s))))]=>aa ⟨s.gE,.tuple #[.agg ⟨[.int .i64 (fv aM (⟨⟨k0,k1⟩,k2,k3⟩:jC) s.l).1.it.k,.int .i64 (fv aM (⟨⟨k0,k1⟩,k2,k3⟩:jC) s.l).1.it.i,.bool (fv aM (⟨⟨k0,k1⟩,k2,k3⟩:jC) s.l).1.lS,.int .i64 (fv aM (⟨⟨k0,k1⟩,k2,k3⟩:jC) s.l).1.time]⟩,.bool (fv aM (⟨⟨k0,k1⟩,k2,k3⟩:jC) s.l).2],aj,[oT (s.find (⟨⟨k0,k1⟩,k2,k3⟩:jC))],[],[(0,0)]⟩
 |_,_=>aj
theorem H5:ck D2 Tryz.prog 94 (a9 CR):=by
 refine nc (c:=a9 (EU KK)) (NG KK) fun args hh x hx=>?_
 unfold CR at hx;split at hx
 ·rename_i k0 k1 k2 k3 s;cases hx;refine⟨bc _,mg rfl,(fun hw=>by cases hw),fun hv=>⟨⟨_,.inl ⟨rfl,rfl⟩,rfl,?_,?_,?_⟩,rfl,rfl⟩⟩
  ·exact⟨rfl,s.pp hv,(s.ok.find (e:=(⟨⟨k0,k1⟩,k2,k3⟩:jC)) s.k1).1⟩
  ·rfl
  ·obtain⟨_,m',h1,_⟩:=s.ok.find (K:=KK) (e:=(⟨⟨k0,k1⟩,k2,k3⟩:jC)) s.k1;have h1:(iB aM KK (aK s.m s.r) (bt aM s.m s.r) (⟨⟨k0,k1⟩,k2,k3⟩:jC))=((fv aM (⟨⟨k0,k1⟩,k2,k3⟩:jC) s.l),m'):=h1;show cv #[.agg ⟨[.int .i64 (iB aM KK (aK s.m s.r) (bt aM s.m s.r) (⟨⟨k0,k1⟩,k2,k3⟩:jC)).1.1.it.k,.int .i64 (iB aM KK (aK s.m s.r) (bt aM s.m s.r) (⟨⟨k0,k1⟩,k2,k3⟩:jC)).1.1.it.i,.bool (iB aM KK (aK s.m s.r) (bt aM s.m s.r) (⟨⟨k0,k1⟩,k2,k3⟩:jC)).1.1.lS,.int .i64 (iB aM KK (aK s.m s.r) (bt aM s.m s.r) (⟨⟨k0,k1⟩,k2,k3⟩:jC)).1.1.time]⟩,.bool (iB aM KK (aK s.m s.r) (bt aM s.m s.r) (⟨⟨k0,k1⟩,k2,k3⟩:jC)).1.2]=_
   rw[h1]
   rfl
 ·cases hx
def GC:Prim Rt:=fun args hh=>match args,hh with
 |[.pointer (aa ⟨0,0,aj⟩),.agg ⟨[.int .i64 k0,.int .i64 k1,.bool k2,.int .i64 k3]⟩],[aa (.inr (.inr (.inr (.tree s))))]=>aa ⟨s.gE,.int .i64 (yB aM (⟨⟨k0,k1⟩,k2,k3⟩:jC) s.l).length,aj,[oT (s.kv (⟨⟨k0,k1⟩,k2,k3⟩:jC))],[],[(0,0)]⟩
 |_,_=>aj
theorem TR:ck D2 Tryz.prog 129 (a9 GC):=by
 refine nc (c:=a9 (D4 KK)) (Ni KK) fun args hh x hx=>?_
 unfold GC at hx;split at hx
 ·rename_i k0 k1 k2 k3 s;cases hx;refine⟨bc _,mg rfl,(fun hw=>by cases hw),fun hv=>⟨⟨_,.inl ⟨rfl,rfl⟩,rfl,?_,?_,?_⟩,rfl,rfl⟩⟩
  ·exact⟨rfl,s.pp hv,(s.ok.kv (e:=(⟨⟨k0,k1⟩,k2,k3⟩:jC)) s.k1).1⟩
  ·rfl
  ·obtain⟨_,m',h1,_⟩:=s.ok.kv (K:=KK) (e:=(⟨⟨k0,k1⟩,k2,k3⟩:jC)) s.k1;have h1:(lK aM KK (aK s.m s.r) (bt aM s.m s.r) (⟨⟨k0,k1⟩,k2,k3⟩:jC) 0)=(((yB aM (⟨⟨k0,k1⟩,k2,k3⟩:jC) s.l).length:Int),m'):=h1;show bs av (lK aM KK (aK s.m s.r) (bt aM s.m s.r) (⟨⟨k0,k1⟩,k2,k3⟩:jC) 0).1=_
   rw[h1]
   rfl
 ·cases hx
def Iz:Prim Rt:=fun args hh=>match args,hh with
 |[.pointer (aa ⟨0,0,aj⟩)],[aa (.inr (.inr (.inr (.tree s))))]=>aa ⟨s.gE,.slice (aa ⟨1,0,aa 4000⟩) s.l.length 0,aj,[oT s.all,aa (.inr (.inl (75,⟨[.int .i64 0,.int .i64 0,.bool ao,.int .i64 0],s.l.length,[⟨s.l.map fun e=>e.it.k,[],[]⟩,⟨s.l.map fun e=>e.it.i,[],[]⟩,⟨[],s.l.map fun e=>e.lS,[]⟩,⟨s.l.map fun e=>e.time,[],[]⟩]⟩)))],[],[(0,0)]⟩
 |_,_=>aj
theorem Ra:ck D2 Tryz.prog 61 (a9 Iz):=by
 refine nc (c:=a9 (H_ KK)) (Ql KK) fun args hh x hx=>?_
 unfold Iz at hx;split at hx
 ·rename_i s;cases hx;refine⟨mH _,mg rfl,(fun hw=>by cases hw),fun hv=>⟨⟨_,.inl ⟨rfl,rfl⟩,rfl,?_,?_,?_⟩,rfl,rfl⟩⟩
  ·exact⟨s.pp hv,(s.ok.all (K:=KK) s.k1).1⟩
  ·obtain⟨_,m',h1,_⟩:=s.ok.all (K:=KK) s.k1;have h1:(b7 aM KK (aK s.m s.r) s.r)=(s.l,m'):=h1;show([aa (.inl (132,[.pointer (aa ⟨1,0,aj⟩),.int .i64 s.r.i,.int .i64 s.r.g])),aa (.inr (.inr (.inr (.dd (b7 aM KK (aK s.m s.r) s.r).2)))),aa (.inr (.inl (75,⟨[.int .i64 0,.int .i64 0,.bool ao,.int .i64 0],(b7 aM KK (aK s.m s.r) s.r).1.length,[⟨(b7 aM KK (aK s.m s.r) s.r).1.map fun e=>e.it.k,[],[]⟩,⟨(b7 aM KK (aK s.m s.r) s.r).1.map fun e=>e.it.i,[],[]⟩,⟨[],(b7 aM KK (aK s.m s.r) s.r).1.map fun e=>e.lS,[]⟩,⟨(b7 aM KK (aK s.m s.r) s.r).1.map fun e=>e.time,[],[]⟩]⟩)))]:Hp Rs)=[aa (.inl (132,[.pointer (aa ⟨1,0,aj⟩),.int .i64 s.r.i,.int .i64 s.r.g])),aa (.inr (.inr (.inr (.dd (b7 aM KK (aK s.m s.r) s.r).2)))),aa (.inr (.inl (75,⟨[.int .i64 0,.int .i64 0,.bool ao,.int .i64 0],s.l.length,[⟨s.l.map fun e=>e.it.k,[],[]⟩,⟨s.l.map fun e=>e.it.i,[],[]⟩,⟨[],s.l.map fun e=>e.lS,[]⟩,⟨s.l.map fun e=>e.time,[],[]⟩]⟩)))]
   rw[h1]
  ·obtain⟨_,m',h1,_⟩:=s.ok.all (K:=KK) s.k1;have h1:(b7 aM KK (aK s.m s.r) s.r)=(s.l,m'):=h1;show bK (aa ⟨2,0,aa 4000⟩) (b7 aM KK (aK s.m s.r) s.r).1.length 0=_
   rw[h1]
   rfl
 ·cases hx
def QC:Prim Rt:=fun args hh=>match args,hh with
 |[.pointer (aa ⟨0,0,aj⟩),.int .i64 i_],[aa (.inr (.inr (.inr (.tree s))))]=>aa ⟨s.gE,.tuple #[.agg ⟨[.int .i64 (mf aM i_ s.l).1.it.k,.int .i64 (mf aM i_ s.l).1.it.i,.bool (mf aM i_ s.l).1.lS,.int .i64 (mf aM i_ s.l).1.time]⟩,.bool (mf aM i_ s.l).2],aj,[oT (s.at_ i_)],[],[(0,0)]⟩
 |_,_=>aj
theorem abJ:ck D2 Tryz.prog 122 (a9 QC):=by
 refine nc (c:=a9 (NQ KK)) (TP KK) fun args hh x hx=>?_
 unfold QC at hx;split at hx
 ·rename_i i_ s;cases hx;refine⟨bc _,mg rfl,(fun hw=>by cases hw),fun hv=>⟨⟨_,.inl ⟨rfl,rfl⟩,rfl,?_,?_,?_⟩,rfl,rfl⟩⟩
  ·exact⟨s.pp hv,(s.ok.at_ (i:=i_) s.k1).1⟩
  ·rfl
  ·obtain⟨_,m',h1,_⟩:=s.ok.at_ (K:=KK) (i:=i_) s.k1;have h1:(lx aM KK s.m s.r i_)=((mf aM i_ s.l),m'):=h1;show cv #[.agg ⟨[.int .i64 (lx aM KK s.m s.r i_).1.1.it.k,.int .i64 (lx aM KK s.m s.r i_).1.1.it.i,.bool (lx aM KK s.m s.r i_).1.1.lS,.int .i64 (lx aM KK s.m s.r i_).1.1.time]⟩,.bool (lx aM KK s.m s.r i_).1.2]=_
   rw[h1]
   rfl
 ·cases hx
end G9
namespace Wv
open Rx
set_option maxRecDepth 100000
set_option maxHeartbeats 4000000
def ad' {R:Type}:Prim R:=fun args hh=>match args,hh with
 |[.agg ⟨[.int .i64 a,.int .i64 b]⟩,.agg ⟨[.int .i64 c,.int .i64 d]⟩],[]=>aa ⟨True,.bool (decide (ah ⟨a,b⟩ ⟨c,d⟩)),aj,hh,[],[]⟩
 |_,_=>aj
theorem aiH {R:Type} {D:fK R}:ck D Tryz.prog 92 (a9 ad'):=by
 refine fw Tryz.f92 fun args hh x hx=>?_
 unfold ad' at hx;split at hx
 ·rename_i a b c d;cases hx;refine q4 fun _ hv=>?_
  generalize hG:ct (R:=R) _ _=G;refine cW (T:=[]) trivial mixed 200 ?_;refine bN (q:=let Z1:=bs av;(decide (a<c)=ao->((a==c)=aq->aY (G (aD (decide (b<d))) [aa (.inl (31,[Z1 a,Z1 b])),aa (.inl (31,[Z1 c,Z1 d]))]))/\((a==c)=ao->aY (G (aD ao) [aa (.inl (31,[Z1 a,Z1 b])),aa (.inl (31,[Z1 c,Z1 d]))])))/\(decide (a<c)=aq->aY (G (aD aq) [aa (.inl (31,[Z1 a,Z1 b])),aa (.inl (31,[Z1 c,Z1 d]))]))) ?_ (by kernel_rfl)
  intro Z1;subst Z1;have fin:∀ (z:Bool) (hp:Hp R),z=decide (ah ⟨a,b⟩ ⟨c,d⟩)->G (.bool z) hp:=by
   intro z hp ht;subst ht;subst hG;exact⟨⟨[],rfl,rfl,trivial,rfl,rfl,rfl,rfl⟩⟩
  clear hG
  repeat' (first|apply cZ|apply Vc.mk|apply fits.mk|intro h|apply aY.mk)
  all_goals (try simp only[sB] at *)
  all_goals first|contradiction|omega|exact ju ‹_›|exact jt ‹_›|exact jv ‹_›|exact⟨rfl,by omega⟩|exact rfl|(simp[*,-ax];done)|skip
  ·refine fin _ _ (decide_eq_decide.2 ?_);unfold ah;simp only;omega
  ·refine fin _ _ (decide_eq_false ?_).symm;unfold ah;simp only;omega
  ·refine fin _ _ (decide_eq_true ?_).symm;unfold ah;simp only;omega
 ·cases hx
abbrev iR (l:List It):Row:=⟨[.int .i64 0,.int .i64 0],l.length,[⟨l.map It.k,[],[]⟩,⟨l.map It.i,[],[]⟩]⟩
def gG (r:Row):List It:=match r.ez with
 |[a,b]=>(oi r.n).map fun i=>⟨a.i.getD i 0,b.i.getD i 0⟩
 |_=>[]
theorem FU {α:Type} {l:List α} {f:Nat->α} (h:∀ i (hi:i<l.length),f i=l[i]):(oi l.length).map f=l:=by
 refine N7 (by simp) fun i h1 h2=>?_
 simp only[List.getElem_map,List.getElem_range];exact h i h2
theorem Ii {α β:Type} {l:List α} {i:Nat} (f:α->β) (d:β) (hi:i<l.length):(l.map f).getD i d=f l[i]:=by
 rw[ax,gh,bj hi];rfl
theorem DX (l:List It):gG (iR l)=l:=by
 unfold gG;refine FU fun i hi=>?_
 simp only[Ii _ _ hi]
theorem Xl {α β:Type} (f:α->β) (l:List α) (a b:Nat):cut (l.map f) a b=(cut l a b).map f:=by
 unfold cut;rw[nr,ns]
theorem cm {α β:Type} (f:α->β) (l:List α):cut (l.map f) 0 l.length=l.map f:=fD (by simp)
abbrev vI {R:Type} (l:List It):Option (SB R):=aa (.inr (.inr (.inl (iR l))))
abbrev oI {R:Type} (l:List It):Option (SB R):=aa (.inr (.inl (31,iR l)))
theorem adv {α:Type} {x:List α} {a b:Nat} (h:x.length≤a+b):cut x a b=x.drop a:=by
 unfold cut;exact jl (by simp;omega)
theorem adD {α:Type} {x:List α} {r:Nat} (v:α) (h:r≤x.length):cut (cut ([]++cut x 0 r) 0 r++cut [v] 0 1) 0 (r+1)=x.take r++[v]:=by
 have h1:cut ([]++cut x 0 r) 0 r=x.take r:=by unfold cut;simp[List.take_take]
 rw[h1,show cut [v] 0 1=[v] from rfl]
 exact fD (by simp;omega)
theorem Ec {α:Type} {x:List α} {r L:Nat} {v:α} (hL:x.length=L) (h:r≤L):cut (cut ([]++cut x 0 r) 0 r++cut [v] 0 1) 0 (r+1)++cut x r ((L:Int)-(r:Int)).toNat=x.take r++v::x.drop r:=by
 rw[adD v (by omega),adv (by omega)]
 simp
theorem Um {l:List It} {i:Nat} (hi:i<l.length):nK (l.take (i+1))=ins (l.getD i iz) (nK (l.take i)):=by
 rw[xC iz hi,Eu]
theorem nQ {x:It} {S:List It} {k:Nat} (h:tu x S S.length=k):(ins x S).map It.k=(S.map It.k).take k++x.k::(S.map It.k).drop k/\(ins x S).map It.i=(S.map It.i).take k++x.i::(S.map It.i).drop k/\(k≤S.length->k+1+((S.length:Int)-(k:Int)).toNat=(ins x S).length):=by
 subst h;refine⟨?_,?_,fun h=>?_⟩
 ·unfold ins;rw[dT,gC,nr,ns]
 ·unfold ins;rw[dT,gC,nr,ns]
 ·rw[Xr];omega
def TAh {R:Type}:eK R:=[(92,bM zN 2 (a9 ad'))]
theorem Vb {R:Type} {D:fK R}:cQ D Tryz.prog (TAh:eK R):=⟨aX _ _ aiH,trivial⟩
def YU {R:Type}:Prim R:=fun args hh=>match args,hh with
 |[.slice (aa ⟨0,0,aa 2000⟩) n c],[aa (.inr (.inr (.inl r)))]=>aa ⟨r=iR (gG r)/\n=(gG r).length/\(gG r).length≤100000,.slice (aa ⟨1,0,aa 2000⟩) (nK (gG r)).length 0,aj,[aa (.inr (.inr (.inl r))),oI (nK (gG r))],[],[(0,0)]⟩
 |_,_=>aj
theorem agM {R:Type} {D:fK R}:ck D Tryz.prog 59 (a9 YU):=by
 refine fw Tryz.f59 fun args hh x hx=>?_
 unfold YU at hx;split at hx
 ·rename_i n c r;cases hx;refine q4 fun _ hv=>?_
  obtain⟨hr,rfl,hb⟩:=hv;generalize gG r=l at *;subst hr
  generalize hG:ct (R:=R) _ _=G;refine cW (T:=TAh) Vb mixed 200 ?_;refine bN (q:=let Z1:=bs av;At D Tryz.prog (dM Tryz.f59) 1 (iD Tryz.prog (dF (dG Tryz.f59)) G) [.inl [1,1,0,1,0],.inr (.inl 0),.inl [1,1,1]] (SS.mk (aa (bK (aa ⟨0,0,aa 2000⟩) l.length c)::aj::aa (bK (aa ⟨1,0,aa 2000⟩) 0 0)::aa (bK (aa ⟨2,0,aa 2000⟩) 0 0)::aa (Z1 0)::nH (nH (n4 (n4 (n4 ([])))))) [] [aa (.inr (.inr (.inl (Row.mk [Z1 0,Z1 0] l.length [aT.mk (au It.k l) [] [],aT.mk (au It.i l) [] []])))),aa (.inr (.inl (31,Row.mk [Z1 0,Z1 0] 0 [aT.mk [] [] [],aT.mk [] [] []]))),aa (.inr (.inl (31,Row.mk [Z1 0,Z1 0] 0 [aT.mk [] [] [],aT.mk [] [] []])))])) ?_ (by kernel_rfl)
  intro Z1;subst Z1;refine lC (by kernel_rfl) (ι:=Nat×List It) (fun x=>x.1≤l.length/\x.2=nK (l.take x.1)) [0,3,4] (fun x=>[.slice (aa ⟨0,0,aa 2000⟩) l.length c,.slice (aa ⟨1,0,aa 2000⟩) x.2.length 0,.int .i64 x.1]) (fun x=>[vI l,oI x.2]) (fun x=>l.length-x.1) 49 (fun i hi=>⟨rfl,rfl,by simp⟩) ⟨(0,[]),⟨dx _,rfl⟩,⟨[0,2],rfl,⟨rfl,⟨_,rfl,.inl rfl⟩,trivial⟩,rfl,rfl,rfl,rfl⟩⟩ fun x hx=>?_
  obtain⟨i,S⟩:=x;obtain⟨hi,hS⟩:=hx;simp only at hi hS ⊢;have hSl:S.length=i:=by rw[hS,W8,eu];omega
  refine cW (T:=TAh) Vb mixed 200 ?_;refine bN (q:=let Z3:=bs av;let Z1:=(bK (aa ⟨0,0,aa 2000⟩) l.length c);let Z2:=(bK (aa ⟨1,0,aa 2000⟩) (ae S) 0);(decide ((↑i:Int)<(↑l.length:Int))=aq->At D Tryz.prog (dM Tryz.f59) 1 (iD Tryz.prog (dF (dG Tryz.f59)) G) [.inl [1,1,0,1,0,0,1,0,0,1,0,0],.inr (.inl 2),.inl [1,1,0,1,0,0,1,0,0,1,1],.inr (.inl 1),.inl [1,1,0,1,0,0,1,1],.inr (.inr fun nJ=>∃ j,(aB j≤ae l/\aw j=nK (gF (aB j) l))/\ae l-aB j<ae l-i/\j4 R 1 49 [0,3,4] [.slice (aa ⟨0,0,aa 2000⟩) l.length c,.slice (aa ⟨1,0,aa 2000⟩) (ae (aw j)) 0,Z3 (↑(aB j):Int)] [vI l,oI (aw j)] (HJ (SS.tm nJ) [0,3,4]) (SS.hp nJ) (ae (SS.tm nJ))),.inr (.inl 0),.inl [1,1,1]] (SS.mk (aa Z1::aj::aj::aa Z2::aa (Z3 (↑i:Int))::aa (Z3 (↑(ae S):Int))::aj::aa (Z3 (↑i:Int))::aa Z1::aa (Z3 (↑l.length:Int))::aa (aD aq)::aj::aj::aa Z2::aa (Z3 (↑(ae S):Int))::nH (nH (aj::aj::[]))) [(10,aq)] [aa (.inr (.inr (.inl (Row.mk [Z3 0,Z3 0] l.length [aT.mk (au It.k l) [] [],aT.mk (au It.i l) [] []])))),aa (.inr (.inl (31,Row.mk [Z3 0,Z3 0] (ae S) [aT.mk (au It.k S) [] [],aT.mk (au It.i S) [] []])))]))/\(decide ((↑i:Int)<(↑l.length:Int))=ao->aY (G Z2 [aa (.inr (.inr (.inl (Row.mk [Z3 0,Z3 0] l.length [aT.mk (au It.k l) [] [],aT.mk (au It.i l) [] []])))),aa (.inr (.inl (31,Row.mk [Z3 0,Z3 0] (ae S) [aT.mk (au It.k S) [] [],aT.mk (au It.i S) [] []])))]))) ?_ (by kernel_rfl)
  intro Z3 Z1 Z2;subst Z2 Z1 Z3;refine⟨fun h=>?_,fun h=>⟨?_⟩⟩
  ·have cl:i<l.length:=by have:=of_decide_eq_true h;omega
   clear h;refine lC (by kernel_rfl) (ι:=Nat) (fun k=>k≤S.length/\tu (l.getD i iz) S k=tu (l.getD i iz) S S.length) [0,3,4,5] (fun k=>[.slice (aa ⟨0,0,aa 2000⟩) l.length c,.slice (aa ⟨1,0,aa 2000⟩) S.length 0,.int .i64 i,.int .i64 k]) (fun k=>[vI l,oI S]) (fun k=>k) 49 (fun i hi=>⟨rfl,rfl,by simp⟩) ⟨S.length,⟨bc _,rfl⟩,⟨[0,1],rfl,⟨rfl,⟨_,rfl,.inl rfl⟩,trivial⟩,rfl,rfl,rfl,rfl⟩⟩ fun k hk=>?_
   obtain⟨X8,Sb⟩:=hk;refine cW (T:=TAh) Vb mixed 200 ?_;refine bN (q:=let Z5:=bs av;let Z1:=(↑k:Int);let Z2:=(↑(ae S):Int);let Z3:=(ah (It.mk (ay (au It.k l) (0+(i:Int).toNat) (0:Int)) (ay (au It.i l) (0+(i:Int).toNat) (0:Int))) (It.mk (ay (au It.k S) (0+aI (Z1-(1:Int))) (0:Int)) (ay (au It.i S) (0+aI (Z1-(1:Int))) (0:Int))));let Z4:=(bK (aa ⟨0,0,aa 2000⟩) l.length c);(decide (Z1>(0:Int))=aq->Vc (aD (decide (Z1>(0:Int)))=aD aq)/\Vc ((0:Int)≤(↑i:Int)/\(↑i:Int)<(↑l.length:Int)/\0+ae l≤ae l)/\Vc (0+(i:Int).toNat<ae l)/\Vc (fits (Z1-(1:Int)))/\Vc ((0:Int)≤Z1-(1:Int)/\Z1-(1:Int)<Z2/\0+ae S≤ae S)/\Vc (0+aI (Z1-(1:Int))<ae S)/\Vc True/\(decide Z3=aq->Vc (fits (Z1-(1:Int)))/\aY (∃ j,(j≤ae S/\tu (ay l i iz) S j=tu (ay l i iz) S (ae S))/\j<k/\j4 R 1 49 [0,3,4,5] [.slice (aa ⟨0,0,aa 2000⟩) l.length c,.slice (aa ⟨1,0,aa 2000⟩) (ae S) 0,Z5 (↑i:Int),Z5 (↑j:Int)] [vI l,oI S] [aa Z4,aa (bK (aa ⟨1,0,aa 2000⟩) (ae S) 0),aa (Z5 (↑i:Int)),aa (Z5 (Z1-(1:Int)))] [aa (.inr (.inr (.inl (Row.mk [Z5 0,Z5 0] l.length [aT.mk (au It.k l) [] [],aT.mk (au It.i l) [] []])))),aa (.inr (.inl (31,Row.mk [Z5 0,Z5 0] (ae S) [aT.mk (au It.k S) [] [],aT.mk (au It.i S) [] []])))] 49))/\(decide Z3=ao->Vc ((0:Int)≤Z1/\Z1≤Z2/\0+ae S≤ae S)/\Vc (0≤0/\0+aI Z1≤ae S/\(0+aI Z1)*16≤140737488355328/\0+aI Z1≤140737488355328)/\Vc ((0:Int)≤(↑i:Int)/\(↑i:Int)<(↑l.length:Int)/\0+ae l≤ae l)/\Vc (0+(i:Int).toNat<ae l)/\Vc (0+(0+aI Z1)≤0+aI Z1/\1≤1/\(0+aI Z1+1)*16≤140737488355328/\0+aI Z1+1≤140737488355328)/\Vc (0=0/\(0:Int)≤Z1/\Z1≤Z2/\Z2≤Z2/\0+ae S≤ae S)/\Vc (0+(0+aI Z1+1)≤0+aI Z1+1/\0+aI Z1+aI (Z2-Z1)≤ae S/\(0+aI Z1+1+aI (Z2-Z1))*16≤140737488355328/\0+aI Z1+1+aI (Z2-Z1)≤140737488355328)/\Vc (fits ((↑i:Int)+(1:Int)))/\aY (∃ j,(aB j≤ae l/\aw j=nK (gF (aB j) l))/\ae l-aB j<ae l-i/\j4 R 1 49 [0,3,4] [.slice (aa ⟨0,0,aa 2000⟩) l.length c,.slice (aa ⟨1,0,aa 2000⟩) (ae (aw j)) 0,Z5 (↑(aB j):Int)] [vI l,oI (aw j)] [aa Z4,aa (bK (aa ⟨6,0,aa 2000⟩) (0+aI Z1+1+aI (Z2-Z1)) 0),aa (Z5 ((↑i:Int)+(1:Int)))] [aa (.inr (.inr (.inl (Row.mk [Z5 0,Z5 0] l.length [aT.mk (au It.k l) [] [],aT.mk (au It.i l) [] []])))),aa (.inr (.inl (31,Row.mk [Z5 0,Z5 0] (ae S) [aT.mk (au It.k S) [] [],aT.mk (au It.i S) [] []]))),aj,aj,aa (.inr (.inl (31,Row.mk [Z5 0,Z5 0] 1 [aT.mk [ay (au It.k l) (0+(i:Int).toNat) (0:Int)] [] [],aT.mk [ay (au It.i l) (0+(i:Int).toNat) (0:Int)] [] []]))),aj,aa (.inr (.inl (31,Row.mk [Z5 0,Z5 0] (0+aI Z1+1+aI (Z2-Z1)) [aT.mk (cut (cut ([]++cut (au It.k S) 0 (aI Z1)) 0 (0+aI Z1)++cut [ay (au It.k l) (0+(i:Int).toNat) (0:Int)] 0 1) 0 (0+aI Z1+1)++cut (au It.k S) (0+aI Z1) (aI (Z2-Z1))) [] [],aT.mk (cut (cut ([]++cut (au It.i S) 0 (aI Z1)) 0 (0+aI Z1)++cut [ay (au It.i l) (0+(i:Int).toNat) (0:Int)] 0 1) 0 (0+aI Z1+1)++cut (au It.i S) (0+aI Z1) (aI (Z2-Z1))) [] []])))] 49)))/\(decide (Z1>(0:Int))=ao->Vc (aD (decide (Z1>(0:Int)))=aD ao)/\Vc ((0:Int)≤Z1/\Z1≤Z2/\0+ae S≤ae S)/\Vc (0≤0/\0+aI Z1≤ae S/\(0+aI Z1)*16≤140737488355328/\0+aI Z1≤140737488355328)/\Vc ((0:Int)≤(↑i:Int)/\(↑i:Int)<(↑l.length:Int)/\0+ae l≤ae l)/\Vc (0+(i:Int).toNat<ae l)/\Vc (0+(0+aI Z1)≤0+aI Z1/\1≤1/\(0+aI Z1+1)*16≤140737488355328/\0+aI Z1+1≤140737488355328)/\Vc (0=0/\(0:Int)≤Z1/\Z1≤Z2/\Z2≤Z2/\0+ae S≤ae S)/\Vc (0+(0+aI Z1+1)≤0+aI Z1+1/\0+aI Z1+aI (Z2-Z1)≤ae S/\(0+aI Z1+1+aI (Z2-Z1))*16≤140737488355328/\0+aI Z1+1+aI (Z2-Z1)≤140737488355328)/\Vc (fits ((↑i:Int)+(1:Int)))/\aY (∃ j,(aB j≤ae l/\aw j=nK (gF (aB j) l))/\ae l-aB j<ae l-i/\j4 R 1 49 [0,3,4] [.slice (aa ⟨0,0,aa 2000⟩) l.length c,.slice (aa ⟨1,0,aa 2000⟩) (ae (aw j)) 0,Z5 (↑(aB j):Int)] [vI l,oI (aw j)] [aa Z4,aa (bK (aa ⟨6,0,aa 2000⟩) (0+aI Z1+1+aI (Z2-Z1)) 0),aa (Z5 ((↑i:Int)+(1:Int)))] [aa (.inr (.inr (.inl (Row.mk [Z5 0,Z5 0] l.length [aT.mk (au It.k l) [] [],aT.mk (au It.i l) [] []])))),aa (.inr (.inl (31,Row.mk [Z5 0,Z5 0] (ae S) [aT.mk (au It.k S) [] [],aT.mk (au It.i S) [] []]))),aj,aj,aa (.inr (.inl (31,Row.mk [Z5 0,Z5 0] 1 [aT.mk [ay (au It.k l) (0+(i:Int).toNat) (0:Int)] [] [],aT.mk [ay (au It.i l) (0+(i:Int).toNat) (0:Int)] [] []]))),aj,aa (.inr (.inl (31,Row.mk [Z5 0,Z5 0] (0+aI Z1+1+aI (Z2-Z1)) [aT.mk (cut (cut ([]++cut (au It.k S) 0 (aI Z1)) 0 (0+aI Z1)++cut [ay (au It.k l) (0+(i:Int).toNat) (0:Int)] 0 1) 0 (0+aI Z1+1)++cut (au It.k S) (0+aI Z1) (aI (Z2-Z1))) [] [],aT.mk (cut (cut ([]++cut (au It.i S) 0 (aI Z1)) 0 (0+aI Z1)++cut [ay (au It.i l) (0+(i:Int).toNat) (0:Int)] 0 1) 0 (0+aI Z1+1)++cut (au It.i S) (0+aI Z1) (aI (Z2-Z1))) [] []])))] 49))) ?_ (by kernel_rfl)
   intro Z5 Z1 Z2 Z3 Z4;subst Z4 Z3 Z2 Z1 Z5;have e0:0+(i:Int).toNat=i:=by omega
   have gl:∀ f:It->Int,f iz=0->(l.map f).getD i 0=f (l.getD i iz):=fun f hf=>by rw[Ii f 0 cl,ax,bj cl];rfl
   simp only[e0,gl It.k rfl,gl It.i rfl];have gS:∀ f:It->Int,f iz=0->((k:Int)-1).toNat<S.length->(S.map f).getD ((k:Int)-1).toNat 0=f (S.getD ((k:Int)-1).toNat iz):=fun f hf hj=>by rw[Ii f 0 hj,ax,bj hj];rfl
   repeat' (first|apply cZ|apply Vc.mk|apply fits.mk|intro h|apply aY.mk)
   all_goals (try simp only[sB] at *)
   all_goals first|contradiction|omega|exact ju ‹_›|exact jt ‹_›|exact jv ‹_›|exact⟨rfl,by omega⟩|exact rfl|(simp[*,-ax];done)|skip
   ·have h1:(k:Int)>0:=by assumption
    rw[gS It.k rfl (by omega),gS It.i rfl (by omega)] at h
    obtain⟨n,rfl⟩:∃ n,k=n+1:=⟨k-1,by omega⟩
    have e1:((n+1:Nat):Int)-1=n:=by omega
    rw[e1,iF] at h;rw[e1];exact⟨n,⟨by omega,by rw[← Sb,tu,if_pos h]⟩,fC _,⟨[0,1],rfl,⟨rfl,⟨_,rfl,.inl rfl⟩,trivial⟩,rfl,rfl,rfl,rfl⟩⟩
   ·have h1:(k:Int)>0:=by assumption
    rw[gS It.k rfl (by omega),gS It.i rfl (by omega)] at h
    obtain⟨n,rfl⟩:∃ n,k=n+1:=⟨k-1,by omega⟩
    have e1:((n+1:Nat):Int)-1=n:=by omega
    rw[e1,iF] at h;have hp:tu (l.getD i iz) S S.length=n+1:=by rw[← Sb,tu,if_neg h]
    have hI:=nQ hp;simp only[Ec (x:=S.map It.k) (r:=n+1) (L:=S.length) (gX ..) X8,Ec (x:=S.map It.i) (r:=n+1) (L:=S.length) (gX ..) X8,← hI.1,← hI.2.1,hI.2.2 X8];exact⟨(i+1,ins (l.getD i iz) S),⟨cl,by rw[hS,Um cl]⟩,by omega,⟨[0,6],rfl,⟨rfl,⟨_,rfl,.inl rfl⟩,trivial⟩,rfl,rfl,rfl,rfl⟩⟩
   ·obtain rfl:k=0:=by omega
    have hp:tu (l.getD i iz) S S.length=0:=by rw[← Sb];rfl
    have hI:=nQ hp;simp only[Ec (x:=S.map It.k) (r:=0) (L:=S.length) (gX ..) X8,Ec (x:=S.map It.i) (r:=0) (L:=S.length) (gX ..) X8,← hI.1,← hI.2.1,hI.2.2 X8];exact⟨(i+1,ins (l.getD i iz) S),⟨cl,by rw[hS,Um cl]⟩,by omega,⟨[0,6],rfl,⟨rfl,⟨_,rfl,.inl rfl⟩,trivial⟩,rfl,rfl,rfl,rfl⟩⟩
  ·obtain rfl:i=l.length:=by have:=of_decide_eq_false h;omega
   subst hG;rw[hS,kC];exact⟨[0,1],rfl,rfl,⟨rfl,⟨_,rfl,.inl rfl⟩,trivial⟩,rfl,rfl,rfl,rfl⟩
 ·cases hx
end Wv
namespace Sh
open Rx Wv
set_option maxRecDepth 100000
set_option maxHeartbeats 4000000
def rT (l:List It) (a n:Nat):Row:=⟨[.int .i64 0,.int .i64 0],n,[⟨cut (l.map It.k) a n,[],[]⟩,⟨cut (l.map It.i) a n,[],[]⟩]⟩
theorem DN (l:List It):rT l 0 l.length=iR l:=by unfold rT;simp only[cm]
theorem afG (l:List It):(⟨[.int .i64 0,.int .i64 0],l.length,[⟨cut (l.map It.k) 0 l.length,[],[]⟩,⟨cut (l.map It.i) 0 l.length,[],[]⟩]⟩:Row)=iR l:=by simp only[cm]
theorem Ji {β:Type} {l:List It} {i:Nat} (f:It->β) (d:β) (h:f iz=d):(l.map f).getD i d=f (l.getD i iz):=by
 subst h;rw[ax,ax,gh];cases l[i]?<;>rfl
theorem Zm (i:Nat):0+(i:Int).toNat=i:=by omega
theorem O2 {a b:It}:(a.k==b.k&&(a.i==b.i&&aq))=decide (a=b):=by
 rw[SU,Bool.eq_iff_iff];simp only[Bool.and_eq_true,beq_iff_eq,decide_eq_true_eq];exact⟨fun h=>It.Q3 h.1 h.2,fun h=>by rw[h];exact⟨rfl,rfl⟩⟩
def OK (l:List It) (x:It):Int:=if nL x l=aq then(pM x l:Int) else -1
abbrev bI {R:Type} (x:It):Option (SB R):=aa (.inl (31,[.int .i64 x.k,.int .i64 x.i]))
def atP {R:Type}:Prim R:=fun args hh=>match args,hh with
 |[.slice (aa ⟨0,0,aa 2000⟩) n c,.agg ⟨[.int .i64 a,.int .i64 b]⟩],[aa (.inr (.inr (.inl r)))]=>aa ⟨r=iR (gG r)/\n=(gG r).length/\(gG r).length≤100000,.int .i64 (OK (gG r) ⟨a,b⟩),aj,hh,[],[]⟩
 |_,_=>aj
theorem akK {R:Type} {D:fK R}:ck D Tryz.prog 50 (a9 atP):=by
 refine fw Tryz.f50 fun args hh x hx=>?_
 unfold atP at hx;split at hx
 ·rename_i n c a b r;cases hx;refine q4 fun _ hv=>?_
  obtain⟨hr,rfl,hb⟩:=hv;generalize gG r=l at *;subst hr
  generalize hG:ct (R:=R) _ _=G;refine cW (T:=[]) trivial mixed 200 ?_;refine bN (q:=let Z1:=bs av;At D Tryz.prog (dM Tryz.f50) 1 (iD Tryz.prog (dF (dG Tryz.f50)) G) [.inl [1,0,1,0],.inr (.inl 0),.inl [1,1]] (SS.mk (aa (bK (aa ⟨0,0,aa 2000⟩) l.length c)::aa (bE (aO [Z1 a,Z1 b]))::aj::aa (aE (aa ⟨1,0,aj⟩))::aa (Z1 0)::aa (Z1 0)::n4 (n4 (n4 (aj::[])))) [] [aa (.inr (.inr (.inl (iR l)))),aa (.inl (31,[Z1 a,Z1 b]))])) ?_ (by kernel_rfl)
  intro Z1;subst Z1;refine lC (by kernel_rfl) (ι:=Nat) (fun i=>i≤l.length/\∀ j,j<i->l.getD j iz≠⟨a,b⟩) [0,3,5] (fun i=>[.slice (aa ⟨0,0,aa 2000⟩) l.length c,.pointer (aa ⟨1,0,aj⟩),.int .i64 i]) (fun i=>[vI l,bI ⟨a,b⟩]) (fun i=>l.length-i) 19 (fun i hi=>⟨rfl,rfl,by simp⟩) ⟨0,⟨dx _,fun j hj=>by omega⟩,⟨[0,1],rfl,⟨rfl,.inl rfl,trivial⟩,rfl,rfl,rfl,rfl⟩⟩ fun i hi=>?_
  obtain⟨hi,hn⟩:=hi;refine cW (T:=[]) trivial mixed 200 ?_;refine bN (q:=let Z3:=bs av;let Z1:=(ay (au It.i l) (0+(i:Int).toNat) (0:Int)==b&&aq);let Z2:=(if ao=aq then !(ay (au It.k l) (0+(i:Int).toNat) (0:Int)==a&&Z1) else ay (au It.k l) (0+(i:Int).toNat) (0:Int)==a&&Z1);(decide ((↑i:Int)<(↑l.length:Int))=aq->Vc ((0:Int)≤(↑i:Int)/\(↑i:Int)<(↑l.length:Int)/\0+ae l≤ae l)/\Vc (0+(i:Int).toNat<ae l)/\(Z2=aq->aY (G (Z3 (↑i:Int)) [aa (.inr (.inr (.inl (iR l)))),aa (.inl (31,[Z3 a,Z3 b]))]))/\(Z2=ao->Vc (fits ((↑i:Int)+(1:Int)))/\aY (∃ j,(j≤ae l/\∀ (Yo:Nat),Yo<j->ay l Yo iz≠It.mk a b)/\ae l-j<ae l-i/\j4 R 1 19 [0,3,5] [.slice (aa ⟨0,0,aa 2000⟩) l.length c,.pointer (aa ⟨1,0,aj⟩),Z3 (↑j:Int)] [Wv.vI l,bI (It.mk a b)] [aa (bK (aa ⟨0,0,aa 2000⟩) l.length c),aa (aE (aa ⟨1,0,aj⟩)),aa (Z3 ((↑i:Int)+(1:Int)))] [aa (.inr (.inr (.inl (iR l)))),aa (.inl (31,[Z3 a,Z3 b]))] 19)))/\(decide ((↑i:Int)<(↑l.length:Int))=ao->aY (G (Z3 (-1:Int)) [aa (.inr (.inr (.inl (iR l)))),aa (.inl (31,[Z3 a,Z3 b]))]))) ?_ (by kernel_rfl)
  intro Z3 Z1 Z2;subst Z2 Z1 Z3;simp only[Zm,Ji It.k 0 rfl,Ji It.i 0 rfl];simp only[fu,if_false];have hx:=O2 (a:=l.getD i iz) (b:=⟨a,b⟩);simp only at hx;simp only[hx];refine⟨fun h=>?_,fun h=>?_⟩
  ·have cl:i<l.length:=by have:=of_decide_eq_true h;omega
   refine⟨⟨by omega,by omega,by omega⟩,⟨cl⟩,fun h2=>⟨?_⟩,fun h2=>⟨⟨by omega,by omega⟩,⟨i+1,⟨cl,fun j hj=>?_⟩,by omega,⟨[0,1],rfl,⟨rfl,.inl rfl,trivial⟩,rfl,rfl,rfl,rfl⟩⟩⟩⟩
   ·have e:=ajr hn cl (of_decide_eq_true h2);subst hG;unfold OK nL;rw[e,decide_eq_true cl,if_pos rfl];exact⟨[0],rfl,rfl,⟨rfl,trivial⟩,rfl,rfl,rfl,rfl⟩
   ·rcases cx j i with c|c
    ·exact hn j c
    ·rw[show j=i by omega];exact of_decide_eq_false h2
  ·obtain rfl:i=l.length:=by have:=of_decide_eq_false h;omega
   have e:=ajI hn;refine⟨?_⟩;subst hG;unfold OK nL;rw[e,decide_eq_false (Nat.lt_irrefl _),if_neg (by decide)]
   exact⟨[0],rfl,rfl,⟨rfl,trivial⟩,rfl,rfl,rfl,rfl⟩
 ·cases hx
def YG {R:Type}:Prim R:=fun args hh=>match args,hh with
 |[.slice (aa ⟨0,0,aa 2000⟩) n c,.slice (aa ⟨1,0,aa 2000⟩) n' c'],[aa (.inr (.inr (.inl r))),aa (.inr (.inr (.inl r')))]=>aa ⟨r=iR (gG r)/\n=(gG r).length/\r'=iR (gG r')/\n'=(gG r').length/\(gG r).length≤100000,.bool (decide (gG r=gG r')),aj,hh,[],[]⟩
 |_,_=>aj
theorem agU {R:Type} {D:fK R}:ck D Tryz.prog 26 (a9 YG):=by
 refine fw Tryz.f26 fun args hh x hx=>?_
 unfold YG at hx;split at hx
 ·rename_i n c n' c' r r';cases hx;refine q4 fun _ hv=>?_
  obtain⟨hr,rfl,uX,rfl,hb⟩:=hv;generalize gG r=l at *;generalize gG r'=l' at *;subst hr;subst uX
  generalize hG:ct (R:=R) _ _=G;refine cW (T:=[]) trivial mixed 200 ?_;refine bN (q:=let Z1:=(bK (aa ⟨0,0,aa 2000⟩) l.length c);let Z2:=(bK (aa ⟨1,0,aa 2000⟩) (ae l') c');(((↑l.length:Int) != (↑(ae l'):Int))=aq->aY (G (aD ao) [aa (.inr (.inr (.inl (iR l)))),aa (.inr (.inr (.inl (iR l'))))]))/\(((↑l.length:Int) != (↑(ae l'):Int))=ao->At D Tryz.prog (dM Tryz.f26) 2 (iD Tryz.prog (dF (dG Tryz.f26)) G) [.inl [1,1,0,1,0],.inr (.inl 0),.inl [1,1,1]] (SS.mk (aa Z1::aa Z2::aj::aj::aa (aD ao)::aa (bs av 0)::aa Z1::aa (bs av (↑l.length:Int))::aa Z2::aa (bs av (↑(ae l'):Int))::aa (aD ao)::n4 (n4 (n4 (aj::aj::aj::[])))) [(10,ao),(4,ao)] [aa (.inr (.inr (.inl (iR l)))),aa (.inr (.inr (.inl (iR l'))))]))) ?_ (by kernel_rfl)
  intro Z1 Z2;subst Z2 Z1;refine⟨fun h=>⟨?_⟩,fun h=>?_⟩
  ·have h2:¬ l=l':=fun e=>by rw[e,bne_self_eq_false] at h;cases h
   subst hG;rw[decide_eq_false h2];exact⟨[0,1],rfl,rfl,⟨rfl,rfl,trivial⟩,rfl,rfl,rfl,rfl⟩
  have hl:l.length=l'.length:=by have:=(bne_eq_false_iff_eq).1 h;omega
  clear h;refine lC (by kernel_rfl) (ι:=Nat) (fun i=>i≤l.length/\∀ j,j<i->l.getD j iz=l'.getD j iz) [0,1,5] (fun i=>[.slice (aa ⟨0,0,aa 2000⟩) l.length c,.slice (aa ⟨1,0,aa 2000⟩) l'.length c',.int .i64 i]) (fun i=>[vI l,vI l']) (fun i=>l.length-i) 26 (fun i hi=>⟨rfl,rfl,by simp⟩) ⟨0,⟨dx _,fun j hj=>by omega⟩,⟨[0,1],rfl,⟨rfl,rfl,trivial⟩,rfl,rfl,rfl,rfl⟩⟩ fun i hi=>?_
  obtain⟨hi,hn⟩:=hi;refine cW (T:=[]) trivial mixed 200 ?_;refine bN (q:=let Z1:=(ay (au It.i l) (0+(i:Int).toNat) (0:Int)==ay (au It.i l') (0+(i:Int).toNat) (0:Int)&&aq);let Z2:=(if aq=aq then !(ay (au It.k l) (0+(i:Int).toNat) (0:Int)==ay (au It.k l') (0+(i:Int).toNat) (0:Int)&&Z1) else ay (au It.k l) (0+(i:Int).toNat) (0:Int)==ay (au It.k l') (0+(i:Int).toNat) (0:Int)&&Z1);(decide ((↑i:Int)<(↑l.length:Int))=aq->Vc ((0:Int)≤(↑i:Int)/\(↑i:Int)<(↑l.length:Int)/\0+ae l≤ae l)/\Vc (0+(i:Int).toNat<ae l)/\Vc ((0:Int)≤(↑i:Int)/\(↑i:Int)<(↑(ae l'):Int)/\0+ae l'≤ae l')/\Vc (0+(i:Int).toNat<ae l')/\(Z2=aq->aY (G (aD ao) [aa (.inr (.inr (.inl (iR l)))),aa (.inr (.inr (.inl (iR l'))))]))/\(Z2=ao->Vc (fits ((↑i:Int)+(1:Int)))/\aY (∃ j,(j≤ae l/\∀ (Yo:Nat),Yo<j->ay l Yo iz=ay l' Yo iz)/\ae l-j<ae l-i/\j4 R 2 26 [0,1,5] [.slice (aa ⟨0,0,aa 2000⟩) l.length c,.slice (aa ⟨1,0,aa 2000⟩) (ae l') c',.int av (↑j:Int)] [Wv.vI l,Wv.vI l'] [aa (bK (aa ⟨0,0,aa 2000⟩) l.length c),aa (bK (aa ⟨1,0,aa 2000⟩) (ae l') c'),aa (bs av ((↑i:Int)+(1:Int)))] [aa (.inr (.inr (.inl (iR l)))),aa (.inr (.inr (.inl (iR l'))))] 26)))/\(decide ((↑i:Int)<(↑l.length:Int))=ao->aY (G (aD aq) [aa (.inr (.inr (.inl (iR l)))),aa (.inr (.inr (.inl (iR l'))))]))) ?_ (by kernel_rfl)
  intro Z1 Z2;subst Z2 Z1;simp only[Zm,Ji It.k 0 rfl,Ji It.i 0 rfl];have hx:=O2 (a:=l.getD i iz) (b:=l'.getD i iz);simp only[hx,if_true,ite_true];refine⟨fun h=>?_,fun h=>?_⟩
  ·have cl:i<l.length:=by have:=of_decide_eq_true h;omega
   have adJ:i<l'.length:=by omega
   refine⟨⟨by omega,by omega,by omega⟩,⟨cl⟩,⟨by omega,by omega,by omega⟩,⟨adJ⟩,fun h2=>⟨?_⟩,fun h2=>⟨⟨by omega,by omega⟩,⟨i+1,⟨cl,fun j hj=>?_⟩,by omega,⟨[0,1],rfl,⟨rfl,rfl,trivial⟩,rfl,rfl,rfl,rfl⟩⟩⟩⟩
   ·have h3:¬ l.getD i iz=l'.getD i iz:=by simpa using h2
    have h4:¬ l=l':=fun e=>h3 (by rw[e])
    subst hG;rw[decide_eq_false h4];exact⟨[0,1],rfl,rfl,⟨rfl,rfl,trivial⟩,rfl,rfl,rfl,rfl⟩
   ·have h3:l.getD i iz=l'.getD i iz:=by simpa using h2
    rcases cx j i with c|c
    ·exact hn j c
    ·rw[show j=i by omega];exact h3
  ·obtain rfl:i=l.length:=by have:=of_decide_eq_false h;omega
   have e:l=l':=N7 hl fun j h1 h2=>by
    have:=hn j h1
    rwa [ax,bj h1,ax,bj h2] at this
   refine⟨?_⟩;subst hG;rw[decide_eq_true e];exact⟨[0,1],rfl,rfl,⟨rfl,rfl,trivial⟩,rfl,rfl,rfl,rfl⟩
 ·cases hx
theorem Js (l:List It) (x:It):decide (OK l x<0) = !nL x l:=by
 unfold OK;cases nL x l
 ·rfl
 ·simp only[if_true,Bool.not_true];exact decide_eq_false (by omega)
end Sh
namespace G9
open Rx Wv Sh
set_option maxRecDepth 100000
set_option maxHeartbeats 16000000
def Y4:je Rt:=⟨fun _ _=>aa aq,fun _ _=>aj,fun _ _=>aa ⟨True,.bool ao,aj,[],[],[]⟩⟩
theorem XA:QB D2 Y4:=by
 refine⟨fun _ X p F w h=>?_,fun e X x p F w hx=>by cases hx⟩
 obtain⟨Ma,PV,h1,h2,h3⟩:=h;obtain⟨t,cs,tl,hl⟩:∃ t cs tl,L2.lay X=aa (.inl (t,cs))::tl:=by cases X;exact⟨_,_,_,rfl⟩
 obtain⟨g1,g2,g3⟩:=(h3.at_ 0 (.inl (t,cs)) (by rw[hl];rfl)).1
 subst h1;exact⟨(h2 _).2 ⟨0,(g2 _).2 rfl⟩,_,_,g3⟩
def its (s:Ts):List It:=s.l.map Sl.it
abbrev oS (l:List Sl):Option (SB Rt):=aa (.inr (.inl (75,⟨[.int .i64 0,.int .i64 0,.bool ao,.int .i64 0],l.length,[⟨l.map fun e=>e.it.k,[],[]⟩,⟨l.map fun e=>e.it.i,[],[]⟩,⟨[],l.map fun e=>e.lS,[]⟩,⟨l.map fun e=>e.time,[],[]⟩]⟩)))
def TNw:eK Rt:=[(91,bM zN 2 (a9 H9))]
theorem Ue:cQ D2 Tryz.prog TNw:=⟨aX _ _ Qn,trivial⟩
def MG:Prim Rt:=fun args hh=>match args,hh with
 |[.int .i64 c],[]=>aa ⟨True,.pointer (aa ⟨0,0,aj⟩),aj,[oT (qN k9 c)],[],[(0,0)]⟩
 |_,_=>aj
theorem Vu:ck D2 Tryz.prog 53 (a9 MG):=by
 refine fw Tryz.f53 fun args hh x hx=>?_
 unfold MG at hx;split at hx
 ·rename_i c;cases hx;refine q4 fun _ hv=>?_
  generalize hG:ct (R:=Rt) _ _=G;refine cW (T:=TNw) Ue mixed 200 ?_;refine bN (q:=Vc True/\aY (G (aE (aa ⟨0,0,aj⟩)) [aa (.inr (.inr (.inr (Rt.tree (qN k9 c)))))])) ?_ (by kernel_rfl)
  subst hG;exact⟨⟨trivial⟩,⟨⟨[0],rfl,rfl,⟨rfl,trivial⟩,rfl,rfl,rfl,rfl⟩⟩⟩
 ·cases hx
end G9
namespace Br
open Rx Wv G8
set_option maxRecDepth 100000
def tkL (x:Option It):List Value:=[.bool x.isSome,.int .i64 (x.getD iz).k,.int .i64 (x.getD iz).i]
theorem SX {L:List Mk} {b:Int} (hl:L.length≤60) (L5:-1099511627776≤b) (PX:b≤1099511627776):Gv.AW O8 S8 (jY b) (fun i=>decide (vP L b (i+1)≤0)) L:=adt fun p l q hL kt=>by
 have hn:=congrArg ae hL;simp only[bJ] at hn;have hp:p.length≤60:=by omega
 have hq:l.length≤60:=by omega
 have h1:=Ti.Aq (FK Zy hp) _ (bc _);have h2:=Ti.Gm (FK Zy hq) _ (bc _);have e1:(S8 p).w.s=Ti.oZ (p.map ue) (p.map ue).length:=rfl;have e2:(S8 l).w.l=Ti.qm (l.map ue) (l.map ue).length:=rfl;rw[← e1] at h1;rw[← e2] at h2;unfold jY;have w1:mW (b+(S8 p).w.s)=b+(S8 p).w.s:=Gv.uv (by omega)
 have w2:mW (b+(S8 p).w.s+(S8 l).w.l)=b+(S8 p).w.s+(S8 l).w.l:=Gv.uv (by omega)
 rw[w1,w2,decide_eq_true_eq]
theorem RO (s:Ts):s.l.length≤60:=s.ok.dm
def Cw (s:Ts) (p:Int):Ts:=s.seen.F3 0 (kA s.l.length p)
def EC (s:Ts) (p b:Int):Ts:=if kA s.l.length p=0/\b≤0 then s.seen else s.seen.first (jY b) ((kA s.l.length p:Int)-1)
def U4 (s:Ts) (p b:Int):Ts:=s.seen.last (jY b) (kA s.l.length p)
def Hc (s:Ts) (p:Int):Ts:=s.seen.seen.F3 (kA s.l.length p) s.l.length
theorem akO (s:Ts) (p b:Int):(EC s p b).l=s.l:=by unfold EC;split<;>rfl
theorem akT (s:Ts) (p b:Int):(EC s p b).n=s.n:=by unfold EC;split<;>rfl
theorem ak2 (s:Ts) (p b:Int):(EC s p b).c=s.c:=by unfold EC;split<;>rfl
theorem agL {s:Ts} {L:List Mk} {p b:Int} (hL:s.l=L) (L5:-1099511627776≤b) (PX:b≤1099511627776):Ft (8*uR L.length+5) s.m (EC s p b).m:=by
 subst hL;have h1:=s.tM;have h3:=Qd (s:=s.seen) (f:=(kA s.l.length p:Int)-1) (may:=jY b) (SX (L:=s.l) (RO s) L5 PX);unfold EC;split
 ·exact h1.mono (by omega)
 ·exact(h1.trans h3).mono (by show 1+(4*uR s.l.length+1)≤_;omega)
theorem ahb {s:Ts} {L:List Mk} {p b:Int} (hL:s.l=L) (L5:-1099511627776≤b) (PX:b≤1099511627776):Ft (8*uR L.length+5) s.m (U4 s p b).m:=by
 subst hL;have h1:=s.tM;have h3:=RF (s:=s.seen) (f:=(kA s.l.length p:Int)) (may:=jY b) (SX (L:=s.l) (RO s) L5 PX);exact(h1.trans h3).mono (by show 1+(4*uR s.l.length+1)≤_;omega)
set_option maxHeartbeats 8000000
def Y4:je Rt:=⟨fun _ _=>aa aq,fun _ _=>aj,fun _ _=>aa ⟨True,.bool ao,aj,[],[],[]⟩⟩
theorem XA:QB D2 Y4:=by
 refine⟨fun _ X p F w h=>?_,fun e X x p F w hx=>by cases hx⟩
 obtain⟨Ma,PV,h1,h2,h3⟩:=h;obtain⟨t,cs,tl,hl⟩:∃ t cs tl,L2.lay X=aa (.inl (t,cs))::tl:=by cases X;exact⟨_,_,_,rfl⟩
 obtain⟨g1,g2,g3⟩:=(h3.at_ 0 (.inl (t,cs)) (by rw[hl];rfl)).1
 subst h1;exact⟨(h2 _).2 ⟨0,(g2 _).2 rfl⟩,_,_,g3⟩
def TNw:eK Rt:=[(90,bM zN 2 (a9 H9))]
theorem Ue:cQ D2 Tryz.prog TNw:=⟨aX _ _ Qn,trivial⟩
def MG:Prim Rt:=fun args hh=>match args,hh with
 |[.int .i64 c],[]=>aa ⟨True,.pointer (aa ⟨0,0,aj⟩),aj,[oT (qN k8 c)],[],[(0,0)]⟩
 |_,_=>aj
theorem Vu:ck D2 Tryz.prog 52 (a9 MG):=by
 refine fw Tryz.f52 fun args hh x hx=>?_
 unfold MG at hx;split at hx
 ·rename_i c;cases hx;refine q4 fun _ hv=>?_
  generalize hG:ct (R:=Rt) _ _=G;refine cW (T:=TNw) Ue mixed 200 ?_;refine bN (q:=Vc True/\aY (G (aE (aa ⟨0,0,aj⟩)) [aa (.inr (.inr (.inr (Rt.tree (qN k8 c)))))])) ?_ (by kernel_rfl)
  subst hG;exact⟨⟨trivial⟩,⟨⟨[0],rfl,rfl,⟨rfl,trivial⟩,rfl,rfl,rfl,rfl⟩⟩⟩
 ·cases hx
def TCl:eK Rt:=[(40,bM zN 2 (a9 B8)),(78,bM zN 2 (a9 PR))]
theorem ahD:cQ D2 Tryz.prog TCl:=⟨aX _ _ DU,aX _ _ Qp,trivial⟩
def YC:Prim Rt:=fun args hh=>match args,hh with
 |[.pointer (aa ⟨0,0,aj⟩),.int .i64 p],[aa (.inr (.inr (.inr (.tree s))))]=>aa ⟨s.gE,.tuple ⟨[.pointer (aa ⟨0,0,aj⟩),.int .i64 (kA s.l.length p)]⟩,aj,[oT s.seen],[],[(0,0)]⟩
 |_,_=>aj
theorem ag8:ck D2 Tryz.prog 132 (a9 YC):=by
 refine fw Tryz.f132 fun args hh x hx=>?_
 unfold YC at hx;split at hx
 ·rename_i p s;cases hx;refine q4 fun _ hv=>?_
  generalize hG:ct (R:=Rt) _ _=G;refine cW (T:=TCl) ahD mixed 200 ?_;refine bN (q:=Vc (fE s)/\aY (G (cv (aO [.pointer (aa ⟨0,0,aj⟩),.int av (if(↑(ae (gu s)):Int)<if(0:Int)>p then(0:Int) else p then(↑(ae (gu s)):Int) else if(0:Int)>p then(0:Int) else p)])) [aa (.inr (.inr (.inr (Rt.tree (fb s)))))])) ?_ (by kernel_rfl)
  have e:(if(s.l.length:Int)<(if 0>p then 0 else p) then(s.l.length:Int) else(if 0>p then 0 else p))=(kA s.l.length p:Int):=by unfold kA;split<;>split at *<;>omega
  rw[e];subst hG;exact⟨⟨hv⟩,⟨⟨[0],rfl,rfl,⟨rfl,trivial⟩,rfl,rfl,rfl,rfl⟩⟩⟩
 ·cases hx
theorem abc (l:List Mk) (p:Int):mS l (kA l.length p) l.length=l.drop (kA l.length p):=by
 show(l.drop _).take (l.length-_)=_
 rw[jl (by rw[jq];exact bc _)]
theorem abE (l:List Mk) (p:Int):mS l 0 (kA l.length p)=l.take (kA l.length p):=rfl
theorem yT {s:Ts} (h:s.gE):s.seen.gE:=h
def ZS:Prim Rt:=fun args hh=>match args,hh with
 |[.int .i64 b],[]=>aa ⟨True,.func (.func 154) ⟨[]⟩ ⟨[.pointer (aa ⟨0,0,aj⟩)]⟩,aj,[aa (.inl (3,[.int .i64 b]))],[],[(0,0)]⟩
 |_,_=>aj
theorem agI:ck D2 Tryz.prog 133 (a9 ZS):=by
 refine fw Tryz.f133 fun args hh x hx=>?_
 unfold ZS at hx;split at hx
 ·rename_i b;cases hx;refine q4 fun _ hv=>?_
  generalize hG:ct (R:=Rt) _ _=G;refine cW (T:=[]) trivial mixed 200 ?_;refine bN (q:=Vc True/\aY (G (Value.func (Fn.func 154) (aO []) (aO [.pointer (aa ⟨0,0,aj⟩)])) [aa (.inl (3,[.int av b]))])) ?_ (by kernel_rfl)
  subst hG;exact⟨⟨trivial⟩,⟨⟨[0],rfl,rfl,⟨.inl rfl,trivial⟩,rfl,rfl,rfl,rfl⟩⟩⟩
 ·cases hx
def TBr:eK Rt:=[(1000000000,Y4),(132,bM zN 2 (a9 YC)),(133,bM zN 2 (a9 ZS)),(108,bM zN 2 (a9 Mu)),(111,bM zN 2 (a9 Qx)),(40,bM zN 2 (a9 B8)),(78,bM zN 2 (a9 PR))]
theorem OU:cQ D2 Tryz.prog TBr:=⟨XA,aX _ _ ag8,aX _ _ agI,aX _ _ Zf,aX _ _ abG,aX _ _ DU,aX _ _ Qp,trivial⟩
def adk:Prim Rt:=fun args hh=>match args,hh with
 |[.pointer (aa ⟨0,0,aj⟩),.int .i64 p,.int .i64 b],[aa (.inr (.inr (.inr (.tree s))))]=>aa ⟨s.gE/\-1099511627776≤b/\b≤1099511627776,.int .i64 (OP s.l p b),aj,[oT (EC s p b)],[],[(0,0)]⟩
 |_,_=>aj
theorem ajm:ck D2 Tryz.prog 112 (a9 adk):=by
 refine fw Tryz.f112 fun args hh x hx=>?_
 unfold adk at hx;split at hx
 ·rename_i p b s;cases hx;refine q4 fun _ hv=>?_
  generalize hG:ct (R:=Rt) _ _=G;refine cW (T:=TBr) OU mixed 200 ?_;refine bN (q:=let Z2:=bs av;let Z1:=(cr av ((↑(kA (ae (gu s)) p):Int)-(1:Int)));Vc (fE s)/\(((↑(kA (ae (gu s)) p):Int)==(0:Int))=aq->(decide (b≤(0:Int))=aq->aY (G (Z2 0) [aa (.inr (.inr (.inr (Rt.tree (fb s)))))]))/\(decide (b≤(0:Int))=ao->Vc True/\Vc True/\Vc (fE (fb s))/\(decide (pd (jY b) (fb s) Z1<(0:Int))=aq->aY (G (Z2 (-1:Int)) [aa (.inr (.inr (.inr (Rt.tree (yC (jY b) (fb s) Z1))))),aa (.inl (3,[Z2 b]))]))/\(decide (pd (jY b) (fb s) Z1<(0:Int))=ao->Vc True/\aY (G (Z2 (cr av (pd (jY b) (fb s) Z1+(1:Int)))) [aa (.inr (.inr (.inr (Rt.tree (yC (jY b) (fb s) Z1))))),aa (.inl (3,[Z2 b]))]))))/\(((↑(kA (ae (gu s)) p):Int)==(0:Int))=ao->Vc True/\Vc True/\Vc (fE (fb s))/\(decide (pd (jY b) (fb s) Z1<(0:Int))=aq->aY (G (Z2 (-1:Int)) [aa (.inr (.inr (.inr (Rt.tree (yC (jY b) (fb s) Z1))))),aa (.inl (3,[Z2 b]))]))/\(decide (pd (jY b) (fb s) Z1<(0:Int))=ao->Vc True/\aY (G (Z2 (cr av (pd (jY b) (fb s) Z1+(1:Int)))) [aa (.inr (.inr (.inr (Rt.tree (yC (jY b) (fb s) Z1))))),aa (.inl (3,[Z2 b]))])))) ?_ (by kernel_rfl)
  intro Z2 Z1;subst Z1 Z2;obtain⟨lV,L5,PX⟩:=hv;have done:∀ (x:Int) (rest:Hp Rt),x=OP s.l p b->G (.int .i64 x) (oT (EC s p b)::rest):=by
   intro x rest e;subst e;subst hG;exact⟨[0],rfl,rfl,⟨rfl,trivial⟩,rfl,rfl,rfl,rfl⟩
  clear hG;have hl:=RO s;have hc:=TT s.l.length p;have hN:=aaw s.l p b;have hA:=SX (L:=s.l) hl L5 PX;have e1:av.wrap ((kA s.l.length p:Int)-1)=(kA s.l.length p:Int)-1:=pA ⟨by omega,by omega⟩
  simp only[e1];refine⟨⟨lV⟩,fun h0=>⟨fun h1=>⟨?_⟩,fun h1=>?_⟩,fun h0=>?_⟩
  ·have h0:kA s.l.length p=0:=by have:=eq_of_beq h0;omega
   have h1:=of_decide_eq_true h1;rw[EC,if_pos ⟨h0,h1⟩] at done;exact done _ _ (Pf (.inr ⟨0,rfl,by omega,by omega,by rw[ES];exact h1,fun i g1 g2=>by omega⟩) hN)
  all_goals
   have cb:¬ (kA s.l.length p=0/\b≤0):=by
    first
    |exact fun c=>absurd c.2 (of_decide_eq_false h1)
    |exact fun c=>by have:=beq_eq_false_iff_ne.1 h0;omega
   rw[EC,if_neg cb] at done;have hF:=RG (s:=s.seen) (f:=(kA s.l.length p:Int)-1) (may:=jY b) hA.toAsks;have hI:=YI hc (fun c0 c1=>cb ⟨c0,c1⟩) hF
   generalize pd (jY b) s.seen ((kA s.l.length p:Int)-1)=r at *
   have hr:-1≤r/\r<60:=by
    rcases hF with⟨h1,_⟩|⟨j,h1,_,h3,_⟩
    ·omega
    ·have h3:j<s.l.length:=h3;omega
   refine⟨⟨trivial⟩,⟨trivial⟩,⟨yT lV⟩,fun h2=>⟨?_⟩,fun h2=>⟨⟨trivial⟩,⟨?_⟩⟩⟩
   ·rw[if_pos (of_decide_eq_true h2)] at hI;exact done _ _ (Pf hI hN)
   ·rw[if_neg (of_decide_eq_false h2)] at hI;rw[show av.wrap (r+1)=r+1 from pA ⟨by omega,by omega⟩]
    exact done _ _ (Pf hI hN)
 ·cases hx
def adI:Prim Rt:=fun args hh=>match args,hh with
 |[.pointer (aa ⟨0,0,aj⟩),.int .i64 p,.int .i64 b],[aa (.inr (.inr (.inr (.tree s))))]=>aa ⟨s.gE/\-1099511627776≤b/\b≤1099511627776,.int .i64 (D_ s.l p b),aj,[oT (U4 s p b)],[],[(0,0)]⟩
 |_,_=>aj
theorem ajC:ck D2 Tryz.prog 95 (a9 adI):=by
 refine fw Tryz.f95 fun args hh x hx=>?_
 unfold adI at hx;split at hx
 ·rename_i p b s;cases hx;refine q4 fun _ hv=>?_
  generalize hG:ct (R:=Rt) _ _=G;refine cW (T:=TBr) OU mixed 200 ?_;refine bN (q:=let Z2:=bs av;let Z1:=(↑(kA (ae (gu s)) p):Int);Vc (fE s)/\Vc True/\Vc (fE (fb s))/\(decide (tN (jY b) (fb s) Z1<(0:Int))=aq->(decide (b>(0:Int))=aq->aY (G (Z2 (-1:Int)) [aa (.inr (.inr (.inr (Rt.tree (DC (jY b) (fb s) Z1))))),aa (.inl (3,[Z2 b]))]))/\(decide (b>(0:Int))=ao->Vc True/\aY (G (Z2 (cr av (tN (jY b) (fb s) Z1+(1:Int)))) [aa (.inr (.inr (.inr (Rt.tree (DC (jY b) (fb s) Z1))))),aa (.inl (3,[Z2 b]))])))/\(decide (tN (jY b) (fb s) Z1<(0:Int))=ao->Vc True/\aY (G (Z2 (cr av (tN (jY b) (fb s) Z1+(1:Int)))) [aa (.inr (.inr (.inr (Rt.tree (DC (jY b) (fb s) Z1))))),aa (.inl (3,[Z2 b]))]))) ?_ (by kernel_rfl)
  intro Z2 Z1;subst Z1 Z2;obtain⟨lV,L5,PX⟩:=hv;have done:∀ (x:Int) (rest:Hp Rt),x=D_ s.l p b->G (.int .i64 x) (oT (U4 s p b)::rest):=by
   intro x rest e;subst e;subst hG;exact⟨[0],rfl,rfl,⟨rfl,trivial⟩,rfl,rfl,rfl,rfl⟩
  clear hG;have hl:=RO s;have hc:=TT s.l.length p;have hN:=OE s.l p b;have hA:=SX (L:=s.l) hl L5 PX;have hF:=SV (s:=s.seen) (f:=(kA s.l.length p:Int)) (may:=jY b) hA.toAsks;have hI:=ad7 hc hF;unfold U4 at done;generalize tN (jY b) s.seen (kA s.l.length p)=r at *
  have hr:-1≤r/\r<60:=by
   rcases hF with⟨h1,_⟩|⟨j,h1,_,h3,_⟩
   ·omega
   ·have h3:j<s.l.length:=h3;omega
  refine⟨⟨lV⟩,⟨trivial⟩,⟨yT lV⟩,fun h=>⟨fun h2=>⟨?_⟩,fun h2=>⟨⟨trivial⟩,⟨?_⟩⟩⟩,fun h=>⟨⟨trivial⟩,⟨?_⟩⟩⟩
  ·have h:=of_decide_eq_true h;have h2:=of_decide_eq_true h2;rw[if_neg (by omega),if_neg (by omega)] at hI
   exact done _ _ (Un hI hN)
  ·have h:=of_decide_eq_true h;have h2:=of_decide_eq_false h2;rw[if_neg (by omega),if_pos (by omega)] at hI
   rw[show av.wrap (r+1)=0 from by rw[pA ⟨by omega,by omega⟩];omega]
   exact done _ _ (Un hI hN)
  ·have h:=of_decide_eq_false h;rw[if_pos (by omega)] at hI
   rw[show av.wrap (r+1)=r+1 from pA ⟨by omega,by omega⟩]
   exact done _ _ (Un hI hN)
 ·cases hx
def adK:Prim Rt:=fun args hh=>match args,hh with
 |[.pointer (aa ⟨0,0,aj⟩),.int .i64 p],[aa (.inr (.inr (.inr (.tree s))))]=>aa ⟨s.gE,.agg ⟨tkL (uy s.l p)⟩,aj,[oT (Hc s p)],[],[(0,0)]⟩
 |_,_=>aj
theorem aiP:ck D2 Tryz.prog 104 (a9 adK):=by
 refine fw Tryz.f104 fun args hh x hx=>?_
 unfold adK at hx;split at hx
 ·rename_i p s;cases hx;refine q4 fun _ hv=>?_
  generalize hG:ct (R:=Rt) _ _=G;refine cW (T:=TBr) OU mixed 200 ?_;refine bN (q:=let Z1:=(S8 (mS (gu (fb (fb s))) (aI (↑(kA (ae (gu s)) p):Int)) (aI (↑(ae (gu (fb s))):Int))));Vc (fE s)/\Vc (fE (fb s))/\Vc (fE (fb (fb s)))/\aY (G (bE (aO [.bool (Sw.gf Z1),.int av (It.k (Sw.g Z1)),.int av (It.i (Sw.g Z1))])) [aa (.inr (.inr (.inr (Rt.tree (acF (fb (fb s)) (↑(kA (ae (gu s)) p):Int) (↑(ae (gu (fb s))):Int)))))),aa (.inl (47,[.bool (Sw.gf Z1),.int av (It.k (Sw.g Z1)),.int av (It.i (Sw.g Z1))]))])) ?_ (by kernel_rfl)
  intro Z1;subst Z1;subst hG;simp only[show gu (fb s)=s.l from rfl,show gu (fb (fb s))=s.l from rfl,iF,abc]
  exact⟨⟨hv⟩,⟨yT hv⟩,⟨yT (yT hv)⟩,⟨⟨[0],rfl,rfl,⟨rfl,trivial⟩,rfl,rfl,rfl,rfl⟩⟩⟩
 ·cases hx
def adq:Prim Rt:=fun args hh=>match args,hh with
 |[.pointer (aa ⟨0,0,aj⟩),.int .i64 p],[aa (.inr (.inr (.inr (.tree s))))]=>aa ⟨s.gE,.agg ⟨tkL (pU s.l p)⟩,aj,[oT (Cw s p)],[],[(0,0)]⟩
 |_,_=>aj
theorem akt:ck D2 Tryz.prog 109 (a9 adq):=by
 refine fw Tryz.f109 fun args hh x hx=>?_
 unfold adq at hx;split at hx
 ·rename_i p s;cases hx;refine q4 fun _ hv=>?_
  generalize hG:ct (R:=Rt) _ _=G;refine cW (T:=TBr) OU mixed 200 ?_;refine bN (q:=let Z1:=(S8 (mS (gu (fb s)) 0 (aI (↑(kA (ae (gu s)) p):Int))));Vc (fE s)/\Vc (fE (fb s))/\aY (G (bE (aO [.bool (Sw.lf Z1),.int av (It.k (Sw.l Z1)),.int av (It.i (Sw.l Z1))])) [aa (.inr (.inr (.inr (Rt.tree (acF (fb s) (0:Int) (↑(kA (ae (gu s)) p):Int)))))),aa (.inl (47,[.bool (Sw.lf Z1),.int av (It.k (Sw.l Z1)),.int av (It.i (Sw.l Z1))]))])) ?_ (by kernel_rfl)
  intro Z1;subst Z1;subst hG;simp only[show gu (fb s)=s.l from rfl,iF,abE]
  exact⟨⟨hv⟩,⟨yT hv⟩,⟨⟨[0],rfl,rfl,⟨rfl,trivial⟩,rfl,rfl,rfl,rfl⟩⟩⟩
 ·cases hx
end Br
namespace Rx
open Go.RowKit State
structure GP (R0 R:Type) where
 e:R0->R
 d:R->Option R0
 de:∀ y x,d y=aa x->y=e x
section
variable {R R0:Type}
def eB (E:GP R0 R):SB R0->SB R
 |.inl x=>.inl x
 |.inr (.inl x)=>.inr (.inl x)
 |.inr (.inr (.inl r))=>.inr (.inr (.inl r))
 |.inr (.inr (.inr x))=>.inr (.inr (.inr (E.e x)))
def dB (E:GP R0 R):SB R->Option (SB R0)
 |.inl x=>aa (.inl x)
 |.inr (.inl x)=>aa (.inr (.inl x))
 |.inr (.inr (.inl r))=>aa (.inr (.inr (.inl r)))
 |.inr (.inr (.inr y))=>match E.d y with
  |some x=>aa (.inr (.inr (.inr x)))
  |none=>aj
def eS (E:GP R0 R):Option (SB R0)->Option (SB R)
 |none=>aj
 |some b=>aa (eB E b)
def eH (E:GP R0 R):Hp R0->Hp R
 |[]=>[]
 |b::l=>eS E b::eH E l
def dH (E:GP R0 R):Hp R->Option (Hp R0)
 |[]=>aa []
 |none::l=>match dH E l with
  |some l'=>aa (aj::l')
  |none=>aj
 |some b::l=>match dB E b with
  |some b'=>match dH E l with
   |some l'=>aa (aa b'::l')
   |none=>aj
  |none=>aj
variable {E:GP R0 R}
theorem amQ {b:SB R} {b0:SB R0} (h:dB E b=aa b0):b=eB E b0:=by
 rcases b with x|x|r|y
 ·injection h with h;subst h;rfl
 ·injection h with h;subst h;rfl
 ·injection h with h;subst h;rfl
 ·unfold dB at h;simp only at h;split at h
  ·rename_i x hx;injection h with h
   subst h;rw[E.de _ _ hx]
   rfl
  ·cases h
theorem acU:∀ {h:Hp R} {h0:Hp R0},dH E h=aa h0->h=eH E h0
 |[],h0,hh=>by injection hh with hh;subst hh;rfl
 |none::l,h0,hh=>by
  unfold dH at hh;split at hh
  ·rename_i l' hl;injection hh with hh
   subst hh;rw[acU hl];rfl
  ·cases hh
 |some b::l,h0,hh=>by
  unfold dH at hh;split at hh
  ·rename_i b' hb;split at hh
   ·rename_i l' hl;injection hh with hh
    subst hh;rw[acU hl,amQ hb];rfl
   ·cases hh
  ·cases hh
theorem EV:∀ h:Hp R0,(eH E h).length=h.length
 |[]=>rfl
 |b::l=>by show(eH E l).length+1=l.length+1;rw[EV l]
theorem Jx:∀ (h:Hp R0) (i:Nat),(eH E h)[i]?=(h[i]?).map (eS E)
 |[],i=>by simp[eH]
 |b::l,0=>rfl
 |b::l,i+1=>by
  show(eS E b::eH E l)[i+1]?=_
  rw[bH,bH,Jx l i]
variable {D:fK R} {D0:fK R0} {P:Program} {C:Ctx} {ρ:Env} {w:World}
theorem abN (hD:∀ x p F w,D.H (E.e x) p F w↔D0.H x p F w) {i:Nat} {F:Nat->Prop} (b:SB R0):hold D C ρ i F w (eB E b)↔hold D0 C ρ i F w b:=by
 rcases b with x|x|r|x
 ·exact r_
 ·exact r_
 ·exact r_
 ·exact hD _ _ _ _
theorem Uh {n:Nat} (b:SB R0):inside n (eB E b)↔inside n b:=by
 rcases b with x|x|r|x<;>exact r_
theorem ahL (hD:∀ x p F w,D.H (E.e x) p F w↔D0.H x p F w) {ft:Nat->Nat->Prop} {h:Hp R0}:HM D C ρ ft (eH E h) w↔HM D0 C ρ ft h w:=by
 constructor
 ·intro m;refine⟨fun i B hi=>?_,m.lt,m.fresh,m.apart,fun i k hk=>?_,m.kept⟩
  ·have h1:=m.at_ i (eB E B) (by rw[Jx,hi];rfl)
   rw[abN hD,Uh,EV] at h1;exact h1
  ·obtain⟨B,hB⟩:=m.some_ i k hk;rw[Jx] at hB;cases hc:h[i]? with
   |none=>rw[hc] at hB;cases hB
   |some o =>
    rw[hc] at hB;cases o with
    |none=>cases hB
    |some b=>exact⟨b,rfl⟩
 ·intro m;refine⟨fun i B hi=>?_,m.lt,m.fresh,m.apart,fun i k hk=>?_,m.kept⟩
  ·rw[Jx] at hi;cases hc:h[i]? with
   |none=>rw[hc] at hi;cases hi
   |some o =>
    rw[hc] at hi;cases o with
    |none=>cases hi
    |some b =>
     have hi:aa (aa (eB E b))=aa (aa B):=hi;injection hi with hi
     injection hi with hi
     subst hi;rw[abN hD,Uh,EV];exact m.at_ i b hc
  ·obtain⟨B,hB⟩:=m.some_ i k hk;exact⟨eB E B,by rw[Jx,hB];rfl⟩
def eO (E:GP R0 R) (x:Out R0):Out R:=⟨x.vc,x.v,x.lit,eH E x.hp,x.rd,x.wr⟩
def eP (E:GP R0 R) (p:Prim R0):Prim R:=fun args hh=>match dH E hh with
 |some h0=>match p args h0 with
  |some x=>aa (eO E x)
  |none=>aj
 |none=>aj
def eC (E:GP R0 R) (c:je R0):je R:=⟨fun args hh=>match dH E hh with
 |some h0=>c.when args h0
 |none=>aj,eP E c.yes,eP E c.no⟩
theorem K7 {p:Prim R0} {args:List Value} {hh:Hp R} {x:Out R} (h:eP E p args hh=aa x):∃ h0 x0,dH E hh=aa h0/\hh=eH E h0/\p args h0=aa x0/\x=eO E x0:=by
 unfold eP at h;split at h
 ·rename_i h0 e0;split at h
  ·rename_i x0 e1;injection h with h
   exact⟨h0,x0,e0,acU e0,e1,h.symm⟩
  ·cases h
 ·cases h
theorem akC (c:je R0) (b:Bool):(eC E c).go b=eP E (c.go b):=by cases b<;>rfl
theorem ah9 {f:FuncId} {c:je R0} (hD:∀ x p F w,D.H (E.e x) p F w↔D0.H x p F w) (hc:ck D0 P f c):ck D P f (eC E c):=by
 intro b;have h:=hc b;rw[akC];refine⟨h.known,fun args hh x on hx C ρ ft w hm hv hi=>?_,fun args hh x hx=>?_,fun args hh x hx=>?_,fun args hh x hx hw=>?_⟩
 ·obtain⟨h0,x0,e0,e1,e2,e3⟩:=K7 hx;subst e3;subst e1;have on0:rW c b args h0:=by
   have on:(match dH E (eH E h0) with|some h0=>c.when args h0|none=>aj)=aj/\b=aq∨(match dH E (eH E h0) with|some h0=>c.when args h0|none=>aj)=aa b:=on
   rw[e0] at on;exact on
  rw[EV] at hi;refine(h.run args h0 x0 on0 e2 C ρ ft w ((ahL hD).1 hm) hv hi).mono fun e w' ⟨gv,ks,g1,g2,g3⟩=>?_
  exact⟨gv,ks,fun i hi=>g1 i (by rwa [EV] at hi),g2,(ahL hD).2 g3⟩
 ·obtain⟨h0,x0,e0,e1,e2,e3⟩:=K7 hx;subst e3;subst e1;show(eH E h0).length≤(eH E x0.hp).length
  rw[EV,EV];exact h.len _ _ _ e2
 ·obtain⟨h0,x0,e0,e1,e2,e3⟩:=K7 hx;subst e3;exact h.lit _ _ _ e2
 ·obtain⟨h0,x0,e0,e1,e2,e3⟩:=K7 hx;subst e3;subst e1;show eH E x0.hp=eH E h0
  rw[h.still _ _ _ e2 hw]
end
def UY {R1 R2:Type} (D1:fK R1) (D2:fK R2):fK (R1 ⊕ R2) where
 H x p F w:=match x with
  |.inl x=>D1.H x p F w
  |.inr x=>D2.H x p F w
 H0 x p F w w' h hk:=by
  cases x with
  |inl x=>exact D1.H0 x p F w w' h hk
  |inr x=>exact D2.H0 x p F w w' h hk
 lt x p F w k h hk:=by
  cases x with
  |inl x=>exact D1.lt x p F w k h hk
  |inr x=>exact D2.lt x p F w k h hk
def aj0 (R1 R2:Type):GP R1 (R1 ⊕ R2):=⟨.inl,fun y=>match y with|.inl x=>aa x|.inr _=>aj,fun y x h=>by cases y with|inl a=>injection h with h;rw[h]|inr a=>cases h⟩
def ahp (R1 R2:Type):GP R2 (R1 ⊕ R2):=⟨.inr,fun y=>match y with|.inr x=>aa x|.inl _=>aj,fun y x h=>by cases y with|inr a=>injection h with h;rw[h]|inl a=>cases h⟩
theorem nD {R1 R2:Type} {D1:fK R1} {D2:fK R2} {P:Program} {f:FuncId} {c:je R1} (hc:ck D1 P f c):ck (UY D1 D2) P f (eC (aj0 R1 R2) c):=ah9 (fun _ _ _ _=>r_) hc
theorem xw {R1 R2:Type} {D1:fK R1} {D2:fK R2} {P:Program} {f:FuncId} {c:je R2} (hc:ck D2 P f c):ck (UY D1 D2) P f (eC (ahp R1 R2) c):=ah9 (fun _ _ _ _=>r_) hc
end Rx
namespace Pa
open Rx Wv Br
open Sh (rG wz mJ sl nL)
abbrev T8:=G8.Ts
abbrev T9:=G9.Ts
structure QS where
 mt:T8
 pr:T9
 gn:T9
 cap:Int
def kH (t:Int):Mk:=⟨t,ao,⟨0,0⟩,ao,ao,⟨0,0⟩⟩
def RT (t:Int) (x:It):Mk:=⟨t,aq,x,ao,ao,⟨0,0⟩⟩
def Q4 (q:QS):QS:=⟨q.mt.seen,q.pr,q.gn,q.cap⟩
def ND (q:QS):QS:=⟨q.mt.seen.F3 0 q.mt.l.length,q.pr,q.gn,q.cap⟩
def HO (q:QS):Int:=(wb q.mt.l).length
def o8 (q:QS):QS:=⟨(ND q).mt,q.pr,q.gn.seen,q.cap⟩
def rh (q:QS):Int:=HO q-q.gn.l.length
def mU (q:QS) (t:Int):Int:=if(q.mt.l.length:Int)=q.cap then 10 else if(fv O8 (kH t) q.mt.l).2=aq then 11 else 0
def nP (q:QS) (t:Int):QS:=⟨if(q.mt.l.length:Int)=q.cap then q.mt.seen else q.mt.seen.find (kH t),q.pr,q.gn,q.cap⟩
def AO (q:QS) (x:It):Bool:=(fv aM (sl x) q.pr.l).2||(fv aM (sl x) q.gn.l).2
def BS (q:QS) (x:It):QS:=⟨q.mt,q.pr.find (sl x),q.gn.find (sl x),q.cap⟩
def BM (q:QS) (m:Mk):Int:=(yB O8 m q.mt.l).length
def ZG (q:QS) (m:Mk):QS:=⟨q.mt.kv m,q.pr,q.gn,q.cap⟩
def FZ (q:QS) (p:Int):Int:=D_ q.mt.l p (rh q)
def Bi (q:QS) (p:Int):QS:=⟨U4 (o8 q).mt p (rh q),q.pr,(o8 q).gn,q.cap⟩
def JN (q:QS) (p:Int):Int:=OP q.mt.l p (rh q)
def GO (q:QS) (p:Int):QS:=⟨EC (o8 q).mt p (rh q),q.pr,(o8 q).gn,q.cap⟩
def DY (s:T8) (i:Int) (b:Bool):Mk:=⟨(mf O8 i s.l).1.t,(mf O8 i s.l).1.ins,(mf O8 i s.l).1.it,b,(mf O8 i s.l).1.tf,(mf O8 i s.l).1.tk⟩
def A4 (s:T8) (i:Int) (b:Bool):T8:=(s.at_ i).put (DY s i b)
def Jb (q:QS) (f:Int):It:=(uy q.mt.l f).getD iz
def RX (q:QS) (f:Int):T8:=(Hc q.mt f).first (pZ (Jb q f)) f
def TH (q:QS) (f:Int):Int:=pd (pZ (Jb q f)) (Hc q.mt f) f
def vG (q:QS) (f:Int):QS:=if f<0 then q else⟨A4 (RX q f) (TH q f) aq,q.pr.put (sl (Jb q f)),q.gn.drop (sl (Jb q f)),q.cap⟩
def yy (q:QS) (f:Int):List It:=if f<0 then[] else[Jb q f]
def JS (q:QS) (f:Int):Prop:=q.mt.gE/\q.pr.gE/\q.gn.gE/\(¬ f<0->((RX q f).at_ (TH q f)).kS (DY (RX q f) (TH q f) aq)/\q.pr.kS (sl (Jb q f)))
def Je (q:QS) (u:Int):It:=(pU q.mt.l u).getD iz
def RV (q:QS) (u:Int):T8:=(Cw q.mt u).last (p9 (Je q u)) u
def UO (q:QS) (u:Int):Int:=tN (p9 (Je q u)) (Cw q.mt u) u
def Oy (q:QS) (u:Int):Bool:=(pU q.mt.l u).isSome
def FM (q:QS) (u:Int):QS:=if Oy q u=aq then⟨A4 (RV q u) (UO q u) ao,q.pr.drop (sl (Je q u)),q.gn.put (sl (Je q u)),q.cap⟩ else⟨Cw q.mt u,q.pr,q.gn,q.cap⟩
def Cv (q:QS) (u:Int):List It:=if Oy q u=aq then[Je q u] else[]
def Km (q:QS) (u:Int):Prop:=q.mt.gE/\q.pr.gE/\q.gn.gE/\(Oy q u=aq->((RV q u).at_ (UO q u)).kS (DY (RV q u) (UO q u) ao)/\q.gn.kS (sl (Je q u)))
structure MQ (q:QS) (L:List Mk) (P G:List It) (c:Int) (n:Nat) (a:QS) (k:Int):Prop where
 m0:q.mt.l=L
 p0:q.pr.l=mJ P
 g0:q.gn.l=mJ G
 cap:q.cap=c
 c1:q.mt.c=c
 c2:q.pr.c=c
 c3:q.gn.c=c
 f1:q.mt.n≤n
 f2:q.pr.n≤n
 f3:q.gn.n≤n
 v1:0≤q.mt.m.cY/\q.mt.m.cY≤a.mt.m.cY+k
 v2:0≤q.pr.m.cY/\q.pr.m.cY≤a.pr.m.cY+k
 v3:0≤q.gn.m.cY/\q.gn.m.cY≤a.gn.m.cY+k
def VB (a:QS):Prop:=a.mt.m.cY≤1000000000000000/\a.pr.m.cY≤1000000000000000/\a.gn.m.cY≤1000000000000000
section
variable {q:QS} {L:List Mk} {P G:List It} {c:Int} {n:Nat} {a:QS} {k:Int}
theorem MQ.lV (h:MQ q L P G c n a k) (hn:n≤99999):q.mt.gE/\q.pr.gE/\q.gn.gE :=
 ⟨iZ h.f1 (by omega),iZ h.f2 (by omega),iZ h.f3 (by omega)⟩
theorem MQ.short (h:MQ q L P G c n a k):L.length≤60:=by rw[← h.m0];exact RO q.mt
theorem MQ.I4 (h:MQ q L P G c n a k) (hB:VB a) (hk:k≤1000000) {s:T8} {L':List Mk} {d κ:Nat} (hl:s.l=L') (hc:s.c=q.mt.c) (hn:s.n≤q.mt.n+d) (hv:Gv.nv κ q.mt.m s.m) {e:Int} (hκ:(κ:Int)≤e) (he:e≤10000:=by omega):MQ ⟨s,q.pr,q.gn,q.cap⟩ L' P G c (n+d) a (k+e):=by
 obtain⟨b1,b2,b3⟩:=hB;have hw:=KP hv h.v1.1 h.v1.2 (by omega)
 have:=h.f1;have:=h.f2;have:=h.f3;have:=h.v2;have:=h.v3;exact⟨hl,h.p0,h.g0,h.cap,hc.trans h.c1,h.c2,h.c3,by show s.n≤_;omega,by show q.pr.n≤_;omega,by show q.gn.n≤_;omega,⟨hw.1,by show s.m.cY≤_;omega⟩,⟨h.v2.1,by show q.pr.m.cY≤_;omega⟩,⟨h.v3.1,by show q.gn.m.cY≤_;omega⟩⟩
theorem MQ.pr' (h:MQ q L P G c n a k) (hB:VB a) (hk:k≤1000000) {s:T9} {P':List It} {d κ:Nat} (hl:s.l=mJ P') (hc:s.c=q.pr.c) (hn:s.n≤q.pr.n+d) (hv:Gv.nv κ q.pr.m s.m) {e:Int} (hκ:(κ:Int)≤e) (he:e≤10000:=by omega):MQ ⟨q.mt,s,q.gn,q.cap⟩ L P' G c (n+d) a (k+e):=by
 obtain⟨b1,b2,b3⟩:=hB;have hw:=KP hv h.v2.1 h.v2.2 (by omega)
 have:=h.f1;have:=h.f2;have:=h.f3;have:=h.v1;have:=h.v3;exact⟨h.m0,hl,h.g0,h.cap,h.c1,hc.trans h.c2,h.c3,by show q.mt.n≤_;omega,by show s.n≤_;omega,by show q.gn.n≤_;omega,⟨h.v1.1,by show q.mt.m.cY≤_;omega⟩,⟨hw.1,by show s.m.cY≤_;omega⟩,⟨h.v3.1,by show q.gn.m.cY≤_;omega⟩⟩
theorem MQ.gn' (h:MQ q L P G c n a k) (hB:VB a) (hk:k≤1000000) {s:T9} {G':List It} {d κ:Nat} (hl:s.l=mJ G') (hc:s.c=q.gn.c) (hn:s.n≤q.gn.n+d) (hv:Gv.nv κ q.gn.m s.m) {e:Int} (hκ:(κ:Int)≤e) (he:e≤10000:=by omega):MQ ⟨q.mt,q.pr,s,q.cap⟩ L P G' c (n+d) a (k+e):=by
 obtain⟨b1,b2,b3⟩:=hB;have hw:=KP hv h.v3.1 h.v3.2 (by omega)
 have:=h.f1;have:=h.f2;have:=h.f3;have:=h.v1;have:=h.v2;exact⟨h.m0,h.p0,hl,h.cap,h.c1,h.c2,hc.trans h.c3,by show q.mt.n≤_;omega,by show q.pr.n≤_;omega,by show s.n≤_;omega,⟨h.v1.1,by show q.mt.m.cY≤_;omega⟩,⟨h.v2.1,by show q.pr.m.cY≤_;omega⟩,⟨hw.1,by show s.m.cY≤_;omega⟩⟩
theorem MQ.lst (h:MQ q L P G c n a k) {L':List Mk} (e:L=L'):MQ q L' P G c n a k:=e▸h
theorem MQ.up (h:MQ q L P G c n a k) {n':Nat} {k':Int} (hn:n≤n') (hk:k≤k'):MQ q L P G c n' a k' :=
 ⟨h.m0,h.p0,h.g0,h.cap,h.c1,h.c2,h.c3,iY h.f1 hn,iY h.f2 hn,iY h.f3 hn,⟨h.v1.1,by have:=h.v1;omega⟩,⟨h.v2.1,by have:=h.v2;omega⟩,⟨h.v3.1,by have:=h.v3;omega⟩⟩
theorem MQ.len_ (h:MQ q L P G c n a k) (hB:VB a) (hk:k≤1000000):MQ (Q4 q) L P G c n a (k+10) :=
 h.I4 hB hk (s:=q.mt.seen) (e:=10) (d:=0) h.m0 rfl (bc _) q.mt.tM (by omega)
theorem MQ.amw (h:MQ q L P G c n a k) (hB:VB a) (hk:k≤1000000):MQ (ND q) L P G c n a (k+130) :=
 h.I4 hB hk (s:=(q.mt.seen.F3 0 q.mt.l.length)) (e:=130) (d:=0) h.m0 rfl (bc _) (q.mt.tM.trans (q.mt.seen.K6 0 q.mt.l.length)) (by have:=q.mt.seen.qo;omega)
theorem MQ.ahX (h:MQ q L P G c n a k) (hB:VB a) (hk:k≤990000):MQ (o8 q) L P G c n a (k+140) :=
 ((h.amw hB (by omega)).gn' hB (by omega) (e:=10) (s:=q.gn.seen) (d:=0) h.g0 rfl (bc _) q.gn.tM (by omega)).up (bc _) (by omega)
theorem MQ.Zp (h:MQ q L P G c n a k) (hB:VB a) (hk:k≤1000000) (t:Int):MQ (nP q t) L P G c n a (k+50):=by
 unfold nP;split
 ·exact(h.len_ hB hk).up (bc _) (by omega)
 ·exact h.I4 hB hk (s:=(q.mt.seen.find (kH t))) (e:=50) (d:=0) h.m0 rfl (bc _) (q.mt.tM.trans (q.mt.seen.Iv (kH t))) (by have:=q.mt.seen.qo;omega)
theorem MQ.ahs (h:MQ q L P G c n a k) (hB:VB a) (hk:k≤990000) (x:It):MQ (BS q x) L P G c n a (k+60) :=
 ((h.pr' hB (by omega) (e:=30) (s:=q.pr.find (sl x)) (d:=0) h.p0 rfl (bc _) (q.pr.Iv (sl x)) (by have:=q.pr.qo;omega)).gn' hB (by omega) (e:=30) (s:=q.gn.find (sl x)) (d:=0) h.g0 rfl (bc _) (q.gn.Iv (sl x)) (by have:=q.gn.qo;omega)).up (bc _) (by omega)
theorem MQ.ajP (h:MQ q L P G c n a k) (hB:VB a) (hk:k≤1000000) (m:Mk):MQ ⟨q.mt.find m,q.pr,q.gn,q.cap⟩ L P G c n a (k+40) :=
 h.I4 hB hk (s:=(q.mt.find m)) (e:=40) (d:=0) h.m0 rfl (bc _) (q.mt.Iv m) (by have:=q.mt.qo;omega)
theorem MQ.adS (h:MQ q L P G c n a k) (hB:VB a) (hk:k≤1000000) (m:Mk):MQ (ZG q m) L P G c n a (k+70) :=
 h.I4 hB hk (s:=(q.mt.kv m)) (e:=70) (d:=0) h.m0 rfl (bc _) (q.mt.ady m) (by have:=q.mt.qo;omega)
theorem af4 (l:List Mk):(wb l).length≤l.length:=uL ..
theorem OJ (q:QS):-1099511627776≤rh q/\rh q≤1099511627776:=by
 have h1:=af4 q.mt.l;have h2:=RO q.mt;have h3:=q.gn.V7;unfold rh HO;omega
theorem MQ.bu_ (h:MQ q L P G c n a k) (hB:VB a) (hk:k≤980000) (p:Int):MQ (Bi q p) L P G c n a (k+400):=by
 have h1:=h.ahX hB (by omega)
 have hb:=OJ q;exact(h1.I4 hB (by omega) (e:=260) (s:=U4 (o8 q).mt p (rh q)) (d:=0) h1.m0 rfl (bc _) (ahb rfl hb.1 hb.2) (by have:=(o8 q).mt.qo;omega)).up (bc _) (by omega)
theorem MQ.bf_ (h:MQ q L P G c n a k) (hB:VB a) (hk:k≤980000) (p:Int):MQ (GO q p) L P G c n a (k+400):=by
 have h1:=h.ahX hB (by omega)
 have hb:=OJ q;exact(h1.I4 hB (by omega) (e:=260) (s:=EC (o8 q).mt p (rh q)) (d:=0) ((akO _ _ _).trans h1.m0) (ak2 _ _ _) (xl (akT _ _ _)) (agL rfl hb.1 hb.2) (by have:=(o8 q).mt.qo;omega)).up (bc _) (by omega)
theorem Hh {s:T8} {m:Mk} (hf:s.gE) (hg:(th O8 m s.l).length≤60):s.kS m:=⟨hf,hg⟩
theorem Hf {s:T9} {x:It} {P:List It} (h:s.l=mJ P) (ho:Ord P) (hf:s.gE) (hl:P.length≤100):s.kS (sl x):=⟨hf,by
 show(th aM (sl x) s.l).length≤1000
 rw[h,Sh.VE ho];have:=Sh.adz x P;have e:(mJ (rG x P)).length=(rG x P).length:=gX ..;omega⟩
theorem MQ.adi (h:MQ q L P G c n a k) (hB:VB a) (hk:k≤1000000) (hn:n≤99999) {m:Mk} (hg:(th O8 m L).length≤60) (hp:(xR O8 m L).isSome=aq∨(L.length:Int)≠c):MQ ⟨q.mt.put m,q.pr,q.gn,q.cap⟩ (th O8 m L) P G c (n+1) a (k+1000):=by
 have ok:q.mt.kS m:=Hh (h.lV hn).1 (by rw[h.m0];exact hg)
 refine h.I4 hB hk (s:=q.mt.put m) (e:=1000) (d:=1) ?_ (Gw ok) (xl (Gx ok)) (Da ok) (by have:=q.mt.qo;omega)
 rw[Mt ok];unfold Qe;rw[if_pos,h.m0];· rfl
 unfold IX;show((xR O8 m q.mt.l).isSome||decide ((q.mt.l.length:Int)≠q.mt.c))=aq
 rw[h.m0,h.c1];rcases hp with hp|hp
 ·rw[hp];rfl
 ·rw[decide_eq_true hp,Wi]
theorem MQ.Tb (h:MQ q L P G c n a k) (hB:VB a) (hk:k≤1000000) (m:Mk):MQ ⟨q.mt.drop m,q.pr,q.gn,q.cap⟩ (B7 O8 m L) P G c (n+1) a (k+3500) :=
 h.I4 hB hk (s:=(q.mt.drop m)) (e:=3500) (d:=1) (by show B7 O8 m q.mt.l=_;rw[h.m0]) rfl (bc _) (q.mt.Nu m) (by have:=q.mt.qo;omega)
theorem aaC {s:T9} {x:It} {P:List It} {c:Int} (h:s.l=mJ P) (hc:s.c=c) (ho:Ord P) (ok:s.kS (sl x)) (hx:x∉P) (hl:(P.length:Int)≠c):(s.put (sl x)).l=mJ (hO x P):=by
 rw[Mt ok];unfold Qe;rw[if_pos,h]
 ·show th aM (sl x) (mJ P)=_
  rw[Sh.VE ho,Yj ho hx]
 ·unfold IX;have e:(mJ P).length=P.length:=gX ..;rw[h,hc,e,decide_eq_true hl,Wi]
theorem MQ.H4 (h:MQ q L P G c n a k) (hB:VB a) (hk:k≤1000000) (hn:n≤99999) {x:It} (ho:Ord P) (hx:x∉P) (hl:(P.length:Int)≠c) (Bf:P.length≤100):MQ ⟨q.mt,q.pr.put (sl x),q.gn,q.cap⟩ L (hO x P) G c (n+1) a (k+1000):=by
 have ok:q.pr.kS (sl x):=Hf h.p0 ho (h.lV hn).2.1 Bf;exact h.pr' hB hk (s:=(q.pr.put (sl x))) (e:=1000) (d:=1) (aaC h.p0 h.c2 ho ok hx hl) (Gw ok) (xl (Gx ok)) (Da ok) (by have:=q.pr.qo;omega)
theorem MQ.Au (h:MQ q L P G c n a k) (hB:VB a) (hk:k≤1000000) (hn:n≤99999) {x:It} (ho:Ord G) (hx:x∉G) (hl:(G.length:Int)≠c) (Bf:G.length≤100):MQ ⟨q.mt,q.pr,q.gn.put (sl x),q.cap⟩ L P (hO x G) c (n+1) a (k+1000):=by
 have ok:q.gn.kS (sl x):=Hf h.g0 ho (h.lV hn).2.2 Bf;exact h.gn' hB hk (s:=(q.gn.put (sl x))) (e:=1000) (d:=1) (aaC h.g0 h.c3 ho ok hx hl) (Gw ok) (xl (Gx ok)) (Da ok) (by have:=q.gn.qo;omega)
theorem XF {s:T9} {x:It} {P:List It} (h:s.l=mJ P) (ho:Ord P):(s.drop (sl x)).l=mJ (pN x P):=by
 show B7 aM (sl x) s.l=_
 rw[h,Sh.ag5 ho,adf ho]
theorem MQ.Cb (h:MQ q L P G c n a k) (hB:VB a) (hk:k≤1000000) {x:It} (ho:Ord P):MQ ⟨q.mt,q.pr.drop (sl x),q.gn,q.cap⟩ L (pN x P) G c (n+1) a (k+3500) :=
 h.pr' hB hk (s:=(q.pr.drop (sl x))) (e:=3500) (d:=1) (XF h.p0 ho) rfl (bc _) (q.pr.Nu (sl x)) (by have:=q.pr.qo;omega)
theorem MQ.ZK (h:MQ q L P G c n a k) (hB:VB a) (hk:k≤1000000) {x:It} (ho:Ord G):MQ ⟨q.mt,q.pr,q.gn.drop (sl x),q.cap⟩ L P (pN x G) c (n+1) a (k+3500) :=
 h.gn' hB hk (s:=(q.gn.drop (sl x))) (e:=3500) (d:=1) (XF h.g0 ho) rfl (bc _) (q.gn.Nu (sl x)) (by have:=q.gn.qo;omega)
end
theorem Xg {s:T8} {H H':List It} {l:List Op} {k:Nat} {b:Bool} (hl:s.l=gm H l) (ht:Tm l) (hn:(gw l).Nodup) (hk:k<l.length) (lR:(og l k).ins=aq) (hb:b=decide ((og l k).it∈H')) (hH:∀ z,z≠(og l k).it->(z∈H↔z∈H')) (hf:s.gE) :
  (s.at_ (k:Int)).kS (DY s k b)/\(A4 s k b).l=gm H' l/\(A4 s k b).c=s.c/\(A4 s k b).n=s.n+1/\Ft 1100 s.m (A4 s k b).m:=by
 have e0:(mf O8 (k:Int) s.l).1=tQ H (og l k):=by
  unfold mf;rw[if_pos ⟨Int.natCast_nonneg _,by rw[hl,mG];omega⟩]
  show s.l.getD (k:Int).toNat mz=_
  rw[iF,hl,nX H hk]
 have e1:DY s k b=tQ H' (og l k):=by
  unfold DY;rw[e0,hb];unfold tQ;simp only[lR,ji]
 have hp:th O8 (DY s k b) (gm H l)=gm H' l:=by
  rw[e1,agB ht hk rfl];exact flip hn hk lR hH
 have ok:(s.at_ (k:Int)).kS (DY s k b):=Hh hf (by
  show(th O8 (DY s k b) s.l).length≤60
  rw[hl,hp];have:=RO s;rw[hl] at this
  rwa [mG] at this ⊢)
 refine⟨ok,?_,Gw ok,Gx ok,?_⟩
 ·unfold A4;rw[Mt ok];unfold Qe;show(if IX (s.at_ (k:Int)) (DY s k b)=aq then th O8 (DY s k b) s.l else s.l)=_
  rw[hl,hp,if_pos];unfold IX;show((xR O8 (DY s k b) s.l).isSome||_)=aq
  rw[hl,e1,(J_ (H:=H) (e:=tQ H' (og l k)) ht hk rfl).1]
  rfl
 ·refine((s.akj k).trans (Da ok)).mono ?_;have h1:=s.qo;have h2:=(s.at_ (k:Int)).qo;omega
theorem ahQ {H:List It} {l:List Op} {f:Int} {z:It} (hf:¬ f<0) (h:uy (gm H l) f=aa z) :
  ∃ k,k<l.length/\f.toNat≤k/\(og l k).ins=aq/\(og l k).it=z/\z∉H/\hi (lX ao ((gm H l).drop f.toNat))=aa z:=by
 unfold uy at h;obtain⟨m,h1,h2,h3,h4⟩:=tI.1 (EH h);obtain⟨j,hj,rfl⟩:=sK h1;rw[List.getElem_drop] at h2 h3 h4;rw[jq,mG] at hj;have hc:kA l.length f=f.toNat:=by
  unfold kA at hj ⊢;rw[qX];rcases Wj f.toNat l.length with c|c
  ·exact c
  ·rw[N8 c] at hj;omega
 rw[mG,hc] at h;have hk:kA l.length f+j<l.length:=by omega
 have e:∀ hh,(gm H l)[kA (gm H l).length f+j]'hh=tQ H (og l (kA l.length f+j)):=fun hh=>by
  have:=nX H hk;rw[ax,bj (by rw[mG];exact hk)] at this
  simpa only [mG,Option.getD_some] using this
 rw[e] at h2 h3 h4;have h2:(og l (kA l.length f+j)).ins=aq:=h2;have h4:(og l (kA l.length f+j)).it=z:=h4;have h3:((og l (kA l.length f+j)).ins&&decide ((og l (kA l.length f+j)).it∈H))=ao:=h3;rw[h2,ji,decide_eq_false_iff_not,h4] at h3;exact⟨_,hk,by omega,h2,h4,h3,h⟩
theorem aiy {H:List It} {l:List Op} {u:Int} {z:It} (h:pU (gm H l) u=aa z) :
  ∃ k,k<l.length/\(k:Int)<u/\(og l k).ins=aq/\(og l k).it=z/\z∈H/\lo (lX aq ((gm H l).take u.toNat))=aa z:=by
 unfold pU at h;obtain⟨m,h1,h2,h3,h4⟩:=tI.1 (GI h);obtain⟨j,hj,rfl⟩:=sK h1;rw[List.getElem_take] at h2 h3 h4;rw[eu,mG] at hj;have hk:j<l.length:=by omega
 have hu:j<u.toNat:=by unfold kA at hj;omega
 have e:∀ hh,(gm H l)[j]'hh=tQ H (og l j):=fun hh=>by
  have:=nX H hk
  rwa [ax,bj hh] at this
 rw[e] at h2 h3 h4;have h2:(og l j).ins=aq:=h2;have h4:(og l j).it=z:=h4;have h3:((og l j).ins&&decide ((og l j).it∈H))=aq:=h3;rw[h2,ji,decide_eq_true_eq,h4] at h3;refine⟨_,hk,by omega,h2,h4,h3,?_⟩
 have:(gm H l).take (kA (gm H l).length u)=(gm H l).take u.toNat:=by
  unfold kA;rcases Wj u.toNat (gm H l).length with c|c
  ·rw[qX c]
  ·rw[N8 c,kC,jl c]
 rw[this] at h;exact h
section
variable {q:QS} {H:List It} {l:List Op} {P G:List It} {c:Int} {n:Nat} {a:QS} {k:Int}
theorem MQ.ae_ (h:MQ q (gm H l) P G c n a k) (hn:n≤99999) {f:Int} (hf:f<0):vG q f=q/\JS q f/\yy q f=[]:=by
 unfold vG yy JS;rw[if_pos hf,if_pos hf];exact⟨rfl,⟨(h.lV hn).1,(h.lV hn).2.1,(h.lV hn).2.2,fun c=>absurd hf c⟩,rfl⟩
theorem MQ.gb_ (h:MQ q (gm H l) P G c n a k) (hB:VB a) (hk:k≤900000) (hn:n≤99990) {f:Int} {z:It} (ht:Tm l) (hd:(gw l).Nodup) (hf:¬ f<0) (hz:uy (gm H l) f=aa z) (hoP:Ord P) (hoG:Ord G) (hzP:z∉P) (hl:(P.length:Int)≠c) (Bf:P.length≤100) :
  MQ (vG q f) (gm (z::H) l) (hO z P) (pN z G) c (n+3) a (k+6500)/\JS q f/\yy q f=[z]:=by
 obtain⟨i,h1,h2,h3,h4,h5,h6⟩:=ahQ hf hz;have eZ:Jb q f=z:=by unfold Jb;rw[h.m0,hz];rfl
 have lV:=h.lV (by omega)
 have hb:Gv.BG (fun j=>isG z ((Hc q.mt f).l.getD j mz)) 0 (Hc q.mt f).l.length f (TH q f):=by
  unfold TH;rw[eZ];exact RG (s:=Hc q.mt f) (f:=f) (may:=pZ z) (ae3 z (Hc q.mt f).l).toAsks
 have el:(Hc q.mt f).l=gm H l:=h.m0;rw[el,show f=(f.toNat:Int) by omega] at hb
 have eP:TH q f=(i:Int):=by
  have:=agF hd h1 h3 h4 h5 h2 h6 hb
  rwa [show((f.toNat:Nat):Int)=f by omega] at this
 have eT:(RX q f).l=gm H l:=h.m0;have T:=Xg (s:=RX q f) (H':=z::H) (b:=aq) eT ht hd h1 h3 (by rw[h4,decide_eq_true (List.mem_cons_self)]) (fun w hw=>by rw[h4] at hw;rw[bR];exact⟨.inr,fun c=>c.resolve_left hw⟩) lV.1
 have hv:Ft 2000 q.mt.m (A4 (RX q f) (i:Int) aq).m:=by
  have v1:=q.mt.tM;have v2:=q.mt.seen.tM;have v3:=q.mt.seen.seen.K6 (kA q.mt.l.length f) q.mt.l.length;have v4:=Qd (s:=Hc q.mt f) (f:=f) (may:=pZ (Jb q f)) (ae3 _ _);refine((((v1.trans v2).trans v3).trans v4).trans T.2.2.2.2).mono ?_;have a1:=q.mt.seen.seen.qo;have a2:=(Hc q.mt f).qo;omega
 have m1:=h.I4 hB (by omega) (e:=2000) (s:=A4 (RX q f) (i:Int) aq) (d:=1) T.2.1 T.2.2.1 (xl T.2.2.2.1) hv (by omega)
 have m2:=m1.ZK hB (by omega) (x:=z) hoG
 have m3:=m2.H4 hB (by omega) (by omega) (x:=z) hoP hzP hl Bf
 refine⟨?_,?_,?_⟩
 ·unfold vG;rw[if_neg hf,eZ,eP];exact m3.up (by omega) (by omega)
 ·refine⟨lV.1,lV.2.1,lV.2.2,fun _=>⟨?_,?_⟩⟩
  ·rw[eP];exact T.1
  ·rw[eZ];exact Hf h.p0 hoP lV.2.1 Bf
 ·unfold yy;rw[if_neg hf,eZ]
theorem MQ.aeZ (h:MQ q (gm H l) P G c n a k) (hB:VB a) (hk:k≤900000) (hn:n≤99990) {u:Int} (hz:pU (gm H l) u=aj):MQ (FM q u) (gm H l) P G c n a (k+6500)/\Km q u/\Cv q u=[]:=by
 have e:Oy q u=ao:=by unfold Oy;rw[h.m0,hz];rfl
 have lV:=h.lV (by omega)
 unfold FM Cv Km;simp only[e,fu,if_false];refine⟨?_,⟨lV.1,lV.2.1,lV.2.2,fun c=>c.elim⟩,trivial⟩
 exact(h.I4 hB (by omega) (e:=2000) (s:=Cw q.mt u) (d:=0) h.m0 rfl (bc _) (q.mt.tM.trans (q.mt.seen.K6 0 (kA q.mt.l.length u))) (by have:=q.mt.seen.qo;omega)).up (bc _) (by omega)
theorem MQ.ta_ (h:MQ q (gm H l) P G c n a k) (hB:VB a) (hk:k≤900000) (hn:n≤99990) {u:Int} {z:It} (ht:Tm l) (hd:(gw l).Nodup) (hz:pU (gm H l) u=aa z) (hoP:Ord P) (hoG:Ord G) (hzG:z∉G) (hl:(G.length:Int)≠c) (Bf:G.length≤100) :
  MQ (FM q u) (gm (pN z H) l) (pN z P) (hO z G) c (n+3) a (k+6500)/\Km q u/\Cv q u=[z]:=by
 obtain⟨i,h1,h2,h3,h4,h5,h6⟩:=aiy hz;have eB:Oy q u=aq:=by unfold Oy;rw[h.m0,hz];rfl
 have eZ:Je q u=z:=by unfold Je;rw[h.m0,hz];rfl
 have lV:=h.lV (by omega)
 have hb:Gv.EK (fun j=>isL z ((Cw q.mt u).l.getD j mz)) 0 (Cw q.mt u).l.length u (UO q u):=by
  unfold UO;rw[eZ];exact SV (s:=Cw q.mt u) (f:=u) (may:=p9 z) (afr z (Cw q.mt u).l).toAsks
 have el:(Cw q.mt u).l=gm H l:=h.m0;rw[el,show u=(u.toNat:Int) by omega] at hb
 have eP:UO q u=(i:Int):=by
  have:=ahu hd h1 h3 h4 h5 (by omega:i<u.toNat) h6 hb
  rwa [show((u.toNat:Nat):Int)=u by omega] at this
 have eT:(RV q u).l=gm H l:=h.m0;have T:=Xg (s:=RV q u) (H':=pN z H) (b:=ao) eT ht hd h1 h3 (by rw[h4,decide_eq_false (fun c=>(ph.1 c).2 rfl)]) (fun w hw=>by rw[h4] at hw;rw[ph];exact⟨fun c=>⟨c,hw⟩,fun c=>c.1⟩) lV.1
 have hv:Ft 2000 q.mt.m (A4 (RV q u) (i:Int) ao).m:=by
  have v1:=q.mt.tM;have v3:=q.mt.seen.K6 0 (kA q.mt.l.length u);have v4:=RF (s:=Cw q.mt u) (f:=u) (may:=p9 (Je q u)) (afr _ _);refine(((v1.trans v3).trans v4).trans T.2.2.2.2).mono ?_;have a1:=q.mt.seen.qo;have a2:=(Cw q.mt u).qo;omega
 have m1:=h.I4 hB (by omega) (e:=2000) (s:=A4 (RV q u) (i:Int) ao) (d:=1) T.2.1 T.2.2.1 (xl T.2.2.2.1) hv (by omega)
 have m2:=m1.Cb hB (by omega) (x:=z) hoP
 have m3:=m2.Au hB (by omega) (by omega) (x:=z) hoG hzG hl Bf
 refine⟨?_,?_,?_⟩
 ·unfold FM;rw[if_pos eB,eZ,eP];exact m3.up (by omega) (by omega)
 ·refine⟨lV.1,lV.2.1,lV.2.2,fun _=>⟨?_,?_⟩⟩
  ·rw[eP];exact T.1
  ·rw[eZ];exact Hf h.g0 hoG lV.2.2 Bf
 ·unfold Cv;rw[if_pos eB,eZ]
end
end Pa
namespace Pa
open Rx Wv Br
open Sh (rG wz mJ sl nL)
def L1 (q:QS) (t:Int) (x:It):QS:=BS (nP q t) x
def W9 (q:QS) (t:Int) (x:It):QS:=ZG (L1 q t x) (kH t)
def OF (q:QS) (t:Int) (x:It):Int:=FZ (W9 q t x) (BM (L1 q t x) (kH t))
def RI (q:QS) (t:Int) (x:It):QS:=Bi (W9 q t x) (BM (L1 q t x) (kH t))
def Me (q:QS) (t:Int) (x:It):QS:=⟨(RI q t x).mt.put (RT t x),(RI q t x).pr,(RI q t x).gn.put (sl x),(RI q t x).cap⟩
def EE (q:QS) (t:Int) (x:It):Int:=if mU q t=0 then if AO (nP q t) x=aq then 2 else 0 else mU q t
def kI (q:QS) (t:Int) (x:It):QS:=if mU q t=0 then if AO (nP q t) x=aq then L1 q t x else vG (Me q t x) (OF q t x) else nP q t
def wo (q:QS) (t:Int) (x:It):List It:=if mU q t=0 then if AO (nP q t) x=aq then[] else yy (Me q t x) (OF q t x) else[]
def QS.gE (q:QS):Prop:=q.mt.gE/\q.pr.gE/\q.gn.gE
def Ty (q:QS) (t:Int) (x:It):Prop:=q.gE/\(mU q t=0->AO (nP q t) x=ao->(RI q t x).mt.kS (RT t x)/\(RI q t x).gn.kS (sl x)/\JS (Me q t x) (OF q t x))
def de1 (q:QS) (t:Int):QS:=ZG (nP q t) (kH t)
def Ov (q:QS) (t:Int):Int:=JN (de1 q t) (BM (nP q t) (kH t))
def Yl (q:QS) (t:Int):QS:=GO (de1 q t) (BM (nP q t) (kH t))
def uH (q:QS) (t:Int):QS:=FM (Yl q t) (Ov q t)
def kp (q:QS) (t:Int):QS:=if mU q t=0 then⟨(uH q t).mt.put (kH t),(uH q t).pr,(uH q t).gn,(uH q t).cap⟩ else nP q t
def C7 (q:QS) (t:Int):List It:=if mU q t=0 then Cv (Yl q t) (Ov q t) else[]
def Tc (q:QS) (t:Int):Prop:=q.gE/\(mU q t=0->Km (Yl q t) (Ov q t)/\(uH q t).mt.kS (kH t))
def FR (q:QS) (t:Int):Bool:=(fv O8 (kH t) q.mt.l).2
def mL (q:QS) (t:Int):Mk:=(fv O8 (kH t) q.mt.l).1
def Bh (q:QS) (t:Int):QS:=⟨q.mt.find (kH t),q.pr,q.gn,q.cap⟩
def Mg (q:QS) (t:Int):QS:=ZG (Bh q t) (mL q t)
def Eb (q:QS) (t:Int):Int:=BM (Bh q t) (mL q t)
def Sf (q:QS) (t:Int):QS:=⟨(Bi (Mg q t) (Eb q t)).mt.drop (mL q t),(Bi (Mg q t) (Eb q t)).pr,(Bi (Mg q t) (Eb q t)).gn,(Bi (Mg q t) (Eb q t)).cap⟩
def Kt (q:QS) (t:Int):Int:=FZ (Mg q t) (Eb q t)
def XI (q:QS) (t:Int):QS:=GO (Mg q t) (Eb q t+1)
def Pn (q:QS) (t:Int):Int:=JN (Mg q t) (Eb q t+1)
def zY (q:QS) (t:Int):QS:=FM (XI q t) (Pn q t)
def KD (q:QS) (t:Int):Int:=if FR q t=aq then 0 else 14
def jR (q:QS) (t:Int):QS:=if FR q t=aq then if(mL q t).ins=aq then if(mL q t).here=aq then⟨(Bh q t).mt.drop (mL q t),(Bh q t).pr.drop (sl (mL q t).it),(Bh q t).gn,(Bh q t).cap⟩ else⟨(zY q t).mt.drop (mL q t),(zY q t).pr,(zY q t).gn.drop (sl (mL q t).it),(zY q t).cap⟩ else vG (Sf q t) (Kt q t) else Bh q t
def wE (q:QS) (t:Int):List It:=if FR q t=aq then if(mL q t).ins=aq then[] else yy (Sf q t) (Kt q t) else[]
def wH (q:QS) (t:Int):List It:=if FR q t=aq then if(mL q t).ins=aq then if(mL q t).here=aq then[(mL q t).it] else Cv (XI q t) (Pn q t) else[] else[]
def ZD (q:QS) (t:Int):Prop:=q.gE/\(FR q t=aq->((mL q t).ins=ao->JS (Sf q t) (Kt q t))/\((mL q t).ins=aq->(mL q t).here=ao->Km (XI q t) (Pn q t)/\(zY q t).mt.gE/\(zY q t).gn.gE))
theorem XC {q:QS} {t:Int} (h:q.gE):(nP q t).gE:=by
 refine⟨?_,h.2.1,h.2.2⟩;unfold nP;show fE (if _ then _ else _)
 split<;>exact h.1
structure HQ (q:QS) (l:List Op) (c:Int) (n:Nat):Prop where
 mq:MQ q (bY l) (fin [] l) (gn l) c n q 0
 tm:Tm l
 nd:(gw l).Nodup
 dl:∀ o,o∈l->o.ins=ao->o.it=iz
 len:(l.length:Int)≤c/\c≤65536
 Gb:l.length≤60
 vb:q.mt.m.cY≤100000*n/\q.pr.m.cY≤100000*n/\q.gn.m.cY≤100000*n
theorem HQ.m0 {q:QS} {l:List Op} {c:Int} {n:Nat} (h:HQ q l c n):q.mt.l=bY l:=h.mq.m0
theorem HQ.p0 {q:QS} {l:List Op} {c:Int} {n:Nat} (h:HQ q l c n):q.pr.l=mJ (fin [] l):=h.mq.p0
theorem HQ.g0 {q:QS} {l:List Op} {c:Int} {n:Nat} (h:HQ q l c n):q.gn.l=mJ (gn l):=h.mq.g0
theorem aaL:∀ (a:List Op) (h:List It),(fin h a).length≤h.length+a.length
 |[],h=>by rw[fin];omega
 |o::r,h=>by
  have:=aaL r (n8 h o);rw[fin];have e:(n8 h o).length≤h.length+1:=by
   have il:∀ (x:It) (m:List It),(hO x m).length=m.length+1:=fun x m=>by
    induction m with
    |nil=>rfl
    |cons y m ih=>unfold hO;split<;>simp[ih]
   unfold n8;split
   ·rw[il];exact bc _
   ·rw[List.length_tail];omega
  rw[cI];omega
theorem HT:∀ (a:List Op) (h:List It),(tk h a).length+gI h a=(a.filter fun o=>!o.ins).length
 |[],h=>by rw[tk,gI];rfl
 |o::r,h=>by
  rcases iX o with e|e
  ·rw[oE e,oB e,HT r,kd,e];rfl
  ·rw[kd,e];cases h with
   |nil=>rw[BV e,so e];have:=HT r [];simp only[RH,if_true,cI];omega
   |cons y h=>rw[oC e,ng e];have:=HT r h;simp only[RH,if_true,cI];omega
theorem YN (l:List Op):(gn l).length≤l.length:=by
 have h1:=HT l [];have h2:(l.filter fun o=>!o.ins).length≤l.length:=uL ..
 rw[Uk];omega
theorem BI (l:List Op):(fin [] l).length≤l.length:=by have:=aaL l [];simpa using this
theorem agb (H:List It) (l:List Op):(wb (gm H l)).length=(l.filter fun o=>!o.ins).length:=by
 unfold wb gm;rw[List.filter_map,gX]
 rfl
section
variable {q:QS} {H:List It} {l:List Op} {P:List It} {c:Int} {n:Nat} {a:QS} {k:Int}
theorem MQ.pR (h:MQ q (gm H l) P (gn l) c n a k):rh q=pR l:=by
 unfold rh HO;rw[h.m0,h.g0,agb,show(mJ (gn l)).length=(gn l).length from gX ..,Uk]
 have:=HT l [];show _=(gI [] l:Int)
 omega
theorem Ux (h:MQ q (gm H l) P (gn l) c n a k) (m:Mk):BM q m=(ni m.t l:Int):=by
 unfold BM;rw[h.m0,Gv.OR,eu,qX,FD];rw[FD,mG];exact UI _ _
theorem HQ.Yn (h:HQ q l c n) (hn:n≤100000):VB q:=by
 obtain⟨h1,h2,h3⟩:=h.vb;exact⟨by omega,by omega,by omega⟩
end
theorem akc {l:List Op} (h:(gw l).Nodup) {x:It} (hx:x∉gw l):x∉fin [] l/\x∉gn l/\x∉tk [] l:=by
 have h1:x∉tk [] l:=fun c=>(qS (lP h) x c).elim (fun h=>by cases h) hx
 exact⟨fun c=>((qT (lP h) x).1 c).1.elim (fun h=>by cases h) hx,fun c=>h1 ((tq h).1 c),h1⟩
theorem AF {l:List Op} {G:List It} (h:(gw l).Nodup) (ho:Ord G) (hm:∀ w,w∈G↔w∈tk [] l):G=gn l :=
 zl ho (qG h) fun w=>(hm w).trans (tq h).symm
theorem HQ.mk' {q:QS} {l:List Op} {c:Int} {n n':Nat} {a:QS} {k:Int} (h:MQ q (bY l) (fin [] l) (gn l) c n a k) (ha:a.mt.m.cY≤100000*n'/\a.pr.m.cY≤100000*n'/\a.gn.m.cY≤100000*n') (hk:k≤100000) (hn:n'+1≤n) (tm:Tm l) (nd:(gw l).Nodup) (dl:∀ o,o∈l->o.ins=ao->o.it=iz) (len:(l.length:Int)≤c/\c≤65536) (Gb:l.length≤60):HQ q l c n:=by
 obtain⟨a1,a2,a3⟩:=ha;have v1:=h.v1;have v2:=h.v2;have v3:=h.v3;exact⟨⟨h.m0,h.p0,h.g0,h.cap,h.c1,h.c2,h.c3,h.f1,h.f2,h.f3,⟨v1.1,by omega⟩,⟨v2.1,by omega⟩,⟨v3.1,by omega⟩⟩,tm,nd,dl,len,Gb,⟨by omega,by omega,by omega⟩⟩
theorem HQ.ref {q:QS} {l:List Op} {c:Int} {n:Nat} (h:HQ q l c n) (t:Int) :
  ((l.length:Int)=c->mU q t=10)/\((l.length:Int)≠c->¬ Ej l t->mU q t=11)/\((l.length:Int)≠c->Ej l t->mU q t=0):=by
 have e:(q.mt.l.length:Int)=q.cap↔(l.length:Int)=c:=by rw[h.m0,ua,h.mq.cap]
 unfold mU;refine⟨fun h1=>by rw[if_pos (e.2 h1)],fun h1 h2=>?_,fun h1 h2=>?_⟩
 ·rw[if_neg (fun k=>h1 (e.1 k)),if_pos]
  rcases KS l t with f|⟨k,hk,ht⟩
  ·exact absurd f h2
  ·rw[h.m0];exact(J_ (H:=fin [] l) (e:=kH t) h.tm hk ht).1
 ·rw[if_neg (fun k=>h1 (e.1 k)),if_neg]
  rw[h.m0];have:=MI (H:=fin [] l) (e:=kH t) h2;show ¬ (xR O8 (kH t) (bY l)).isSome=aq
  rw[tX,this];decide
theorem HQ.ind {q:QS} {l:List Op} {c:Int} {n:Nat} (h:HQ q l c n) (x:It):AO q x=aq↔x∈gw l:=by
 have f9:∀ {P:List It},Ord P->(fv aM (sl x) (mJ P)).2=nL x P:=fun ho=>Sh.VM x ho
 unfold AO;rw[h.p0,h.g0,f9 (zR h.nd),f9 (qG h.nd),Bool.or_eq_true,uw,uw,tq h.nd]
 constructor
 ·rintro (k|k)
  ·exact((qT (lP h.nd) x).1 k).1.elim (fun h=>by cases h) id
  ·exact(qS (lP h.nd) x k).elim (fun h=>by cases h) id
 ·intro k
  by_cases c:x∈tk [] l
  ·exact .inr c
  ·exact .inl ((qT (lP h.nd) x).2 ⟨.inr k,c⟩)
theorem KV {l:List Op} {p f:Nat} (hf:f≤p) (hp:p≤l.length) (X:List Op):(l.take p++X).drop f=(l.take p).drop f++X:=List.drop_append_of_le_length (by rw[eu];omega)
theorem Cg {b:Bool} {H:List It} {l:List Op} {w:It}:w∈lX b (gm H l)↔∃ o,o∈l/\o.ins=aq/\o.it=w/\decide (w∈H)=b:=by
 rw[tI];unfold gm
 constructor
 ·rintro ⟨m,h1,h2,h3,h4⟩
  obtain⟨o,ho,rfl⟩:=List.mem_map.1 h1;have h2:o.ins=aq:=h2;have h4:o.it=w:=h4;have h3:(o.ins&&decide (o.it∈H))=b:=h3;rw[h2,ji,h4] at h3;exact⟨o,ho,h2,h4,h3⟩
 ·rintro ⟨o,ho,h2,h4,h3⟩
  refine⟨tQ H o,List.mem_map_of_mem ho,h2,?_,h4⟩;show(o.ins&&decide (o.it∈H))=b
  rw[h2,ji,h4];exact h3
theorem agy (H:List It) (l:List Op) (f:Nat):(gm H l).drop f=gm H (l.drop f):=by unfold gm;rw[ns]
theorem HH {H:List It} {l:List Op} {f:Nat} (hf:f≤l.length):uy (gm H l) (f:Int)=hi (lX ao (gm H (l.drop f))):=by
 unfold uy;rw[mG,zP hf,agy]
theorem abg {l:List Op} {p:Nat} (hp:p≤l.length) (hb:¬ qy l p<0):∃ f:Nat,qy l p=f/\f≤p:=by
 have hP:=OE (bY l) p (pR l);rw[ua,zP hp] at hP;rcases hP with⟨h1,_⟩|⟨j,h1,h2,_⟩
 ·exact absurd (show qy l p<0 by show D_ (bY l) p (pR l)<0;rw[h1];omega) hb
 ·exact⟨j,h1,h2⟩
theorem aiJ {l:List Op} {p:Nat} {x:It} {t:Int} (hd:(gw l).Nodup) (hx:x∉fin [] l) (hp:p≤l.length) (hb:¬ qy l p<0) :
  uy (gm (fin [] l) (kZ l p ⟨t,aq,x⟩)) (qy l p)=up (aa x) (uy (bY l) (qy l p)):=by
 obtain⟨f,e,hf⟩:=abg hp hb;rw[e,tX,HH (by unfold kZ;rw[bJ,cI,eu,jq];omega),HH (by omega)]
 show _=hi (x::lX ao (gm (fin [] l) (l.drop f)))
 refine Ve fun w=>?_
 have e2:l.drop f=(l.take p).drop f++l.drop p:=by rw[← KV hf hp,cT]
 rw[bR,Cg,Cg,e2];unfold kZ;rw[KV hf hp];simp only[b9,bR]
 constructor
 ·rintro ⟨o,(h1|rfl|h1),h2,h3,h4⟩
  ·exact .inr ⟨o,.inl h1,h2,h3,h4⟩
  ·exact .inl h3.symm
  ·exact .inr ⟨o,.inr h1,h2,h3,h4⟩
 ·rintro (rfl|⟨o,(h1|h1),h2,h3,h4⟩)
  ·exact⟨⟨t,aq,w⟩,.inr (.inl rfl),rfl,rfl,decide_eq_false hx⟩
  ·exact⟨o,.inl h1,h2,h3,h4⟩
  ·exact⟨o,.inr (.inr h1),h2,h3,h4⟩
theorem ajO {l:List Op} {k:Nat} (hk:k<l.length) (lR:(og l k).ins=ao) (hb:¬ qy l k<0) :
  uy (gm (fin [] l) (j9 l k)) (qy l k)=uy (bY l) (qy l k):=by
 obtain⟨f,e,hf⟩:=abg (by omega) hb
 rw[e,tX,HH (by unfold j9;rw[bJ,eu,jq];omega),HH (by omega)]
 refine Ve fun w=>?_
 have e2:l.drop f=(l.take k).drop f++(og l k::l.drop (k+1)):=by rw[← KV hf (by omega),← OW hk,cT]
 rw[Cg,Cg,e2];unfold j9;rw[KV hf (by omega)]
 simp only[b9,bR]
 constructor
 ·rintro ⟨o,(h1|h1),h2⟩
  ·exact⟨o,.inl h1,h2⟩
  ·exact⟨o,.inr (.inr h1),h2⟩
 ·rintro ⟨o,(h1|rfl|h1),h2⟩
  ·exact⟨o,.inl h1,h2⟩
  ·exact absurd (h2.1.symm.trans lR) (by decide)
  ·exact⟨o,.inr h1,h2⟩
theorem aa_ (l:List Op) (p:Nat) (o:Op) (hp:p≤l.length):(kZ l p o).length=l.length+1:=by
 unfold kZ;rw[bJ,cI,eu,jq];omega
theorem ajE {l:List Op} {k:Nat} (hk:k<l.length):(j9 l k).length=l.length-1:=by
 unfold j9;rw[bJ,eu,jq];omega
theorem W_ {l:List Op} {p:Nat} {o w:Op}:w∈kZ l p o↔w=o∨w∈l:=by
 unfold kZ;rw[b9,bR]
 conv=>rhs;rw[← cT p l,b9]
 constructor
 ·rintro (h|h|h)
  ·exact .inr (.inl h)
  ·exact .inl h
  ·exact .inr (.inr h)
 ·rintro (h|h|h)
  ·exact .inr (.inl h)
  ·exact .inl h
  ·exact .inr (.inr h)
theorem ahi {l:List Op} {k:Nat} {w:Op} (h:w∈j9 l k):w∈l:=by
 unfold j9 at h;rw[b9] at h;exact h.elim List.mem_of_mem_take List.mem_of_mem_drop
theorem ahA {q:QS} {l:List Op} {c:Int} {n:Nat} {t:Int} {x:It} (h:HQ q l c n) (wV:l.length≤59) (hn:n≤90000) (hc:(l.length:Int)≠c) (hf:Ej l t) (hx:x∉gw l) :
  Ty q t x/\EE q t x=0/\HQ (kI q t x) (kZ l (ni t l) ⟨t,aq,x⟩) c (n+10)/\(kI q t x).mt.m.cY≤q.mt.m.cY+20000/\(kI q t x).pr.m.cY≤q.pr.m.cY+20000/\(kI q t x).gn.m.cY≤q.gn.m.cY+20000 /\
   ((qy l (ni t l)<0->wo q t x=[]/\fin [] (kZ l (ni t l) ⟨t,aq,x⟩)=fin [] l)/\(¬ qy l (ni t l)<0->∃ z,z∉fin [] l/\wo q t x=[z]/\fin [] (kZ l (ni t l) ⟨t,aq,x⟩)=hO z (fin [] l))):=by
 have hB:=h.Yn (by omega)
 have r0:=(h.ref t).2.2 hc hf;have n0:=akc h.nd hx;have hp:=UI t l;have i0:AO (nP q t) x=ao:=by
  rw[Bool.eq_false_iff];intro k;have k:AO q x=aq:=k;exact hx ((h.ind x).1 k)
 have c0:EE q t x=0:=by unfold EE;rw[if_pos r0,if_neg (by rw[i0];decide)]
 have m1:=h.mq.Zp hB (by omega) t
 have m2:=m1.ahs hB (by omega) x
 have m3:=m2.adS hB (by omega) (kH t)
 have eR:BM (L1 q t x) (kH t)=(ni t l:Int):=Ux (H:=fin [] l) m2 (kH t);have eF:OF q t x=qy l (ni t l):=by
  have e1:rh (W9 q t x)=pR l:=MQ.pR (H:=fin [] l) m3;have e2:(W9 q t x).mt.l=bY l:=m3.m0;unfold OF FZ;rw[eR,e1,e2]
 have m4:=m3.bu_ hB (by omega) (BM (L1 q t x) (kH t))
 have pe:=Rd (H:=fin [] l) (l:=l) (o:=⟨t,aq,x⟩) (m:=RT t x) hf (by unfold tQ RT;rw[decide_eq_false n0.1];rfl)
 have al:=aa_ l (ni t l) ⟨t,aq,x⟩ hp;have pg:(th O8 (RT t x) (bY l)).length≤60:=by rw[tX,pe,mG,al];omega
 have m5:=m4.adi hB (by omega) (by omega) (m:=RT t x) pg (.inr (by rw[ua];exact hc))
 have gl:=YN l;have fl:=BI l;have lc:=h.len;have m6:=m5.Au hB (by omega) (by omega) (x:=x) (qG h.nd) n0.2.1 (by omega) (by omega)
 have m6:MQ (Me q t x) (gm (fin [] l) (kZ l (ni t l) ⟨t,aq,x⟩)) (fin [] l) (hO x (gn l)) c (n+2) q 3000:=(m6.lst pe).up (bc _) (by omega)
 have ok3:(RI q t x).mt.kS (RT t x):=Hh (m4.lV (by omega)).1 (by show(th O8 (RT t x) (Bi (W9 q t x) (BM (L1 q t x) (kH t))).mt.l).length≤60;rw[show(Bi (W9 q t x) (BM (L1 q t x) (kH t))).mt.l=bY l from m4.m0];exact pg)
 have ok4:(RI q t x).gn.kS (sl x):=Hf m4.g0 (qG h.nd) (m4.lV (by omega)).2.2 (by omega)
 have fq:=h.mq.lV (by omega)
 have Pv:=afi (o:=⟨t,aq,x⟩) h.tm hf;have Bl:=aex (p:=ni t l) (o:=⟨t,aq,x⟩) h.nd (fun _=>hx)
 have U2:∀ o,o∈kZ l (ni t l) ⟨t,aq,x⟩->o.ins=ao->o.it=iz:=fun o ho lR=>by
  rcases W_.1 ho with rfl|ho
  ·cases lR
  ·exact h.dl o ho lR
 have oG:Ord (hO x (gn l)):=pf (qG h.nd) n0.2.1;have eQ:kI q t x=vG (Me q t x) (OF q t x):=by unfold kI;rw[if_pos r0,if_neg (by rw[i0];decide)]
 have eI:wo q t x=yy (Me q t x) (OF q t x):=by unfold wo;rw[if_pos r0,if_neg (by rw[i0];decide)]
 obtain⟨E1,E2⟩:=aiM (t:=t) h.nd hx hp;rw[eQ,eI,eF]
 by_cases hb:qy l (ni t l)<0
 ·obtain⟨g1,g2,g3⟩:=m6.ae_ (by omega) hb
  obtain⟨a1,a2,a3⟩:=E1 hb;have mq:MQ (Me q t x) (bY (kZ l (ni t l) ⟨t,aq,x⟩)) (fin [] (kZ l (ni t l) ⟨t,aq,x⟩)) (gn (kZ l (ni t l) ⟨t,aq,x⟩)) c (n+2) q 3000:=by
   rw[tX,a1,← AF Bl oG fun w=>by rw[jW,a3,tq h.nd,or_comm]]
   exact m6
  have v1:=mq.v1;have v2:=mq.v2;have v3:=mq.v3;rw[g1,g3];refine⟨⟨fq,fun _ _=>⟨ok3,ok4,?_⟩⟩,c0,HQ.mk' (mq.up (n':=n+10) (k':=90000) (by omega) (by omega)) h.vb (by omega) (by omega) Pv Bl U2 ⟨by rw[al];omega,h.len.2⟩ (by rw[al];omega),by omega,by omega,by omega,fun _=>⟨rfl,a1⟩,fun c=>absurd hb c⟩
  rw[eF];exact g2
 ·obtain⟨z,a0,a1,a2,a3,a4,a5⟩:=E2 hb;have hz:=(aiJ (t:=t) h.nd n0.1 hp hb).trans a0;obtain⟨g1,g2,g3⟩:=m6.gb_ hB (by omega) (by omega) Pv Bl hb hz (zR h.nd) oG a1 (by omega) (by omega)
  have mq:MQ (vG (Me q t x) (qy l (ni t l))) (bY (kZ l (ni t l) ⟨t,aq,x⟩)) (fin [] (kZ l (ni t l) ⟨t,aq,x⟩)) (gn (kZ l (ni t l) ⟨t,aq,x⟩)) c (n+5) q 9500:=by
   rw[tX,a3,← AF Bl (zU (z:=z) oG) fun w=>by rw[ph,jW,a5,tq h.nd,or_comm (a:=w∈tk [] l)],
    ← CP (H:=z::fin [] l) fun w _=>by rw[bR,jW]]
   exact g1.up (bc _) (by omega)
  have v1:=mq.v1;have v2:=mq.v2;have v3:=mq.v3;rw[g3];refine⟨⟨fq,fun _ _=>⟨ok3,ok4,?_⟩⟩,c0,HQ.mk' (mq.up (n':=n+10) (k':=90000) (by omega) (by omega)) h.vb (by omega) (by omega) Pv Bl U2 ⟨by rw[al];omega,h.len.2⟩ (by rw[al];omega),by omega,by omega,by omega,fun c=>absurd c hb,fun _=>⟨z,a1,rfl,a3⟩⟩
  rw[eF];exact g2
end Pa
end Go.Proofs.YtjlomlgdgpoepaaGreat
