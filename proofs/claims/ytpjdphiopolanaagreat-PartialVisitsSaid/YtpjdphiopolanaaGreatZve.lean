import Derived.Test.YtpjdphiopolanaaGreatZvd
import Derived.Test.YtpjdphiopolanaaGreatZvc
import Derived.Test.YtpjdphiopolanaaGreatZvb
set_option linter.unusedVariables false
set_option linter.unusedSimpArgs false
namespace Go.Proofs.YtpjdphiopolanaaGreat
namespace G8
open Rx
set_option maxRecDepth 100000
set_option maxHeartbeats 16000000
def gfirstGP (K:Nat):Prim Rs:=fun args hh=>match args,hh with
 |[.pointer (some ⟨0,0,none⟩),.int .i64 f_,.func (.func 81) ⟨[]⟩ ⟨[.pointer (some ⟨1,0,none⟩)]⟩],[some (.inl (92,[.pointer (some ⟨2,0,none⟩),.int .i64 ti,.int .i64 tg])),some (.inl (75,[.int .i64 xk,.int .i64 xi,.bool xe,.int .i64 xt])),some (.inr (.inr (.inr (.pool m))))]=>some ⟨PP m/\Gv.DeepN Wv.O8 K (Gv.see m (⟨ti,tg⟩:Gv.Ref)) (Gv.lk Wv.O8 m (⟨ti,tg⟩:Gv.Ref)),.int .i64 (Gv.first Wv.O8 (Pa.mayG ⟨xk,xi⟩) K (Gv.see m (⟨ti,tg⟩:Gv.Ref)) (Gv.lk Wv.O8 m (⟨ti,tg⟩:Gv.Ref)) ⟨0,Wv.O8.a0⟩ f_).1,none,[some (.inl (92,[.pointer (some ⟨2,0,none⟩),.int .i64 ti,.int .i64 tg])),some (.inl (75,[.int .i64 xk,.int .i64 xi,.bool xe,.int .i64 xt])),some (.inr (.inr (.inr (.pool (Gv.first Wv.O8 (Pa.mayG ⟨xk,xi⟩) K (Gv.see m (⟨ti,tg⟩:Gv.Ref)) (Gv.lk Wv.O8 m (⟨ti,tg⟩:Gv.Ref)) ⟨0,Wv.O8.a0⟩ f_).2))))],[],[(0,0)]⟩
 |_,_=>none
def TGfirstG (K:Nat):Tab Rs:=[(64,liftC zN 2 (con1 lookP)),(110,liftC zN 2 (con1 (firstGP K)))]
theorem gfirstG_ok (K:Nat):ConOk D Tryz.prog 84 (con1 (gfirstGP K)):=by
 refine prK Tryz.f84 fun args hh x hx=>?_
 unfold gfirstGP at hx;split at hx
 ·rename_i f_ ti tg xk xi xe xt m;injection hx with hx
  subst hx;refine q4 fun _ hv=>?_
  obtain⟨hp,hd⟩:=hv;generalize hG:Rx.Ends (R:=Rs) _ _=G;refine rx_ok (T:=(TGfirstG K)) (show TabOk D Tryz.prog (TGfirstG K) from⟨liftC_ok _ _ look_ok,liftC_ok _ _ (firstG_ok K),trivial⟩) mixed 200 ?_
  refine as_text (q:=let Z1:=(Gv.lk Wv.O8 m (Gv.Ref.mk ti tg));let Z2:=(ptL (Gv.Part.mk 0 (Wv.Sw.mk (Ti.Td.mk 0 0 0) (Ti.Td.mk 0 0 0) 0 0 (Wv.It.mk 0 0) false (Wv.It.mk 0 0) false (Wv.It.mk 0 0))));let Z3:=(Gv.first Wv.O8 (Pa.mayG (Wv.It.mk xk xi)) K (Gv.see m (Gv.Ref.mk ti tg)) Z1 (Gv.Part.mk (0:Int) (Wv.Sw.mk (Ti.Td.mk (0:Int) (0:Int) (0:Int)) (Ti.Td.mk (0:Int) (0:Int) (0:Int)) (0:Int) (0:Int) (Wv.It.mk (0:Int) (0:Int)) false (Wv.It.mk (0:Int) (0:Int)) false (Wv.It.mk (0:Int) (0:Int)))) f_);Vc (PP m)/\Vc ((ndL Z1)=ndL Z1/\Z2=Z2/\PP (Gv.see m (Gv.Ref.mk ti tg))/\Gv.DeepN Wv.O8 K (Gv.see m (Gv.Ref.mk ti tg)) Z1)/\Post (G (Value.int IntKind.i64 (Prod.fst Z3)) [trB 2 ti tg,some (.inl (75,[Value.int IntKind.i64 xk,Value.int IntKind.i64 xi,Value.bool xe,Value.int IntKind.i64 xt])),oP (Prod.snd Z3)])) ?_ (by kernel_rfl)
  intro Z1 Z2 Z3;subst Z3 Z2 Z1;subst hG
  repeat' (first|apply And.intro|apply Vc.mk|apply fits.mk|intro h|apply Post.mk)
  all_goals (try simp only[sB] at *)
  all_goals first|contradiction|omega|exact vb1 ‹_›|exact vb2 ‹_›|exact vb3 ‹_›|exact⟨rfl,by omega⟩|exact rfl|(simp[*,-List.getD_eq_getElem?_getD];done)|skip
  all_goals first|assumption|(simp only[Gv.ok_s];assumption)|skip
  exact⟨[0,1,2],rfl,rfl,⟨.inl rfl,.inl rfl,rfl,trivial⟩,rfl,rfl,rfl,rfl⟩
 ·cases hx
def lastLP  (k:Nat):Prim Rs:=fun args hh=>match args,hh with
 |[.pointer (some ⟨0,0,none⟩),.agg ⟨xN⟩,.agg ⟨pP⟩,.int .i64 f_,.func (.func 86) ⟨[]⟩ ⟨[.pointer (some ⟨1,0,none⟩)]⟩],[some (.inl (92,[.pointer (some ⟨2,0,none⟩),.int .i64 ti,.int .i64 tg])),some (.inl (75,[.int .i64 xk,.int .i64 xi,.bool xe,.int .i64 xt])),some (.inr (.inr (.inr (.pool m))))]=>some ⟨xN=ndL (ndOf xN)/\pP=ptL (ptOf pP)/\(PP m/\Gv.DeepN Wv.O8 k m (ndOf xN)),.int .i64 (Gv.last Wv.O8 (Pa.mayL ⟨xk,xi⟩) k m (ndOf xN) (ptOf pP) f_).1,none,[some (.inl (92,[.pointer (some ⟨2,0,none⟩),.int .i64 ti,.int .i64 tg])),some (.inl (75,[.int .i64 xk,.int .i64 xi,.bool xe,.int .i64 xt])),some (.inr (.inr (.inr (.pool (Gv.last Wv.O8 (Pa.mayL ⟨xk,xi⟩) k m (ndOf xN) (ptOf pP) f_).2))))],[],[(0,0)]⟩
 |_,_=>none
def TLastL (k:Nat):Tab Rs:=[(1000000000,wrapCon),(86,liftC zN 2 (con1 mayLP)),(64,liftC zN 2 (con1 lookP)),(74,liftC zN 2 (con1 oneP)),(116,liftC zN 2 (con1 plusP)),(111,liftC zN 2 (con1 (lastLP k)))]
theorem lastL_ok:∀ k:Nat,ConOk D Tryz.prog 111 (con1 (lastLP k))
 |0=>by
  refine prK Tryz.f111 fun args hh x hx=>?_
  unfold lastLP at hx;split at hx
  ·rename_i xN pP f_ ti tg xk xi xe xt m;injection hx with hx
   subst hx;refine q4 fun _ hv=>?_
   exact False.elim (And.right (And.right (And.right hv)))
  ·cases hx
 |k+1=>by
  have ih:=lastL_ok k;refine prK Tryz.f111 fun args hh x hx=>?_
  unfold lastLP at hx;split at hx
  ·rename_i xN pP f_ ti tg xk xi xe xt m;injection hx with hx
   subst hx;refine q4 fun _ hv=>?_
   obtain⟨hq0,hq1,hv⟩:=hv;generalize ndOf xN=xn at *;subst hq0;generalize ptOf pP=pp at *;subst hq1;obtain⟨hp,hd⟩:=hv
   generalize hG:Rx.Ends (R:=Rs) _ _=G;refine rx_ok (T:=(TLastL k)) (show TabOk D Tryz.prog (TLastL k) from⟨wrapCon_ok,liftC_ok _ _ mayL_ok,liftC_ok _ _ look_ok,liftC_ok _ _ one_ok,liftC_ok _ _ plus_ok,liftC_ok _ _ ih,trivial⟩) mixed 200 ?_
   refine as_text (q:=let Z9:=Value.int IntKind.i64;let Z1:=(IntKind.wrap IntKind.i64 (Gv.Part.n pp+Gv.Part.n (Gv.Node.all xn))≤f_);let Z2:=(Gv.lk Wv.O8 m (Gv.Node.l xn));let Z3:=(Gv.plusP Wv.O8 pp (Gv.Node.all Z2));let Z4:=(Gv.one Wv.O8 (Gv.Node.e xn));let Z5:=(Gv.lk Wv.O8 (Gv.see m (Gv.Node.l xn)) (Gv.Node.r xn));let Z6:=(Gv.see (Gv.see m (Gv.Node.l xn)) (Gv.Node.r xn));let Z7:=(Gv.last Wv.O8 (Pa.mayL (Wv.It.mk xk xi)) k Z6 Z5 (Gv.plusP Wv.O8 Z3 Z4) f_);let Z8:=(Gv.last Wv.O8 (Pa.mayL (Wv.It.mk xk xi)) k (Prod.snd Z7) Z2 pp f_);((Gv.Node.h xn==(0:Int))=false->(decide (Gv.Part.n pp≥f_)=true->Post (G (Z9 (-1:Int)) [trB 2 ti tg,some (.inl (75,[Z9 xk,Z9 xi,Value.bool xe,Z9 xt])),oP m,some (.inl (119,(ndL xn))),some (.inl (117,(ptL pp)))]))/\(decide (Gv.Part.n pp≥f_)=false->Vc True/\(decide Z1=true->Vc ((smL (Gv.Part.sum pp))=smL (Gv.Part.sum pp)/\(smL (Gv.Part.sum (Gv.Node.all xn)))=smL (Gv.Part.sum (Gv.Node.all xn)))/\((!Pa.mayL (Wv.It.mk xk xi) (Gv.Part.sum pp) (Gv.Part.sum (Gv.Node.all xn)))=true->Post (G (Z9 (-1:Int)) [trB 2 ti tg,some (.inl (75,[Z9 xk,Z9 xi,Value.bool xe,Z9 xt])),oP m,some (.inl (119,(ndL xn))),some (.inl (117,(ptL pp)))]))/\((!Pa.mayL (Wv.It.mk xk xi) (Gv.Part.sum pp) (Gv.Part.sum (Gv.Node.all xn)))=false->Vc (PP m)/\Vc ((ptL pp)=ptL pp/\(ptL (Gv.Node.all Z2))=ptL (Gv.Node.all Z2)/\True)/\Vc ((elL (Gv.Node.e xn))=elL (Gv.Node.e xn)/\True)/\Vc (PP (Gv.see m (Gv.Node.l xn)))/\Vc ((ptL Z3)=ptL Z3/\(ptL Z4)=ptL Z4/\True)/\Vc ((ndL Z5)=ndL Z5/\(ptL (Gv.plusP Wv.O8 Z3 Z4))=ptL (Gv.plusP Wv.O8 Z3 Z4)/\PP Z6/\Gv.DeepN Wv.O8 k Z6 Z5)/\(decide (Prod.fst Z7≥(0:Int))=true->Post (G (Z9 (Prod.fst Z7)) [trB 2 ti tg,some (.inl (75,[Z9 xk,Z9 xi,Value.bool xe,Z9 xt])),oP (Prod.snd Z7),some (.inl (119,(ndL xn))),some (.inl (117,(ptL pp))),some (.inl (119,(ndL Z2))),some (.inl (117,(ptL Z3))),some (.inl (117,(ptL Z4)))]))/\(decide (Prod.fst Z7≥(0:Int))=false->(decide (Gv.Part.n Z3<f_)=true->Vc ((smL (Gv.Part.sum Z3))=smL (Gv.Part.sum Z3)/\(smL (Gv.Part.sum Z4))=smL (Gv.Part.sum Z4))/\(Pa.mayL (Wv.It.mk xk xi) (Gv.Part.sum Z3) (Gv.Part.sum Z4)=true->Post (G (Z9 (Gv.Part.n Z3)) [trB 2 ti tg,some (.inl (75,[Z9 xk,Z9 xi,Value.bool xe,Z9 xt])),oP (Prod.snd Z7),some (.inl (119,(ndL xn))),some (.inl (117,(ptL pp))),some (.inl (119,(ndL Z2))),some (.inl (117,(ptL Z3))),some (.inl (117,(ptL Z4)))]))/\(Pa.mayL (Wv.It.mk xk xi) (Gv.Part.sum Z3) (Gv.Part.sum Z4)=false->Vc ((ndL Z2)=ndL Z2/\(ptL pp)=ptL pp/\PP (Prod.snd Z7)/\Gv.DeepN Wv.O8 k (Prod.snd Z7) Z2)/\Post (G (Z9 (Prod.fst Z8)) [trB 2 ti tg,some (.inl (75,[Z9 xk,Z9 xi,Value.bool xe,Z9 xt])),oP (Prod.snd Z8),some (.inl (119,(ndL xn))),some (.inl (117,(ptL pp))),some (.inl (119,(ndL Z2))),some (.inl (117,(ptL Z3))),some (.inl (117,(ptL Z4)))])))/\(decide (Gv.Part.n Z3<f_)=false->Vc ((ndL Z2)=ndL Z2/\(ptL pp)=ptL pp/\PP (Prod.snd Z7)/\Gv.DeepN Wv.O8 k (Prod.snd Z7) Z2)/\Post (G (Z9 (Prod.fst Z8)) [trB 2 ti tg,some (.inl (75,[Z9 xk,Z9 xi,Value.bool xe,Z9 xt])),oP (Prod.snd Z8),some (.inl (119,(ndL xn))),some (.inl (117,(ptL pp))),some (.inl (119,(ndL Z2))),some (.inl (117,(ptL Z3))),some (.inl (117,(ptL Z4)))])))))/\(decide Z1=false->Vc (PP m)/\Vc ((ptL pp)=ptL pp/\(ptL (Gv.Node.all Z2))=ptL (Gv.Node.all Z2)/\True)/\Vc ((elL (Gv.Node.e xn))=elL (Gv.Node.e xn)/\True)/\Vc (PP (Gv.see m (Gv.Node.l xn)))/\Vc ((ptL Z3)=ptL Z3/\(ptL Z4)=ptL Z4/\True)/\Vc ((ndL Z5)=ndL Z5/\(ptL (Gv.plusP Wv.O8 Z3 Z4))=ptL (Gv.plusP Wv.O8 Z3 Z4)/\PP Z6/\Gv.DeepN Wv.O8 k Z6 Z5)/\(decide (Prod.fst Z7≥(0:Int))=true->Post (G (Z9 (Prod.fst Z7)) [trB 2 ti tg,some (.inl (75,[Z9 xk,Z9 xi,Value.bool xe,Z9 xt])),oP (Prod.snd Z7),some (.inl (119,(ndL xn))),some (.inl (117,(ptL pp))),some (.inl (119,(ndL Z2))),some (.inl (117,(ptL Z3))),some (.inl (117,(ptL Z4)))]))/\(decide (Prod.fst Z7≥(0:Int))=false->(decide (Gv.Part.n Z3<f_)=true->Vc ((smL (Gv.Part.sum Z3))=smL (Gv.Part.sum Z3)/\(smL (Gv.Part.sum Z4))=smL (Gv.Part.sum Z4))/\(Pa.mayL (Wv.It.mk xk xi) (Gv.Part.sum Z3) (Gv.Part.sum Z4)=true->Post (G (Z9 (Gv.Part.n Z3)) [trB 2 ti tg,some (.inl (75,[Z9 xk,Z9 xi,Value.bool xe,Z9 xt])),oP (Prod.snd Z7),some (.inl (119,(ndL xn))),some (.inl (117,(ptL pp))),some (.inl (119,(ndL Z2))),some (.inl (117,(ptL Z3))),some (.inl (117,(ptL Z4)))]))/\(Pa.mayL (Wv.It.mk xk xi) (Gv.Part.sum Z3) (Gv.Part.sum Z4)=false->Vc ((ndL Z2)=ndL Z2/\(ptL pp)=ptL pp/\PP (Prod.snd Z7)/\Gv.DeepN Wv.O8 k (Prod.snd Z7) Z2)/\Post (G (Z9 (Prod.fst Z8)) [trB 2 ti tg,some (.inl (75,[Z9 xk,Z9 xi,Value.bool xe,Z9 xt])),oP (Prod.snd Z8),some (.inl (119,(ndL xn))),some (.inl (117,(ptL pp))),some (.inl (119,(ndL Z2))),some (.inl (117,(ptL Z3))),some (.inl (117,(ptL Z4)))])))/\(decide (Gv.Part.n Z3<f_)=false->Vc ((ndL Z2)=ndL Z2/\(ptL pp)=ptL pp/\PP (Prod.snd Z7)/\Gv.DeepN Wv.O8 k (Prod.snd Z7) Z2)/\Post (G (Z9 (Prod.fst Z8)) [trB 2 ti tg,some (.inl (75,[Z9 xk,Z9 xi,Value.bool xe,Z9 xt])),oP (Prod.snd Z8),some (.inl (119,(ndL xn))),some (.inl (117,(ptL pp))),some (.inl (119,(ndL Z2))),some (.inl (117,(ptL Z3))),some (.inl (117,(ptL Z4)))]))))))/\((Gv.Node.h xn==(0:Int))=true->Post (G (Z9 (-1:Int)) [trB 2 ti tg,some (.inl (75,[Z9 xk,Z9 xi,Value.bool xe,Z9 xt])),oP m,some (.inl (119,(ndL xn))),some (.inl (117,(ptL pp)))]))) ?_ (by kernel_rfl)
   intro Z9 Z1 Z2 Z3 Z4 Z5 Z6 Z7 Z8;subst Z8 Z7 Z6 Z5 Z4 Z3 Z2 Z1 Z9;simp only[Gv.DeepN] at hd;have e1:∀ e,(Gv.one Wv.O8 e).sum=Wv.O8.sum e:=fun _=>rfl
   have done:∀ (i:Int) (m':Pl) (rest:Hp Rs),Gv.last Wv.O8 (Pa.mayL ⟨xk,xi⟩) (k+1) m xn pp f_=(i,m')->G (.int .i64 i) ([some (.inl (92,[.pointer (some ⟨2,0,none⟩),.int .i64 ti,.int .i64 tg])),some (.inl (75,[.int .i64 xk,.int .i64 xi,.bool xe,.int .i64 xt])),some (.inr (.inr (.inr (.pool m'))))]++rest):=by
    intro i m' rest e;subst hG;refine⟨[0,1,2],?_,rfl,⟨.inl rfl,.inl rfl,?_,trivial⟩,rfl,rfl,rfl,rfl⟩
    ·simp only[e];rfl
    ·simp only[e];rfl
   clear hG;rw[Gv.last] at done
   dsimp only [Gv.W] at done
   simp only[e1]
   repeat' (first|apply And.intro|apply Vc.mk|apply fits.mk|intro h|apply Post.mk)
   all_goals (try simp only[sB] at *)
   all_goals first|contradiction|omega|exact vb1 ‹_›|exact vb2 ‹_›|exact vb3 ‹_›|exact⟨rfl,by omega⟩|exact rfl|(simp[*,-List.getD_eq_getElem?_getD];done)|skip
   all_goals first|assumption|(simp only[Gv.ok_s];assumption)|skip
   all_goals first|exact Gv.DeepN_of (hd.resolve_left (by omega)).1 (fun s=>by simp only[Gv.lk_see,Gv.lk_first,Gv.lk_last])|(simp only[Gv.lk_first,Gv.lk_last,Gv.lk_see];first|exact Gv.DeepN_of (hd.resolve_left (by omega)).2 (fun s=>by simp only[Gv.lk_see,Gv.lk_first,Gv.lk_last])|exact Gv.DeepN_of (hd.resolve_left (by omega)).1 (fun s=>by simp only[Gv.lk_see,Gv.lk_first,Gv.lk_last]))|skip
   all_goals (refine done _ _ _ ?_;repeat' split)
   all_goals first|rfl|(exfalso;omega)|(exfalso;simp_all;done)|(exfalso;simp_all;omega)
  ·cases hx
def glastLP (K:Nat):Prim Rs:=fun args hh=>match args,hh with
 |[.pointer (some ⟨0,0,none⟩),.int .i64 f_,.func (.func 86) ⟨[]⟩ ⟨[.pointer (some ⟨1,0,none⟩)]⟩],[some (.inl (92,[.pointer (some ⟨2,0,none⟩),.int .i64 ti,.int .i64 tg])),some (.inl (75,[.int .i64 xk,.int .i64 xi,.bool xe,.int .i64 xt])),some (.inr (.inr (.inr (.pool m))))]=>some ⟨PP m/\Gv.DeepN Wv.O8 K (Gv.see m (⟨ti,tg⟩:Gv.Ref)) (Gv.lk Wv.O8 m (⟨ti,tg⟩:Gv.Ref)),.int .i64 (Gv.last Wv.O8 (Pa.mayL ⟨xk,xi⟩) K (Gv.see m (⟨ti,tg⟩:Gv.Ref)) (Gv.lk Wv.O8 m (⟨ti,tg⟩:Gv.Ref)) ⟨0,Wv.O8.a0⟩ f_).1,none,[some (.inl (92,[.pointer (some ⟨2,0,none⟩),.int .i64 ti,.int .i64 tg])),some (.inl (75,[.int .i64 xk,.int .i64 xi,.bool xe,.int .i64 xt])),some (.inr (.inr (.inr (.pool (Gv.last Wv.O8 (Pa.mayL ⟨xk,xi⟩) K (Gv.see m (⟨ti,tg⟩:Gv.Ref)) (Gv.lk Wv.O8 m (⟨ti,tg⟩:Gv.Ref)) ⟨0,Wv.O8.a0⟩ f_).2))))],[],[(0,0)]⟩
 |_,_=>none
def TGlastL (K:Nat):Tab Rs:=[(64,liftC zN 2 (con1 lookP)),(111,liftC zN 2 (con1 (lastLP K)))]
theorem glastL_ok (K:Nat):ConOk D Tryz.prog 87 (con1 (glastLP K)):=by
 refine prK Tryz.f87 fun args hh x hx=>?_
 unfold glastLP at hx;split at hx
 ·rename_i f_ ti tg xk xi xe xt m;injection hx with hx
  subst hx;refine q4 fun _ hv=>?_
  obtain⟨hp,hd⟩:=hv;generalize hG:Rx.Ends (R:=Rs) _ _=G;refine rx_ok (T:=(TGlastL K)) (show TabOk D Tryz.prog (TGlastL K) from⟨liftC_ok _ _ look_ok,liftC_ok _ _ (lastL_ok K),trivial⟩) mixed 200 ?_
  refine as_text (q:=let Z1:=(Gv.lk Wv.O8 m (Gv.Ref.mk ti tg));let Z2:=(ptL (Gv.Part.mk 0 (Wv.Sw.mk (Ti.Td.mk 0 0 0) (Ti.Td.mk 0 0 0) 0 0 (Wv.It.mk 0 0) false (Wv.It.mk 0 0) false (Wv.It.mk 0 0))));let Z3:=(Gv.last Wv.O8 (Pa.mayL (Wv.It.mk xk xi)) K (Gv.see m (Gv.Ref.mk ti tg)) Z1 (Gv.Part.mk (0:Int) (Wv.Sw.mk (Ti.Td.mk (0:Int) (0:Int) (0:Int)) (Ti.Td.mk (0:Int) (0:Int) (0:Int)) (0:Int) (0:Int) (Wv.It.mk (0:Int) (0:Int)) false (Wv.It.mk (0:Int) (0:Int)) false (Wv.It.mk (0:Int) (0:Int)))) f_);Vc (PP m)/\Vc ((ndL Z1)=ndL Z1/\Z2=Z2/\PP (Gv.see m (Gv.Ref.mk ti tg))/\Gv.DeepN Wv.O8 K (Gv.see m (Gv.Ref.mk ti tg)) Z1)/\Post (G (Value.int IntKind.i64 (Prod.fst Z3)) [trB 2 ti tg,some (.inl (75,[Value.int IntKind.i64 xk,Value.int IntKind.i64 xi,Value.bool xe,Value.int IntKind.i64 xt])),oP (Prod.snd Z3)])) ?_ (by kernel_rfl)
  intro Z1 Z2 Z3;subst Z3 Z2 Z1;subst hG
  repeat' (first|apply And.intro|apply Vc.mk|apply fits.mk|intro h|apply Post.mk)
  all_goals (try simp only[sB] at *)
  all_goals first|contradiction|omega|exact vb1 ‹_›|exact vb2 ‹_›|exact vb3 ‹_›|exact⟨rfl,by omega⟩|exact rfl|(simp[*,-List.getD_eq_getElem?_getD];done)|skip
  all_goals first|assumption|(simp only[Gv.ok_s];assumption)|skip
  exact⟨[0,1,2],rfl,rfl,⟨.inl rfl,.inl rfl,rfl,trivial⟩,rfl,rfl,rfl,rfl⟩
 ·cases hx
end G8
namespace G8
open Rx
open Gv (KK)
set_option maxRecDepth 100000
set_option maxHeartbeats 8000000
def tnewP:Prim Rt:=fun args hh=>match args,hh with
 |[.int .i64 c],[]=>some ⟨True,.pointer (some ⟨0,0,none⟩),none,[oT (Gv.TS.new k8 c)],[],[(0,0)]⟩
 |_,_=>none
theorem tnew_ok:ConOk D2 Tryz.prog 65 (con1 tnewP):=by
 refine res_up (c:=con1 gnewP) gnew_ok fun args hh x hx=>?_
 unfold tnewP at hx;split at hx
 ·rename_i c;injection hx with hx
  subst hx;refine⟨Nat.zero_le _,noLit rfl,(fun hw=>by cases hw),fun hv=>⟨⟨_,.inl ⟨rfl,rfl⟩,rfl,?_,?_,?_⟩,rfl,rfl⟩⟩
  ·trivial
  ·rfl
  ·rfl
 ·cases hx
def tlenP:Prim Rt:=fun args hh=>match args,hh with
 |[.pointer (some ⟨0,0,none⟩)],[some (.inr (.inr (.inr (.tree s))))]=>some ⟨s.Few,.int .i64 s.l.length,none,[oT s.seen],[],[(0,0)]⟩
 |_,_=>none
theorem tlen_ok:ConOk D2 Tryz.prog 35 (con1 tlenP):=by
 refine res_up (c:=con1 lenP) len_ok fun args hh x hx=>?_
 unfold tlenP at hx;split at hx
 ·rename_i s;injection hx with hx
  subst hx;refine⟨Nat.le_refl _,noLit rfl,(fun hw=>by cases hw),fun hv=>⟨⟨_,.inl ⟨rfl,rfl⟩,rfl,?_,?_,?_⟩,rfl,rfl⟩⟩
  ·exact s.pp hv
  ·rfl
  ·exact congrArg (Value.int IntKind.i64) s.ok.nn
 ·cases hx
def tvisP:Prim Rt:=fun args hh=>match args,hh with
 |[.pointer (some ⟨0,0,none⟩)],[some (.inr (.inr (.inr (.tree s))))]=>some ⟨True,.int .i64 s.m.visits,none,hh,[],[]⟩
 |_,_=>none
theorem tvis_ok:ConOk D2 Tryz.prog 60 (con1 tvisP):=by
 refine res_up (c:=con1 gvisitsP) gvisits_ok fun args hh x hx=>?_
 unfold tvisP at hx;split at hx
 ·rename_i s;injection hx with hx
  subst hx;refine⟨Nat.le_refl _,noLit rfl,(fun _=>rfl),fun hv=>⟨⟨_,.inl ⟨rfl,rfl⟩,rfl,?_,?_,?_⟩,rfl,rfl⟩⟩
  ·trivial
  ·rfl
  ·rfl
 ·cases hx
def tputP:Prim Rt:=fun args hh=>match args,hh with
 |[.pointer (some ⟨0,0,none⟩),.agg ⟨[.int .i64 k0,.bool k1,.int .i64 k2,.int .i64 k3,.bool k4,.bool k5,.int .i64 k6,.int .i64 k7]⟩],[some (.inr (.inr (.inr (.tree s))))]=>some ⟨s.PutOk (⟨k0,k1,⟨k2,k3⟩,k4,k5,⟨k6,k7⟩⟩:Wv.Mk),.bool (s.putB (⟨k0,k1,⟨k2,k3⟩,k4,k5,⟨k6,k7⟩⟩:Wv.Mk)),none,[oT (s.put (⟨k0,k1,⟨k2,k3⟩,k4,k5,⟨k6,k7⟩⟩:Wv.Mk))],[],[(0,0)]⟩
 |_,_=>none
theorem tput_ok:ConOk D2 Tryz.prog 51 (con1 tputP):=by
 refine res_up (c:=con1 (gputP KK)) (gput_ok KK) fun args hh x hx=>?_
 unfold tputP at hx;split at hx
 ·rename_i k0 k1 k2 k3 k4 k5 k6 k7 s;injection hx with hx
  subst hx;refine⟨Nat.le_refl _,noLit rfl,(fun hw=>by cases hw),fun hv=>⟨⟨_,.inl ⟨rfl,rfl⟩,rfl,?_,?_,?_⟩,rfl,rfl⟩⟩
  ·exact⟨rfl,s.pp hv.few,(Gv.TS.put_ok hv).1⟩
  ·rw[Gv.TS.put_eq hv];rfl
  ·exact congrArg Value.bool (Gv.TS.put_ok hv).2.1
 ·cases hx
def tdropP:Prim Rt:=fun args hh=>match args,hh with
 |[.pointer (some ⟨0,0,none⟩),.agg ⟨[.int .i64 k0,.bool k1,.int .i64 k2,.int .i64 k3,.bool k4,.bool k5,.int .i64 k6,.int .i64 k7]⟩],[some (.inr (.inr (.inr (.tree s))))]=>some ⟨s.Few,.tuple #[.agg ⟨[.int .i64 (Gv.fndE Wv.O8 (⟨k0,k1,⟨k2,k3⟩,k4,k5,⟨k6,k7⟩⟩:Wv.Mk) s.l).1.t,.bool (Gv.fndE Wv.O8 (⟨k0,k1,⟨k2,k3⟩,k4,k5,⟨k6,k7⟩⟩:Wv.Mk) s.l).1.ins,.int .i64 (Gv.fndE Wv.O8 (⟨k0,k1,⟨k2,k3⟩,k4,k5,⟨k6,k7⟩⟩:Wv.Mk) s.l).1.it.k,.int .i64 (Gv.fndE Wv.O8 (⟨k0,k1,⟨k2,k3⟩,k4,k5,⟨k6,k7⟩⟩:Wv.Mk) s.l).1.it.i,.bool (Gv.fndE Wv.O8 (⟨k0,k1,⟨k2,k3⟩,k4,k5,⟨k6,k7⟩⟩:Wv.Mk) s.l).1.here,.bool (Gv.fndE Wv.O8 (⟨k0,k1,⟨k2,k3⟩,k4,k5,⟨k6,k7⟩⟩:Wv.Mk) s.l).1.tf,.int .i64 (Gv.fndE Wv.O8 (⟨k0,k1,⟨k2,k3⟩,k4,k5,⟨k6,k7⟩⟩:Wv.Mk) s.l).1.tk.k,.int .i64 (Gv.fndE Wv.O8 (⟨k0,k1,⟨k2,k3⟩,k4,k5,⟨k6,k7⟩⟩:Wv.Mk) s.l).1.tk.i]⟩,.bool (Gv.fndE Wv.O8 (⟨k0,k1,⟨k2,k3⟩,k4,k5,⟨k6,k7⟩⟩:Wv.Mk) s.l).2],none,[oT (s.drop (⟨k0,k1,⟨k2,k3⟩,k4,k5,⟨k6,k7⟩⟩:Wv.Mk))],[],[(0,0)]⟩
 |_,_=>none
theorem tdrop_ok:ConOk D2 Tryz.prog 58 (con1 tdropP):=by
 refine res_up (c:=con1 (gdropP KK)) (gdrop_ok KK) fun args hh x hx=>?_
 unfold tdropP at hx;split at hx
 ·rename_i k0 k1 k2 k3 k4 k5 k6 k7 s;injection hx with hx
  subst hx;refine⟨Nat.le_refl _,noLit rfl,(fun hw=>by cases hw),fun hv=>⟨⟨_,.inl ⟨rfl,rfl⟩,rfl,?_,?_,?_⟩,rfl,rfl⟩⟩
  ·exact⟨rfl,s.pp hv,(s.drop_ok (⟨k0,k1,⟨k2,k3⟩,k4,k5,⟨k6,k7⟩⟩:Wv.Mk)).1⟩
  ·rfl
  ·obtain⟨_,h1,h2,_⟩:=s.drop_ok (⟨k0,k1,⟨k2,k3⟩,k4,k5,⟨k6,k7⟩⟩:Wv.Mk);show Value.tuple #[.agg ⟨[.int .i64 (Gv.dropF Wv.O8 KK s.m s.r (⟨k0,k1,⟨k2,k3⟩,k4,k5,⟨k6,k7⟩⟩:Wv.Mk)).1.t,.bool (Gv.dropF Wv.O8 KK s.m s.r (⟨k0,k1,⟨k2,k3⟩,k4,k5,⟨k6,k7⟩⟩:Wv.Mk)).1.ins,.int .i64 (Gv.dropF Wv.O8 KK s.m s.r (⟨k0,k1,⟨k2,k3⟩,k4,k5,⟨k6,k7⟩⟩:Wv.Mk)).1.it.k,.int .i64 (Gv.dropF Wv.O8 KK s.m s.r (⟨k0,k1,⟨k2,k3⟩,k4,k5,⟨k6,k7⟩⟩:Wv.Mk)).1.it.i,.bool (Gv.dropF Wv.O8 KK s.m s.r (⟨k0,k1,⟨k2,k3⟩,k4,k5,⟨k6,k7⟩⟩:Wv.Mk)).1.here,.bool (Gv.dropF Wv.O8 KK s.m s.r (⟨k0,k1,⟨k2,k3⟩,k4,k5,⟨k6,k7⟩⟩:Wv.Mk)).1.tf,.int .i64 (Gv.dropF Wv.O8 KK s.m s.r (⟨k0,k1,⟨k2,k3⟩,k4,k5,⟨k6,k7⟩⟩:Wv.Mk)).1.tk.k,.int .i64 (Gv.dropF Wv.O8 KK s.m s.r (⟨k0,k1,⟨k2,k3⟩,k4,k5,⟨k6,k7⟩⟩:Wv.Mk)).1.tk.i]⟩,.bool (Gv.dropF Wv.O8 KK s.m s.r (⟨k0,k1,⟨k2,k3⟩,k4,k5,⟨k6,k7⟩⟩:Wv.Mk)).2.1]=_
   have h1:(Gv.dropF Wv.O8 KK s.m s.r (⟨k0,k1,⟨k2,k3⟩,k4,k5,⟨k6,k7⟩⟩:Wv.Mk)).1=(Gv.fndE Wv.O8 (⟨k0,k1,⟨k2,k3⟩,k4,k5,⟨k6,k7⟩⟩:Wv.Mk) s.l).1:=h1;have h2:(Gv.dropF Wv.O8 KK s.m s.r (⟨k0,k1,⟨k2,k3⟩,k4,k5,⟨k6,k7⟩⟩:Wv.Mk)).2.1=(Gv.fndE Wv.O8 (⟨k0,k1,⟨k2,k3⟩,k4,k5,⟨k6,k7⟩⟩:Wv.Mk) s.l).2:=h2;rw[h1,h2]
   rfl
 ·cases hx
def tfindP:Prim Rt:=fun args hh=>match args,hh with
 |[.pointer (some ⟨0,0,none⟩),.agg ⟨[.int .i64 k0,.bool k1,.int .i64 k2,.int .i64 k3,.bool k4,.bool k5,.int .i64 k6,.int .i64 k7]⟩],[some (.inr (.inr (.inr (.tree s))))]=>some ⟨s.Few,.tuple #[.agg ⟨[.int .i64 (Gv.fndE Wv.O8 (⟨k0,k1,⟨k2,k3⟩,k4,k5,⟨k6,k7⟩⟩:Wv.Mk) s.l).1.t,.bool (Gv.fndE Wv.O8 (⟨k0,k1,⟨k2,k3⟩,k4,k5,⟨k6,k7⟩⟩:Wv.Mk) s.l).1.ins,.int .i64 (Gv.fndE Wv.O8 (⟨k0,k1,⟨k2,k3⟩,k4,k5,⟨k6,k7⟩⟩:Wv.Mk) s.l).1.it.k,.int .i64 (Gv.fndE Wv.O8 (⟨k0,k1,⟨k2,k3⟩,k4,k5,⟨k6,k7⟩⟩:Wv.Mk) s.l).1.it.i,.bool (Gv.fndE Wv.O8 (⟨k0,k1,⟨k2,k3⟩,k4,k5,⟨k6,k7⟩⟩:Wv.Mk) s.l).1.here,.bool (Gv.fndE Wv.O8 (⟨k0,k1,⟨k2,k3⟩,k4,k5,⟨k6,k7⟩⟩:Wv.Mk) s.l).1.tf,.int .i64 (Gv.fndE Wv.O8 (⟨k0,k1,⟨k2,k3⟩,k4,k5,⟨k6,k7⟩⟩:Wv.Mk) s.l).1.tk.k,.int .i64 (Gv.fndE Wv.O8 (⟨k0,k1,⟨k2,k3⟩,k4,k5,⟨k6,k7⟩⟩:Wv.Mk) s.l).1.tk.i]⟩,.bool (Gv.fndE Wv.O8 (⟨k0,k1,⟨k2,k3⟩,k4,k5,⟨k6,k7⟩⟩:Wv.Mk) s.l).2],none,[oT (s.find (⟨k0,k1,⟨k2,k3⟩,k4,k5,⟨k6,k7⟩⟩:Wv.Mk))],[],[(0,0)]⟩
 |_,_=>none
theorem tfind_ok:ConOk D2 Tryz.prog 57 (con1 tfindP):=by
 refine res_up (c:=con1 (gfindP KK)) (gfind_ok KK) fun args hh x hx=>?_
 unfold tfindP at hx;split at hx
 ·rename_i k0 k1 k2 k3 k4 k5 k6 k7 s;injection hx with hx
  subst hx;refine⟨Nat.le_refl _,noLit rfl,(fun hw=>by cases hw),fun hv=>⟨⟨_,.inl ⟨rfl,rfl⟩,rfl,?_,?_,?_⟩,rfl,rfl⟩⟩
  ·exact⟨rfl,s.pp hv,(s.ok.find (e:=(⟨k0,k1,⟨k2,k3⟩,k4,k5,⟨k6,k7⟩⟩:Wv.Mk)) s.k1).1⟩
  ·rfl
  ·obtain⟨_,m',h1,_⟩:=s.ok.find (K:=KK) (e:=(⟨k0,k1,⟨k2,k3⟩,k4,k5,⟨k6,k7⟩⟩:Wv.Mk)) s.k1;have h1:(Gv.find Wv.O8 KK (Gv.see s.m s.r) (Gv.lk Wv.O8 s.m s.r) (⟨k0,k1,⟨k2,k3⟩,k4,k5,⟨k6,k7⟩⟩:Wv.Mk))=((Gv.fndE Wv.O8 (⟨k0,k1,⟨k2,k3⟩,k4,k5,⟨k6,k7⟩⟩:Wv.Mk) s.l),m'):=h1;show Value.tuple #[.agg ⟨[.int .i64 (Gv.find Wv.O8 KK (Gv.see s.m s.r) (Gv.lk Wv.O8 s.m s.r) (⟨k0,k1,⟨k2,k3⟩,k4,k5,⟨k6,k7⟩⟩:Wv.Mk)).1.1.t,.bool (Gv.find Wv.O8 KK (Gv.see s.m s.r) (Gv.lk Wv.O8 s.m s.r) (⟨k0,k1,⟨k2,k3⟩,k4,k5,⟨k6,k7⟩⟩:Wv.Mk)).1.1.ins,.int .i64 (Gv.find Wv.O8 KK (Gv.see s.m s.r) (Gv.lk Wv.O8 s.m s.r) (⟨k0,k1,⟨k2,k3⟩,k4,k5,⟨k6,k7⟩⟩:Wv.Mk)).1.1.it.k,.int .i64 (Gv.find Wv.O8 KK (Gv.see s.m s.r) (Gv.lk Wv.O8 s.m s.r) (⟨k0,k1,⟨k2,k3⟩,k4,k5,⟨k6,k7⟩⟩:Wv.Mk)).1.1.it.i,.bool (Gv.find Wv.O8 KK (Gv.see s.m s.r) (Gv.lk Wv.O8 s.m s.r) (⟨k0,k1,⟨k2,k3⟩,k4,k5,⟨k6,k7⟩⟩:Wv.Mk)).1.1.here,.bool (Gv.find Wv.O8 KK (Gv.see s.m s.r) (Gv.lk Wv.O8 s.m s.r) (⟨k0,k1,⟨k2,k3⟩,k4,k5,⟨k6,k7⟩⟩:Wv.Mk)).1.1.tf,.int .i64 (Gv.find Wv.O8 KK (Gv.see s.m s.r) (Gv.lk Wv.O8 s.m s.r) (⟨k0,k1,⟨k2,k3⟩,k4,k5,⟨k6,k7⟩⟩:Wv.Mk)).1.1.tk.k,.int .i64 (Gv.find Wv.O8 KK (Gv.see s.m s.r) (Gv.lk Wv.O8 s.m s.r) (⟨k0,k1,⟨k2,k3⟩,k4,k5,⟨k6,k7⟩⟩:Wv.Mk)).1.1.tk.i]⟩,.bool (Gv.find Wv.O8 KK (Gv.see s.m s.r) (Gv.lk Wv.O8 s.m s.r) (⟨k0,k1,⟨k2,k3⟩,k4,k5,⟨k6,k7⟩⟩:Wv.Mk)).1.2]=_
   rw[h1]
   rfl
 ·cases hx
def trankP:Prim Rt:=fun args hh=>match args,hh with
 |[.pointer (some ⟨0,0,none⟩),.agg ⟨[.int .i64 k0,.bool k1,.int .i64 k2,.int .i64 k3,.bool k4,.bool k5,.int .i64 k6,.int .i64 k7]⟩],[some (.inr (.inr (.inr (.tree s))))]=>some ⟨s.Few,.int .i64 (Gv.loE Wv.O8 (⟨k0,k1,⟨k2,k3⟩,k4,k5,⟨k6,k7⟩⟩:Wv.Mk) s.l).length,none,[oT (s.rank (⟨k0,k1,⟨k2,k3⟩,k4,k5,⟨k6,k7⟩⟩:Wv.Mk))],[],[(0,0)]⟩
 |_,_=>none
theorem trank_ok:ConOk D2 Tryz.prog 49 (con1 trankP):=by
 refine res_up (c:=con1 (grankP KK)) (grank_ok KK) fun args hh x hx=>?_
 unfold trankP at hx;split at hx
 ·rename_i k0 k1 k2 k3 k4 k5 k6 k7 s;injection hx with hx
  subst hx;refine⟨Nat.le_refl _,noLit rfl,(fun hw=>by cases hw),fun hv=>⟨⟨_,.inl ⟨rfl,rfl⟩,rfl,?_,?_,?_⟩,rfl,rfl⟩⟩
  ·exact⟨rfl,s.pp hv,(s.ok.rank (e:=(⟨k0,k1,⟨k2,k3⟩,k4,k5,⟨k6,k7⟩⟩:Wv.Mk)) s.k1).1⟩
  ·rfl
  ·obtain⟨_,m',h1,_⟩:=s.ok.rank (K:=KK) (e:=(⟨k0,k1,⟨k2,k3⟩,k4,k5,⟨k6,k7⟩⟩:Wv.Mk)) s.k1;have h1:(Gv.rank Wv.O8 KK (Gv.see s.m s.r) (Gv.lk Wv.O8 s.m s.r) (⟨k0,k1,⟨k2,k3⟩,k4,k5,⟨k6,k7⟩⟩:Wv.Mk) 0)=(((Gv.loE Wv.O8 (⟨k0,k1,⟨k2,k3⟩,k4,k5,⟨k6,k7⟩⟩:Wv.Mk) s.l).length:Int),m'):=h1;show Value.int IntKind.i64 (Gv.rank Wv.O8 KK (Gv.see s.m s.r) (Gv.lk Wv.O8 s.m s.r) (⟨k0,k1,⟨k2,k3⟩,k4,k5,⟨k6,k7⟩⟩:Wv.Mk) 0).1=_
   rw[h1]
   rfl
 ·cases hx
def tallP:Prim Rt:=fun args hh=>match args,hh with
 |[.pointer (some ⟨0,0,none⟩)],[some (.inr (.inr (.inr (.tree s))))]=>some ⟨s.Few,.slice (some ⟨1,0,some 8000⟩) s.l.length 0,none,[oT s.all,some (.inr (.inl (49,⟨[.int .i64 0,.bool false,.int .i64 0,.int .i64 0,.bool false,.bool false,.int .i64 0,.int .i64 0],s.l.length,[⟨s.l.map fun e=>e.t,[],[]⟩,⟨[],s.l.map fun e=>e.ins,[]⟩,⟨s.l.map fun e=>e.it.k,[],[]⟩,⟨s.l.map fun e=>e.it.i,[],[]⟩,⟨[],s.l.map fun e=>e.here,[]⟩,⟨[],s.l.map fun e=>e.tf,[]⟩,⟨s.l.map fun e=>e.tk.k,[],[]⟩,⟨s.l.map fun e=>e.tk.i,[],[]⟩]⟩)))],[],[(0,0)]⟩
 |_,_=>none
theorem tall_ok:ConOk D2 Tryz.prog 16 (con1 tallP):=by
 refine res_up (c:=con1 (gallP KK)) (gall_ok KK) fun args hh x hx=>?_
 unfold tallP at hx;split at hx
 ·rename_i s;injection hx with hx
  subst hx;refine⟨Nat.le_succ _,noLit rfl,(fun hw=>by cases hw),fun hv=>⟨⟨_,.inl ⟨rfl,rfl⟩,rfl,?_,?_,?_⟩,rfl,rfl⟩⟩
  ·exact⟨s.pp hv,(s.ok.all (K:=KK) s.k1).1⟩
  ·obtain⟨_,m',h1,_⟩:=s.ok.all (K:=KK) s.k1;have h1:(Gv.gather Wv.O8 KK (Gv.see s.m s.r) s.r)=(s.l,m'):=h1;show([some (.inl (92,[.pointer (some ⟨1,0,none⟩),.int .i64 s.r.i,.int .i64 s.r.g])),some (.inr (.inr (.inr (.pool (Gv.gather Wv.O8 KK (Gv.see s.m s.r) s.r).2)))),some (.inr (.inl (49,⟨[.int .i64 0,.bool false,.int .i64 0,.int .i64 0,.bool false,.bool false,.int .i64 0,.int .i64 0],(Gv.gather Wv.O8 KK (Gv.see s.m s.r) s.r).1.length,[⟨(Gv.gather Wv.O8 KK (Gv.see s.m s.r) s.r).1.map fun e=>e.t,[],[]⟩,⟨[],(Gv.gather Wv.O8 KK (Gv.see s.m s.r) s.r).1.map fun e=>e.ins,[]⟩,⟨(Gv.gather Wv.O8 KK (Gv.see s.m s.r) s.r).1.map fun e=>e.it.k,[],[]⟩,⟨(Gv.gather Wv.O8 KK (Gv.see s.m s.r) s.r).1.map fun e=>e.it.i,[],[]⟩,⟨[],(Gv.gather Wv.O8 KK (Gv.see s.m s.r) s.r).1.map fun e=>e.here,[]⟩,⟨[],(Gv.gather Wv.O8 KK (Gv.see s.m s.r) s.r).1.map fun e=>e.tf,[]⟩,⟨(Gv.gather Wv.O8 KK (Gv.see s.m s.r) s.r).1.map fun e=>e.tk.k,[],[]⟩,⟨(Gv.gather Wv.O8 KK (Gv.see s.m s.r) s.r).1.map fun e=>e.tk.i,[],[]⟩]⟩)))]:Hp Rs)=[some (.inl (92,[.pointer (some ⟨1,0,none⟩),.int .i64 s.r.i,.int .i64 s.r.g])),some (.inr (.inr (.inr (.pool (Gv.gather Wv.O8 KK (Gv.see s.m s.r) s.r).2)))),some (.inr (.inl (49,⟨[.int .i64 0,.bool false,.int .i64 0,.int .i64 0,.bool false,.bool false,.int .i64 0,.int .i64 0],s.l.length,[⟨s.l.map fun e=>e.t,[],[]⟩,⟨[],s.l.map fun e=>e.ins,[]⟩,⟨s.l.map fun e=>e.it.k,[],[]⟩,⟨s.l.map fun e=>e.it.i,[],[]⟩,⟨[],s.l.map fun e=>e.here,[]⟩,⟨[],s.l.map fun e=>e.tf,[]⟩,⟨s.l.map fun e=>e.tk.k,[],[]⟩,⟨s.l.map fun e=>e.tk.i,[],[]⟩]⟩)))]
   rw[h1]
  ·obtain⟨_,m',h1,_⟩:=s.ok.all (K:=KK) s.k1;have h1:(Gv.gather Wv.O8 KK (Gv.see s.m s.r) s.r)=(s.l,m'):=h1;show Value.slice (some ⟨2,0,some 8000⟩) (Gv.gather Wv.O8 KK (Gv.see s.m s.r) s.r).1.length 0=_
   rw[h1]
   rfl
 ·cases hx
def tatP:Prim Rt:=fun args hh=>match args,hh with
 |[.pointer (some ⟨0,0,none⟩),.int .i64 i_],[some (.inr (.inr (.inr (.tree s))))]=>some ⟨s.Few,.tuple #[.agg ⟨[.int .i64 (Gv.nthE Wv.O8 i_ s.l).1.t,.bool (Gv.nthE Wv.O8 i_ s.l).1.ins,.int .i64 (Gv.nthE Wv.O8 i_ s.l).1.it.k,.int .i64 (Gv.nthE Wv.O8 i_ s.l).1.it.i,.bool (Gv.nthE Wv.O8 i_ s.l).1.here,.bool (Gv.nthE Wv.O8 i_ s.l).1.tf,.int .i64 (Gv.nthE Wv.O8 i_ s.l).1.tk.k,.int .i64 (Gv.nthE Wv.O8 i_ s.l).1.tk.i]⟩,.bool (Gv.nthE Wv.O8 i_ s.l).2],none,[oT (s.at_ i_)],[],[(0,0)]⟩
 |_,_=>none
theorem tat_ok:ConOk D2 Tryz.prog 109 (con1 tatP):=by
 refine res_up (c:=con1 (gatP KK)) (gat_ok KK) fun args hh x hx=>?_
 unfold tatP at hx;split at hx
 ·rename_i i_ s;injection hx with hx
  subst hx;refine⟨Nat.le_refl _,noLit rfl,(fun hw=>by cases hw),fun hv=>⟨⟨_,.inl ⟨rfl,rfl⟩,rfl,?_,?_,?_⟩,rfl,rfl⟩⟩
  ·exact⟨s.pp hv,(s.ok.at_ (i:=i_) s.k1).1⟩
  ·rfl
  ·obtain⟨_,m',h1,_⟩:=s.ok.at_ (K:=KK) (i:=i_) s.k1;have h1:(Gv.atF Wv.O8 KK s.m s.r i_)=((Gv.nthE Wv.O8 i_ s.l),m'):=h1;show Value.tuple #[.agg ⟨[.int .i64 (Gv.atF Wv.O8 KK s.m s.r i_).1.1.t,.bool (Gv.atF Wv.O8 KK s.m s.r i_).1.1.ins,.int .i64 (Gv.atF Wv.O8 KK s.m s.r i_).1.1.it.k,.int .i64 (Gv.atF Wv.O8 KK s.m s.r i_).1.1.it.i,.bool (Gv.atF Wv.O8 KK s.m s.r i_).1.1.here,.bool (Gv.atF Wv.O8 KK s.m s.r i_).1.1.tf,.int .i64 (Gv.atF Wv.O8 KK s.m s.r i_).1.1.tk.k,.int .i64 (Gv.atF Wv.O8 KK s.m s.r i_).1.1.tk.i]⟩,.bool (Gv.atF Wv.O8 KK s.m s.r i_).1.2]=_
   rw[h1]
   rfl
 ·cases hx
def tbetP:Prim Rt:=fun args hh=>match args,hh with
 |[.pointer (some ⟨0,0,none⟩),.int .i64 x_,.int .i64 y_],[some (.inr (.inr (.inr (.tree s))))]=>some ⟨s.Few,.agg ⟨[.int .i64 (Wv.S8 (Gv.sub s.l x_.toNat y_.toNat)).c.n,.int .i64 (Wv.S8 (Gv.sub s.l x_.toNat y_.toNat)).c.s,.int .i64 (Wv.S8 (Gv.sub s.l x_.toNat y_.toNat)).c.l,.int .i64 (Wv.S8 (Gv.sub s.l x_.toNat y_.toNat)).w.n,.int .i64 (Wv.S8 (Gv.sub s.l x_.toNat y_.toNat)).w.s,.int .i64 (Wv.S8 (Gv.sub s.l x_.toNat y_.toNat)).w.l,.int .i64 (Wv.S8 (Gv.sub s.l x_.toNat y_.toNat)).d,.int .i64 (Wv.S8 (Gv.sub s.l x_.toNat y_.toNat)).f,.int .i64 (Wv.S8 (Gv.sub s.l x_.toNat y_.toNat)).m.k,.int .i64 (Wv.S8 (Gv.sub s.l x_.toNat y_.toNat)).m.i,.bool (Wv.S8 (Gv.sub s.l x_.toNat y_.toNat)).gf,.int .i64 (Wv.S8 (Gv.sub s.l x_.toNat y_.toNat)).g.k,.int .i64 (Wv.S8 (Gv.sub s.l x_.toNat y_.toNat)).g.i,.bool (Wv.S8 (Gv.sub s.l x_.toNat y_.toNat)).lf,.int .i64 (Wv.S8 (Gv.sub s.l x_.toNat y_.toNat)).l.k,.int .i64 (Wv.S8 (Gv.sub s.l x_.toNat y_.toNat)).l.i]⟩,none,[oT (s.bet x_ y_)],[],[(0,0)]⟩
 |_,_=>none
theorem tbet_ok:ConOk D2 Tryz.prog 62 (con1 tbetP):=by
 refine res_up (c:=con1 (gbetP KK)) (gbet_ok KK) fun args hh x hx=>?_
 unfold tbetP at hx;split at hx
 ·rename_i x_ y_ s;injection hx with hx
  subst hx;refine⟨Nat.le_refl _,noLit rfl,(fun hw=>by cases hw),fun hv=>⟨⟨_,.inl ⟨rfl,rfl⟩,rfl,?_,?_,?_⟩,rfl,rfl⟩⟩
  ·exact⟨s.pp hv,(s.ok.bet (f:=x_) (u:=y_) s.k1).1⟩
  ·rfl
  ·obtain⟨_,m',h1,_⟩:=s.ok.bet (K:=KK) (f:=x_) (u:=y_) s.k1;have h1:(Gv.between Wv.O8 KK (Gv.see s.m s.r) (Gv.lk Wv.O8 s.m s.r) x_ y_)=(⟨(Gv.sub s.l x_.toNat y_.toNat).length,(Wv.S8 (Gv.sub s.l x_.toNat y_.toNat))⟩,m'):=h1;show(.agg ⟨[.int .i64 (Gv.between Wv.O8 KK (Gv.see s.m s.r) (Gv.lk Wv.O8 s.m s.r) x_ y_).1.sum.c.n,.int .i64 (Gv.between Wv.O8 KK (Gv.see s.m s.r) (Gv.lk Wv.O8 s.m s.r) x_ y_).1.sum.c.s,.int .i64 (Gv.between Wv.O8 KK (Gv.see s.m s.r) (Gv.lk Wv.O8 s.m s.r) x_ y_).1.sum.c.l,.int .i64 (Gv.between Wv.O8 KK (Gv.see s.m s.r) (Gv.lk Wv.O8 s.m s.r) x_ y_).1.sum.w.n,.int .i64 (Gv.between Wv.O8 KK (Gv.see s.m s.r) (Gv.lk Wv.O8 s.m s.r) x_ y_).1.sum.w.s,.int .i64 (Gv.between Wv.O8 KK (Gv.see s.m s.r) (Gv.lk Wv.O8 s.m s.r) x_ y_).1.sum.w.l,.int .i64 (Gv.between Wv.O8 KK (Gv.see s.m s.r) (Gv.lk Wv.O8 s.m s.r) x_ y_).1.sum.d,.int .i64 (Gv.between Wv.O8 KK (Gv.see s.m s.r) (Gv.lk Wv.O8 s.m s.r) x_ y_).1.sum.f,.int .i64 (Gv.between Wv.O8 KK (Gv.see s.m s.r) (Gv.lk Wv.O8 s.m s.r) x_ y_).1.sum.m.k,.int .i64 (Gv.between Wv.O8 KK (Gv.see s.m s.r) (Gv.lk Wv.O8 s.m s.r) x_ y_).1.sum.m.i,.bool (Gv.between Wv.O8 KK (Gv.see s.m s.r) (Gv.lk Wv.O8 s.m s.r) x_ y_).1.sum.gf,.int .i64 (Gv.between Wv.O8 KK (Gv.see s.m s.r) (Gv.lk Wv.O8 s.m s.r) x_ y_).1.sum.g.k,.int .i64 (Gv.between Wv.O8 KK (Gv.see s.m s.r) (Gv.lk Wv.O8 s.m s.r) x_ y_).1.sum.g.i,.bool (Gv.between Wv.O8 KK (Gv.see s.m s.r) (Gv.lk Wv.O8 s.m s.r) x_ y_).1.sum.lf,.int .i64 (Gv.between Wv.O8 KK (Gv.see s.m s.r) (Gv.lk Wv.O8 s.m s.r) x_ y_).1.sum.l.k,.int .i64 (Gv.between Wv.O8 KK (Gv.see s.m s.r) (Gv.lk Wv.O8 s.m s.r) x_ y_).1.sum.l.i]⟩:Value)=_
   rw[h1]
   rfl
 ·cases hx
def tfirstBP:Prim Rt:=fun args hh=>match args,hh with
 |[.pointer (some ⟨0,0,none⟩),.int .i64 f_,.func (.func 117) ⟨[]⟩ ⟨[.pointer (some ⟨1,0,none⟩)]⟩],[some (.inr (.inr (.inr (.tree s)))),some (.inl (3,[.int .i64 xx]))]=>some ⟨s.Few,.int .i64 (Gv.TS.firstI (Pa.mayB xx) s f_),none,[oT (Gv.TS.first (Pa.mayB xx) s f_),some (.inl (3,[.int .i64 xx]))],[],[(0,0)]⟩
 |_,_=>none
theorem tfirstB_ok:ConOk D2 Tryz.prog 84 (con1 tfirstBP):=by
 refine res_up (c:=liftC zN 2 (con1 (gfirstBP KK))) (liftC_ok _ _ (gfirstB_ok KK)).ok fun args hh x hx=>?_
 unfold tfirstBP at hx;split at hx
 ·rename_i f_ s xx;injection hx with hx
  subst hx;refine⟨Nat.le_refl _,noLit rfl,(fun hw=>by cases hw),fun hv=>⟨⟨_,.inl ⟨rfl,rfl⟩,rfl,?_,?_,?_⟩,rfl,rfl⟩⟩
  ·exact⟨s.pp hv,s.deepN⟩
  ·rfl
  ·rfl
 ·cases hx
def tlastBP:Prim Rt:=fun args hh=>match args,hh with
 |[.pointer (some ⟨0,0,none⟩),.int .i64 f_,.func (.func 117) ⟨[]⟩ ⟨[.pointer (some ⟨1,0,none⟩)]⟩],[some (.inr (.inr (.inr (.tree s)))),some (.inl (3,[.int .i64 xx]))]=>some ⟨s.Few,.int .i64 (Gv.TS.lastI (Pa.mayB xx) s f_),none,[oT (Gv.TS.last (Pa.mayB xx) s f_),some (.inl (3,[.int .i64 xx]))],[],[(0,0)]⟩
 |_,_=>none
theorem tlastB_ok:ConOk D2 Tryz.prog 87 (con1 tlastBP):=by
 refine res_up (c:=liftC zN 2 (con1 (glastBP KK))) (liftC_ok _ _ (glastB_ok KK)).ok fun args hh x hx=>?_
 unfold tlastBP at hx;split at hx
 ·rename_i f_ s xx;injection hx with hx
  subst hx;refine⟨Nat.le_refl _,noLit rfl,(fun hw=>by cases hw),fun hv=>⟨⟨_,.inl ⟨rfl,rfl⟩,rfl,?_,?_,?_⟩,rfl,rfl⟩⟩
  ·exact⟨s.pp hv,s.deepN⟩
  ·rfl
  ·rfl
 ·cases hx
def tfirstGP:Prim Rt:=fun args hh=>match args,hh with
 |[.pointer (some ⟨0,0,none⟩),.int .i64 f_,.func (.func 81) ⟨[]⟩ ⟨[.pointer (some ⟨1,0,none⟩)]⟩],[some (.inr (.inr (.inr (.tree s)))),some (.inl (75,[.int .i64 xk,.int .i64 xi,.bool xe,.int .i64 xt]))]=>some ⟨s.Few,.int .i64 (Gv.TS.firstI (Pa.mayG ⟨xk,xi⟩) s f_),none,[oT (Gv.TS.first (Pa.mayG ⟨xk,xi⟩) s f_),some (.inl (75,[.int .i64 xk,.int .i64 xi,.bool xe,.int .i64 xt]))],[],[(0,0)]⟩
 |_,_=>none
theorem tfirstG_ok:ConOk D2 Tryz.prog 84 (con1 tfirstGP):=by
 refine res_up (c:=liftC zN 2 (con1 (gfirstGP KK))) (liftC_ok _ _ (gfirstG_ok KK)).ok fun args hh x hx=>?_
 unfold tfirstGP at hx;split at hx
 ·rename_i f_ s xk xi xe xt;injection hx with hx
  subst hx;refine⟨Nat.le_refl _,noLit rfl,(fun hw=>by cases hw),fun hv=>⟨⟨_,.inl ⟨rfl,rfl⟩,rfl,?_,?_,?_⟩,rfl,rfl⟩⟩
  ·exact⟨s.pp hv,s.deepN⟩
  ·rfl
  ·rfl
 ·cases hx
def tlastLP:Prim Rt:=fun args hh=>match args,hh with
 |[.pointer (some ⟨0,0,none⟩),.int .i64 f_,.func (.func 86) ⟨[]⟩ ⟨[.pointer (some ⟨1,0,none⟩)]⟩],[some (.inr (.inr (.inr (.tree s)))),some (.inl (75,[.int .i64 xk,.int .i64 xi,.bool xe,.int .i64 xt]))]=>some ⟨s.Few,.int .i64 (Gv.TS.lastI (Pa.mayL ⟨xk,xi⟩) s f_),none,[oT (Gv.TS.last (Pa.mayL ⟨xk,xi⟩) s f_),some (.inl (75,[.int .i64 xk,.int .i64 xi,.bool xe,.int .i64 xt]))],[],[(0,0)]⟩
 |_,_=>none
theorem tlastL_ok:ConOk D2 Tryz.prog 87 (con1 tlastLP):=by
 refine res_up (c:=liftC zN 2 (con1 (glastLP KK))) (liftC_ok _ _ (glastL_ok KK)).ok fun args hh x hx=>?_
 unfold tlastLP at hx;split at hx
 ·rename_i f_ s xk xi xe xt;injection hx with hx
  subst hx;refine⟨Nat.le_refl _,noLit rfl,(fun hw=>by cases hw),fun hv=>⟨⟨_,.inl ⟨rfl,rfl⟩,rfl,?_,?_,?_⟩,rfl,rfl⟩⟩
  ·exact⟨s.pp hv,s.deepN⟩
  ·rfl
  ·rfl
 ·cases hx
end G8
namespace G9
open Rx
set_option maxRecDepth 100000
abbrev Nd:=Gv.Node Sh.Sl Sh.Sz
abbrev Pl:=Gv.PM Nd
def ndL (n:Nd):List Value:=[.int .i64 n.e.it.k,.int .i64 n.e.it.i,.bool n.e.eaten,.int .i64 n.e.time,.int .i64 n.l.i,.int .i64 n.l.g,.int .i64 n.r.i,.int .i64 n.r.g,.int .i64 n.all.n,.int .i64 n.all.sum.n,.int .i64 n.h]
def ptL (p:Gv.Part Sh.Sz):List Value:=[.int .i64 p.n,.int .i64 p.sum.n]
def elL (e:Sh.Sl):List Value:=[.int .i64 e.it.k,.int .i64 e.it.i,.bool e.eaten,.int .i64 e.time]
def smL (s:Sh.Sz):List Value:=[.int .i64 s.n]
def elOf (l:List Value):Sh.Sl:=⟨⟨(vI (nthV l 0)),(vI (nthV l 1))⟩,(vB (nthV l 2)),(vI (nthV l 3))⟩
def ptOf (l:List Value):Gv.Part Sh.Sz:=⟨(vI (nthV l 0)),⟨(vI (nthV l 1))⟩⟩
def ndOf (l:List Value):Nd:=⟨⟨⟨(vI (nthV l 0)),(vI (nthV l 1))⟩,(vB (nthV l 2)),(vI (nthV l 3))⟩,⟨(vI (nthV l 4)),(vI (nthV l 5))⟩,⟨(vI (nthV l 6)),(vI (nthV l 7))⟩,⟨(vI (nthV l 8)),⟨(vI (nthV l 9))⟩⟩,(vI (nthV l 10))⟩
def cellTm:List Value:=[.int .i64 0,.int .i64 0,.bool false,.int .i64 0,.int .i64 0,.int .i64 0,.int .i64 0,.int .i64 0,.int .i64 0,.int .i64 0,.int .i64 0,.int .i64 0,.bool false]
abbrev zd:Nd:=Gv.zn Sh.O9
def cV (a:List Int) (b:List Int) (c:List Bool) (d:List Int) (e:List Int) (f:List Int) (g:List Int) (h:List Int) (i:List Int) (j:List Int) (k:List Int) (l:List Int) (m:List Bool):List Col:=[⟨a,[],[]⟩,⟨b,[],[]⟩,⟨[],c,[]⟩,⟨d,[],[]⟩,⟨e,[],[]⟩,⟨f,[],[]⟩,⟨g,[],[]⟩,⟨h,[],[]⟩,⟨i,[],[]⟩,⟨j,[],[]⟩,⟨k,[],[]⟩,⟨l,[],[]⟩,⟨[],m,[]⟩]
def cM (v:List Nd) (g:List Int) (b:List Bool):List Col:=cV (v.map fun n:Nd=>n.e.it.k) (v.map fun n:Nd=>n.e.it.i) (v.map fun n:Nd=>n.e.eaten) (v.map fun n:Nd=>n.e.time) (v.map fun n:Nd=>n.l.i) (v.map fun n:Nd=>n.l.g) (v.map fun n:Nd=>n.r.i) (v.map fun n:Nd=>n.r.g) (v.map fun n:Nd=>n.all.n) (v.map fun n:Nd=>n.all.sum.n) (v.map fun n:Nd=>n.h) g b
def cS (v:List Nd) (k:Nat) (x:Nd) (g:List Int) (b:List Bool):List Col:=cV ((v.map fun n:Nd=>n.e.it.k).set k x.e.it.k) ((v.map fun n:Nd=>n.e.it.i).set k x.e.it.i) ((v.map fun n:Nd=>n.e.eaten).set k x.e.eaten) ((v.map fun n:Nd=>n.e.time).set k x.e.time) ((v.map fun n:Nd=>n.l.i).set k x.l.i) ((v.map fun n:Nd=>n.l.g).set k x.l.g) ((v.map fun n:Nd=>n.r.i).set k x.r.i) ((v.map fun n:Nd=>n.r.g).set k x.r.g) ((v.map fun n:Nd=>n.all.n).set k x.all.n) ((v.map fun n:Nd=>n.all.sum.n).set k x.all.sum.n) ((v.map fun n:Nd=>n.h).set k x.h) g b
def cG (v:List Nd) (k:Nat) (x:Nd) (g:List Int) (b:List Bool):List Col:=cV (((v.map fun n:Nd=>n.e.it.k)++[0]).set k x.e.it.k) (((v.map fun n:Nd=>n.e.it.i)++[0]).set k x.e.it.i) (((v.map fun n:Nd=>n.e.eaten)++[false]).set k x.e.eaten) (((v.map fun n:Nd=>n.e.time)++[0]).set k x.e.time) (((v.map fun n:Nd=>n.l.i)++[0]).set k x.l.i) (((v.map fun n:Nd=>n.l.g)++[0]).set k x.l.g) (((v.map fun n:Nd=>n.r.i)++[0]).set k x.r.i) (((v.map fun n:Nd=>n.r.g)++[0]).set k x.r.g) (((v.map fun n:Nd=>n.all.n)++[0]).set k x.all.n) (((v.map fun n:Nd=>n.all.sum.n)++[0]).set k x.all.sum.n) (((v.map fun n:Nd=>n.h)++[0]).set k x.h) g b
def gM (v:List Nd) (k:Nat):List Value:=[.int .i64 ((v.map fun n:Nd=>n.e.it.k).getD k 0),.int .i64 ((v.map fun n:Nd=>n.e.it.i).getD k 0),.bool ((v.map fun n:Nd=>n.e.eaten).getD k false),.int .i64 ((v.map fun n:Nd=>n.e.time).getD k 0),.int .i64 ((v.map fun n:Nd=>n.l.i).getD k 0),.int .i64 ((v.map fun n:Nd=>n.l.g).getD k 0),.int .i64 ((v.map fun n:Nd=>n.r.i).getD k 0),.int .i64 ((v.map fun n:Nd=>n.r.g).getD k 0),.int .i64 ((v.map fun n:Nd=>n.all.n).getD k 0),.int .i64 ((v.map fun n:Nd=>n.all.sum.n).getD k 0),.int .i64 ((v.map fun n:Nd=>n.h).getD k 0)]
def layPool (m:Pl):Hp Empty :=
 [some (.inl (164,[.slice (some ⟨1,0,some 13000⟩) m.vs.length 0,.slice (some ⟨2,0,some 1000⟩) m.free.length 0,.int .i64 m.held,.int .i64 m.cap,.int .i64 m.visits])),
 some (.inr (.inl (167,⟨cellTm,m.vs.length,cM m.vs m.gens m.live⟩))),
 some (.inr (.inl (3,⟨[.int .i64 0],m.free.length,[⟨m.free,[],[]⟩]⟩)))]
end G9
namespace G9
open Rx
inductive Rs
 |pool (m:Pl)
def lay:Rs->Hp Empty
 |.pool m=>layPool m
def L:Lay Rs Empty where
 lay:=lay
 ne x:=by cases x<;>exact Nat.succ_pos _
 own x b X h:=by cases x<;>exact noViews_get rfl h
 ins x:=by cases x<;>rfl
def D:Res Rs:=resOf NoR L
set_option maxRecDepth 100000
abbrev k9:Gv.Kd Sh.Sl Sh.Sz:=Sh.k9
abbrev Ts:=Gv.TS k9
inductive Rt
 |tree (s:Ts)
def lay2:Rt->Hp Rs
 |.tree s=>[some (.inl (115,[.pointer (some ⟨1,0,none⟩),.int .i64 s.r.i,.int .i64 s.r.g])),some (.inr (.inr (.inr (.pool s.m))))]
def L2:Lay Rt Rs where
 lay:=lay2
 ne x:=by cases x<;>exact Nat.succ_pos _
 own x b X h:=by
  cases x with
  |tree s =>
   match b,h with
   |0,h=>simp only[lay2,List.getElem?_cons_zero,Option.some.injEq] at h;subst h;rfl
   |1,h=>simp only[lay2,List.getElem?_cons_succ,List.getElem?_cons_zero,Option.some.injEq] at h;subst h;rfl
   |b+2,h=>simp[lay2] at h
 ins x:=by cases x<;>rfl
def D2:Res Rt:=resOf D L2
abbrev oT (s:Ts):Option (SB Rt):=some (.inr (.inr (.inr (.tree s))))
def IsI (n:Nat) (c:Col):Prop:=∃ l:List Int,c=⟨l,[],[]⟩/\l.length=n
def IsB (n:Nat) (c:Col):Prop:=∃ l:List Bool,c=⟨[],l,[]⟩/\l.length=n
def hasC (n:Nat) (gs:List Int) (lv:List Bool) (i g:Int):Bool:=decide (0≤i)&&decide (i<n)&&lv.getD i.toNat false&&decide (gs.getD i.toNat 0=g)
structure Cols (n:Nat) (c0 c1 c2 c3 c4 c5 c6 c7 c8 c9 c10 c11 c12:Col):Prop where
 hc0:IsI n c0
 hc1:IsI n c1
 hc2:IsB n c2
 hc3:IsI n c3
 hc4:IsI n c4
 hc5:IsI n c5
 hc6:IsI n c6
 hc7:IsI n c7
 hc8:IsI n c8
 hc9:IsI n c9
 hc10:IsI n c10
 hc11:IsI n c11
 hc12:IsB n c12
def ColsL (n:Nat):List Col->Prop
 |[c0,c1,c2,c3,c4,c5,c6,c7,c8,c9,c10,c11,c12]=>Cols n c0 c1 c2 c3 c4 c5 c6 c7 c8 c9 c10 c11 c12
 |_=>False
def visitW:List Value->Hp Empty->Option Bool:=fun args hh=>match args,hh with
 |[.pointer (some ⟨0,0,none⟩),.agg ⟨[.int .i64 i,.int .i64 g]⟩],[some (.inl (164,[.slice (some ⟨1,0,some 13000⟩) n cp,.slice (some ⟨2,0,some 1000⟩) fn fc,.int .i64 hd,.int .i64 ca,.int .i64 vi])),some (.inr (.inl (167,⟨tm,n2,[c0,c1,c2,c3,c4,c5,c6,c7,c8,c9,c10,c11,c12]⟩))),some (.inr (.inl (3,⟨[.int .i64 0],f2,[⟨fr,[],[]⟩]⟩)))]=>some (hasC n c11.i c12.b i g)
 |_,_=>none
def visitY:Prim Empty:=fun args hh=>match args,hh with
 |[.pointer (some ⟨0,0,none⟩),.agg ⟨[.int .i64 i,.int .i64 g]⟩],[some (.inl (164,[.slice (some ⟨1,0,some 13000⟩) n cp,.slice (some ⟨2,0,some 1000⟩) fn fc,.int .i64 hd,.int .i64 ca,.int .i64 vi])),some (.inr (.inl (167,⟨tm,n2,[c0,c1,c2,c3,c4,c5,c6,c7,c8,c9,c10,c11,c12]⟩))),some (.inr (.inl (3,⟨[.int .i64 0],f2,[⟨fr,[],[]⟩]⟩)))]=>some ⟨tm=cellTm/\n2=n/\n<1000000/\ColsL n [c0,c1,c2,c3,c4,c5,c6,c7,c8,c9,c10,c11,c12],.pointer (some ⟨1,i.toNat,some 13000⟩),none,[some (.inl (164,[.slice (some ⟨1,0,some 13000⟩) n cp,.slice (some ⟨2,0,some 1000⟩) fn fc,.int .i64 hd,.int .i64 ca,.int .i64 (IntKind.i64.wrap (vi+1))])),some (.inr (.inl (167,⟨tm,n2,[c0,c1,c2,c3,c4,c5,c6,c7,c8,c9,c10,c11,c12]⟩))),some (.inr (.inl (3,⟨[.int .i64 0],f2,[⟨fr,[],[]⟩]⟩)))],[],[(0,0)]⟩
 |_,_=>none
def visitN:Prim Empty:=fun args hh=>match args,hh with
 |[.pointer (some ⟨0,0,none⟩),.agg ⟨[.int .i64 i,.int .i64 g]⟩],[some (.inl (164,[.slice (some ⟨1,0,some 13000⟩) n cp,.slice (some ⟨2,0,some 1000⟩) fn fc,.int .i64 hd,.int .i64 ca,.int .i64 vi])),some (.inr (.inl (167,⟨tm,n2,[c0,c1,c2,c3,c4,c5,c6,c7,c8,c9,c10,c11,c12]⟩))),some (.inr (.inl (3,⟨[.int .i64 0],f2,[⟨fr,[],[]⟩]⟩)))]=>some ⟨tm=cellTm/\n2=n/\n<1000000/\ColsL n [c0,c1,c2,c3,c4,c5,c6,c7,c8,c9,c10,c11,c12],.pointer none,none,hh,[],[]⟩
 |_,_=>none
def visitC:Con Empty:=⟨visitW,visitY,visitN⟩
def TWr:Tab Empty:=[(1000000000,wrapCon)]
theorem TWr_ok:TabOk NoR Tryz.prog TWr:=⟨wrapCon_ok,trivial⟩
theorem visitY_ok:PrimOk NoR Tryz.prog 115 (way visitC true) (visitC.go true):=by
 refine prim_at (fn:=Tryz.f115) (root:=codeOf Tryz.f115) (by kernel_rfl) (by kernel_rfl) (by kernel_rfl) fun args hh x hx=>?_
 unfold visitC Con.go visitY at hx;simp only at hx;split at hx
 ·rename_i i g n cp fn fc hd ca vi tm n2 c0 c1 c2 c3 c4 c5 c6 c7 c8 c9 c10 c11 c12 f2 fr;injection hx with hx
  subst hx;refine⟨Nat.le_refl _,(fun b hb=>by cases hb),(fun hw=>by first|rfl|cases hw),fun hon hv=>?_⟩
  obtain⟨rfl,rfl,hv1,⟨⟨l0,rfl,hl0⟩,⟨l1,rfl,hl1⟩,⟨l2,rfl,hl2⟩,⟨l3,rfl,hl3⟩,⟨l4,rfl,hl4⟩,⟨l5,rfl,hl5⟩,⟨l6,rfl,hl6⟩,⟨l7,rfl,hl7⟩,⟨l8,rfl,hl8⟩,⟨l9,rfl,hl9⟩,⟨l10,rfl,hl10⟩,⟨l11,rfl,hl11⟩,⟨l12,rfl,hl12⟩⟩⟩:=hv;have hw:hasC n2 l11 l12 i g=true:=by
   rcases hon with⟨h,_⟩|h
   ·exact(Option.some_ne_none _ h).elim
   ·exact Option.some.inj h
  clear hon;generalize hG:Rx.Ends (R:=Empty) _ _=G;refine rx_ok (T:=TWr) TWr_ok mixed 200 ?_;refine as_text (q:=let Z1:=Value.int IntKind.i64;(decide (i<(0:Int))=true->Vc (Value.bool (decide (i<(0:Int)))=Value.bool true)/\Post (G (Value.pointer none) [some (.inl (164,[Value.slice (some (Addr.mk 1 0 (some 13000))) n2 cp,Value.slice (some (Addr.mk 2 0 (some 1000))) fn fc,Z1 hd,Z1 ca,Z1 vi])),some (.inr (.inl (167,Row.mk cellTm n2 (cV l0 l1 l2 l3 l4 l5 l6 l7 l8 l9 l10 l11 l12)))),some (.inr (.inl (3,Row.mk [Z1 0] f2 [Col.mk fr [] []]))),some (.inl (90,[Z1 i,Z1 g]))]))/\(decide (i<(0:Int))=false->Vc (Value.bool (decide (i<(0:Int)))=Value.bool false)/\(decide (i≥(↑n2:Int))=true->Post (G (Value.pointer none) [some (.inl (164,[Value.slice (some (Addr.mk 1 0 (some 13000))) n2 cp,Value.slice (some (Addr.mk 2 0 (some 1000))) fn fc,Z1 hd,Z1 ca,Z1 vi])),some (.inr (.inl (167,Row.mk cellTm n2 (cV l0 l1 l2 l3 l4 l5 l6 l7 l8 l9 l10 l11 l12)))),some (.inr (.inl (3,Row.mk [Z1 0] f2 [Col.mk fr [] []]))),some (.inl (90,[Z1 i,Z1 g]))]))/\(decide (i≥(↑n2:Int))=false->Vc ((0:Int)≤i/\i<(↑n2:Int)/\0+n2≤n2)/\Vc (0+Int.toNat i<n2)/\((!List.getD l12 (0+Int.toNat i) false)=true->Vc (0+Int.toNat i<n2)/\Vc ((Value.bool !List.getD l12 (0+Int.toNat i) false)=Value.bool true)/\Post (G (Value.pointer none) [some (.inl (164,[Value.slice (some (Addr.mk 1 0 (some 13000))) n2 cp,Value.slice (some (Addr.mk 2 0 (some 1000))) fn fc,Z1 hd,Z1 ca,Z1 vi])),some (.inr (.inl (167,Row.mk cellTm n2 (cV l0 l1 l2 l3 l4 l5 l6 l7 l8 l9 l10 l11 l12)))),some (.inr (.inl (3,Row.mk [Z1 0] f2 [Col.mk fr [] []]))),some (.inl (90,[Z1 i,Z1 g]))]))/\((!List.getD l12 (0+Int.toNat i) false)=false->Vc (0+Int.toNat i<n2)/\Vc ((Value.bool !List.getD l12 (0+Int.toNat i) false)=Value.bool false)/\Vc (0+Int.toNat i<n2)/\((List.getD l11 (0+Int.toNat i) (0:Int) != g)=true->Post (G (Value.pointer none) [some (.inl (164,[Value.slice (some (Addr.mk 1 0 (some 13000))) n2 cp,Value.slice (some (Addr.mk 2 0 (some 1000))) fn fc,Z1 hd,Z1 ca,Z1 vi])),some (.inr (.inl (167,Row.mk cellTm n2 (cV l0 l1 l2 l3 l4 l5 l6 l7 l8 l9 l10 l11 l12)))),some (.inr (.inl (3,Row.mk [Z1 0] f2 [Col.mk fr [] []]))),some (.inl (90,[Z1 i,Z1 g]))]))/\((List.getD l11 (0+Int.toNat i) (0:Int) != g)=false->Vc True/\Post (G (Value.pointer (some (Addr.mk 1 (0+Int.toNat i) (some 13000)))) [some (.inl (164,[Value.slice (some (Addr.mk 1 0 (some 13000))) n2 cp,Value.slice (some (Addr.mk 2 0 (some 1000))) fn fc,Z1 hd,Z1 ca,Z1 (IntKind.wrap IntKind.i64 (vi+(1:Int)))])),some (.inr (.inl (167,Row.mk cellTm n2 (cV l0 l1 l2 l3 l4 l5 l6 l7 l8 l9 l10 l11 l12)))),some (.inr (.inl (3,Row.mk [Z1 0] f2 [Col.mk fr [] []]))),some (.inl (90,[Z1 i,Z1 g]))])))))) ?_ (by kernel_rfl)
  intro Z1;subst Z1;have e0:0+i.toNat=i.toNat:=Nat.zero_add _;rw[e0];clear hl0 hl1 hl2 hl3 hl4 hl5 hl6 hl7 hl8 hl9 hl10 hl11 hl12;subst hG;have hw3:hasC n2 l11 l12 i g=(decide (0≤i)&&decide (i<n2)&&(l12).getD i.toNat false&&decide ((l11).getD i.toNat 0=g)):=rfl;refine⟨fun h=>⟨⟨congrArg Value.bool h⟩,⟨?_⟩⟩,fun h=>⟨⟨congrArg Value.bool h⟩,fun h2=>⟨?_⟩,fun h2=>?_⟩⟩
  rotate_left 2
  ·have i0:=of_decide_eq_false h;have i1:=of_decide_eq_false h2;rw[decide_eq_true (by omega),decide_eq_true (by omega),Bool.true_and,Bool.true_and] at hw3
   refine⟨⟨by omega,by omega,by omega⟩,⟨by omega⟩,fun h3=>⟨⟨by omega⟩,⟨congrArg Value.bool h3⟩,⟨?_⟩⟩,fun h3=>⟨⟨by omega⟩,⟨congrArg Value.bool h3⟩,⟨by omega⟩,fun h4=>⟨?_⟩,fun h4=>⟨⟨trivial⟩,⟨?_⟩⟩⟩⟩
   ·rw[Bool.not_eq_true'] at h3;rw[hw,h3] at hw3;cases hw3
   ·rw[hw,decide_eq_false (ne_of_beq_false (by simpa using h4)),Bool.and_false] at hw3;cases hw3
   ·exact⟨[0,1,2],rfl,rfl,⟨.inl rfl,⟨_,rfl,.inl rfl⟩,⟨_,rfl,.inl rfl⟩,trivial⟩,rfl,rfl,rfl,rfl⟩
  ·have:=of_decide_eq_true h;rw[hw,decide_eq_false (by omega)] at hw3;cases hw3
  ·have:=of_decide_eq_true h2;rw[hw,decide_eq_false (p:=i<n2) (by omega),Bool.and_false] at hw3;cases hw3
 ·cases hx
theorem visitN_ok:PrimOk NoR Tryz.prog 115 (way visitC false) (visitC.go false):=by
 refine prim_at (fn:=Tryz.f115) (root:=codeOf Tryz.f115) (by kernel_rfl) (by kernel_rfl) (by kernel_rfl) fun args hh x hx=>?_
 unfold visitC Con.go visitN at hx;simp only at hx;split at hx
 ·rename_i i g n cp fn fc hd ca vi tm n2 c0 c1 c2 c3 c4 c5 c6 c7 c8 c9 c10 c11 c12 f2 fr;injection hx with hx
  subst hx;refine⟨Nat.le_refl _,(fun b hb=>by cases hb),(fun hw=>by first|rfl|cases hw),fun hon hv=>?_⟩
  obtain⟨rfl,rfl,hv1,⟨⟨l0,rfl,hl0⟩,⟨l1,rfl,hl1⟩,⟨l2,rfl,hl2⟩,⟨l3,rfl,hl3⟩,⟨l4,rfl,hl4⟩,⟨l5,rfl,hl5⟩,⟨l6,rfl,hl6⟩,⟨l7,rfl,hl7⟩,⟨l8,rfl,hl8⟩,⟨l9,rfl,hl9⟩,⟨l10,rfl,hl10⟩,⟨l11,rfl,hl11⟩,⟨l12,rfl,hl12⟩⟩⟩:=hv;have hw:hasC n2 l11 l12 i g=false:=by
   rcases hon with⟨h,_⟩|h
   ·exact(Option.some_ne_none _ h).elim
   ·exact Option.some.inj h
  clear hon;generalize hG:Rx.Ends (R:=Empty) _ _=G;refine rx_ok (T:=TWr) TWr_ok mixed 200 ?_;refine as_text (q:=let Z1:=Value.int IntKind.i64;(decide (i<(0:Int))=true->Vc (Value.bool (decide (i<(0:Int)))=Value.bool true)/\Post (G (Value.pointer none) [some (.inl (164,[Value.slice (some (Addr.mk 1 0 (some 13000))) n2 cp,Value.slice (some (Addr.mk 2 0 (some 1000))) fn fc,Z1 hd,Z1 ca,Z1 vi])),some (.inr (.inl (167,Row.mk cellTm n2 (cV l0 l1 l2 l3 l4 l5 l6 l7 l8 l9 l10 l11 l12)))),some (.inr (.inl (3,Row.mk [Z1 0] f2 [Col.mk fr [] []]))),some (.inl (90,[Z1 i,Z1 g]))]))/\(decide (i<(0:Int))=false->Vc (Value.bool (decide (i<(0:Int)))=Value.bool false)/\(decide (i≥(↑n2:Int))=true->Post (G (Value.pointer none) [some (.inl (164,[Value.slice (some (Addr.mk 1 0 (some 13000))) n2 cp,Value.slice (some (Addr.mk 2 0 (some 1000))) fn fc,Z1 hd,Z1 ca,Z1 vi])),some (.inr (.inl (167,Row.mk cellTm n2 (cV l0 l1 l2 l3 l4 l5 l6 l7 l8 l9 l10 l11 l12)))),some (.inr (.inl (3,Row.mk [Z1 0] f2 [Col.mk fr [] []]))),some (.inl (90,[Z1 i,Z1 g]))]))/\(decide (i≥(↑n2:Int))=false->Vc ((0:Int)≤i/\i<(↑n2:Int)/\0+n2≤n2)/\Vc (0+Int.toNat i<n2)/\((!List.getD l12 (0+Int.toNat i) false)=true->Vc (0+Int.toNat i<n2)/\Vc ((Value.bool !List.getD l12 (0+Int.toNat i) false)=Value.bool true)/\Post (G (Value.pointer none) [some (.inl (164,[Value.slice (some (Addr.mk 1 0 (some 13000))) n2 cp,Value.slice (some (Addr.mk 2 0 (some 1000))) fn fc,Z1 hd,Z1 ca,Z1 vi])),some (.inr (.inl (167,Row.mk cellTm n2 (cV l0 l1 l2 l3 l4 l5 l6 l7 l8 l9 l10 l11 l12)))),some (.inr (.inl (3,Row.mk [Z1 0] f2 [Col.mk fr [] []]))),some (.inl (90,[Z1 i,Z1 g]))]))/\((!List.getD l12 (0+Int.toNat i) false)=false->Vc (0+Int.toNat i<n2)/\Vc ((Value.bool !List.getD l12 (0+Int.toNat i) false)=Value.bool false)/\Vc (0+Int.toNat i<n2)/\((List.getD l11 (0+Int.toNat i) (0:Int) != g)=true->Post (G (Value.pointer none) [some (.inl (164,[Value.slice (some (Addr.mk 1 0 (some 13000))) n2 cp,Value.slice (some (Addr.mk 2 0 (some 1000))) fn fc,Z1 hd,Z1 ca,Z1 vi])),some (.inr (.inl (167,Row.mk cellTm n2 (cV l0 l1 l2 l3 l4 l5 l6 l7 l8 l9 l10 l11 l12)))),some (.inr (.inl (3,Row.mk [Z1 0] f2 [Col.mk fr [] []]))),some (.inl (90,[Z1 i,Z1 g]))]))/\((List.getD l11 (0+Int.toNat i) (0:Int) != g)=false->Vc True/\Post (G (Value.pointer (some (Addr.mk 1 (0+Int.toNat i) (some 13000)))) [some (.inl (164,[Value.slice (some (Addr.mk 1 0 (some 13000))) n2 cp,Value.slice (some (Addr.mk 2 0 (some 1000))) fn fc,Z1 hd,Z1 ca,Z1 (IntKind.wrap IntKind.i64 (vi+(1:Int)))])),some (.inr (.inl (167,Row.mk cellTm n2 (cV l0 l1 l2 l3 l4 l5 l6 l7 l8 l9 l10 l11 l12)))),some (.inr (.inl (3,Row.mk [Z1 0] f2 [Col.mk fr [] []]))),some (.inl (90,[Z1 i,Z1 g]))])))))) ?_ (by kernel_rfl)
  intro Z1;subst Z1;have e0:0+i.toNat=i.toNat:=Nat.zero_add _;rw[e0];clear hl0 hl1 hl2 hl3 hl4 hl5 hl6 hl7 hl8 hl9 hl10 hl11 hl12;subst hG;have hw3:hasC n2 l11 l12 i g=(decide (0≤i)&&decide (i<n2)&&(l12).getD i.toNat false&&decide ((l11).getD i.toNat 0=g)):=rfl;refine⟨fun h=>⟨⟨congrArg Value.bool h⟩,⟨?_⟩⟩,fun h=>⟨⟨congrArg Value.bool h⟩,fun h2=>⟨?_⟩,fun h2=>?_⟩⟩
  rotate_left 2
  ·have i0:=of_decide_eq_false h;have i1:=of_decide_eq_false h2;rw[decide_eq_true (by omega),decide_eq_true (by omega),Bool.true_and,Bool.true_and] at hw3
   refine⟨⟨by omega,by omega,by omega⟩,⟨by omega⟩,fun h3=>⟨⟨by omega⟩,⟨congrArg Value.bool h3⟩,⟨?_⟩⟩,fun h3=>⟨⟨by omega⟩,⟨congrArg Value.bool h3⟩,⟨by omega⟩,fun h4=>⟨?_⟩,fun h4=>⟨⟨trivial⟩,⟨?_⟩⟩⟩⟩
   ·exact⟨[0,1,2],rfl,rfl,⟨.inl rfl,⟨_,rfl,.inl rfl⟩,⟨_,rfl,.inl rfl⟩,trivial⟩,rfl,rfl,rfl,rfl⟩
   ·exact⟨[0,1,2],rfl,rfl,⟨.inl rfl,⟨_,rfl,.inl rfl⟩,⟨_,rfl,.inl rfl⟩,trivial⟩,rfl,rfl,rfl,rfl⟩
   ·rw[hw,decide_eq_true (by simpa using h4),Bool.and_true] at hw3;rw[Bool.not_eq_false'] at h3;rw[h3] at hw3;cases hw3
  ·exact⟨[0,1,2],rfl,rfl,⟨.inl rfl,⟨_,rfl,.inl rfl⟩,⟨_,rfl,.inl rfl⟩,trivial⟩,rfl,rfl,rfl,rfl⟩
  ·exact⟨[0,1,2],rfl,rfl,⟨.inl rfl,⟨_,rfl,.inl rfl⟩,⟨_,rfl,.inl rfl⟩,trivial⟩,rfl,rfl,rfl,rfl⟩
 ·cases hx
theorem visit_ok:ConOk NoR Tryz.prog 115 visitC:=fun b=>by cases b;exact visitN_ok;exact visitY_ok
theorem fits_m1:Vc (fits (-1)):=⟨⟨by omega,by omega⟩⟩
theorem nx_cap {n:Nat} (h:n<1000000):Vc (0+n≤n/\1≤1/\(n+1)*104≤140737488355328/\n+1≤140737488355328):=⟨by omega,by omega,by omega,by omega⟩
theorem nx_fits {n:Nat} (h:n<1000000):Vc (fits (((n+1:Nat):Int)-1)):=⟨⟨by omega,by omega⟩⟩
theorem nx_e1 (n:Nat):((n+1:Nat):Int)-1=n:=by omega
def nextW:List Value->Hp Empty->Option Bool:=fun args hh=>match args,hh with
 |[.pointer (some ⟨0,0,none⟩)],[some (.inl (164,[.slice (some ⟨1,0,some 13000⟩) n cp,.slice (some ⟨2,0,some 1000⟩) fn fc,.int .i64 hd,.int .i64 ca,.int .i64 vi])),some (.inr (.inl (167,⟨tm,n2,[c0,c1,c2,c3,c4,c5,c6,c7,c8,c9,c10,c11,c12]⟩))),some (.inr (.inl (3,⟨[.int .i64 0],f2,[⟨fr,[],[]⟩]⟩)))]=>some (decide (fn=0))
 |_,_=>none
def nextY:Prim Empty:=fun args hh=>match args,hh with
 |[.pointer (some ⟨0,0,none⟩)],[some (.inl (164,[.slice (some ⟨1,0,some 13000⟩) n cp,.slice (some ⟨2,0,some 1000⟩) fn fc,.int .i64 hd,.int .i64 ca,.int .i64 vi])),some (.inr (.inl (167,⟨tm,n2,[c0,c1,c2,c3,c4,c5,c6,c7,c8,c9,c10,c11,c12]⟩))),some (.inr (.inl (3,⟨[.int .i64 0],f2,[⟨fr,[],[]⟩]⟩)))]=>some ⟨fn=0/\f2=fn/\fc=0/\cp=0/\tm=cellTm/\n2=n/\n<1000000/\ColsL n [c0,c1,c2,c3,c4,c5,c6,c7,c8,c9,c10,c11,c12],.int .i64 n,none,[some (.inl (164,[.slice (some ⟨3,0,some 13000⟩) (n+1) 0,.slice (some ⟨2,0,some 1000⟩) fn fc,.int .i64 hd,.int .i64 ca,.int .i64 vi])),none,some (.inr (.inl (3,⟨[.int .i64 0],f2,[⟨fr,[],[]⟩]⟩))),some (.inr (.inl (167,⟨tm,(n+1),[⟨c0.i++[0],[],[]⟩,⟨c1.i++[0],[],[]⟩,⟨[],c2.b++[false],[]⟩,⟨c3.i++[0],[],[]⟩,⟨c4.i++[0],[],[]⟩,⟨c5.i++[0],[],[]⟩,⟨c6.i++[0],[],[]⟩,⟨c7.i++[0],[],[]⟩,⟨c8.i++[0],[],[]⟩,⟨c9.i++[0],[],[]⟩,⟨c10.i++[0],[],[]⟩,⟨c11.i++[0],[],[]⟩,⟨[],c12.b++[false],[]⟩]⟩)))],[],[(0,0)]⟩
 |_,_=>none
def nextN:Prim Empty:=fun args hh=>match args,hh with
 |[.pointer (some ⟨0,0,none⟩)],[some (.inl (164,[.slice (some ⟨1,0,some 13000⟩) n cp,.slice (some ⟨2,0,some 1000⟩) fn fc,.int .i64 hd,.int .i64 ca,.int .i64 vi])),some (.inr (.inl (167,⟨tm,n2,[c0,c1,c2,c3,c4,c5,c6,c7,c8,c9,c10,c11,c12]⟩))),some (.inr (.inl (3,⟨[.int .i64 0],f2,[⟨fr,[],[]⟩]⟩)))]=>some ⟨fn≠0/\f2=fn/\fr.length=fn/\fc=0/\cp=0/\fn<1000000/\tm=cellTm/\n2=n/\n<1000000/\ColsL n [c0,c1,c2,c3,c4,c5,c6,c7,c8,c9,c10,c11,c12],.int .i64 (fr.getD (fn-1) 0),none,[some (.inl (164,[.slice (some ⟨1,0,some 13000⟩) n 0,.slice (some ⟨2,0,some 1000⟩) (fn-1) 0,.int .i64 hd,.int .i64 ca,.int .i64 vi])),some (.inr (.inl (167,⟨tm,n2,[c0,c1,c2,c3,c4,c5,c6,c7,c8,c9,c10,c11,c12]⟩))),some (.inr (.inl (3,⟨[.int .i64 0],(fn-1),[⟨(fr.take (fn-1)),[],[]⟩]⟩)))],[],[(0,0)]⟩
 |_,_=>none
def nextC:Con Empty:=⟨nextW,nextY,nextN⟩
theorem nextY_ok:PrimOk NoR Tryz.prog 106 (way nextC true) (nextC.go true):=by
 refine prim_at (fn:=Tryz.f106) (root:=codeOf Tryz.f106) (by kernel_rfl) (by kernel_rfl) (by kernel_rfl) fun args hh x hx=>?_
 unfold nextC Con.go nextY at hx;simp only at hx;split at hx
 ·rename_i n cp fn fc hd ca vi tm n2 c0 c1 c2 c3 c4 c5 c6 c7 c8 c9 c10 c11 c12 f2 fr;injection hx with hx
  subst hx;refine⟨by first|exact Nat.le_refl _|exact Nat.le_succ _,(fun b hb=>by cases hb),(fun hw=>by first|rfl|cases hw),fun hon hv=>?_⟩
  obtain⟨rfl,rfl,rfl,rfl,hv⟩:=hv;obtain⟨rfl,rfl,hv1,⟨⟨l0,rfl,hl0⟩,⟨l1,rfl,hl1⟩,⟨l2,rfl,hl2⟩,⟨l3,rfl,hl3⟩,⟨l4,rfl,hl4⟩,⟨l5,rfl,hl5⟩,⟨l6,rfl,hl6⟩,⟨l7,rfl,hl7⟩,⟨l8,rfl,hl8⟩,⟨l9,rfl,hl9⟩,⟨l10,rfl,hl10⟩,⟨l11,rfl,hl11⟩,⟨l12,rfl,hl12⟩⟩⟩:=hv;clear hon;generalize hG:Rx.Ends (R:=Empty) _ _=G;refine rx_ok (T:=[]) trivial mixed 200 ?_;refine as_text (q:=let Z2:=Value.int IntKind.i64;let Z1:=(0:Int);Vc (fits (-1:Int))/\(true=true->Vc (0+n2≤n2/\1≤1/\(n2+1)*104≤140737488355328/\n2+1≤140737488355328)/\Vc (fits ((↑(n2+1):Int)-(1:Int)))/\Post (G (Z2 ((↑(n2+1):Int)-(1:Int))) [some (.inl (164,[Value.slice (some (Addr.mk 4 0 (some 13000))) (n2+1) 0,Value.slice (some (Addr.mk 2 0 (some 1000))) 0 0,Z2 hd,Z2 ca,Z2 vi])),none,some (.inr (.inl (3,Row.mk [Z2 0] 0 [Col.mk fr [] []]))),some (.inr (.inl (167,Row.mk cellTm 1 [Col.mk [Z1] [] [],Col.mk [Z1] [] [],Col.mk [] [false] [],Col.mk [Z1] [] [],Col.mk [Z1] [] [],Col.mk [Z1] [] [],Col.mk [Z1] [] [],Col.mk [Z1] [] [],Col.mk [Z1] [] [],Col.mk [Z1] [] [],Col.mk [Z1] [] [],Col.mk [Z1] [] [],Col.mk [] [false] []]))),some (.inr (.inl (167,Row.mk cellTm (n2+1) (cV (cut l0 0 n2++[Z1]) (cut l1 0 n2++[Z1]) (cut l2 0 n2++[false]) (cut l3 0 n2++[Z1]) (cut l4 0 n2++[Z1]) (cut l5 0 n2++[Z1]) (cut l6 0 n2++[Z1]) (cut l7 0 n2++[Z1]) (cut l8 0 n2++[Z1]) (cut l9 0 n2++[Z1]) (cut l10 0 n2++[Z1]) (cut l11 0 n2++[Z1]) (cut l12 0 n2++[false])))))]))/\(true=false->Vc (Z1≤(-1:Int)/\(-1:Int)<Z1/\0≤0)/\Vc (0<0)/\Vc (Z1≤(-1:Int)/\(-1:Int)≤Z1/\0≤0)/\Post (G (Z2 (List.getD fr 0 Z1)) [some (.inl (164,[Value.slice (some (Addr.mk 1 0 (some 13000))) n2 0,Value.slice (some (Addr.mk 2 0 (some 1000))) 0 0,Z2 hd,Z2 ca,Z2 vi])),some (.inr (.inl (167,Row.mk cellTm n2 (cV l0 l1 l2 l3 l4 l5 l6 l7 l8 l9 l10 l11 l12)))),some (.inr (.inl (3,Row.mk [Z2 0] 0 [Col.mk fr [] []])))]))) ?_ (by kernel_rfl)
  intro Z2 Z1;subst Z1 Z2;subst hG;refine⟨fits_m1,fun _=>⟨nx_cap hv1,nx_fits hv1,⟨?_⟩⟩,fun h=>by cases h⟩
  simp only[cut_eq hl0,cut_eq hl1,cut_eq hl2,cut_eq hl3,cut_eq hl4,cut_eq hl5,cut_eq hl6,cut_eq hl7,cut_eq hl8,cut_eq hl9,cut_eq hl10,cut_eq hl11,cut_eq hl12,nx_e1];exact⟨[0,1,2,4],rfl,rfl,⟨.inl rfl,⟨_,rfl,.inl rfl⟩,⟨_,rfl,.inl rfl⟩,trivial⟩,rfl,rfl,rfl,(by kernel_rfl)⟩
 ·cases hx
theorem nextN_ok:PrimOk NoR Tryz.prog 106 (way nextC false) (nextC.go false):=by
 refine prim_at (fn:=Tryz.f106) (root:=codeOf Tryz.f106) (by kernel_rfl) (by kernel_rfl) (by kernel_rfl) fun args hh x hx=>?_
 unfold nextC Con.go nextN at hx;simp only at hx;split at hx
 ·rename_i n cp fn fc hd ca vi tm n2 c0 c1 c2 c3 c4 c5 c6 c7 c8 c9 c10 c11 c12 f2 fr;injection hx with hx
  subst hx;refine⟨by first|exact Nat.le_refl _|exact Nat.le_succ _,(fun b hb=>by cases hb),(fun hw=>by first|rfl|cases hw),fun hon hv=>?_⟩
  obtain⟨h0,rfl,hf,rfl,rfl,hv2,hv⟩:=hv;obtain⟨rfl,rfl,hv1,⟨⟨l0,rfl,hl0⟩,⟨l1,rfl,hl1⟩,⟨l2,rfl,hl2⟩,⟨l3,rfl,hl3⟩,⟨l4,rfl,hl4⟩,⟨l5,rfl,hl5⟩,⟨l6,rfl,hl6⟩,⟨l7,rfl,hl7⟩,⟨l8,rfl,hl8⟩,⟨l9,rfl,hl9⟩,⟨l10,rfl,hl10⟩,⟨l11,rfl,hl11⟩,⟨l12,rfl,hl12⟩⟩⟩:=hv;clear hon;generalize hG:Rx.Ends (R:=Empty) _ _=G;refine rx_ok (T:=[]) trivial mixed 200 ?_;refine as_text (q:=let Z2:=Value.int IntKind.i64;let Z1:=(0:Int);Vc (fits ((↑f2:Int)-(1:Int)))/\(decide ((↑f2:Int)-(1:Int)<Z1)=true->Vc (0+n2≤n2/\1≤1/\(n2+1)*104≤140737488355328/\n2+1≤140737488355328)/\Vc (fits ((↑(n2+1):Int)-(1:Int)))/\Post (G (Z2 ((↑(n2+1):Int)-(1:Int))) [some (.inl (164,[Value.slice (some (Addr.mk 4 0 (some 13000))) (n2+1) 0,Value.slice (some (Addr.mk 2 0 (some 1000))) f2 0,Z2 hd,Z2 ca,Z2 vi])),none,some (.inr (.inl (3,Row.mk [Z2 0] f2 [Col.mk fr [] []]))),some (.inr (.inl (167,Row.mk cellTm 1 [Col.mk [Z1] [] [],Col.mk [Z1] [] [],Col.mk [] [false] [],Col.mk [Z1] [] [],Col.mk [Z1] [] [],Col.mk [Z1] [] [],Col.mk [Z1] [] [],Col.mk [Z1] [] [],Col.mk [Z1] [] [],Col.mk [Z1] [] [],Col.mk [Z1] [] [],Col.mk [Z1] [] [],Col.mk [] [false] []]))),some (.inr (.inl (167,Row.mk cellTm (n2+1) (cV (cut l0 0 n2++[Z1]) (cut l1 0 n2++[Z1]) (cut l2 0 n2++[false]) (cut l3 0 n2++[Z1]) (cut l4 0 n2++[Z1]) (cut l5 0 n2++[Z1]) (cut l6 0 n2++[Z1]) (cut l7 0 n2++[Z1]) (cut l8 0 n2++[Z1]) (cut l9 0 n2++[Z1]) (cut l10 0 n2++[Z1]) (cut l11 0 n2++[Z1]) (cut l12 0 n2++[false])))))]))/\(decide ((↑f2:Int)-(1:Int)<Z1)=false->Vc (Z1≤(↑f2:Int)-(1:Int)/\(↑f2:Int)-(1:Int)<(↑f2:Int)/\0+f2≤f2)/\Vc (0+Int.toNat ((↑f2:Int)-(1:Int))<f2)/\Vc (Z1≤(↑f2:Int)-(1:Int)/\(↑f2:Int)-(1:Int)≤(↑f2:Int)/\0+f2≤f2)/\Post (G (Z2 (List.getD fr (0+Int.toNat ((↑f2:Int)-(1:Int))) Z1)) [some (.inl (164,[Value.slice (some (Addr.mk 1 0 (some 13000))) n2 0,Value.slice (some (Addr.mk 2 0 (some 1000))) (Int.toNat ((↑f2:Int)-(1:Int))) 0,Z2 hd,Z2 ca,Z2 vi])),some (.inr (.inl (167,Row.mk cellTm n2 (cV l0 l1 l2 l3 l4 l5 l6 l7 l8 l9 l10 l11 l12)))),some (.inr (.inl (3,Row.mk [Z2 0] f2 [Col.mk fr [] []])))]))) ?_ (by kernel_rfl)
  intro Z2 Z1;subst Z1 Z2;subst hG;clear hl0 hl1 hl2 hl3 hl4 hl5 hl6 hl7 hl8 hl9 hl10 hl11 hl12;have e1:((f2:Int)-1).toNat=f2-1:=by omega
  simp only[e1,Nat.zero_add];refine⟨⟨by omega,by omega⟩,fun h=>absurd (of_decide_eq_true h) (by omega),fun _=>⟨⟨by omega,by omega,by omega⟩,⟨by omega⟩,⟨by omega,by omega,by omega⟩,⟨?_⟩⟩⟩
  exact⟨[0,1,2],rfl,rfl,⟨.inl rfl,⟨_,rfl,.inl rfl⟩,⟨_,rfl,.inr ⟨rfl,Nat.sub_le _ _,by simp[headCol]⟩⟩,trivial⟩,rfl,rfl,rfl,(by kernel_rfl)⟩
 ·cases hx
theorem next_ok:ConOk NoR Tryz.prog 106 nextC:=fun b=>by cases b;exact nextN_ok;exact nextY_ok
def TA:Tab Empty:=[(106,liftC zN 2 nextC),(115,liftC zN 2 visitC)]
theorem TA_ok:TabOk NoR Tryz.prog TA:=⟨liftC_ok _ _ next_ok,liftC_ok _ _ visit_ok,trivial⟩
abbrev PP (m:Pl):Prop:=Gv.POk 100000 m
theorem hasC_eq (m:Pl) (i g:Int):hasC m.vs.length m.gens m.live i g=Gv.has m ⟨i,g⟩:=rfl
theorem has_at {m:Pl} {i g:Int} (h:Gv.has m ⟨i,g⟩=true):0≤i/\i<m.vs.length/\m.live.getD i.toNat false=true/\m.gens.getD i.toNat 0=g:=Gv.has_spec h
theorem map_get {α:Type} (f:Nd->α) (m:Pl) (k:Nat) (a:α) (ha:f zd=a):(m.vs.map f).getD k a=f (m.vs.getD k zd):=by
 subst ha;simp only[List.getD_eq_getElem?_getD,List.getElem?_map];cases m.vs[k]?<;>rfl
theorem get_val (m:Pl) (k:Nat):gM m.vs k=ndL (m.vs.getD k zd):=by
 unfold gM ndL;simp only[map_get (fun n:Nd=>n.e.it.k) m _ 0 rfl,map_get (fun n:Nd=>n.e.it.i) m _ 0 rfl,map_get (fun n:Nd=>n.e.eaten) m _ false rfl,map_get (fun n:Nd=>n.e.time) m _ 0 rfl,map_get (fun n:Nd=>n.l.i) m _ 0 rfl,map_get (fun n:Nd=>n.l.g) m _ 0 rfl,map_get (fun n:Nd=>n.r.i) m _ 0 rfl,map_get (fun n:Nd=>n.r.g) m _ 0 rfl,map_get (fun n:Nd=>n.all.n) m _ 0 rfl,map_get (fun n:Nd=>n.all.sum.n) m _ 0 rfl,map_get (fun n:Nd=>n.h) m _ 0 rfl]
theorem set_row (m:Pl) (k:Nat) (x:Nd) (g:List Int) (b:List Bool):(⟨cellTm,m.vs.length,cS m.vs k x g b⟩:Row)=⟨cellTm,(m.vs.set k x).length,cM (m.vs.set k x) g b⟩:=by
 unfold cS cM;simp only[List.map_set,List.length_set]
theorem len_map {α:Type} (f:Nd->α) (m:Pl):(m.vs.map f).length=m.vs.length:=List.length_map ..
theorem cols_of {m:Pl} (hv:PP m):ColsL m.vs.length (cM m.vs m.gens m.live):=⟨⟨_,rfl,len_map _ m⟩,⟨_,rfl,len_map _ m⟩,⟨_,rfl,len_map _ m⟩,⟨_,rfl,len_map _ m⟩,⟨_,rfl,len_map _ m⟩,⟨_,rfl,len_map _ m⟩,⟨_,rfl,len_map _ m⟩,⟨_,rfl,len_map _ m⟩,⟨_,rfl,len_map _ m⟩,⟨_,rfl,len_map _ m⟩,⟨_,rfl,len_map _ m⟩,⟨_,rfl,hv.gens⟩,⟨_,rfl,hv.live⟩⟩
theorem vis_ok {m:Pl} (hv:PP m):True/\True/\m.vs.length<1000000/\ColsL m.vs.length (cM m.vs m.gens m.live):=⟨trivial,trivial,by have:=hv.cells;omega,cols_of hv⟩
def newP:Prim Rs:=fun args hh=>match args,hh with
 |[.int .i64 c],[]=>some ⟨True,.pointer (some ⟨0,0,none⟩),none,[some (.inr (.inr (.inr (.pool ⟨[],[],[],[],0,min (max c 0) 16777216,0⟩))))],[],[(0,0)]⟩
 |_,_=>none
theorem new_ok:ConOk D Tryz.prog 99 (con1 newP):=by
 refine con1_ok (res_prim (L:=L) (D0:=NoR) (fn:=Tryz.f99) (root:=codeOf Tryz.f99) (by kernel_rfl) (by kernel_rfl) (by kernel_rfl) fun args hh x hx=>?_)
 unfold newP at hx;split at hx
 ·rename_i c;injection hx with hx
  subst hx;refine q4 fun _ hv=>?_
  generalize hG:EndsU (R:=Rs) (R0:=Empty) _ _ _=G;refine rx_ok (T:=TA) TA_ok mixed 200 ?_;refine as_text (q:=Post (G (Value.pointer (some (Addr.mk 0 0 none))) [some (.inl (164,[Value.slice none 0 0,Value.slice none 0 0,Value.int IntKind.i64 0,Value.int IntKind.i64 (if(16777216:Int)<if(0:Int)>c then(0:Int) else c then(16777216:Int) else if(0:Int)>c then(0:Int) else c),Value.int IntKind.i64 0]))])) ?_ (by kernel_rfl)
  subst hG;have e:(if 16777216<if 0>c then 0 else c then 16777216 else if 0>c then 0 else c)=min (max c 0) 16777216:=by
   by_cases h1:0>c
   ·rw[if_pos h1];simp;omega
   ·rw[if_neg h1];split<;>omega
  rw[e];refine⟨⟨[0,1,1],rfl,rfl,⟨.inl rfl,⟨rfl,Nat.succ_pos _,rfl⟩,⟨rfl,Nat.succ_pos _,rfl⟩,trivial⟩,rfl,rfl,rfl,rfl,rfl⟩⟩
 ·cases hx
def getP:Prim Rs:=fun args hh=>match args,hh with
 |[.pointer (some ⟨0,0,none⟩),.agg ⟨[.int .i64 i,.int .i64 g]⟩],[some (.inr (.inr (.inr (.pool m))))]=>some ⟨PP m,.tuple #[.agg ⟨ndL (Gv.look zd m ⟨i,g⟩)⟩,.bool (Gv.has m ⟨i,g⟩)],none,[some (.inr (.inr (.inr (.pool (Gv.see m ⟨i,g⟩)))))],[],[(0,0)]⟩
 |_,_=>none
theorem get_ok:ConOk D Tryz.prog 96 (con1 getP):=by
 refine con1_ok (res_prim (L:=L) (D0:=NoR) (fn:=Tryz.f96) (root:=codeOf Tryz.f96) (by kernel_rfl) (by kernel_rfl) (by kernel_rfl) fun args hh x hx=>?_)
 unfold getP at hx;split at hx
 ·rename_i i g m;injection hx with hx
  subst hx;refine q4 fun _ hv=>?_
  generalize hG:EndsU (R:=Rs) (R0:=Empty) _ _ _=G;refine rx_ok (T:=TA) TA_ok mixed 200 ?_;refine as_text (q:=let Z3:=Value.int IntKind.i64;let Z1:=(List.length (Gv.PM.vs m));let Z2:=(ndL (Gv.Node.mk (Sh.Sl.mk (Wv.It.mk 0 0) false 0) (Gv.Ref.mk 0 0) (Gv.Ref.mk 0 0) (Gv.Part.mk 0 (Sh.Sz.mk 0)) 0));(hasC Z1 (Gv.PM.gens m) (Gv.PM.live m) i g=true->Vc (cellTm=cellTm/\List.length (Gv.PM.vs m)=List.length (Gv.PM.vs m)/\List.length (Gv.PM.vs m)<1000000/\ColsL Z1 (cM (Gv.PM.vs m) (Gv.PM.gens m) (Gv.PM.live m)))/\Vc (Int.toNat i<List.length (Gv.PM.vs m))/\Post (G (Value.tuple (Array.mk [Value.agg (Array.mk (gM (Gv.PM.vs m) (Int.toNat i))),Value.bool true])) [some (.inl (164,[Value.slice (some (Addr.mk 1 0 (some 13000))) Z1 0,Value.slice (some (Addr.mk 2 0 (some 1000))) (List.length (Gv.PM.free m)) 0,Z3 (Gv.PM.held m),Z3 (Gv.PM.cap m),Z3 (IntKind.wrap IntKind.i64 (Gv.PM.visits m+(1:Int)))])),some (.inr (.inl (167,Row.mk cellTm Z1 (cM (Gv.PM.vs m) (Gv.PM.gens m) (Gv.PM.live m))))),some (.inr (.inl (3,Row.mk [Z3 0] (List.length (Gv.PM.free m)) [Col.mk (Gv.PM.free m) [] []]))),some (.inl (90,[Z3 i,Z3 g])),some (.inl (111,(gM (Gv.PM.vs m) (Int.toNat i))))]))/\(hasC Z1 (Gv.PM.gens m) (Gv.PM.live m) i g=false->Vc (cellTm=cellTm/\List.length (Gv.PM.vs m)=List.length (Gv.PM.vs m)/\List.length (Gv.PM.vs m)<1000000/\ColsL Z1 (cM (Gv.PM.vs m) (Gv.PM.gens m) (Gv.PM.live m)))/\Post (G (Value.tuple (Array.mk [Value.agg (Array.mk Z2),Value.bool false])) [some (.inl (164,[Value.slice (some (Addr.mk 1 0 (some 13000))) Z1 0,Value.slice (some (Addr.mk 2 0 (some 1000))) (List.length (Gv.PM.free m)) 0,Z3 (Gv.PM.held m),Z3 (Gv.PM.cap m),Z3 (Gv.PM.visits m)])),some (.inr (.inl (167,Row.mk cellTm Z1 (cM (Gv.PM.vs m) (Gv.PM.gens m) (Gv.PM.live m))))),some (.inr (.inl (3,Row.mk [Z3 0] (List.length (Gv.PM.free m)) [Col.mk (Gv.PM.free m) [] []]))),some (.inl (90,[Z3 i,Z3 g])),some (.inl (111,Z2)),some (.inl (111,Z2))]))) ?_ (by kernel_rfl)
  intro Z3 Z1 Z2;subst Z2 Z1 Z3;subst hG;simp only[hasC_eq,Nat.zero_add];refine⟨fun h=>⟨⟨vis_ok hv⟩,⟨by have:=has_at h;omega⟩,⟨?_⟩⟩,fun h=>⟨⟨vis_ok hv⟩,⟨?_⟩⟩⟩
  ·have e1:Gv.look zd m ⟨i,g⟩=m.vs.getD i.toNat zd:=by unfold Gv.look;rw[if_pos h]
   have e2:Gv.see m ⟨i,g⟩=Gv.seen m:=by unfold Gv.see;rw[if_pos h]
   rw[get_val m i.toNat,e1,e2,h];exact⟨[0,1,2],rfl,rfl,⟨.inl rfl,⟨_,rfl,.inl rfl⟩,⟨_,rfl,.inl rfl⟩,trivial⟩,rfl,rfl,rfl,rfl,rfl⟩
  ·have e1:Gv.look zd m ⟨i,g⟩=zd:=by unfold Gv.look;rw[if_neg (by rw[h];decide)]
   have e2:Gv.see m ⟨i,g⟩=m:=by unfold Gv.see;rw[if_neg (by rw[h];decide)]
   rw[e1,e2,h];exact⟨[0,1,2],rfl,rfl,⟨.inl rfl,⟨_,rfl,.inl rfl⟩,⟨_,rfl,.inl rfl⟩,trivial⟩,rfl,rfl,rfl,rfl,rfl⟩
 ·cases hx
def setP:Prim Rs:=fun args hh=>match args,hh with
 |[.pointer (some ⟨0,0,none⟩),.agg ⟨[.int .i64 i,.int .i64 g]⟩,.agg ⟨xN⟩],[some (.inr (.inr (.inr (.pool m))))]=>some ⟨xN=ndL (ndOf xN)/\PP m,.bool (Gv.has m ⟨i,g⟩),none,[some (.inr (.inr (.inr (.pool (Gv.put1 m ⟨i,g⟩ (ndOf xN))))))],[],[(0,0)]⟩
 |_,_=>none
theorem set_ok:ConOk D Tryz.prog 132 (con1 setP):=by
 refine con1_ok (res_prim (L:=L) (D0:=NoR) (fn:=Tryz.f132) (root:=codeOf Tryz.f132) (by kernel_rfl) (by kernel_rfl) (by kernel_rfl) fun args hh x hx=>?_)
 unfold setP at hx;split at hx
 ·rename_i i g xN m;injection hx with hx
  subst hx;refine q4 fun _ hv=>?_
  obtain⟨hq,hv⟩:=hv;generalize ndOf xN=x at *;subst hq
  generalize hG:EndsU (R:=Rs) (R0:=Empty) _ _ _=G;refine rx_ok (T:=TA) TA_ok mixed 200 ?_;refine as_text (q:=let Z2:=Value.int IntKind.i64;let Z1:=(List.length (Gv.PM.vs m));(hasC Z1 (Gv.PM.gens m) (Gv.PM.live m) i g=true->Vc (cellTm=cellTm/\List.length (Gv.PM.vs m)=List.length (Gv.PM.vs m)/\List.length (Gv.PM.vs m)<1000000/\ColsL Z1 (cM (Gv.PM.vs m) (Gv.PM.gens m) (Gv.PM.live m)))/\Vc (Int.toNat i<List.length (Gv.PM.vs m))/\Post (G (Value.bool true) [some (.inl (164,[Value.slice (some (Addr.mk 1 0 (some 13000))) Z1 0,Value.slice (some (Addr.mk 2 0 (some 1000))) (List.length (Gv.PM.free m)) 0,Z2 (Gv.PM.held m),Z2 (Gv.PM.cap m),Z2 (IntKind.wrap IntKind.i64 (Gv.PM.visits m+(1:Int)))])),some (.inr (.inl (167,Row.mk cellTm Z1 (cS (Gv.PM.vs m) (Int.toNat i) x (Gv.PM.gens m) (Gv.PM.live m))))),some (.inr (.inl (3,Row.mk [Z2 0] (List.length (Gv.PM.free m)) [Col.mk (Gv.PM.free m) [] []]))),some (.inl (90,[Z2 i,Z2 g])),some (.inl (111,(ndL x)))]))/\(hasC Z1 (Gv.PM.gens m) (Gv.PM.live m) i g=false->Vc (cellTm=cellTm/\List.length (Gv.PM.vs m)=List.length (Gv.PM.vs m)/\List.length (Gv.PM.vs m)<1000000/\ColsL Z1 (cM (Gv.PM.vs m) (Gv.PM.gens m) (Gv.PM.live m)))/\Post (G (Value.bool false) [some (.inl (164,[Value.slice (some (Addr.mk 1 0 (some 13000))) Z1 0,Value.slice (some (Addr.mk 2 0 (some 1000))) (List.length (Gv.PM.free m)) 0,Z2 (Gv.PM.held m),Z2 (Gv.PM.cap m),Z2 (Gv.PM.visits m)])),some (.inr (.inl (167,Row.mk cellTm Z1 (cM (Gv.PM.vs m) (Gv.PM.gens m) (Gv.PM.live m))))),some (.inr (.inl (3,Row.mk [Z2 0] (List.length (Gv.PM.free m)) [Col.mk (Gv.PM.free m) [] []]))),some (.inl (90,[Z2 i,Z2 g])),some (.inl (111,(ndL x)))]))) ?_ (by kernel_rfl)
  intro Z2 Z1;subst Z1 Z2;subst hG;simp only[hasC_eq,Nat.zero_add];refine⟨fun h=>⟨⟨vis_ok hv⟩,⟨by have:=has_at h;omega⟩,⟨?_⟩⟩,fun h=>⟨⟨vis_ok hv⟩,⟨?_⟩⟩⟩
  ·have e2:∀ y,Gv.put1 m ⟨i,g⟩ y={ Gv.seen m with vs:=m.vs.set i.toNat y }:=fun y=>by unfold Gv.put1;rw[if_pos h]
   rw[e2,h];exact⟨[0,1,2],rfl,rfl,⟨.inl (by rw[List.length_set];rfl),⟨_,rfl,.inl (set_row m i.toNat x _ _).symm⟩,⟨_,rfl,.inl rfl⟩,trivial⟩,rfl,rfl,rfl,rfl,rfl⟩
  ·have e2:∀ y,Gv.put1 m ⟨i,g⟩ y=m:=fun y=>by unfold Gv.put1;rw[if_neg (by rw[h];decide)]
   rw[e2,h];exact⟨[0,1,2],rfl,rfl,⟨.inl rfl,⟨_,rfl,.inl rfl⟩,⟨_,rfl,.inl rfl⟩,trivial⟩,rfl,rfl,rfl,rfl,rfl⟩
 ·cases hx
def visitsP:Prim Rs:=fun args hh=>match args,hh with
 |[.pointer (some ⟨0,0,none⟩)],[some (.inr (.inr (.inr (.pool m))))]=>some ⟨True,.int .i64 m.visits,none,hh,[],[]⟩
 |_,_=>none
theorem visits_ok:ConOk D Tryz.prog 94 (con1 visitsP):=by
 refine con1_ok (res_prim (L:=L) (D0:=NoR) (fn:=Tryz.f94) (root:=codeOf Tryz.f94) (by kernel_rfl) (by kernel_rfl) (by kernel_rfl) fun args hh x hx=>?_)
 unfold visitsP at hx;split at hx
 ·rename_i m;injection hx with hx
  subst hx;refine q4 fun _ hv=>?_
  generalize hG:EndsU (R:=Rs) (R0:=Empty) _ _ _=G;refine rx_ok (T:=TA) TA_ok mixed 200 ?_;refine as_text (q:=let Z1:=Value.int IntKind.i64;Post (G (Z1 (Gv.PM.visits m)) [some (.inl (164,[Value.slice (some (Addr.mk 1 0 (some 13000))) (List.length (Gv.PM.vs m)) 0,Value.slice (some (Addr.mk 2 0 (some 1000))) (List.length (Gv.PM.free m)) 0,Z1 (Gv.PM.held m),Z1 (Gv.PM.cap m),Z1 (Gv.PM.visits m)])),some (.inr (.inl (167,Row.mk cellTm (List.length (Gv.PM.vs m)) (cM (Gv.PM.vs m) (Gv.PM.gens m) (Gv.PM.live m))))),some (.inr (.inl (3,Row.mk [Z1 0] (List.length (Gv.PM.free m)) [Col.mk (Gv.PM.free m) [] []])))])) ?_ (by kernel_rfl)
  intro Z1;subst Z1;subst hG;exact⟨⟨[0,1,2],rfl,rfl,⟨.inl rfl,⟨_,rfl,.inl rfl⟩,⟨_,rfl,.inl rfl⟩,trivial⟩,rfl,rfl,rfl,rfl,rfl⟩⟩
 ·cases hx
def dropP:Prim Rs:=fun args hh=>match args,hh with
 |[.pointer (some ⟨0,0,none⟩),.agg ⟨[.int .i64 i,.int .i64 g]⟩],[some (.inr (.inr (.inr (.pool m))))]=>some ⟨PP m,.tuple #[.agg ⟨ndL (Gv.look zd m ⟨i,g⟩)⟩,.bool (Gv.has m ⟨i,g⟩)],none,[some (.inr (.inr (.inr (.pool (Gv.drop zd m ⟨i,g⟩)))))],[],[(0,0)]⟩
 |_,_=>none
theorem drop_ok:ConOk D Tryz.prog 92 (con1 dropP):=by
 refine con1_ok (res_prim (L:=L) (D0:=NoR) (fn:=Tryz.f92) (root:=codeOf Tryz.f92) (by kernel_rfl) (by kernel_rfl) (by kernel_rfl) fun args hh x hx=>?_)
 unfold dropP at hx;split at hx
 ·rename_i i g m;injection hx with hx
  subst hx;refine q4 fun _ hv=>?_
  generalize hG:EndsU (R:=Rs) (R0:=Empty) _ _ _=G;refine rx_ok (T:=TA) TA_ok mixed 200 ?_;refine as_text (q:=let Z7:=Value.int IntKind.i64;let Z1:=(List.length (Gv.PM.vs m));let Z2:=(Int.toNat i<List.length (Gv.PM.vs m));let Z3:=(List.getD (Gv.PM.gens m) (Int.toNat i) (0:Int)<(4294967295:Int));let Z4:=(Value.tuple (Array.mk [Value.agg (Array.mk (gM (Gv.PM.vs m) (Int.toNat i))),Value.bool true]));let Z5:=(ndL (Gv.Node.mk (Sh.Sl.mk (Wv.It.mk 0 0) false 0) (Gv.Ref.mk 0 0) (Gv.Ref.mk 0 0) (Gv.Part.mk 0 (Sh.Sz.mk 0)) 0));let Z6:=(List.length (Gv.PM.free m));(hasC Z1 (Gv.PM.gens m) (Gv.PM.live m) i g=true->Vc (cellTm=cellTm/\List.length (Gv.PM.vs m)=List.length (Gv.PM.vs m)/\List.length (Gv.PM.vs m)<1000000/\ColsL Z1 (cM (Gv.PM.vs m) (Gv.PM.gens m) (Gv.PM.live m)))/\Vc Z2/\Vc Z2/\Vc Z2/\Vc (fits (Gv.PM.held m-(1:Int)))/\Vc Z2/\(decide Z3=true->Vc (0+List.length (Gv.PM.free m)≤List.length (Gv.PM.free m)/\1≤1/\(List.length (Gv.PM.free m)+1)*8≤140737488355328/\List.length (Gv.PM.free m)+1≤140737488355328)/\Post (G Z4 [some (.inl (164,[Value.slice (some (Addr.mk 1 0 (some 13000))) Z1 0,Value.slice (some (Addr.mk 8 0 (some 1000))) (List.length (Gv.PM.free m)+1) 0,Z7 (Gv.PM.held m-(1:Int)),Z7 (Gv.PM.cap m),Z7 (IntKind.wrap IntKind.i64 (Gv.PM.visits m+(1:Int)))])),some (.inr (.inl (167,Row.mk cellTm Z1 (cS (Gv.PM.vs m) (Int.toNat i) zd (Gv.PM.gens m) (List.set (Gv.PM.live m) (Int.toNat i) false))))),none,some (.inl (90,[Z7 i,Z7 g])),some (.inl (111,(gM (Gv.PM.vs m) (Int.toNat i)))),some (.inl (111,Z5)),some (.inl (111,(gM (Gv.PM.vs m) (Int.toNat i)))),some (.inr (.inl (3,Row.mk [Z7 0] 1 [Col.mk [i] [] []]))),some (.inr (.inl (3,Row.mk [Z7 0] (List.length (Gv.PM.free m)+1) [Col.mk (cut (Gv.PM.free m) 0 Z6++cut [i] 0 1) [] []])))]))/\(decide Z3=false->Post (G Z4 [some (.inl (164,[Value.slice (some (Addr.mk 1 0 (some 13000))) Z1 0,Value.slice (some (Addr.mk 2 0 (some 1000))) Z6 0,Z7 (Gv.PM.held m-(1:Int)),Z7 (Gv.PM.cap m),Z7 (IntKind.wrap IntKind.i64 (Gv.PM.visits m+(1:Int)))])),some (.inr (.inl (167,Row.mk cellTm Z1 (cS (Gv.PM.vs m) (Int.toNat i) zd (Gv.PM.gens m) (List.set (Gv.PM.live m) (Int.toNat i) false))))),some (.inr (.inl (3,Row.mk [Z7 0] Z6 [Col.mk (Gv.PM.free m) [] []]))),some (.inl (90,[Z7 i,Z7 g])),some (.inl (111,(gM (Gv.PM.vs m) (Int.toNat i)))),some (.inl (111,Z5)),some (.inl (111,(gM (Gv.PM.vs m) (Int.toNat i))))])))/\(hasC Z1 (Gv.PM.gens m) (Gv.PM.live m) i g=false->Vc (cellTm=cellTm/\List.length (Gv.PM.vs m)=List.length (Gv.PM.vs m)/\List.length (Gv.PM.vs m)<1000000/\ColsL Z1 (cM (Gv.PM.vs m) (Gv.PM.gens m) (Gv.PM.live m)))/\Post (G (Value.tuple (Array.mk [Value.agg (Array.mk Z5),Value.bool false])) [some (.inl (164,[Value.slice (some (Addr.mk 1 0 (some 13000))) Z1 0,Value.slice (some (Addr.mk 2 0 (some 1000))) Z6 0,Z7 (Gv.PM.held m),Z7 (Gv.PM.cap m),Z7 (Gv.PM.visits m)])),some (.inr (.inl (167,Row.mk cellTm Z1 (cM (Gv.PM.vs m) (Gv.PM.gens m) (Gv.PM.live m))))),some (.inr (.inl (3,Row.mk [Z7 0] Z6 [Col.mk (Gv.PM.free m) [] []]))),some (.inl (90,[Z7 i,Z7 g])),some (.inl (111,Z5)),some (.inl (111,Z5))]))) ?_ (by kernel_rfl)
  intro Z7 Z1 Z2 Z3 Z4 Z5 Z6;subst Z6 Z5 Z4 Z3 Z2 Z1 Z7;subst hG;simp only[hasC_eq,Nat.zero_add];have hgb:=Gv.gens_bound (i:=i.toNat) hv.gen;have hhl:=hv.hld;have hfr:=hv.frees;refine⟨fun h=>?_,fun h=>⟨⟨vis_ok hv⟩,⟨?_⟩⟩⟩
  ·have hlt:i.toNat<m.vs.length:=by have:=has_at h;omega
   have g3:m.gens.getD i.toNat 0<4294967295:=by omega
   have e1:Gv.look zd m ⟨i,g⟩=m.vs.getD i.toNat zd:=by unfold Gv.look;rw[if_pos h]
   have e2:Gv.drop zd m ⟨i,g⟩={ Gv.seen m with vs:=m.vs.set i.toNat zd,live:=m.live.set i.toNat false,held:=m.held-1,free:=m.free++[i] }:=by unfold Gv.drop;rw[if_pos h,if_pos g3]
   have ec:cut m.free 0 m.free.length++cut [i] 0 1=m.free++[i]:=by rw[cut_eq rfl];rfl
   rw[ec];refine⟨⟨vis_ok hv⟩,⟨hlt⟩,⟨hlt⟩,⟨hlt⟩,⟨⟨by omega,by omega⟩⟩,⟨hlt⟩,fun _=>⟨⟨by omega,by omega,by omega,by omega⟩,⟨?_⟩⟩,fun h2=>absurd g3 (of_decide_eq_false h2)⟩
   rw[get_val m i.toNat,e1,e2,h];exact⟨[0,1,8],rfl,rfl,⟨.inl (by rw[List.length_set,List.length_append];rfl),⟨_,rfl,.inl (set_row m i.toNat zd _ _).symm⟩,⟨_,rfl,.inl (by rw[List.length_append];rfl)⟩,trivial⟩,rfl,rfl,rfl,rfl,rfl⟩
  ·have e1:Gv.look zd m ⟨i,g⟩=zd:=by unfold Gv.look;rw[if_neg (by rw[h];decide)]
   have e2:Gv.drop zd m ⟨i,g⟩=m:=by unfold Gv.drop;rw[if_neg (by rw[h];decide)]
   rw[e1,e2,h];exact⟨[0,1,2],rfl,rfl,⟨.inl rfl,⟨_,rfl,.inl rfl⟩,⟨_,rfl,.inl rfl⟩,trivial⟩,rfl,rfl,rfl,rfl,rfl⟩
 ·cases hx
theorem row_new (m:Pl) (k:Nat) (x:Nd) (g:List Int) (b:List Bool):(⟨cellTm,m.vs.length+1,cG m.vs k x g b⟩:Row)=⟨cellTm,((m.vs++[zd]).set k x).length,cM ((m.vs++[zd]).set k x) g b⟩:=by
 unfold cG cM;simp only[List.map_set,List.map_append,List.length_set,List.length_append,List.map_cons,List.map_nil,List.length_cons,List.length_nil]
 rfl
theorem put_full {m:Pl} (h0:m.held=m.cap) (x:Nd):Gv.put zd m x=m/\Gv.putR zd m=⟨0,0⟩:=by
 unfold Gv.put Gv.putR;rw[if_pos h0,if_pos h0];exact⟨rfl,rfl⟩
theorem put_grow {m:Pl} (h0:¬ m.held=m.cap) (hf:m.free.length=0) (x:Nd):Gv.put zd m x=⟨(m.vs++[zd]).set m.vs.length x,(m.gens++[0]).set m.vs.length ((m.gens++[0]).getD m.vs.length 0+1),(m.live++[false]).set m.vs.length true,m.free,m.held+1,m.cap,m.visits⟩/\Gv.putR zd m=⟨m.vs.length,(m.gens++[0]).getD m.vs.length 0+1⟩:=by
 have en:Gv.nextIdx m=m.vs.length:=by rw[Gv.nextIdx,if_pos hf]
 unfold Gv.put Gv.putR Gv.putG Gv.nextPM;rw[if_neg h0,if_neg h0];simp only[if_pos hf,en,Int.toNat_natCast]
 constructor<;>first|rfl|trivial
theorem put_free {m:Pl} (h0:¬ m.held=m.cap) (hf:¬ m.free.length=0) (x:Nd):Gv.put zd m x=⟨m.vs.set (m.free.getD (m.free.length-1) 0).toNat x,m.gens.set (m.free.getD (m.free.length-1) 0).toNat (m.gens.getD (m.free.getD (m.free.length-1) 0).toNat 0+1),m.live.set (m.free.getD (m.free.length-1) 0).toNat true,m.free.take (m.free.length-1),m.held+1,m.cap,m.visits⟩/\Gv.putR zd m=⟨m.free.getD (m.free.length-1) 0,m.gens.getD (m.free.getD (m.free.length-1) 0).toNat 0+1⟩:=by
 have en:Gv.nextIdx m=m.free.getD (m.free.length-1) 0:=by rw[Gv.nextIdx,if_neg hf]
 unfold Gv.put Gv.putR Gv.putG Gv.nextPM;rw[if_neg h0,if_neg h0];simp only[if_neg hf,en]
 constructor<;>first|rfl|trivial
structure Bds (m:Pl):Prop where
 gens:m.gens.length=m.vs.length
 cells:m.vs.length<1000000
 frees:m.free.length<1000000
 held:-1000000≤m.held/\m.held<1000000
 gen:∀ i,0≤m.gens.getD i 0/\m.gens.getD i 0≤100000
 last:¬ m.free.length=0->0≤m.free.getD (m.free.length-1) 0/\m.free.getD (m.free.length-1) 0<m.vs.length
theorem bds {m:Pl} (hv:PP m):Bds m:=by
 have v1:=hv.gens;have v3:=hv.cells;have v4:=hv.frees;have v5:=hv.hld;refine⟨v1,by omega,by omega,by omega,fun i=>?_,fun h=>?_⟩
 ·have:=Gv.gens_bound (i:=i) hv.gen;omega
 ·have:=hv.inn _ (getD_mem (d:=0) (l:=m.free) (i:=m.free.length-1) (by omega))
  exact⟨this.1,this.2.1⟩
theorem get_same (l:List Int) (k:Nat) (x:Int) (h:k<l.length):(l.set k x).getD k 0=x:=by
 rw[getD_set,if_pos ⟨rfl,h⟩]
def putP:Prim Rs:=fun args hh=>match args,hh with
 |[.pointer (some ⟨0,0,none⟩),.agg ⟨xN⟩],[some (.inr (.inr (.inr (.pool m))))]=>some ⟨xN=ndL (ndOf xN)/\PP m,.tuple #[.agg ⟨[.int .i64 (Gv.putR zd m).i,.int .i64 (Gv.putR zd m).g]⟩,.bool (!decide (m.held=m.cap))],none,[some (.inr (.inr (.inr (.pool (Gv.put zd m (ndOf xN))))))],[],[(0,0)]⟩
 |_,_=>none
theorem put_ok:ConOk D Tryz.prog 77 (con1 putP):=by
 refine con1_ok (res_prim (L:=L) (D0:=NoR) (fn:=Tryz.f77) (root:=codeOf Tryz.f77) (by kernel_rfl) (by kernel_rfl) (by kernel_rfl) fun args hh x hx=>?_)
 unfold putP at hx;split at hx
 ·rename_i xN m;injection hx with hx
  subst hx;refine q4 fun _ hv=>?_
  obtain⟨hq,hv⟩:=hv;generalize ndOf xN=x at *;subst hq
  generalize hG:EndsU (R:=Rs) (R0:=Empty) _ _ _=G;refine rx_ok (T:=TA) TA_ok mixed 200 ?_;refine as_text (q:=let Z11:=Value.int IntKind.i64;let Z1:=(Gv.PM.vs m);let Z2:=(List.length Z1);let Z3:=(Gv.PM.free m);let Z4:=(cM Z1 (Gv.PM.gens m) (Gv.PM.live m));let Z5:=(List.getD (Gv.PM.gens m++[(0:Int)]) (0+Int.toNat (↑Z2:Int)) (0:Int)+(1:Int));let Z6:=(List.set (Gv.PM.gens m++[(0:Int)]) (0+Int.toNat (↑Z2:Int)) Z5);let Z7:=(List.length Z3-1);let Z8:=(List.getD Z3 Z7 (0:Int));let Z9:=(List.getD (Gv.PM.gens m) (0+Int.toNat Z8) (0:Int)+(1:Int));let Z10:=(List.getD (List.set (Gv.PM.gens m) (0+Int.toNat Z8) Z9) (0+Int.toNat Z8) (0:Int));((Gv.PM.held m==Gv.PM.cap m)=true->Post (G (Value.tuple (Array.mk [Value.agg (Array.mk [Z11 0,Z11 0]),Value.bool false])) [some (.inl (164,[Value.slice (some (Addr.mk 1 0 (some 13000))) Z2 0,Value.slice (some (Addr.mk 2 0 (some 1000))) (List.length Z3) 0,Z11 (Gv.PM.held m),Z11 (Gv.PM.cap m),Z11 (Gv.PM.visits m)])),some (.inr (.inl (167,Row.mk cellTm Z2 Z4))),some (.inr (.inl (3,Row.mk [Z11 0] (List.length Z3) [Col.mk Z3 [] []]))),some (.inl (111,(ndL x))),some (.inl (90,[Z11 0,Z11 0]))]))/\((Gv.PM.held m==Gv.PM.cap m)=false->(decide (List.length Z3=0)=true->Vc (List.length Z3=0/\List.length Z3=List.length Z3/\0=0/\0=0/\cellTm=cellTm/\List.length Z1=List.length Z1/\List.length Z1<1000000/\ColsL Z2 Z4)/\Vc ((0:Int)≤(↑Z2:Int)/\(↑Z2:Int)<(↑(List.length Z1+1):Int)/\0+(List.length Z1+1)≤List.length Z1+1)/\Vc (0+Int.toNat (↑Z2:Int)<List.length Z1+1)/\Vc (0+Int.toNat (↑Z2:Int)<List.length Z1+1)/\Vc (0+Int.toNat (↑Z2:Int)<List.length Z1+1)/\Vc (fits Z5)/\Vc (0+Int.toNat (↑Z2:Int)<List.length Z1+1)/\Vc (fits (Gv.PM.held m+(1:Int)))/\Vc (0+Int.toNat (↑Z2:Int)<List.length Z1+1)/\Post (G (Value.tuple (Array.mk [Value.agg (Array.mk [Z11 (↑Z2:Int),Z11 (List.getD Z6 (0+Int.toNat (↑Z2:Int)) (0:Int))]),Value.bool true])) [some (.inl (164,[Value.slice (some (Addr.mk 5 0 (some 13000))) (List.length Z1+1) 0,Value.slice (some (Addr.mk 2 0 (some 1000))) (List.length Z3) 0,Z11 (Gv.PM.held m+(1:Int)),Z11 (Gv.PM.cap m),Z11 (Gv.PM.visits m)])),none,some (.inr (.inl (3,Row.mk [Z11 0] (List.length Z3) [Col.mk Z3 [] []]))),some (.inl (111,(ndL x))),some (.inl (90,[Z11 (↑Z2:Int),Z11 (List.getD Z6 (0+Int.toNat (↑Z2:Int)) (0:Int))])),some (.inr (.inl (167,Row.mk cellTm (List.length Z1+1) (cG Z1 (0+Int.toNat (↑Z2:Int)) x Z6 (List.set (Gv.PM.live m++[false]) (0+Int.toNat (↑Z2:Int)) true)))))]))/\(decide (List.length Z3=0)=false->Vc (List.length Z3≠0/\List.length Z3=List.length Z3/\List.length Z3=List.length Z3/\0=0/\0=0/\List.length Z3<1000000/\cellTm=cellTm/\List.length Z1=List.length Z1/\List.length Z1<1000000/\ColsL Z2 Z4)/\Vc ((0:Int)≤List.getD Z3 Z7 (0:Int)/\List.getD Z3 Z7 (0:Int)<(↑Z2:Int)/\0+List.length Z1≤List.length Z1)/\Vc (0+Int.toNat Z8<List.length Z1)/\Vc (0+Int.toNat Z8<List.length Z1)/\Vc (0+Int.toNat Z8<List.length Z1)/\Vc (fits Z9)/\Vc (0+Int.toNat Z8<List.length Z1)/\Vc (fits (Gv.PM.held m+(1:Int)))/\Vc (0+Int.toNat Z8<List.length Z1)/\Post (G (Value.tuple (Array.mk [Value.agg (Array.mk [Z11 Z8,Z11 Z10]),Value.bool true])) [some (.inl (164,[Value.slice (some (Addr.mk 1 0 (some 13000))) Z2 0,Value.slice (some (Addr.mk 2 0 (some 1000))) Z7 0,Z11 (Gv.PM.held m+(1:Int)),Z11 (Gv.PM.cap m),Z11 (Gv.PM.visits m)])),some (.inr (.inl (167,Row.mk cellTm Z2 (cS Z1 (0+Int.toNat Z8) x (List.set (Gv.PM.gens m) (0+Int.toNat Z8) Z9) (List.set (Gv.PM.live m) (0+Int.toNat Z8) true))))),some (.inr (.inl (3,Row.mk [Z11 0] Z7 [Col.mk (List.take Z7 Z3) [] []]))),some (.inl (111,(ndL x))),some (.inl (90,[Z11 Z8,Z11 Z10]))])))) ?_ (by kernel_rfl)
  intro Z11 Z1 Z2 Z3 Z4 Z5 Z6 Z7 Z8 Z9 Z10;subst Z10 Z9 Z8 Z7 Z6 Z5 Z4 Z3 Z2 Z1 Z11;subst hG;simp only[Nat.zero_add,Int.toNat_natCast];have hb:=bds hv;refine⟨fun h=>?_,fun h=>⟨fun hf=>?_,fun hf=>?_⟩⟩
  ·have h0:m.held=m.cap:=eq_of_beq h;rw[(put_full h0 x).1,(put_full h0 x).2,decide_eq_true h0];exact⟨⟨[0,1,2],rfl,rfl,⟨.inl rfl,⟨_,rfl,.inl rfl⟩,⟨_,rfl,.inl rfl⟩,trivial⟩,rfl,rfl,rfl,rfl,rfl⟩⟩
  ·have h0:¬ m.held=m.cap:=fun c=>by rw[c,beq_self_eq_true] at h;cases h
   have h1:m.free.length=0:=of_decide_eq_true hf;have hk:m.vs.length<(m.gens++[0]).length:=by rw[List.length_append,hb.gens];exact Nat.lt_succ_self _
   have e1:(m.gens++[0]).getD m.vs.length 0=0:=by rw[getD_append1,if_pos hb.gens.symm]
   rw[(put_grow h0 h1 x).1,(put_grow h0 h1 x).2,decide_eq_false h0,get_same _ _ _ hk];refine⟨⟨h1,trivial,trivial,trivial,trivial,trivial,hb.cells,cols_of hv⟩,⟨by omega,by omega,Nat.le_refl _⟩,⟨Nat.lt_succ_self _⟩,⟨Nat.lt_succ_self _⟩,⟨Nat.lt_succ_self _⟩,⟨by rw[e1];exact⟨by omega,by omega⟩⟩,⟨Nat.lt_succ_self _⟩,⟨by have:=hb.held;exact⟨by omega,by omega⟩⟩,⟨Nat.lt_succ_self _⟩,⟨[0,5,2],rfl,rfl,?_,rfl,rfl,rfl,rfl,rfl⟩⟩
   exact⟨.inl (by rw[List.length_set,List.length_append];rfl),⟨_,rfl,.inl (row_new m m.vs.length x _ _).symm⟩,⟨_,rfl,.inl rfl⟩,trivial⟩
  ·have h0:¬ m.held=m.cap:=fun c=>by rw[c,beq_self_eq_true] at h;cases h
   have h1:¬ m.free.length=0:=of_decide_eq_false hf;have hl:=hb.last h1;have hk:(m.free.getD (m.free.length-1) 0).toNat<m.vs.length:=by omega
   rw[(put_free h0 h1 x).1,(put_free h0 h1 x).2,decide_eq_false h0,get_same _ _ _ (by rw[hb.gens];exact hk)]
   refine⟨⟨h1,trivial,trivial,trivial,trivial,hb.frees,trivial,trivial,hb.cells,cols_of hv⟩,⟨hl.1,hl.2,Nat.le_refl _⟩,⟨hk⟩,⟨hk⟩,⟨hk⟩,⟨by have:=hb.gen (m.free.getD (m.free.length-1) 0).toNat;exact⟨by omega,by omega⟩⟩,⟨hk⟩,⟨by have:=hb.held;exact⟨by omega,by omega⟩⟩,⟨hk⟩,⟨[0,1,2],rfl,rfl,?_,rfl,rfl,rfl,rfl,rfl⟩⟩
   exact⟨.inl (by rw[List.length_set,List.length_take,Nat.min_eq_left (Nat.sub_le _ _)];rfl),⟨_,rfl,.inl (set_row m _ x _ _).symm⟩,⟨_,rfl,.inl (by rw[List.length_take,Nat.min_eq_left (Nat.sub_le _ _)])⟩,trivial⟩
 ·cases hx
abbrev trB (b:Nat) (i g:Int):Option (SB Rs):=some (.inl (115,[.pointer (some ⟨b,0,none⟩),.int .i64 i,.int .i64 g]))
abbrev oP (m:Pl):Option (SB Rs):=some (.inr (.inr (.inr (.pool m))))
def TOne {R:Type}:Tab R:=[(171,liftC zN 2 (con1 Sh.ssumP))]
theorem TOne_ok {R:Type} {D:Res R}:TabOk D Tryz.prog (TOne:Tab R):=⟨liftC_ok _ _ Sh.ssum_ok,trivial⟩
def TPlus {R:Type}:Tab R:=[(1000000000,wrapCon),(172,liftC zN 2 (con1 Sh.nplusP))]
theorem TPlus_ok {R:Type} {D:Res R}:TabOk D Tryz.prog (TPlus:Tab R):=⟨wrapCon_ok,liftC_ok _ _ Sh.nplus_ok,trivial⟩
def oneP {R:Type}:Prim R:=fun args hh=>match args,hh with
 |[.agg ⟨kE⟩],[]=>some ⟨kE=elL (elOf kE)/\(True),.agg ⟨ptL (Gv.one Sh.O9 (elOf kE))⟩,none,hh,[],[]⟩
 |_,_=>none
theorem one_ok {R:Type} {D:Res R}:ConOk D Tryz.prog 78 (con1 oneP):=by
 refine prK Tryz.f78 fun args hh x hx=>?_
 unfold oneP at hx;split at hx
 ·rename_i kE;injection hx with hx
  subst hx;refine q4 fun _ hv=>?_
  obtain⟨hq0,hv⟩:=hv;generalize elOf kE=ke at *;subst hq0
  generalize hG:Rx.Ends (R:=R) _ _=G;refine rx_ok (T:=TOne) TOne_ok mixed 200 ?_;refine as_text (q:=Vc True/\Vc True/\Post (G (Value.agg (Array.mk [Value.int IntKind.i64 1,Value.int IntKind.i64 (Sh.Sz.n (Gv.Ops.sum Sh.O9 ke))])) [some (.inl (75,(elL ke))),some (.inl (109,[Value.int IntKind.i64 1,Value.int IntKind.i64 (Sh.Sz.n (Gv.Ops.sum Sh.O9 ke))]))])) ?_ (by kernel_rfl)
  subst hG
  repeat' (first|apply And.intro|apply Vc.mk|apply fits.mk|intro h|apply Post.mk)
  all_goals (try simp only[sB] at *)
  all_goals first|contradiction|omega|exact vb1 ‹_›|exact vb2 ‹_›|exact vb3 ‹_›|exact⟨rfl,by omega⟩|exact rfl|(simp[*,-List.getD_eq_getElem?_getD];done)|skip
  exact⟨[],rfl,rfl,trivial,rfl,rfl,rfl,rfl⟩
 ·cases hx
def plusP {R:Type}:Prim R:=fun args hh=>match args,hh with
 |[.agg ⟨pP⟩,.agg ⟨qP⟩],[]=>some ⟨pP=ptL (ptOf pP)/\qP=ptL (ptOf qP)/\(True),.agg ⟨ptL (Gv.plusP Sh.O9 (ptOf pP) (ptOf qP))⟩,none,hh,[],[]⟩
 |_,_=>none
theorem plus_ok {R:Type} {D:Res R}:ConOk D Tryz.prog 131 (con1 plusP):=by
 refine prK Tryz.f131 fun args hh x hx=>?_
 unfold plusP at hx;split at hx
 ·rename_i pP qP;injection hx with hx
  subst hx;refine q4 fun _ hv=>?_
  obtain⟨hq0,hq1,hv⟩:=hv;generalize ptOf pP=pp at *;subst hq0;generalize ptOf qP=qp at *;subst hq1
  generalize hG:Rx.Ends (R:=R) _ _=G;refine rx_ok (T:=TPlus) TPlus_ok mixed 200 ?_;refine as_text (q:=let Z2:=Value.int IntKind.i64;let Z1:=(Sh.Sz.n (Gv.Ops.plus Sh.O9 (Gv.Part.sum pp) (Gv.Part.sum qp)));((Gv.Part.n pp==(0:Int))=true->Post (G (Value.agg (Array.mk [Z2 (Gv.Part.n qp),Z2 (Sh.Sz.n (Gv.Part.sum qp))])) [some (.inl (109,[Z2 (Gv.Part.n pp),Z2 (Sh.Sz.n (Gv.Part.sum pp))])),some (.inl (109,[Z2 (Gv.Part.n qp),Z2 (Sh.Sz.n (Gv.Part.sum qp))])),some (.inl (109,[Z2 (Gv.Part.n qp),Z2 (Sh.Sz.n (Gv.Part.sum qp))]))]))/\((Gv.Part.n pp==(0:Int))=false->((Gv.Part.n qp==(0:Int))=true->Post (G (Value.agg (Array.mk [Z2 (Gv.Part.n pp),Z2 (Sh.Sz.n (Gv.Part.sum pp))])) [some (.inl (109,[Z2 (Gv.Part.n pp),Z2 (Sh.Sz.n (Gv.Part.sum pp))])),some (.inl (109,[Z2 (Gv.Part.n qp),Z2 (Sh.Sz.n (Gv.Part.sum qp))])),some (.inl (109,[Z2 (Gv.Part.n pp),Z2 (Sh.Sz.n (Gv.Part.sum pp))]))]))/\((Gv.Part.n qp==(0:Int))=false->Vc True/\Vc True/\Vc True/\Post (G (Value.agg (Array.mk [Z2 (IntKind.wrap IntKind.i64 (Gv.Part.n pp+Gv.Part.n qp)),Z2 Z1])) [some (.inl (109,[Z2 (Gv.Part.n pp),Z2 (Sh.Sz.n (Gv.Part.sum pp))])),some (.inl (109,[Z2 (Gv.Part.n qp),Z2 (Sh.Sz.n (Gv.Part.sum qp))])),some (.inl (109,[Z2 (IntKind.wrap IntKind.i64 (Gv.Part.n pp+Gv.Part.n qp)),Z2 Z1]))])))) ?_ (by kernel_rfl)
  intro Z2 Z1;subst Z1 Z2;have done:∀ (p:Gv.Part Sh.Sz) (hp:Hp R),p=Gv.plusP Sh.O9 pp qp->G (.agg ⟨ptL p⟩) hp:=by
   intro p hp e;subst e;subst hG;exact⟨⟨[],rfl,rfl,trivial,rfl,rfl,rfl,rfl⟩⟩
  clear hG
  repeat' (first|apply And.intro|apply Vc.mk|apply fits.mk|intro h|apply Post.mk)
  all_goals (try simp only[sB] at *)
  all_goals first|contradiction|omega|exact vb1 ‹_›|exact vb2 ‹_›|exact vb3 ‹_›|exact⟨rfl,by omega⟩|exact rfl|(simp[*,-List.getD_eq_getElem?_getD];done)|skip
  ·have h:pp.n=0:=by assumption
   exact done qp _ (by rw[Gv.plusP,if_pos h])
  ·have h:pp.n≠0:=by assumption
   have h2:qp.n=0:=by assumption
   exact done pp _ (by rw[Gv.plusP,if_neg h,if_pos h2])
  ·have h:pp.n≠0:=by assumption
   have h2:qp.n≠0:=by assumption
   exact done ⟨Gv.W (pp.n+qp.n),Sh.O9.plus pp.sum qp.sum⟩ _ (by rw[Gv.plusP,if_neg h,if_neg h2])
 ·cases hx
def TLook:Tab Rs:=[(96,liftC zN 2 (con1 getP))]
theorem TLook_ok:TabOk D Tryz.prog TLook:=⟨liftC_ok _ _ get_ok,trivial⟩
def lookP:Prim Rs:=fun args hh=>match args,hh with
 |[.pointer (some ⟨0,0,none⟩),.agg ⟨[.int .i64 ri,.int .i64 rg]⟩],[some (.inl (115,[.pointer (some ⟨1,0,none⟩),.int .i64 ti,.int .i64 tg])),some (.inr (.inr (.inr (.pool m))))]=>some ⟨PP m,.agg ⟨ndL (Gv.lk Sh.O9 m ⟨ri,rg⟩)⟩,none,[some (.inl (115,[.pointer (some ⟨1,0,none⟩),.int .i64 ti,.int .i64 tg])),some (.inr (.inr (.inr (.pool (Gv.see m ⟨ri,rg⟩)))))],[],[(0,0)]⟩
 |_,_=>none
theorem look_ok:ConOk D Tryz.prog 63 (con1 lookP):=by
 refine prK Tryz.f63 fun args hh x hx=>?_
 unfold lookP at hx;split at hx
 ·rename_i ri rg ti tg m;injection hx with hx
  subst hx;refine q4 fun _ hv=>?_
  generalize hG:Rx.Ends (R:=Rs) _ _=G;refine rx_ok (T:=TLook) TLook_ok mixed 200 ?_;refine as_text (q:=Vc (PP m)/\Post (G (Value.agg (Array.mk (ndL (Gv.look zd m (Gv.Ref.mk ri rg))))) [trB 1 ti tg,oP (Gv.see m (Gv.Ref.mk ri rg)),some (.inl (90,[Value.int IntKind.i64 ri,Value.int IntKind.i64 rg])),some (.inl (111,(ndL (Gv.look zd m (Gv.Ref.mk ri rg))))),some (.inl (111,(ndL (Gv.look zd m (Gv.Ref.mk ri rg)))))])) ?_ (by kernel_rfl)
  subst hG;exact⟨⟨hv⟩,⟨⟨[0,1],rfl,rfl,⟨.inl rfl,rfl,trivial⟩,rfl,rfl,rfl,rfl⟩⟩⟩
 ·cases hx
def TSet:Tab Rs:=[(1000000000,wrapCon),(78,liftC zN 2 (con1 oneP)),(131,liftC zN 2 (con1 plusP)),(132,liftC zN 2 (con1 setP))]
theorem TSet_ok:TabOk D Tryz.prog TSet:=⟨wrapCon_ok,liftC_ok _ _ one_ok,liftC_ok _ _ plus_ok,liftC_ok _ _ set_ok,trivial⟩
def setNP:Prim Rs:=fun args hh=>match args,hh with
 |[.pointer (some ⟨0,0,none⟩),.agg ⟨[.int .i64 ri,.int .i64 rg]⟩,.agg ⟨xN⟩,.agg ⟨yN⟩,.agg ⟨zN⟩],[some (.inl (115,[.pointer (some ⟨1,0,none⟩),.int .i64 ti,.int .i64 tg])),some (.inr (.inr (.inr (.pool m))))]=>some ⟨xN=ndL (ndOf xN)/\yN=ndL (ndOf yN)/\zN=ndL (ndOf zN)/\(PP m),.agg ⟨[.int .i64 ri,.int .i64 rg]⟩,none,[some (.inl (115,[.pointer (some ⟨1,0,none⟩),.int .i64 ti,.int .i64 tg])),some (.inr (.inr (.inr (.pool (Gv.setN Sh.O9 m ⟨ri,rg⟩ (ndOf xN) (ndOf yN) (ndOf zN))))))],[],[(0,0)]⟩
 |_,_=>none
theorem setN_ok:ConOk D Tryz.prog 121 (con1 setNP):=by
 refine prK Tryz.f121 fun args hh x hx=>?_
 unfold setNP at hx;split at hx
 ·rename_i ri rg xN yN zN ti tg m;injection hx with hx
  subst hx;refine q4 fun _ hv=>?_
  obtain⟨hq0,hq1,hq2,hv⟩:=hv;generalize ndOf xN=xn at *;subst hq0;generalize ndOf yN=yn at *;subst hq1;generalize ndOf zN=zn at *;subst hq2
  generalize hG:Rx.Ends (R:=Rs) _ _=G;refine rx_ok (T:=TSet) TSet_ok mixed 200 ?_;refine as_text (q:=let Z4:=Value.int IntKind.i64;let Z1:=(Gv.one Sh.O9 (Gv.Node.e xn));let Z2:=(Gv.plusP Sh.O9 (Gv.Node.all yn) Z1);let Z3:=(Gv.Node.mk (Gv.Node.e xn) (Gv.Node.l xn) (Gv.Node.r xn) (Gv.plusP Sh.O9 Z2 (Gv.Node.all zn)) (IntKind.wrap IntKind.i64 ((1:Int)+if Gv.Node.h zn>Gv.Node.h yn then Gv.Node.h zn else Gv.Node.h yn)));Vc True/\Vc ((elL (Gv.Node.e xn))=elL (Gv.Node.e xn)/\True)/\Vc ([Z4 (Gv.Part.n (Gv.Node.all yn)),Z4 (Sh.Sz.n (Gv.Part.sum (Gv.Node.all yn)))]=ptL (Gv.Node.all yn)/\[Z4 (Gv.Part.n Z1),Z4 (Sh.Sz.n (Gv.Part.sum Z1))]=ptL Z1/\True)/\Vc ([Z4 (Gv.Part.n Z2),Z4 (Sh.Sz.n (Gv.Part.sum Z2))]=ptL Z2/\[Z4 (Gv.Part.n (Gv.Node.all zn)),Z4 (Sh.Sz.n (Gv.Part.sum (Gv.Node.all zn)))]=ptL (Gv.Node.all zn)/\True)/\Vc ((ndL Z3)=ndL Z3/\PP m)/\Post (G (Value.agg (Array.mk [Z4 ri,Z4 rg])) [trB 1 ti tg,oP (Gv.put1 m (Gv.Ref.mk ri rg) Z3),some (.inl (90,[Z4 ri,Z4 rg])),some (.inl (111,(ndL Z3))),some (.inl (111,(ndL yn))),some (.inl (111,(ndL zn))),some (.inl (90,[Z4 ri,Z4 rg]))])) ?_ (by kernel_rfl)
  intro Z4 Z1 Z2 Z3;subst Z3 Z2 Z1 Z4;subst hG
  repeat' (first|apply And.intro|apply Vc.mk|apply fits.mk|intro h|apply Post.mk)
  all_goals (try simp only[sB] at *)
  all_goals first|contradiction|omega|exact vb1 ‹_›|exact vb2 ‹_›|exact vb3 ‹_›|exact⟨rfl,by omega⟩|exact rfl|(simp[*,-List.getD_eq_getElem?_getD];done)|skip
  all_goals first|assumption|exact⟨[0,1],rfl,rfl,⟨.inl rfl,rfl,trivial⟩,rfl,rfl,rfl,rfl⟩
 ·cases hx
def TTie:Tab Rs:=[(63,liftC zN 2 (con1 lookP)),(121,liftC zN 2 (con1 setNP))]
theorem TTie_ok:TabOk D Tryz.prog TTie:=⟨liftC_ok _ _ look_ok,liftC_ok _ _ setN_ok,trivial⟩
def tieP:Prim Rs:=fun args hh=>match args,hh with
 |[.pointer (some ⟨0,0,none⟩),.agg ⟨[.int .i64 ri,.int .i64 rg]⟩,.agg ⟨xN⟩],[some (.inl (115,[.pointer (some ⟨1,0,none⟩),.int .i64 ti,.int .i64 tg])),some (.inr (.inr (.inr (.pool m))))]=>some ⟨xN=ndL (ndOf xN)/\(PP m),.agg ⟨[.int .i64 ri,.int .i64 rg]⟩,none,[some (.inl (115,[.pointer (some ⟨1,0,none⟩),.int .i64 ti,.int .i64 tg])),some (.inr (.inr (.inr (.pool (Gv.tie Sh.O9 m ⟨ri,rg⟩ (ndOf xN))))))],[],[(0,0)]⟩
 |_,_=>none
theorem tie_ok:ConOk D Tryz.prog 105 (con1 tieP):=by
 refine prK Tryz.f105 fun args hh x hx=>?_
 unfold tieP at hx;split at hx
 ·rename_i ri rg xN ti tg m;injection hx with hx
  subst hx;refine q4 fun _ hv=>?_
  obtain⟨hq0,hv⟩:=hv;generalize ndOf xN=xn at *;subst hq0
  generalize hG:Rx.Ends (R:=Rs) _ _=G;refine rx_ok (T:=TTie) TTie_ok mixed 200 ?_;refine as_text (q:=let Z2:=Value.int IntKind.i64;let Z1:=(Gv.lk Sh.O9 (Gv.see m (Gv.Node.l xn)) (Gv.Node.r xn));Vc (PP m)/\Vc (PP (Gv.see m (Gv.Node.l xn)))/\Vc ((ndL xn)=ndL xn/\(ndL (Gv.lk Sh.O9 m (Gv.Node.l xn)))=ndL (Gv.lk Sh.O9 m (Gv.Node.l xn))/\(ndL Z1)=ndL Z1/\PP (Gv.see (Gv.see m (Gv.Node.l xn)) (Gv.Node.r xn)))/\Post (G (Value.agg (Array.mk [Z2 ri,Z2 rg])) [trB 1 ti tg,oP (Gv.setN Sh.O9 (Gv.see (Gv.see m (Gv.Node.l xn)) (Gv.Node.r xn)) (Gv.Ref.mk ri rg) xn (Gv.lk Sh.O9 m (Gv.Node.l xn)) Z1),some (.inl (90,[Z2 ri,Z2 rg])),some (.inl (111,(ndL xn))),some (.inl (90,[Z2 ri,Z2 rg]))])) ?_ (by kernel_rfl)
  intro Z2 Z1;subst Z1 Z2;subst hG
  repeat' (first|apply And.intro|apply Vc.mk|apply fits.mk|intro h|apply Post.mk)
  all_goals (try simp only[sB] at *)
  all_goals first|contradiction|omega|exact vb1 ‹_›|exact vb2 ‹_›|exact vb3 ‹_›|exact⟨rfl,by omega⟩|exact rfl|(simp[*,-List.getD_eq_getElem?_getD];done)|skip
  all_goals first|assumption|(simp only[Gv.ok_s];assumption)|skip
  exact⟨[0,1],rfl,rfl,⟨.inl rfl,rfl,trivial⟩,rfl,rfl,rfl,rfl⟩
 ·cases hx
def TTurn:Tab Rs:=[(63,liftC zN 2 (con1 lookP)),(105,liftC zN 2 (con1 tieP))]
theorem TTurn_ok:TabOk D Tryz.prog TTurn:=⟨liftC_ok _ _ look_ok,liftC_ok _ _ tie_ok,trivial⟩
def turnLP:Prim Rs:=fun args hh=>match args,hh with
 |[.pointer (some ⟨0,0,none⟩),.agg ⟨[.int .i64 ri,.int .i64 rg]⟩,.agg ⟨xN⟩],[some (.inl (115,[.pointer (some ⟨1,0,none⟩),.int .i64 ti,.int .i64 tg])),some (.inr (.inr (.inr (.pool m))))]=>some ⟨xN=ndL (ndOf xN)/\(PP m),.agg ⟨[.int .i64 (ndOf xN).r.i,.int .i64 (ndOf xN).r.g]⟩,none,[some (.inl (115,[.pointer (some ⟨1,0,none⟩),.int .i64 ti,.int .i64 tg])),some (.inr (.inr (.inr (.pool (Gv.turnL Sh.O9 m ⟨ri,rg⟩ (ndOf xN))))))],[],[(0,0)]⟩
 |_,_=>none
theorem turnL_ok:ConOk D Tryz.prog 122 (con1 turnLP):=by
 refine prK Tryz.f122 fun args hh x hx=>?_
 unfold turnLP at hx;split at hx
 ·rename_i ri rg xN ti tg m;injection hx with hx
  subst hx;refine q4 fun _ hv=>?_
  obtain⟨hq0,hv⟩:=hv;generalize ndOf xN=xn at *;subst hq0
  generalize hG:Rx.Ends (R:=Rs) _ _=G;refine rx_ok (T:=TTurn) TTurn_ok mixed 200 ?_;refine as_text (q:=let Z5:=Value.int IntKind.i64;let Z1:=(Gv.lk Sh.O9 m (Gv.Node.r xn));let Z2:=(Gv.Node.mk (Gv.Node.e xn) (Gv.Node.l xn) (Gv.Node.l Z1) (Gv.Node.all xn) (Gv.Node.h xn));let Z3:=(Gv.Node.mk (Gv.Node.e Z1) (Gv.Ref.mk ri rg) (Gv.Node.r Z1) (Gv.Node.all Z1) (Gv.Node.h Z1));let Z4:=(Gv.tie Sh.O9 (Gv.see m (Gv.Node.r xn)) (Gv.Ref.mk ri rg) Z2);Vc (PP m)/\Vc ((ndL Z2)=ndL Z2/\PP (Gv.see m (Gv.Node.r xn)))/\Vc ((ndL Z3)=ndL Z3/\PP Z4)/\Post (G (Value.agg (Array.mk [Z5 (Gv.Ref.i (Gv.Node.r xn)),Z5 (Gv.Ref.g (Gv.Node.r xn))])) [trB 1 ti tg,oP (Gv.tie Sh.O9 Z4 (Gv.Node.r xn) Z3),some (.inl (90,[Z5 ri,Z5 rg])),some (.inl (111,(ndL Z2))),some (.inl (90,[Z5 (Gv.Ref.i (Gv.Node.r xn)),Z5 (Gv.Ref.g (Gv.Node.r xn))])),some (.inl (90,[Z5 (Gv.Ref.i (Gv.Node.r xn)),Z5 (Gv.Ref.g (Gv.Node.r xn))])),some (.inl (111,(ndL Z3)))])) ?_ (by kernel_rfl)
  intro Z5 Z1 Z2 Z3 Z4;subst Z4 Z3 Z2 Z1 Z5;subst hG
  repeat' (first|apply And.intro|apply Vc.mk|apply fits.mk|intro h|apply Post.mk)
  all_goals (try simp only[sB] at *)
  all_goals first|contradiction|omega|exact vb1 ‹_›|exact vb2 ‹_›|exact vb3 ‹_›|exact⟨rfl,by omega⟩|exact rfl|(simp[*,-List.getD_eq_getElem?_getD];done)|skip
  all_goals first|assumption|(simp only[Gv.ok_s];assumption)|skip
  exact⟨[0,1],rfl,rfl,⟨.inl rfl,rfl,trivial⟩,rfl,rfl,rfl,rfl⟩
 ·cases hx
def turnRP:Prim Rs:=fun args hh=>match args,hh with
 |[.pointer (some ⟨0,0,none⟩),.agg ⟨[.int .i64 ri,.int .i64 rg]⟩,.agg ⟨xN⟩],[some (.inl (115,[.pointer (some ⟨1,0,none⟩),.int .i64 ti,.int .i64 tg])),some (.inr (.inr (.inr (.pool m))))]=>some ⟨xN=ndL (ndOf xN)/\(PP m),.agg ⟨[.int .i64 (ndOf xN).l.i,.int .i64 (ndOf xN).l.g]⟩,none,[some (.inl (115,[.pointer (some ⟨1,0,none⟩),.int .i64 ti,.int .i64 tg])),some (.inr (.inr (.inr (.pool (Gv.turnR Sh.O9 m ⟨ri,rg⟩ (ndOf xN))))))],[],[(0,0)]⟩
 |_,_=>none
theorem turnR_ok:ConOk D Tryz.prog 123 (con1 turnRP):=by
 refine prK Tryz.f123 fun args hh x hx=>?_
 unfold turnRP at hx;split at hx
 ·rename_i ri rg xN ti tg m;injection hx with hx
  subst hx;refine q4 fun _ hv=>?_
  obtain⟨hq0,hv⟩:=hv;generalize ndOf xN=xn at *;subst hq0
  generalize hG:Rx.Ends (R:=Rs) _ _=G;refine rx_ok (T:=TTurn) TTurn_ok mixed 200 ?_;refine as_text (q:=let Z5:=Value.int IntKind.i64;let Z1:=(Gv.lk Sh.O9 m (Gv.Node.l xn));let Z2:=(Gv.Node.mk (Gv.Node.e xn) (Gv.Node.r Z1) (Gv.Node.r xn) (Gv.Node.all xn) (Gv.Node.h xn));let Z3:=(Gv.Node.mk (Gv.Node.e Z1) (Gv.Node.l Z1) (Gv.Ref.mk ri rg) (Gv.Node.all Z1) (Gv.Node.h Z1));let Z4:=(Gv.tie Sh.O9 (Gv.see m (Gv.Node.l xn)) (Gv.Ref.mk ri rg) Z2);Vc (PP m)/\Vc ((ndL Z2)=ndL Z2/\PP (Gv.see m (Gv.Node.l xn)))/\Vc ((ndL Z3)=ndL Z3/\PP Z4)/\Post (G (Value.agg (Array.mk [Z5 (Gv.Ref.i (Gv.Node.l xn)),Z5 (Gv.Ref.g (Gv.Node.l xn))])) [trB 1 ti tg,oP (Gv.tie Sh.O9 Z4 (Gv.Node.l xn) Z3),some (.inl (90,[Z5 ri,Z5 rg])),some (.inl (111,(ndL Z2))),some (.inl (90,[Z5 (Gv.Ref.i (Gv.Node.l xn)),Z5 (Gv.Ref.g (Gv.Node.l xn))])),some (.inl (90,[Z5 (Gv.Ref.i (Gv.Node.l xn)),Z5 (Gv.Ref.g (Gv.Node.l xn))])),some (.inl (111,(ndL Z3)))])) ?_ (by kernel_rfl)
  intro Z5 Z1 Z2 Z3 Z4;subst Z4 Z3 Z2 Z1 Z5;subst hG
  repeat' (first|apply And.intro|apply Vc.mk|apply fits.mk|intro h|apply Post.mk)
  all_goals (try simp only[sB] at *)
  all_goals first|contradiction|omega|exact vb1 ‹_›|exact vb2 ‹_›|exact vb3 ‹_›|exact⟨rfl,by omega⟩|exact rfl|(simp[*,-List.getD_eq_getElem?_getD];done)|skip
  all_goals first|assumption|(simp only[Gv.ok_s];assumption)|skip
  exact⟨[0,1],rfl,rfl,⟨.inl rfl,rfl,trivial⟩,rfl,rfl,rfl,rfl⟩
 ·cases hx
def TLev:Tab Rs:=[(1000000000,wrapCon),(63,liftC zN 2 (con1 lookP)),(121,liftC zN 2 (con1 setNP)),(122,liftC zN 2 (con1 turnLP)),(123,liftC zN 2 (con1 turnRP))]
theorem TLev_ok:TabOk D Tryz.prog TLev:=⟨wrapCon_ok,liftC_ok _ _ look_ok,liftC_ok _ _ setN_ok,liftC_ok _ _ turnL_ok,liftC_ok _ _ turnR_ok,trivial⟩
def levelP:Prim Rs:=fun args hh=>match args,hh with
 |[.pointer (some ⟨0,0,none⟩),.agg ⟨[.int .i64 ri,.int .i64 rg]⟩,.agg ⟨xN⟩],[some (.inl (115,[.pointer (some ⟨1,0,none⟩),.int .i64 ti,.int .i64 tg])),some (.inr (.inr (.inr (.pool m))))]=>some ⟨xN=ndL (ndOf xN)/\(PP m),.agg ⟨[.int .i64 (Gv.level Sh.O9 m ⟨ri,rg⟩ (ndOf xN)).1.i,.int .i64 (Gv.level Sh.O9 m ⟨ri,rg⟩ (ndOf xN)).1.g]⟩,none,[some (.inl (115,[.pointer (some ⟨1,0,none⟩),.int .i64 ti,.int .i64 tg])),some (.inr (.inr (.inr (.pool (Gv.level Sh.O9 m ⟨ri,rg⟩ (ndOf xN)).2))))],[],[(0,0)]⟩
 |_,_=>none
theorem level_ok:ConOk D Tryz.prog 107 (con1 levelP):=by
 refine prK Tryz.f107 fun args hh x hx=>?_
 unfold levelP at hx;split at hx
 ·rename_i ri rg xN ti tg m;injection hx with hx
  subst hx;refine q4 fun _ hv=>?_
  obtain⟨hq0,hv⟩:=hv;generalize ndOf xN=xn at *;subst hq0
  generalize hG:Rx.Ends (R:=Rs) _ _=G;refine rx_ok (T:=TLev) TLev_ok mixed 200 ?_;refine as_text (q:=let Z12:=Value.int IntKind.i64;let Z1:=(Gv.lk Sh.O9 m (Gv.Node.l xn));let Z2:=(Gv.lk Sh.O9 (Gv.see m (Gv.Node.l xn)) (Gv.Node.r xn));let Z3:=(Gv.Node.h Z1>IntKind.wrap IntKind.i64 (Gv.Node.h Z2+(1:Int)));let Z4:=(Gv.see (Gv.see m (Gv.Node.l xn)) (Gv.Node.r xn));let Z5:=(Gv.Node.h (Gv.lk Sh.O9 Z4 (Gv.Node.r Z1))>Gv.Node.h (Gv.lk Sh.O9 (Gv.see Z4 (Gv.Node.r Z1)) (Gv.Node.l Z1)));let Z6:=(Gv.see (Gv.see Z4 (Gv.Node.r Z1)) (Gv.Node.l Z1));let Z7:=(Gv.Node.mk (Gv.Node.e xn) (Gv.Node.r Z1) (Gv.Node.r xn) (Gv.Node.all xn) (Gv.Node.h xn));let Z8:=(Gv.Node.h Z2>IntKind.wrap IntKind.i64 (Gv.Node.h Z1+(1:Int)));let Z9:=(Gv.Node.h (Gv.lk Sh.O9 Z4 (Gv.Node.l Z2))>Gv.Node.h (Gv.lk Sh.O9 (Gv.see Z4 (Gv.Node.l Z2)) (Gv.Node.r Z2)));let Z10:=(Gv.see (Gv.see Z4 (Gv.Node.l Z2)) (Gv.Node.r Z2));let Z11:=(Gv.Node.mk (Gv.Node.e xn) (Gv.Node.l xn) (Gv.Node.l Z2) (Gv.Node.all xn) (Gv.Node.h xn));Vc (PP m)/\Vc (PP (Gv.see m (Gv.Node.l xn)))/\Vc True/\(decide Z3=true->Vc (PP Z4)/\Vc (PP (Gv.see Z4 (Gv.Node.r Z1)))/\(decide Z5=true->Vc ((ndL Z1)=ndL Z1/\PP Z6)/\Vc ((ndL Z7)=ndL Z7/\PP (Gv.turnL Sh.O9 Z6 (Gv.Node.l xn) Z1))/\Post (G (Value.agg (Array.mk [Z12 (Gv.Ref.i (Gv.Node.l Z7)),Z12 (Gv.Ref.g (Gv.Node.l Z7))])) [trB 1 ti tg,oP (Gv.turnR Sh.O9 (Gv.turnL Sh.O9 Z6 (Gv.Node.l xn) Z1) (Gv.Ref.mk ri rg) Z7),some (.inl (90,[Z12 ri,Z12 rg])),some (.inl (111,(ndL Z7))),some (.inl (90,[Z12 (Gv.Ref.i (Gv.Node.l Z7)),Z12 (Gv.Ref.g (Gv.Node.l Z7))])),some (.inl (111,(ndL Z1))),some (.inl (111,(ndL Z2)))]))/\(decide Z5=false->Vc ((ndL xn)=ndL xn/\PP Z6)/\Post (G (Value.agg (Array.mk [Z12 (Gv.Ref.i (Gv.Node.l xn)),Z12 (Gv.Ref.g (Gv.Node.l xn))])) [trB 1 ti tg,oP (Gv.turnR Sh.O9 Z6 (Gv.Ref.mk ri rg) xn),some (.inl (90,[Z12 ri,Z12 rg])),some (.inl (111,(ndL xn))),some (.inl (90,[Z12 (Gv.Ref.i (Gv.Node.l xn)),Z12 (Gv.Ref.g (Gv.Node.l xn))])),some (.inl (111,(ndL Z1))),some (.inl (111,(ndL Z2)))])))/\(decide Z3=false->Vc True/\(decide Z8=true->Vc (PP Z4)/\Vc (PP (Gv.see Z4 (Gv.Node.l Z2)))/\(decide Z9=true->Vc ((ndL Z2)=ndL Z2/\PP Z10)/\Vc ((ndL Z11)=ndL Z11/\PP (Gv.turnR Sh.O9 Z10 (Gv.Node.r xn) Z2))/\Post (G (Value.agg (Array.mk [Z12 (Gv.Ref.i (Gv.Node.r Z11)),Z12 (Gv.Ref.g (Gv.Node.r Z11))])) [trB 1 ti tg,oP (Gv.turnL Sh.O9 (Gv.turnR Sh.O9 Z10 (Gv.Node.r xn) Z2) (Gv.Ref.mk ri rg) Z11),some (.inl (90,[Z12 ri,Z12 rg])),some (.inl (111,(ndL Z11))),some (.inl (90,[Z12 (Gv.Ref.i (Gv.Node.r Z11)),Z12 (Gv.Ref.g (Gv.Node.r Z11))])),some (.inl (111,(ndL Z1))),some (.inl (111,(ndL Z2)))]))/\(decide Z9=false->Vc ((ndL xn)=ndL xn/\PP Z10)/\Post (G (Value.agg (Array.mk [Z12 (Gv.Ref.i (Gv.Node.r xn)),Z12 (Gv.Ref.g (Gv.Node.r xn))])) [trB 1 ti tg,oP (Gv.turnL Sh.O9 Z10 (Gv.Ref.mk ri rg) xn),some (.inl (90,[Z12 ri,Z12 rg])),some (.inl (111,(ndL xn))),some (.inl (90,[Z12 (Gv.Ref.i (Gv.Node.r xn)),Z12 (Gv.Ref.g (Gv.Node.r xn))])),some (.inl (111,(ndL Z1))),some (.inl (111,(ndL Z2)))])))/\(decide Z8=false->Vc ((ndL xn)=ndL xn/\(ndL Z1)=ndL Z1/\(ndL Z2)=ndL Z2/\PP Z4)/\Post (G (Value.agg (Array.mk [Z12 ri,Z12 rg])) [trB 1 ti tg,oP (Gv.setN Sh.O9 Z4 (Gv.Ref.mk ri rg) xn Z1 Z2),some (.inl (90,[Z12 ri,Z12 rg])),some (.inl (111,(ndL xn))),some (.inl (90,[Z12 ri,Z12 rg])),some (.inl (111,(ndL Z1))),some (.inl (111,(ndL Z2)))])))) ?_ (by kernel_rfl)
  intro Z12 Z1 Z2 Z3 Z4 Z5 Z6 Z7 Z8 Z9 Z10 Z11;subst Z11 Z10 Z9 Z8 Z7 Z6 Z5 Z4 Z3 Z2 Z1 Z12;have done:∀ (i g:Int) (m':Pl) (rest:Hp Rs),Gv.level Sh.O9 m ⟨ri,rg⟩ xn=(⟨i,g⟩,m')->G (.agg ⟨[.int .i64 i,.int .i64 g]⟩) ([some (.inl (115,[.pointer (some ⟨1,0,none⟩),.int .i64 ti,.int .i64 tg])),some (.inr (.inr (.inr (.pool m'))))]++rest):=by
   intro i g m' rest e;subst hG;refine⟨[0,1],?_,rfl,⟨.inl rfl,?_,trivial⟩,rfl,rfl,rfl,rfl⟩
   ·simp only[e];rfl
   ·simp only[e];rfl
  clear hG
  repeat' (first|apply And.intro|apply Vc.mk|apply fits.mk|intro h|apply Post.mk)
  all_goals (try simp only[sB] at *)
  all_goals first|contradiction|omega|exact vb1 ‹_›|exact vb2 ‹_›|exact vb3 ‹_›|exact⟨rfl,by omega⟩|exact rfl|(simp[*,-List.getD_eq_getElem?_getD];done)|skip
  all_goals first|assumption|(simp only[Gv.ok_s];assumption)|skip
  all_goals (refine done _ _ _ _ ?_;unfold Gv.level;(try dsimp only [Gv.W]);repeat' split)
  all_goals first|rfl|(exfalso;omega)
 ·cases hx
def hangP  (k:Nat):Prim Rs:=fun args hh=>match args,hh with
 |[.pointer (some ⟨0,0,none⟩),.agg ⟨[.int .i64 ri,.int .i64 rg]⟩,.agg ⟨[.int .i64 fi,.int .i64 fg]⟩,.agg ⟨kE⟩],[some (.inl (115,[.pointer (some ⟨1,0,none⟩),.int .i64 ti,.int .i64 tg])),some (.inr (.inr (.inr (.pool m))))]=>some ⟨kE=elL (elOf kE)/\(PP m/\Gv.Deep Sh.O9 k m ⟨ri,rg⟩),.agg ⟨[.int .i64 (Gv.hang Sh.O9 k m ⟨ri,rg⟩ ⟨fi,fg⟩ (elOf kE)).1.i,.int .i64 (Gv.hang Sh.O9 k m ⟨ri,rg⟩ ⟨fi,fg⟩ (elOf kE)).1.g]⟩,none,[some (.inl (115,[.pointer (some ⟨1,0,none⟩),.int .i64 ti,.int .i64 tg])),some (.inr (.inr (.inr (.pool (Gv.hang Sh.O9 k m ⟨ri,rg⟩ ⟨fi,fg⟩ (elOf kE)).2))))],[],[(0,0)]⟩
 |_,_=>none
def THang (k:Nat):Tab Rs:=[(82,liftC zN 2 (con1 Sh.scmpP)),(63,liftC zN 2 (con1 lookP)),(107,liftC zN 2 (con1 levelP)),(79,liftC zN 2 (con1 (hangP k)))]
theorem hang_ok:∀ k:Nat,ConOk D Tryz.prog 79 (con1 (hangP k))
 |0=>by
  refine prK Tryz.f79 fun args hh x hx=>?_
  unfold hangP at hx;split at hx
  ·rename_i ri rg fi fg kE ti tg m;injection hx with hx
   subst hx;refine q4 fun _ hv=>?_
   exact False.elim (And.right (And.right hv))
  ·cases hx
 |k+1=>by
  have ih:=hang_ok k;refine prK Tryz.f79 fun args hh x hx=>?_
  unfold hangP at hx;split at hx
  ·rename_i ri rg fi fg kE ti tg m;injection hx with hx
   subst hx;refine q4 fun _ hv=>?_
   obtain⟨hq0,hv⟩:=hv;generalize elOf kE=ke at *;subst hq0;obtain⟨hp,hd⟩:=hv
   generalize hG:Rx.Ends (R:=Rs) _ _=G;refine rx_ok (T:=(THang k)) (show TabOk D Tryz.prog (THang k) from⟨liftC_ok _ _ Sh.scmp_ok,liftC_ok _ _ look_ok,liftC_ok _ _ level_ok,liftC_ok _ _ ih,trivial⟩) mixed 200 ?_
   refine as_text (q:=let Z11:=Value.int IntKind.i64;let Z1:=(Gv.lk Sh.O9 m (Gv.Ref.mk ri rg));let Z2:=(Gv.see m (Gv.Ref.mk ri rg));let Z3:=(Gv.Node.mk (Gv.Node.e Z1) (Prod.fst (Gv.hang Sh.O9 k Z2 (Gv.Node.l Z1) (Gv.Ref.mk fi fg) ke)) (Gv.Node.r Z1) (Gv.Node.all Z1) (Gv.Node.h Z1));let Z4:=(Prod.snd (Gv.hang Sh.O9 k Z2 (Gv.Node.l Z1) (Gv.Ref.mk fi fg) ke));let Z5:=(Gv.Ref.i (Prod.fst (Gv.level Sh.O9 Z4 (Gv.Ref.mk ri rg) Z3)));let Z6:=(Gv.Ref.g (Prod.fst (Gv.level Sh.O9 Z4 (Gv.Ref.mk ri rg) Z3)));let Z7:=(Gv.Node.mk (Gv.Node.e Z1) (Gv.Node.l Z1) (Prod.fst (Gv.hang Sh.O9 k Z2 (Gv.Node.r Z1) (Gv.Ref.mk fi fg) ke)) (Gv.Node.all Z1) (Gv.Node.h Z1));let Z8:=(Prod.snd (Gv.hang Sh.O9 k Z2 (Gv.Node.r Z1) (Gv.Ref.mk fi fg) ke));let Z9:=(Gv.Ref.i (Prod.fst (Gv.level Sh.O9 Z8 (Gv.Ref.mk ri rg) Z7)));let Z10:=(Gv.Ref.g (Prod.fst (Gv.level Sh.O9 Z8 (Gv.Ref.mk ri rg) Z7)));Vc (PP m)/\((Gv.Node.h Z1==(0:Int))=true->Post (G (Value.agg (Array.mk [Z11 fi,Z11 fg])) [trB 1 ti tg,oP Z2,some (.inl (90,[Z11 ri,Z11 rg])),some (.inl (90,[Z11 fi,Z11 fg])),some (.inl (75,(elL ke))),some (.inl (90,[Z11 fi,Z11 fg])),some (.inl (111,(ndL Z1)))]))/\((Gv.Node.h Z1==(0:Int))=false->Vc True/\Vc True/\(decide (Gv.Ops.cmp Sh.O9 ke (Gv.Node.e Z1)<(0:Int))=true->Vc ((elL ke)=elL ke/\PP Z2/\Gv.Deep Sh.O9 k Z2 (Gv.Node.l Z1))/\Vc ((ndL Z3)=ndL Z3/\PP Z4)/\Post (G (Value.agg (Array.mk [Z11 Z5,Z11 Z6])) [trB 1 ti tg,oP (Prod.snd (Gv.level Sh.O9 Z4 (Gv.Ref.mk ri rg) Z3)),some (.inl (90,[Z11 ri,Z11 rg])),some (.inl (90,[Z11 fi,Z11 fg])),some (.inl (75,(elL ke))),some (.inl (90,[Z11 Z5,Z11 Z6])),some (.inl (111,(ndL Z3)))]))/\(decide (Gv.Ops.cmp Sh.O9 ke (Gv.Node.e Z1)<(0:Int))=false->Vc ((elL ke)=elL ke/\PP Z2/\Gv.Deep Sh.O9 k Z2 (Gv.Node.r Z1))/\Vc ((ndL Z7)=ndL Z7/\PP Z8)/\Post (G (Value.agg (Array.mk [Z11 Z9,Z11 Z10])) [trB 1 ti tg,oP (Prod.snd (Gv.level Sh.O9 Z8 (Gv.Ref.mk ri rg) Z7)),some (.inl (90,[Z11 ri,Z11 rg])),some (.inl (90,[Z11 fi,Z11 fg])),some (.inl (75,(elL ke))),some (.inl (90,[Z11 Z9,Z11 Z10])),some (.inl (111,(ndL Z7)))])))) ?_ (by kernel_rfl)
   intro Z11 Z1 Z2 Z3 Z4 Z5 Z6 Z7 Z8 Z9 Z10;subst Z10 Z9 Z8 Z7 Z6 Z5 Z4 Z3 Z2 Z1 Z11;simp only[Gv.Deep] at hd;have done:∀ (i g:Int) (m':Pl) (rest:Hp Rs),Gv.hang Sh.O9 (k+1) m ⟨ri,rg⟩ ⟨fi,fg⟩ ke=(⟨i,g⟩,m')->G (.agg ⟨[.int .i64 i,.int .i64 g]⟩) ([some (.inl (115,[.pointer (some ⟨1,0,none⟩),.int .i64 ti,.int .i64 tg])),some (.inr (.inr (.inr (.pool m'))))]++rest):=by
    intro i g m' rest e;subst hG;refine⟨[0,1],?_,rfl,⟨.inl rfl,?_,trivial⟩,rfl,rfl,rfl,rfl⟩
    ·simp only[e];rfl
    ·simp only[e];rfl
   clear hG
   repeat' (first|apply And.intro|apply Vc.mk|apply fits.mk|intro h|apply Post.mk)
   all_goals (try simp only[sB] at *)
   all_goals first|contradiction|omega|exact vb1 ‹_›|exact vb2 ‹_›|exact vb3 ‹_›|exact⟨rfl,by omega⟩|exact rfl|(simp[*,-List.getD_eq_getElem?_getD];done)|skip
   all_goals first|assumption|(simp only[Gv.ok_s];assumption)|skip
   all_goals first|(rw[Gv.Deep_see];rcases hd with hd|hd;exfalso;omega;first|exact hd.1|exact hd.2)|skip
   all_goals (refine done _ _ _ _ ?_;rw[Gv.hang];(try dsimp only [Gv.W]);repeat' split)
   all_goals first|rfl|(exfalso;omega)|contradiction|exact Prod.ext (Eq.symm (by assumption)) rfl|(exfalso;simp_all;done)
  ·cases hx
def replaceP  (k:Nat):Prim Rs:=fun args hh=>match args,hh with
 |[.pointer (some ⟨0,0,none⟩),.agg ⟨[.int .i64 ri,.int .i64 rg]⟩,.agg ⟨kE⟩],[some (.inl (115,[.pointer (some ⟨1,0,none⟩),.int .i64 ti,.int .i64 tg])),some (.inr (.inr (.inr (.pool m))))]=>some ⟨kE=elL (elOf kE)/\(PP m/\Gv.Deep Sh.O9 k m ⟨ri,rg⟩),.bool (Gv.replace Sh.O9 k m ⟨ri,rg⟩ (elOf kE)).1,none,[some (.inl (115,[.pointer (some ⟨1,0,none⟩),.int .i64 ti,.int .i64 tg])),some (.inr (.inr (.inr (.pool (Gv.replace Sh.O9 k m ⟨ri,rg⟩ (elOf kE)).2))))],[],[(0,0)]⟩
 |_,_=>none
def TRepl (k:Nat):Tab Rs:=[(82,liftC zN 2 (con1 Sh.scmpP)),(63,liftC zN 2 (con1 lookP)),(105,liftC zN 2 (con1 tieP)),(76,liftC zN 2 (con1 (replaceP k)))]
theorem replace_ok:∀ k:Nat,ConOk D Tryz.prog 76 (con1 (replaceP k))
 |0=>by
  refine prK Tryz.f76 fun args hh x hx=>?_
  unfold replaceP at hx;split at hx
  ·rename_i ri rg kE ti tg m;injection hx with hx
   subst hx;refine q4 fun _ hv=>?_
   exact False.elim (And.right (And.right hv))
  ·cases hx
 |k+1=>by
  have ih:=replace_ok k;refine prK Tryz.f76 fun args hh x hx=>?_
  unfold replaceP at hx;split at hx
  ·rename_i ri rg kE ti tg m;injection hx with hx
   subst hx;refine q4 fun _ hv=>?_
   obtain⟨hq0,hv⟩:=hv;generalize elOf kE=ke at *;subst hq0;obtain⟨hp,hd⟩:=hv
   generalize hG:Rx.Ends (R:=Rs) _ _=G;refine rx_ok (T:=(TRepl k)) (show TabOk D Tryz.prog (TRepl k) from⟨liftC_ok _ _ Sh.scmp_ok,liftC_ok _ _ look_ok,liftC_ok _ _ tie_ok,liftC_ok _ _ ih,trivial⟩) mixed 200 ?_
   refine as_text (q:=let Z6:=Value.int IntKind.i64;let Z1:=(Gv.lk Sh.O9 m (Gv.Ref.mk ri rg));let Z2:=(Gv.see m (Gv.Ref.mk ri rg));let Z3:=(Gv.replace Sh.O9 k Z2 (Gv.Node.l Z1) ke);let Z4:=(Gv.replace Sh.O9 k Z2 (Gv.Node.r Z1) ke);let Z5:=(Gv.Node.mk ke (Gv.Node.l Z1) (Gv.Node.r Z1) (Gv.Node.all Z1) (Gv.Node.h Z1));Vc (PP m)/\((Gv.Node.h Z1==(0:Int))=true->Post (G (Value.bool false) [trB 1 ti tg,oP Z2,some (.inl (90,[Z6 ri,Z6 rg])),some (.inl (75,(elL ke))),some (.inl (111,(ndL Z1)))]))/\((Gv.Node.h Z1==(0:Int))=false->Vc True/\Vc True/\(decide (Gv.Ops.cmp Sh.O9 ke (Gv.Node.e Z1)<(0:Int))=true->Vc ((elL ke)=elL ke/\PP Z2/\Gv.Deep Sh.O9 k Z2 (Gv.Node.l Z1))/\(Prod.fst Z3=true->Vc ((ndL Z1)=ndL Z1/\PP (Prod.snd Z3))/\Post (G (Value.bool (Prod.fst Z3)) [trB 1 ti tg,oP (Gv.tie Sh.O9 (Prod.snd Z3) (Gv.Ref.mk ri rg) Z1),some (.inl (90,[Z6 ri,Z6 rg])),some (.inl (75,(elL ke))),some (.inl (111,(ndL Z1)))]))/\(Prod.fst Z3=false->Post (G (Value.bool (Prod.fst Z3)) [trB 1 ti tg,oP (Prod.snd Z3),some (.inl (90,[Z6 ri,Z6 rg])),some (.inl (75,(elL ke))),some (.inl (111,(ndL Z1)))])))/\(decide (Gv.Ops.cmp Sh.O9 ke (Gv.Node.e Z1)<(0:Int))=false->(decide (Gv.Ops.cmp Sh.O9 ke (Gv.Node.e Z1)>(0:Int))=true->Vc ((elL ke)=elL ke/\PP Z2/\Gv.Deep Sh.O9 k Z2 (Gv.Node.r Z1))/\(Prod.fst Z4=true->Vc ((ndL Z1)=ndL Z1/\PP (Prod.snd Z4))/\Post (G (Value.bool (Prod.fst Z4)) [trB 1 ti tg,oP (Gv.tie Sh.O9 (Prod.snd Z4) (Gv.Ref.mk ri rg) Z1),some (.inl (90,[Z6 ri,Z6 rg])),some (.inl (75,(elL ke))),some (.inl (111,(ndL Z1)))]))/\(Prod.fst Z4=false->Post (G (Value.bool (Prod.fst Z4)) [trB 1 ti tg,oP (Prod.snd Z4),some (.inl (90,[Z6 ri,Z6 rg])),some (.inl (75,(elL ke))),some (.inl (111,(ndL Z1)))])))/\(decide (Gv.Ops.cmp Sh.O9 ke (Gv.Node.e Z1)>(0:Int))=false->Vc ((ndL Z5)=ndL Z5/\PP Z2)/\Post (G (Value.bool true) [trB 1 ti tg,oP (Gv.tie Sh.O9 Z2 (Gv.Ref.mk ri rg) Z5),some (.inl (90,[Z6 ri,Z6 rg])),some (.inl (75,(elL ke))),some (.inl (111,(ndL Z5)))]))))) ?_ (by kernel_rfl)
   intro Z6 Z1 Z2 Z3 Z4 Z5;subst Z5 Z4 Z3 Z2 Z1 Z6;simp only[Gv.Deep] at hd;have done:∀ (b:Bool) (m':Pl) (rest:Hp Rs),Gv.replace Sh.O9 (k+1) m ⟨ri,rg⟩ ke=(b,m')->G (.bool b) ([some (.inl (115,[.pointer (some ⟨1,0,none⟩),.int .i64 ti,.int .i64 tg])),some (.inr (.inr (.inr (.pool m'))))]++rest):=by
    intro b m' rest e;subst hG;refine⟨[0,1],?_,rfl,⟨.inl rfl,?_,trivial⟩,rfl,rfl,rfl,rfl⟩
    ·simp only[e];rfl
    ·simp only[e];rfl
   clear hG
   repeat' (first|apply And.intro|apply Vc.mk|apply fits.mk|intro h|apply Post.mk)
   all_goals (try simp only[sB] at *)
   all_goals first|contradiction|omega|exact vb1 ‹_›|exact vb2 ‹_›|exact vb3 ‹_›|exact⟨rfl,by omega⟩|exact rfl|(simp[*,-List.getD_eq_getElem?_getD];done)|skip
   all_goals first|assumption|(simp only[Gv.ok_s];assumption)|skip
   all_goals first|(rw[Gv.Deep_see];rcases hd with hd|hd;exfalso;omega;first|exact hd.1|exact hd.2)|skip
   all_goals (refine done _ _ _ ?_;rw[Gv.replace];(try dsimp only [Gv.W]);repeat' split)
   all_goals first|rfl|(exfalso;omega)|contradiction|exact Prod.ext (Eq.symm (by assumption)) rfl|(exfalso;simp_all;done)
  ·cases hx
def pickFP  (k:Nat):Prim Rs:=fun args hh=>match args,hh with
 |[.pointer (some ⟨0,0,none⟩),.agg ⟨[.int .i64 ri,.int .i64 rg]⟩],[some (.inl (115,[.pointer (some ⟨1,0,none⟩),.int .i64 ti,.int .i64 tg])),some (.inr (.inr (.inr (.pool m))))]=>some ⟨PP m/\Gv.PickFD Sh.O9 k m ⟨ri,rg⟩,.tuple #[.agg ⟨[.int .i64 (Gv.pickF Sh.O9 k m ⟨ri,rg⟩).1.i,.int .i64 (Gv.pickF Sh.O9 k m ⟨ri,rg⟩).1.g]⟩,.agg ⟨[.int .i64 (Gv.pickF Sh.O9 k m ⟨ri,rg⟩).2.1.i,.int .i64 (Gv.pickF Sh.O9 k m ⟨ri,rg⟩).2.1.g]⟩],none,[some (.inl (115,[.pointer (some ⟨1,0,none⟩),.int .i64 ti,.int .i64 tg])),some (.inr (.inr (.inr (.pool (Gv.pickF Sh.O9 k m ⟨ri,rg⟩).2.2))))],[],[(0,0)]⟩
 |_,_=>none
def TPickF (k:Nat):Tab Rs:=[(63,liftC zN 2 (con1 lookP)),(107,liftC zN 2 (con1 levelP)),(128,liftC zN 2 (con1 (pickFP k)))]
theorem pickF_ok:∀ k:Nat,ConOk D Tryz.prog 128 (con1 (pickFP k))
 |0=>by
  refine prK Tryz.f128 fun args hh x hx=>?_
  unfold pickFP at hx;split at hx
  ·rename_i ri rg ti tg m;injection hx with hx
   subst hx;refine q4 fun _ hv=>?_
   exact False.elim (And.right hv)
  ·cases hx
 |k+1=>by
  have ih:=pickF_ok k;refine prK Tryz.f128 fun args hh x hx=>?_
  unfold pickFP at hx;split at hx
  ·rename_i ri rg ti tg m;injection hx with hx
   subst hx;refine q4 fun _ hv=>?_
   obtain⟨hp,hd⟩:=hv;generalize hG:Rx.Ends (R:=Rs) _ _=G;refine rx_ok (T:=(TPickF k)) (show TabOk D Tryz.prog (TPickF k) from⟨liftC_ok _ _ look_ok,liftC_ok _ _ level_ok,liftC_ok _ _ ih,trivial⟩) mixed 200 ?_
   refine as_text (q:=let Z9:=Value.int IntKind.i64;let Z1:=(Gv.lk Sh.O9 m (Gv.Ref.mk ri rg));let Z2:=(if false=true then !(Gv.Ref.i (Gv.Node.l Z1)==(0:Int)&&(Gv.Ref.g (Gv.Node.l Z1)==(0:Int)&&true)) else Gv.Ref.i (Gv.Node.l Z1)==(0:Int)&&(Gv.Ref.g (Gv.Node.l Z1)==(0:Int)&&true));let Z3:=(Gv.see m (Gv.Ref.mk ri rg));let Z4:=(Gv.Node.mk (Gv.Node.e Z1) (Prod.fst (Gv.pickF Sh.O9 k Z3 (Gv.Node.l Z1))) (Gv.Node.r Z1) (Gv.Node.all Z1) (Gv.Node.h Z1));let Z5:=(Prod.snd (Prod.snd (Gv.pickF Sh.O9 k Z3 (Gv.Node.l Z1))));let Z6:=(Gv.Ref.i (Prod.fst (Gv.level Sh.O9 Z5 (Gv.Ref.mk ri rg) Z4)));let Z7:=(Gv.Ref.g (Prod.fst (Gv.level Sh.O9 Z5 (Gv.Ref.mk ri rg) Z4)));let Z8:=(Prod.fst (Prod.snd (Gv.pickF Sh.O9 k Z3 (Gv.Node.l Z1))));Vc (PP m)/\(Z2=true->Post (G (Value.tuple (Array.mk [Value.agg (Array.mk [Z9 (Gv.Ref.i (Gv.Node.r Z1)),Z9 (Gv.Ref.g (Gv.Node.r Z1))]),Value.agg (Array.mk [Z9 ri,Z9 rg])])) [trB 1 ti tg,oP Z3,some (.inl (90,[Z9 ri,Z9 rg])),some (.inl (90,[Z9 (Gv.Ref.i (Gv.Node.r Z1)),Z9 (Gv.Ref.g (Gv.Node.r Z1))])),some (.inl (90,[Z9 ri,Z9 rg])),some (.inl (111,(ndL Z1)))]))/\(Z2=false->Vc (PP Z3/\Gv.PickFD Sh.O9 k Z3 (Gv.Node.l Z1))/\Vc ((ndL Z4)=ndL Z4/\PP Z5)/\Post (G (Value.tuple (Array.mk [Value.agg (Array.mk [Z9 Z6,Z9 Z7]),Value.agg (Array.mk [Z9 (Gv.Ref.i Z8),Z9 (Gv.Ref.g Z8)])])) [trB 1 ti tg,oP (Prod.snd (Gv.level Sh.O9 Z5 (Gv.Ref.mk ri rg) Z4)),some (.inl (90,[Z9 ri,Z9 rg])),some (.inl (90,[Z9 Z6,Z9 Z7])),some (.inl (90,[Z9 (Gv.Ref.i Z8),Z9 (Gv.Ref.g Z8)])),some (.inl (111,(ndL Z4)))]))) ?_ (by kernel_rfl)
   intro Z9 Z1 Z2 Z3 Z4 Z5 Z6 Z7 Z8;subst Z8 Z7 Z6 Z5 Z4 Z3 Z2 Z1 Z9;simp only[Gv.PickFD] at hd;have done:∀ (i g i2 g2:Int) (m':Pl) (rest:Hp Rs),Gv.pickF Sh.O9 (k+1) m ⟨ri,rg⟩=(⟨i,g⟩,⟨i2,g2⟩,m')->G (.tuple #[.agg ⟨[.int .i64 i,.int .i64 g]⟩,.agg ⟨[.int .i64 i2,.int .i64 g2]⟩]) ([some (.inl (115,[.pointer (some ⟨1,0,none⟩),.int .i64 ti,.int .i64 tg])),some (.inr (.inr (.inr (.pool m'))))]++rest):=by
    intro i g i2 g2 m' rest e;subst hG;refine⟨[0,1],?_,rfl,⟨.inl rfl,?_,trivial⟩,rfl,rfl,rfl,rfl⟩
    ·simp only[e];rfl
    ·simp only[e];rfl
   clear hG
   try simp only[Gv.eq0,Gv.ref_eta]
   repeat' (first|apply And.intro|apply Vc.mk|apply fits.mk|intro h|apply Post.mk)
   all_goals (try simp only[sB] at *)
   all_goals first|contradiction|omega|exact vb1 ‹_›|exact vb2 ‹_›|exact vb3 ‹_›|exact⟨rfl,by omega⟩|exact rfl|(simp[*,-List.getD_eq_getElem?_getD];done)|skip
   all_goals first|assumption|(simp only[Gv.ok_s];assumption)|skip
   all_goals first|(rw[Gv.PickFD_see];first|assumption|(rw[if_neg (by assumption),Gv.PickFD_see] at hd;exact hd))|skip
   all_goals (refine done _ _ _ _ _ _ ?_;rw[Gv.pickF];(try dsimp only [Gv.W]);repeat' split)
   all_goals first|rfl|(exfalso;omega)|contradiction|exact Prod.ext (Eq.symm (by assumption)) rfl|(exfalso;simp_all;done)
  ·cases hx
def linkP  (k:Nat):Prim Rs:=fun args hh=>match args,hh with
 |[.pointer (some ⟨0,0,none⟩),.agg ⟨[.int .i64 ai,.int .i64 ag]⟩,.agg ⟨[.int .i64 bi,.int .i64 bg]⟩,.agg ⟨[.int .i64 ci,.int .i64 cg]⟩],[some (.inl (115,[.pointer (some ⟨1,0,none⟩),.int .i64 ti,.int .i64 tg])),some (.inr (.inr (.inr (.pool m))))]=>some ⟨PP m/\Gv.LinkD Sh.O9 k m ⟨ai,ag⟩ ⟨bi,bg⟩ ⟨ci,cg⟩,.agg ⟨[.int .i64 (Gv.link Sh.O9 k m ⟨ai,ag⟩ ⟨bi,bg⟩ ⟨ci,cg⟩).1.i,.int .i64 (Gv.link Sh.O9 k m ⟨ai,ag⟩ ⟨bi,bg⟩ ⟨ci,cg⟩).1.g]⟩,none,[some (.inl (115,[.pointer (some ⟨1,0,none⟩),.int .i64 ti,.int .i64 tg])),some (.inr (.inr (.inr (.pool (Gv.link Sh.O9 k m ⟨ai,ag⟩ ⟨bi,bg⟩ ⟨ci,cg⟩).2))))],[],[(0,0)]⟩
 |_,_=>none
def TLink (k:Nat):Tab Rs:=[(1000000000,wrapCon),(63,liftC zN 2 (con1 lookP)),(107,liftC zN 2 (con1 levelP)),(121,liftC zN 2 (con1 setNP)),(129,liftC zN 2 (con1 (linkP k)))]
theorem link_ok:∀ k:Nat,ConOk D Tryz.prog 129 (con1 (linkP k))
 |0=>by
  refine prK Tryz.f129 fun args hh x hx=>?_
  unfold linkP at hx;split at hx
  ·rename_i ai ag bi bg ci cg ti tg m;injection hx with hx
   subst hx;refine q4 fun _ hv=>?_
   exact False.elim (And.right hv)
  ·cases hx
 |k+1=>by
  have ih:=link_ok k;refine prK Tryz.f129 fun args hh x hx=>?_
  unfold linkP at hx;split at hx
  ·rename_i ai ag bi bg ci cg ti tg m;injection hx with hx
   subst hx;refine q4 fun _ hv=>?_
   obtain⟨hp,hd⟩:=hv;generalize hG:Rx.Ends (R:=Rs) _ _=G;refine rx_ok (T:=(TLink k)) (show TabOk D Tryz.prog (TLink k) from⟨wrapCon_ok,liftC_ok _ _ look_ok,liftC_ok _ _ level_ok,liftC_ok _ _ setN_ok,liftC_ok _ _ ih,trivial⟩) mixed 200 ?_
   refine as_text (q:=let Z14:=Value.int IntKind.i64;let Z1:=(Gv.Ref.mk ai ag);let Z2:=(Gv.lk Sh.O9 m Z1);let Z3:=(Gv.Ref.mk ci cg);let Z4:=(Gv.lk Sh.O9 (Gv.see m Z1) Z3);let Z5:=(Gv.Node.h Z2>IntKind.wrap IntKind.i64 (Gv.Node.h Z4+(1:Int)));let Z6:=(Gv.see (Gv.see m Z1) Z3);let Z7:=(Gv.Ref.mk bi bg);let Z8:=(Gv.Node.mk (Gv.Node.e Z2) (Gv.Node.l Z2) (Prod.fst (Gv.link Sh.O9 k Z6 (Gv.Node.r Z2) Z7 Z3)) (Gv.Node.all Z2) (Gv.Node.h Z2));let Z9:=(Gv.level Sh.O9 (Prod.snd (Gv.link Sh.O9 k Z6 (Gv.Node.r Z2) Z7 Z3)) Z1 Z8);let Z10:=(Gv.Node.h Z4>IntKind.wrap IntKind.i64 (Gv.Node.h Z2+(1:Int)));let Z11:=(Gv.Node.mk (Gv.Node.e Z4) (Prod.fst (Gv.link Sh.O9 k Z6 Z1 Z7 (Gv.Node.l Z4))) (Gv.Node.r Z4) (Gv.Node.all Z4) (Gv.Node.h Z4));let Z12:=(Gv.level Sh.O9 (Prod.snd (Gv.link Sh.O9 k Z6 Z1 Z7 (Gv.Node.l Z4))) Z3 Z11);let Z13:=(Gv.Node.mk (Gv.Node.e (Gv.lk Sh.O9 Z6 Z7)) Z1 Z3 (Gv.Node.all (Gv.lk Sh.O9 Z6 Z7)) (Gv.Node.h (Gv.lk Sh.O9 Z6 Z7)));Vc (PP m)/\Vc (PP (Gv.see m Z1))/\Vc True/\(decide Z5=true->Vc (PP Z6/\Gv.LinkD Sh.O9 k Z6 (Gv.Node.r Z2) Z7 Z3)/\Vc ((ndL Z8)=ndL Z8/\PP (Prod.snd (Gv.link Sh.O9 k Z6 (Gv.Node.r Z2) Z7 Z3)))/\Post (G (Value.agg (Array.mk [Z14 (Gv.Ref.i (Prod.fst Z9)),Z14 (Gv.Ref.g (Prod.fst Z9))])) [trB 1 ti tg,oP (Prod.snd Z9),some (.inl (90,[Z14 ai,Z14 ag])),some (.inl (90,[Z14 bi,Z14 bg])),some (.inl (90,[Z14 ci,Z14 cg])),some (.inl (90,[Z14 (Gv.Ref.i (Prod.fst Z9)),Z14 (Gv.Ref.g (Prod.fst Z9))])),some (.inl (111,(ndL Z8))),some (.inl (111,(ndL Z4)))]))/\(decide Z5=false->Vc True/\(decide Z10=true->Vc (PP Z6/\Gv.LinkD Sh.O9 k Z6 Z1 Z7 (Gv.Node.l Z4))/\Vc ((ndL Z11)=ndL Z11/\PP (Prod.snd (Gv.link Sh.O9 k Z6 Z1 Z7 (Gv.Node.l Z4))))/\Post (G (Value.agg (Array.mk [Z14 (Gv.Ref.i (Prod.fst Z12)),Z14 (Gv.Ref.g (Prod.fst Z12))])) [trB 1 ti tg,oP (Prod.snd Z12),some (.inl (90,[Z14 ai,Z14 ag])),some (.inl (90,[Z14 bi,Z14 bg])),some (.inl (90,[Z14 ci,Z14 cg])),some (.inl (90,[Z14 (Gv.Ref.i (Prod.fst Z12)),Z14 (Gv.Ref.g (Prod.fst Z12))])),some (.inl (111,(ndL Z2))),some (.inl (111,(ndL Z11)))]))/\(decide Z10=false->Vc (PP Z6)/\Vc ((ndL Z13)=ndL Z13/\(ndL Z2)=ndL Z2/\(ndL Z4)=ndL Z4/\PP (Gv.see Z6 Z7))/\Post (G (Value.agg (Array.mk [Z14 bi,Z14 bg])) [trB 1 ti tg,oP (Gv.setN Sh.O9 (Gv.see Z6 Z7) Z7 Z13 Z2 Z4),some (.inl (90,[Z14 ai,Z14 ag])),some (.inl (90,[Z14 bi,Z14 bg])),some (.inl (90,[Z14 ci,Z14 cg])),some (.inl (90,[Z14 bi,Z14 bg])),some (.inl (111,(ndL Z2))),some (.inl (111,(ndL Z4))),some (.inl (111,(ndL Z13)))])))) ?_ (by kernel_rfl)
   intro Z14 Z1 Z2 Z3 Z4 Z5 Z6 Z7 Z8 Z9 Z10 Z11 Z12 Z13;subst Z13 Z12 Z11 Z10 Z9 Z8 Z7 Z6 Z5 Z4 Z3 Z2 Z1 Z14;rw[Gv.LinkD] at hd
   dsimp only [Gv.W] at hd
   have done:∀ (i g:Int) (m':Pl) (rest:Hp Rs),Gv.link Sh.O9 (k+1) m ⟨ai,ag⟩ ⟨bi,bg⟩ ⟨ci,cg⟩=(⟨i,g⟩,m')->G (.agg ⟨[.int .i64 i,.int .i64 g]⟩) ([some (.inl (115,[.pointer (some ⟨1,0,none⟩),.int .i64 ti,.int .i64 tg])),some (.inr (.inr (.inr (.pool m'))))]++rest):=by
    intro i g m' rest e;subst hG;refine⟨[0,1],?_,rfl,⟨.inl rfl,?_,trivial⟩,rfl,rfl,rfl,rfl⟩
    ·simp only[e];rfl
    ·simp only[e];rfl
   clear hG
   repeat' (first|apply And.intro|apply Vc.mk|apply fits.mk|intro h|apply Post.mk)
   all_goals (try simp only[sB] at *)
   all_goals first|contradiction|omega|exact vb1 ‹_›|exact vb2 ‹_›|exact vb3 ‹_›|exact⟨rfl,by omega⟩|exact rfl|(simp[*,-List.getD_eq_getElem?_getD];done)|skip
   all_goals first|assumption|(simp only[Gv.ok_s];assumption)|skip
   all_goals first|(rw[if_pos (by assumption)] at hd;exact hd)|(rw[if_neg (by omega),if_pos (by assumption)] at hd;exact hd)|skip
   all_goals (refine done _ _ _ _ ?_;rw[Gv.link];(try dsimp only [Gv.W]);repeat' split)
   all_goals first|rfl|(exfalso;omega)|contradiction|exact Prod.ext (Eq.symm (by assumption)) rfl|(exfalso;simp_all;done)
  ·cases hx
def glueP (K:Nat):Prim Rs:=fun args hh=>match args,hh with
 |[.pointer (some ⟨0,0,none⟩),.agg ⟨[.int .i64 ai,.int .i64 ag]⟩,.agg ⟨[.int .i64 ci,.int .i64 cg]⟩],[some (.inl (115,[.pointer (some ⟨1,0,none⟩),.int .i64 ti,.int .i64 tg])),some (.inr (.inr (.inr (.pool m))))]=>some ⟨PP m/\Gv.GlueD Sh.O9 K m ⟨ai,ag⟩ ⟨ci,cg⟩,.agg ⟨[.int .i64 (Gv.glue Sh.O9 K m ⟨ai,ag⟩ ⟨ci,cg⟩).1.i,.int .i64 (Gv.glue Sh.O9 K m ⟨ai,ag⟩ ⟨ci,cg⟩).1.g]⟩,none,[some (.inl (115,[.pointer (some ⟨1,0,none⟩),.int .i64 ti,.int .i64 tg])),some (.inr (.inr (.inr (.pool (Gv.glue Sh.O9 K m ⟨ai,ag⟩ ⟨ci,cg⟩).2))))],[],[(0,0)]⟩
 |_,_=>none
def TGlue (K:Nat):Tab Rs:=[(128,liftC zN 2 (con1 (pickFP K))),(129,liftC zN 2 (con1 (linkP K)))]
theorem glue_ok (K:Nat):ConOk D Tryz.prog 114 (con1 (glueP K)):=by
 refine prK Tryz.f114 fun args hh x hx=>?_
 unfold glueP at hx;split at hx
 ·rename_i ai ag ci cg ti tg m;injection hx with hx
  subst hx;refine q4 fun _ hv=>?_
  obtain⟨hp,hd⟩:=hv;generalize hG:Rx.Ends (R:=Rs) _ _=G;refine rx_ok (T:=(TGlue K)) (show TabOk D Tryz.prog (TGlue K) from⟨liftC_ok _ _ (pickF_ok K),liftC_ok _ _ (link_ok K),trivial⟩) mixed 200 ?_
  refine as_text (q:=let Z7:=Value.int IntKind.i64;let Z1:=(if false=true then !(ci==(0:Int)&&(cg==(0:Int)&&true)) else ci==(0:Int)&&(cg==(0:Int)&&true));let Z2:=(Prod.snd (Prod.snd (Gv.pickF Sh.O9 K m (Gv.Ref.mk ci cg))));let Z3:=(Prod.fst (Prod.snd (Gv.pickF Sh.O9 K m (Gv.Ref.mk ci cg))));let Z4:=(Prod.fst (Gv.pickF Sh.O9 K m (Gv.Ref.mk ci cg)));let Z5:=(Gv.Ref.i (Prod.fst (Gv.link Sh.O9 K Z2 (Gv.Ref.mk ai ag) Z3 Z4)));let Z6:=(Gv.Ref.g (Prod.fst (Gv.link Sh.O9 K Z2 (Gv.Ref.mk ai ag) Z3 Z4)));(Z1=true->Post (G (Value.agg (Array.mk [Z7 ai,Z7 ag])) [trB 1 ti tg,oP m,some (.inl (90,[Z7 ai,Z7 ag])),some (.inl (90,[Z7 ci,Z7 cg])),some (.inl (90,[Z7 ai,Z7 ag]))]))/\(Z1=false->Vc (PP m/\Gv.PickFD Sh.O9 K m (Gv.Ref.mk ci cg))/\Vc (PP Z2/\Gv.LinkD Sh.O9 K Z2 (Gv.Ref.mk ai ag) Z3 Z4)/\Post (G (Value.agg (Array.mk [Z7 Z5,Z7 Z6])) [trB 1 ti tg,oP (Prod.snd (Gv.link Sh.O9 K Z2 (Gv.Ref.mk ai ag) Z3 Z4)),some (.inl (90,[Z7 ai,Z7 ag])),some (.inl (90,[Z7 ci,Z7 cg])),some (.inl (90,[Z7 Z5,Z7 Z6])),some (.inl (90,[Z7 (Gv.Ref.i Z4),Z7 (Gv.Ref.g Z4)])),some (.inl (90,[Z7 (Gv.Ref.i Z3),Z7 (Gv.Ref.g Z3)]))]))) ?_ (by kernel_rfl)
  intro Z7 Z1 Z2 Z3 Z4 Z5 Z6;subst Z6 Z5 Z4 Z3 Z2 Z1 Z7;unfold Gv.GlueD at hd;have done:∀ (i g:Int) (m':Pl) (rest:Hp Rs),Gv.glue Sh.O9 K m ⟨ai,ag⟩ ⟨ci,cg⟩=(⟨i,g⟩,m')->G (.agg ⟨[.int .i64 i,.int .i64 g]⟩) ([some (.inl (115,[.pointer (some ⟨1,0,none⟩),.int .i64 ti,.int .i64 tg])),some (.inr (.inr (.inr (.pool m'))))]++rest):=by
   intro i g m' rest e;subst hG;refine⟨[0,1],?_,rfl,⟨.inl rfl,?_,trivial⟩,rfl,rfl,rfl,rfl⟩
   ·simp only[e];rfl
   ·simp only[e];rfl
  clear hG
  try simp only[Gv.eq0,Gv.ref_eta]
  repeat' (first|apply And.intro|apply Vc.mk|apply fits.mk|intro h|apply Post.mk)
  all_goals (try simp only[sB] at *)
  all_goals first|contradiction|omega|exact vb1 ‹_›|exact vb2 ‹_›|exact vb3 ‹_›|exact⟨rfl,by omega⟩|exact rfl|(simp[*,-List.getD_eq_getElem?_getD];done)|skip
  all_goals first|assumption|(simp only[Gv.ok_s];assumption)|skip
  all_goals first|(rw[if_neg (by assumption)] at hd;first|exact hd.1|exact hd.2)|skip
  all_goals (refine done _ _ _ _ ?_;unfold Gv.glue;(try dsimp only [Gv.W]);repeat' split)
  all_goals first|rfl|(exfalso;omega)|contradiction|exact Prod.ext (Eq.symm (by assumption)) rfl|(exfalso;simp_all;done)
 ·cases hx
def pickP (K:Nat) (k:Nat):Prim Rs:=fun args hh=>match args,hh with
 |[.pointer (some ⟨0,0,none⟩),.agg ⟨[.int .i64 ri,.int .i64 rg]⟩,.agg ⟨kE⟩],[some (.inl (115,[.pointer (some ⟨1,0,none⟩),.int .i64 ti,.int .i64 tg])),some (.inr (.inr (.inr (.pool m))))]=>some ⟨kE=elL (elOf kE)/\(PP m/\Gv.PickD Sh.O9 K k m ⟨ri,rg⟩ (elOf kE)),.tuple #[.agg ⟨[.int .i64 (Gv.pick Sh.O9 K k m ⟨ri,rg⟩ (elOf kE)).1.i,.int .i64 (Gv.pick Sh.O9 K k m ⟨ri,rg⟩ (elOf kE)).1.g]⟩,.agg ⟨[.int .i64 (Gv.pick Sh.O9 K k m ⟨ri,rg⟩ (elOf kE)).2.1.i,.int .i64 (Gv.pick Sh.O9 K k m ⟨ri,rg⟩ (elOf kE)).2.1.g]⟩],none,[some (.inl (115,[.pointer (some ⟨1,0,none⟩),.int .i64 ti,.int .i64 tg])),some (.inr (.inr (.inr (.pool (Gv.pick Sh.O9 K k m ⟨ri,rg⟩ (elOf kE)).2.2))))],[],[(0,0)]⟩
 |_,_=>none
def TPick (K:Nat) (k:Nat):Tab Rs:=[(82,liftC zN 2 (con1 Sh.scmpP)),(63,liftC zN 2 (con1 lookP)),(107,liftC zN 2 (con1 levelP)),(114,liftC zN 2 (con1 (glueP K))),(91,liftC zN 2 (con1 (pickP K k)))]
theorem pick_ok (K:Nat):∀ k:Nat,ConOk D Tryz.prog 91 (con1 (pickP K k))
 |0=>by
  refine prK Tryz.f91 fun args hh x hx=>?_
  unfold pickP at hx;split at hx
  ·rename_i ri rg kE ti tg m;injection hx with hx
   subst hx;refine q4 fun _ hv=>?_
   exact False.elim (And.right (And.right hv))
  ·cases hx
 |k+1=>by
  have ih:=pick_ok K k;refine prK Tryz.f91 fun args hh x hx=>?_
  unfold pickP at hx;split at hx
  ·rename_i ri rg kE ti tg m;injection hx with hx
   subst hx;refine q4 fun _ hv=>?_
   obtain⟨hq0,hv⟩:=hv;generalize elOf kE=ke at *;subst hq0;obtain⟨hp,hd⟩:=hv
   generalize hG:Rx.Ends (R:=Rs) _ _=G;refine rx_ok (T:=(TPick K k)) (show TabOk D Tryz.prog (TPick K k) from⟨liftC_ok _ _ Sh.scmp_ok,liftC_ok _ _ look_ok,liftC_ok _ _ level_ok,liftC_ok _ _ (glue_ok K),liftC_ok _ _ ih,trivial⟩) mixed 200 ?_
   refine as_text (q:=let Z17:=Value.int IntKind.i64;let Z1:=(Gv.lk Sh.O9 m (Gv.Ref.mk ri rg));let Z2:=(Array.mk [Z17 ri,Z17 rg]);let Z3:=(Gv.see m (Gv.Ref.mk ri rg));let Z4:=(Prod.fst (Prod.snd (Gv.pick Sh.O9 K k Z3 (Gv.Node.l Z1) ke)));let Z5:=(if false=true then !(Gv.Ref.i Z4==(0:Int)&&(Gv.Ref.g Z4==(0:Int)&&true)) else Gv.Ref.i Z4==(0:Int)&&(Gv.Ref.g Z4==(0:Int)&&true));let Z6:=(Prod.snd (Prod.snd (Gv.pick Sh.O9 K k Z3 (Gv.Node.l Z1) ke)));let Z7:=(Gv.Node.mk (Gv.Node.e Z1) (Prod.fst (Gv.pick Sh.O9 K k Z3 (Gv.Node.l Z1) ke)) (Gv.Node.r Z1) (Gv.Node.all Z1) (Gv.Node.h Z1));let Z8:=(Gv.Ref.i (Prod.fst (Gv.level Sh.O9 Z6 (Gv.Ref.mk ri rg) Z7)));let Z9:=(Gv.Ref.g (Prod.fst (Gv.level Sh.O9 Z6 (Gv.Ref.mk ri rg) Z7)));let Z10:=(Prod.fst (Prod.snd (Gv.pick Sh.O9 K k Z3 (Gv.Node.r Z1) ke)));let Z11:=(if false=true then !(Gv.Ref.i Z10==(0:Int)&&(Gv.Ref.g Z10==(0:Int)&&true)) else Gv.Ref.i Z10==(0:Int)&&(Gv.Ref.g Z10==(0:Int)&&true));let Z12:=(Prod.snd (Prod.snd (Gv.pick Sh.O9 K k Z3 (Gv.Node.r Z1) ke)));let Z13:=(Gv.Node.mk (Gv.Node.e Z1) (Gv.Node.l Z1) (Prod.fst (Gv.pick Sh.O9 K k Z3 (Gv.Node.r Z1) ke)) (Gv.Node.all Z1) (Gv.Node.h Z1));let Z14:=(Gv.Ref.i (Prod.fst (Gv.level Sh.O9 Z12 (Gv.Ref.mk ri rg) Z13)));let Z15:=(Gv.Ref.g (Prod.fst (Gv.level Sh.O9 Z12 (Gv.Ref.mk ri rg) Z13)));let Z16:=(Prod.fst (Gv.glue Sh.O9 K Z3 (Gv.Node.l Z1) (Gv.Node.r Z1)));Vc (PP m)/\((Gv.Node.h Z1==(0:Int))=true->Post (G (Value.tuple (Array.mk [Value.agg Z2,Value.agg (Array.mk [Z17 0,Z17 0])])) [trB 1 ti tg,oP Z3,some (.inl (90,[Z17 ri,Z17 rg])),some (.inl (75,(elL ke))),some (.inl (90,[Z17 ri,Z17 rg])),some (.inl (90,[Z17 0,Z17 0])),some (.inl (111,(ndL Z1)))]))/\((Gv.Node.h Z1==(0:Int))=false->Vc True/\Vc True/\(decide (Gv.Ops.cmp Sh.O9 ke (Gv.Node.e Z1)<(0:Int))=true->Vc ((elL ke)=elL ke/\PP Z3/\Gv.PickD Sh.O9 K k Z3 (Gv.Node.l Z1) ke)/\(Z5=true->Post (G (Value.tuple (Array.mk [Value.agg Z2,Value.agg (Array.mk [Z17 (Gv.Ref.i Z4),Z17 (Gv.Ref.g Z4)])])) [trB 1 ti tg,oP Z6,some (.inl (90,[Z17 ri,Z17 rg])),some (.inl (75,(elL ke))),some (.inl (90,[Z17 ri,Z17 rg])),some (.inl (90,[Z17 (Gv.Ref.i Z4),Z17 (Gv.Ref.g Z4)])),some (.inl (111,(ndL Z7)))]))/\(Z5=false->Vc ((ndL Z7)=ndL Z7/\PP Z6)/\Post (G (Value.tuple (Array.mk [Value.agg (Array.mk [Z17 Z8,Z17 Z9]),Value.agg (Array.mk [Z17 (Gv.Ref.i Z4),Z17 (Gv.Ref.g Z4)])])) [trB 1 ti tg,oP (Prod.snd (Gv.level Sh.O9 Z6 (Gv.Ref.mk ri rg) Z7)),some (.inl (90,[Z17 ri,Z17 rg])),some (.inl (75,(elL ke))),some (.inl (90,[Z17 Z8,Z17 Z9])),some (.inl (90,[Z17 (Gv.Ref.i Z4),Z17 (Gv.Ref.g Z4)])),some (.inl (111,(ndL Z7)))])))/\(decide (Gv.Ops.cmp Sh.O9 ke (Gv.Node.e Z1)<(0:Int))=false->(decide (Gv.Ops.cmp Sh.O9 ke (Gv.Node.e Z1)>(0:Int))=true->Vc ((elL ke)=elL ke/\PP Z3/\Gv.PickD Sh.O9 K k Z3 (Gv.Node.r Z1) ke)/\(Z11=true->Post (G (Value.tuple (Array.mk [Value.agg Z2,Value.agg (Array.mk [Z17 (Gv.Ref.i Z10),Z17 (Gv.Ref.g Z10)])])) [trB 1 ti tg,oP Z12,some (.inl (90,[Z17 ri,Z17 rg])),some (.inl (75,(elL ke))),some (.inl (90,[Z17 ri,Z17 rg])),some (.inl (90,[Z17 (Gv.Ref.i Z10),Z17 (Gv.Ref.g Z10)])),some (.inl (111,(ndL Z13)))]))/\(Z11=false->Vc ((ndL Z13)=ndL Z13/\PP Z12)/\Post (G (Value.tuple (Array.mk [Value.agg (Array.mk [Z17 Z14,Z17 Z15]),Value.agg (Array.mk [Z17 (Gv.Ref.i Z10),Z17 (Gv.Ref.g Z10)])])) [trB 1 ti tg,oP (Prod.snd (Gv.level Sh.O9 Z12 (Gv.Ref.mk ri rg) Z13)),some (.inl (90,[Z17 ri,Z17 rg])),some (.inl (75,(elL ke))),some (.inl (90,[Z17 Z14,Z17 Z15])),some (.inl (90,[Z17 (Gv.Ref.i Z10),Z17 (Gv.Ref.g Z10)])),some (.inl (111,(ndL Z13)))])))/\(decide (Gv.Ops.cmp Sh.O9 ke (Gv.Node.e Z1)>(0:Int))=false->Vc (PP Z3/\Gv.GlueD Sh.O9 K Z3 (Gv.Node.l Z1) (Gv.Node.r Z1))/\Post (G (Value.tuple (Array.mk [Value.agg (Array.mk [Z17 (Gv.Ref.i Z16),Z17 (Gv.Ref.g Z16)]),Value.agg Z2])) [trB 1 ti tg,oP (Prod.snd (Gv.glue Sh.O9 K Z3 (Gv.Node.l Z1) (Gv.Node.r Z1))),some (.inl (90,[Z17 ri,Z17 rg])),some (.inl (75,(elL ke))),some (.inl (90,[Z17 (Gv.Ref.i Z16),Z17 (Gv.Ref.g Z16)])),some (.inl (90,[Z17 ri,Z17 rg])),some (.inl (111,(ndL Z1)))]))))) ?_ (by kernel_rfl)
   intro Z17 Z1 Z2 Z3 Z4 Z5 Z6 Z7 Z8 Z9 Z10 Z11 Z12 Z13 Z14 Z15 Z16;subst Z16 Z15 Z14 Z13 Z12 Z11 Z10 Z9 Z8 Z7 Z6 Z5 Z4 Z3 Z2 Z1 Z17;rw[Gv.PickD] at hd;have done:∀ (i g i2 g2:Int) (m':Pl) (rest:Hp Rs),Gv.pick Sh.O9 K (k+1) m ⟨ri,rg⟩ ke=(⟨i,g⟩,⟨i2,g2⟩,m')->G (.tuple #[.agg ⟨[.int .i64 i,.int .i64 g]⟩,.agg ⟨[.int .i64 i2,.int .i64 g2]⟩]) ([some (.inl (115,[.pointer (some ⟨1,0,none⟩),.int .i64 ti,.int .i64 tg])),some (.inr (.inr (.inr (.pool m'))))]++rest):=by
    intro i g i2 g2 m' rest e;subst hG;refine⟨[0,1],?_,rfl,⟨.inl rfl,?_,trivial⟩,rfl,rfl,rfl,rfl⟩
    ·simp only[e];rfl
    ·simp only[e];rfl
   clear hG
   try simp only[Gv.eq0,Gv.ref_eta]
   repeat' (first|apply And.intro|apply Vc.mk|apply fits.mk|intro h|apply Post.mk)
   all_goals (try simp only[sB] at *)
   all_goals first|contradiction|omega|exact vb1 ‹_›|exact vb2 ‹_›|exact vb3 ‹_›|exact⟨rfl,by omega⟩|exact rfl|(simp[*,-List.getD_eq_getElem?_getD];done)|skip
   all_goals first|assumption|(simp only[Gv.ok_s];assumption)|skip
   all_goals first|(rw[if_neg (by assumption),if_pos (by assumption)] at hd;exact hd)|(rw[if_neg (by assumption),if_neg (by omega),if_pos (by assumption)] at hd;exact hd)|(rw[if_neg (by assumption),if_neg (by omega),if_neg (by omega)] at hd;exact hd)|skip
   all_goals (refine done _ _ _ _ _ _ ?_;rw[Gv.pick];(try dsimp only [Gv.W]);repeat' split)
   all_goals first|rfl|(exfalso;omega)|contradiction|exact Prod.ext (Eq.symm (by assumption)) rfl|(exfalso;simp_all;done)
  ·cases hx
def gatherP  (k:Nat):Prim Rs:=fun args hh=>match args,hh with
 |[.pointer (some ⟨0,0,none⟩),.slice (some ⟨1,0,some 4000⟩) n cp,.agg ⟨[.int .i64 ri,.int .i64 rg]⟩],[some (.inl (115,[.pointer (some ⟨2,0,none⟩),.int .i64 ti,.int .i64 tg])),some (.inr (.inl (75,⟨[.int .i64 0,.int .i64 0,.bool false,.int .i64 0],n2,[⟨a0,[],[]⟩,⟨a1,[],[]⟩,⟨[],a2,[]⟩,⟨a3,[],[]⟩]⟩))),some (.inr (.inr (.inr (.pool m))))]=>some ⟨(PP m/\n2=n/\a0.length=n/\a1.length=n/\a2.length=n/\a3.length=n/\n+(Gv.gather Sh.O9 k m ⟨ri,rg⟩).1.length<900000)/\Gv.Deep Sh.O9 k m ⟨ri,rg⟩,.slice (some ⟨3,0,some 4000⟩) (n+(Gv.gather Sh.O9 k m ⟨ri,rg⟩).1.length) (if(Gv.gather Sh.O9 k m ⟨ri,rg⟩).1.length=0 then cp else 0),none,[some (.inl (115,[.pointer (some ⟨2,0,none⟩),.int .i64 ti,.int .i64 tg])),none,some (.inr (.inr (.inr (.pool (Gv.gather Sh.O9 k m ⟨ri,rg⟩).2)))),some (.inr (.inl (75,⟨[.int .i64 0,.int .i64 0,.bool false,.int .i64 0],(n+(Gv.gather Sh.O9 k m ⟨ri,rg⟩).1.length),[⟨(a0++(Gv.gather Sh.O9 k m ⟨ri,rg⟩).1.map fun e=>e.it.k),[],[]⟩,⟨(a1++(Gv.gather Sh.O9 k m ⟨ri,rg⟩).1.map fun e=>e.it.i),[],[]⟩,⟨[],(a2++(Gv.gather Sh.O9 k m ⟨ri,rg⟩).1.map fun e=>e.eaten),[]⟩,⟨(a3++(Gv.gather Sh.O9 k m ⟨ri,rg⟩).1.map fun e=>e.time),[],[]⟩]⟩)))],[],[(0,0)]⟩
 |_,_=>none
def TGather (k:Nat):Tab Rs:=[(63,liftC zN 2 (con1 lookP)),(69,liftC zN 2 (con1 (gatherP k)))]
theorem gather_ok:∀ k:Nat,ConOk D Tryz.prog 69 (con1 (gatherP k))
 |0=>by
  refine prK Tryz.f69 fun args hh x hx=>?_
  unfold gatherP at hx;split at hx
  ·rename_i n cp ri rg ti tg n2 a0 a1 a2 a3 m;injection hx with hx
   subst hx;refine q4 fun _ hv=>?_
   exact False.elim (And.right hv)
  ·cases hx
 |k+1=>by
  have ih:=gather_ok k;refine prK Tryz.f69 fun args hh x hx=>?_
  unfold gatherP at hx;split at hx
  ·rename_i n cp ri rg ti tg n2 a0 a1 a2 a3 m;injection hx with hx
   subst hx;refine q4 fun _ hv=>?_
   obtain⟨⟨hp,rfl,ha0,ha1,ha2,ha3,hb⟩,hd⟩:=hv;generalize hG:Rx.Ends (R:=Rs) _ _=G;refine rx_ok (T:=(TGather k)) (show TabOk D Tryz.prog (TGather k) from⟨liftC_ok _ _ look_ok,liftC_ok _ _ ih,trivial⟩) mixed 200 ?_
   refine as_text (q:=let Z1:=(Gv.lk Sh.O9 m (Gv.Ref.mk ri rg));let Z2:=(elL (Sh.Sl.mk (Wv.It.mk 0 0) false 0));let Z3:=(Gv.see m (Gv.Ref.mk ri rg));let Z4:=(Prod.fst (Gv.gather Sh.O9 k Z3 (Gv.Node.l Z1)));let Z5:=(n2+List.length Z4);let Z6:=(Prod.snd (Gv.gather Sh.O9 k Z3 (Gv.Node.l Z1)));let Z7:=(Gv.Node.e Z1);let Z8:=(Prod.fst (Gv.gather Sh.O9 k Z6 (Gv.Node.r Z1)));Vc (PP m)/\((Gv.Node.h Z1==(0:Int))=true->Post (G (Value.slice (some (Addr.mk 1 0 (some 4000))) n2 cp) [trB 2 ti tg,some (.inr (.inl (75,Row.mk Z2 n2 [Col.mk a0 [] [],Col.mk a1 [] [],Col.mk [] a2 [],Col.mk a3 [] []]))),oP Z3,some (.inl (90,[Value.int IntKind.i64 ri,Value.int IntKind.i64 rg])),some (.inr (.inl (75,Row.mk Z2 0 [Col.mk [] [] [],Col.mk [] [] [],Col.mk [] [] [],Col.mk [] [] []]))),some (.inl (111,(ndL Z1)))]))/\((Gv.Node.h Z1==(0:Int))=false->Vc ((PP Z3/\n2=n2/\List.length a0=n2/\List.length a1=n2/\List.length a2=n2/\List.length a3=n2/\n2+List.length Z4<900000)/\Gv.Deep Sh.O9 k Z3 (Gv.Node.l Z1))/\Vc (0+Z5≤n2+List.length Z4/\1≤1/\(n2+List.length Z4+1)*32≤140737488355328/\n2+List.length Z4+1≤140737488355328)/\Vc ((PP Z6/\n2+List.length Z4+1=n2+List.length Z4+1/\List.length (cut (a0++List.map (fun e=>Wv.It.k (Sh.Sl.it e)) Z4) 0 Z5++cut [Wv.It.k (Sh.Sl.it Z7)] 0 1)=n2+List.length Z4+1/\List.length (cut (a1++List.map (fun e=>Wv.It.i (Sh.Sl.it e)) Z4) 0 Z5++cut [Wv.It.i (Sh.Sl.it Z7)] 0 1)=n2+List.length Z4+1/\List.length (cut (a2++List.map (fun e=>Sh.Sl.eaten e) Z4) 0 Z5++cut [Sh.Sl.eaten Z7] 0 1)=n2+List.length Z4+1/\List.length (cut (a3++List.map (fun e=>Sh.Sl.time e) Z4) 0 Z5++cut [Sh.Sl.time Z7] 0 1)=n2+List.length Z4+1/\n2+List.length Z4+1+List.length Z8<900000)/\Gv.Deep Sh.O9 k Z6 (Gv.Node.r Z1))/\Post (G (Value.slice (some (Addr.mk 9 0 (some 4000))) (n2+List.length Z4+1+List.length Z8) (if List.length Z8=0 then 0 else 0)) [trB 2 ti tg,none,oP (Prod.snd (Gv.gather Sh.O9 k Z6 (Gv.Node.r Z1))),some (.inl (90,[Value.int IntKind.i64 ri,Value.int IntKind.i64 rg])),some (.inr (.inl (75,Row.mk Z2 0 [Col.mk [] [] [],Col.mk [] [] [],Col.mk [] [] [],Col.mk [] [] []]))),some (.inl (111,(ndL Z1))),none,some (.inr (.inl (75,Row.mk Z2 1 [Col.mk [Wv.It.k (Sh.Sl.it Z7)] [] [],Col.mk [Wv.It.i (Sh.Sl.it Z7)] [] [],Col.mk [] [Sh.Sl.eaten Z7] [],Col.mk [Sh.Sl.time Z7] [] []]))),none,some (.inr (.inl (75,Row.mk Z2 (n2+List.length Z4+1+List.length Z8) [Col.mk (cut (a0++List.map (fun e=>Wv.It.k (Sh.Sl.it e)) Z4) 0 Z5++cut [Wv.It.k (Sh.Sl.it Z7)] 0 1++List.map (fun e=>Wv.It.k (Sh.Sl.it e)) Z8) [] [],Col.mk (cut (a1++List.map (fun e=>Wv.It.i (Sh.Sl.it e)) Z4) 0 Z5++cut [Wv.It.i (Sh.Sl.it Z7)] 0 1++List.map (fun e=>Wv.It.i (Sh.Sl.it e)) Z8) [] [],Col.mk [] (cut (a2++List.map (fun e=>Sh.Sl.eaten e) Z4) 0 Z5++cut [Sh.Sl.eaten Z7] 0 1++List.map (fun e=>Sh.Sl.eaten e) Z8) [],Col.mk (cut (a3++List.map (fun e=>Sh.Sl.time e) Z4) 0 Z5++cut [Sh.Sl.time Z7] 0 1++List.map (fun e=>Sh.Sl.time e) Z8) [] []])))]))) ?_ (by kernel_rfl)
   intro Z1 Z2 Z3 Z4 Z5 Z6 Z7 Z8;subst Z8 Z7 Z6 Z5 Z4 Z3 Z2 Z1;simp only[Gv.Deep] at hd;subst hG;have c1:∀ x:Int,cut [x] 0 1=[x]:=fun x=>rfl
   have c2:∀ x:Bool,cut [x] 0 1=[x]:=fun x=>rfl
   have e0:(Gv.lk Sh.O9 m (⟨ri,rg⟩:Gv.Ref)).h=0->Gv.gather Sh.O9 (k+1) m (⟨ri,rg⟩:Gv.Ref)=([],Gv.see m (⟨ri,rg⟩:Gv.Ref)):=fun h=>by rw[Gv.gather,if_pos h]
   have e1:(Gv.lk Sh.O9 m (⟨ri,rg⟩:Gv.Ref)).h≠0->Gv.gather Sh.O9 (k+1) m (⟨ri,rg⟩:Gv.Ref)=((Gv.gather Sh.O9 k (Gv.see m (⟨ri,rg⟩:Gv.Ref)) (Gv.lk Sh.O9 m (⟨ri,rg⟩:Gv.Ref)).l).1++(Gv.lk Sh.O9 m (⟨ri,rg⟩:Gv.Ref)).e::(Gv.gather Sh.O9 k (Gv.gather Sh.O9 k (Gv.see m (⟨ri,rg⟩:Gv.Ref)) (Gv.lk Sh.O9 m (⟨ri,rg⟩:Gv.Ref)).l).2 (Gv.lk Sh.O9 m (⟨ri,rg⟩:Gv.Ref)).r).1,(Gv.gather Sh.O9 k (Gv.gather Sh.O9 k (Gv.see m (⟨ri,rg⟩:Gv.Ref)) (Gv.lk Sh.O9 m (⟨ri,rg⟩:Gv.Ref)).l).2 (Gv.lk Sh.O9 m (⟨ri,rg⟩:Gv.Ref)).r).2):=fun h=>by rw[Gv.gather,if_neg h]
   have hb2:(Gv.lk Sh.O9 m (⟨ri,rg⟩:Gv.Ref)).h≠0->n2+((Gv.gather Sh.O9 k (Gv.see m (⟨ri,rg⟩:Gv.Ref)) (Gv.lk Sh.O9 m (⟨ri,rg⟩:Gv.Ref)).l).1.length+((Gv.gather Sh.O9 k (Gv.gather Sh.O9 k (Gv.see m (⟨ri,rg⟩:Gv.Ref)) (Gv.lk Sh.O9 m (⟨ri,rg⟩:Gv.Ref)).l).2 (Gv.lk Sh.O9 m (⟨ri,rg⟩:Gv.Ref)).r).1.length+1))<900000:=fun h=>by rw[e1 h] at hb;simpa using hb
   generalize hx:Gv.gather Sh.O9 k (Gv.see m (⟨ri,rg⟩:Gv.Ref)) (Gv.lk Sh.O9 m (⟨ri,rg⟩:Gv.Ref)).l=x at *
   generalize hy:Gv.gather Sh.O9 k x.2 (Gv.lk Sh.O9 m (⟨ri,rg⟩:Gv.Ref)).r=y at *
   have hxp:PP x.2:=by rw[← hx];exact Gv.gather_ok.2 (Gv.see_ok.2 hp)
   have hd2:∀ q,Gv.Deep Sh.O9 k x.2 q↔Gv.Deep Sh.O9 k m q:=fun q=>by rw[← hx,Gv.Deep_gather,Gv.Deep_see]
   simp only[cut_eq (show(a0++x.1.map fun e=>e.it.k).length=n2+x.1.length by simp[ha0]),cut_eq (show(a1++x.1.map fun e=>e.it.i).length=n2+x.1.length by simp[ha1]),cut_eq (show(a2++x.1.map fun e=>e.eaten).length=n2+x.1.length by simp[ha2]),cut_eq (show(a3++x.1.map fun e=>e.time).length=n2+x.1.length by simp[ha3]),c1,c2,Gv.Deep_see,hd2]
   repeat' (first|apply And.intro|apply Vc.mk|apply fits.mk|intro h|apply Post.mk)
   all_goals (try simp only[sB] at *)
   all_goals first|contradiction|omega|exact vb1 ‹_›|exact vb2 ‹_›|exact vb3 ‹_›|exact⟨rfl,by omega⟩|exact rfl|(simp[*,-List.getD_eq_getElem?_getD];done)|skip
   all_goals first|omega|assumption|exact Gv.see_ok.2 hp|(rcases hd with hd|hd;exfalso;omega;first|exact hd.1|exact hd.2)|(have:=hb2 (by assumption);omega)|(simp;omega)|skip
   ·have h0:(Gv.lk Sh.O9 m (⟨ri,rg⟩:Gv.Ref)).h=0:=by assumption
    rw[e0 h0];simp only[List.length_nil,if_true];refine⟨[0,1,2,1],?_,rfl,?_,rfl,rfl,rfl,(by kernel_rfl)⟩
    ·rfl
    ·simp[elL,Pulls,pullB,nth,at2,dnL,dnV,mvL,mvV,mvA,mvQ_lt,blt_true,blt_false,RowLe,colI,colB]
   ·have h0:(Gv.lk Sh.O9 m (⟨ri,rg⟩:Gv.Ref)).h≠0:=by assumption
    rw[e1 h0];have e2:n2+(x.1++(Gv.lk Sh.O9 m (⟨ri,rg⟩:Gv.Ref)).e::y.1).length=n2+x.1.length+1+y.1.length:=by simp;omega
    have e3:(x.1++(Gv.lk Sh.O9 m (⟨ri,rg⟩:Gv.Ref)).e::y.1).length≠0:=by simp
    simp only[e2,if_neg e3,ite_self];refine⟨[0,1,2,9],?_,rfl,?_,rfl,rfl,rfl,(by kernel_rfl)⟩
    ·rfl
    ·simp[elL,Pulls,pullB,nth,at2,dnL,dnV,mvL,mvV,mvA,mvQ_lt,blt_true,blt_false,RowLe,colI,colB]
     all_goals first|rfl|omega|skip
  ·cases hx
set_option maxHeartbeats 16000000
def TNew:Tab Rs:=[(99,liftC zN 2 (con1 newP))]
theorem TNew_ok:TabOk D Tryz.prog TNew:=⟨liftC_ok _ _ new_ok,trivial⟩
def gnewP:Prim Rs:=fun args hh=>match args,hh with
 |[.int .i64 c],[]=>some ⟨True,.pointer (some ⟨0,0,none⟩),none,[some (.inl (115,[.pointer (some ⟨1,0,none⟩),.int .i64 Gv.r0.i,.int .i64 Gv.r0.g])),some (.inr (.inr (.inr (.pool ⟨[],[],[],[],0,min (max c 0) 16777216,0⟩))))],[],[(0,0)]⟩
 |_,_=>none
theorem gnew_ok:ConOk D Tryz.prog 66 (con1 gnewP):=by
 refine prK Tryz.f66 fun args hh x hx=>?_
 unfold gnewP at hx;split at hx
 ·rename_i c;injection hx with hx
  subst hx;refine q4 fun _ hv=>?_
  generalize hG:Rx.Ends (R:=Rs) _ _=G;refine rx_ok (T:=TNew) TNew_ok mixed 200 ?_;refine as_text (q:=Vc True/\Post (G (Value.pointer (some (Addr.mk 1 0 none))) [oP (Gv.PM.mk [] [] [] [] (0:Int) (min (max c (0:Int)) (16777216:Int)) (0:Int)),trB 0 0 0])) ?_ (by kernel_rfl)
  subst hG
  repeat' (first|apply And.intro|apply Vc.mk|apply fits.mk|intro h|apply Post.mk)
  all_goals (try simp only[sB] at *)
  all_goals first|contradiction|omega|exact vb1 ‹_›|exact vb2 ‹_›|exact vb3 ‹_›|exact⟨rfl,by omega⟩|exact rfl|(simp[*,-List.getD_eq_getElem?_getD];done)|skip
  exact⟨[1,0],rfl,rfl,⟨.inl rfl,rfl,trivial⟩,rfl,rfl,rfl,rfl⟩
 ·cases hx
def TLook1:Tab Rs:=[(63,liftC zN 2 (con1 lookP))]
theorem TLook1_ok:TabOk D Tryz.prog TLook1:=⟨liftC_ok _ _ look_ok,trivial⟩
def lenP:Prim Rs:=fun args hh=>match args,hh with
 |[.pointer (some ⟨0,0,none⟩)],[some (.inl (115,[.pointer (some ⟨1,0,none⟩),.int .i64 ti,.int .i64 tg])),some (.inr (.inr (.inr (.pool m))))]=>some ⟨PP m,.int .i64 (Gv.lk Sh.O9 m (⟨ti,tg⟩:Gv.Ref)).all.n,none,[some (.inl (115,[.pointer (some ⟨1,0,none⟩),.int .i64 ti,.int .i64 tg])),some (.inr (.inr (.inr (.pool (Gv.see m (⟨ti,tg⟩:Gv.Ref))))))],[],[(0,0)]⟩
 |_,_=>none
theorem len_ok:ConOk D Tryz.prog 33 (con1 lenP):=by
 refine prK Tryz.f33 fun args hh x hx=>?_
 unfold lenP at hx;split at hx
 ·rename_i ti tg m;injection hx with hx
  subst hx;refine q4 fun _ hv=>?_
  generalize hG:Rx.Ends (R:=Rs) _ _=G;refine rx_ok (T:=TLook1) TLook1_ok mixed 200 ?_;refine as_text (q:=Vc (PP m)/\Post (G (Value.int IntKind.i64 (Gv.Part.n (Gv.Node.all (Gv.lk Sh.O9 m (Gv.Ref.mk ti tg))))) [trB 1 ti tg,oP (Gv.see m (Gv.Ref.mk ti tg))])) ?_ (by kernel_rfl)
  subst hG
  repeat' (first|apply And.intro|apply Vc.mk|apply fits.mk|intro h|apply Post.mk)
  all_goals (try simp only[sB] at *)
  all_goals first|contradiction|omega|exact vb1 ‹_›|exact vb2 ‹_›|exact vb3 ‹_›|exact⟨rfl,by omega⟩|exact rfl|(simp[*,-List.getD_eq_getElem?_getD];done)|skip
  all_goals first|assumption|(simp only[Gv.ok_s];assumption)|skip
  exact⟨[0,1],rfl,rfl,⟨.inl rfl,rfl,trivial⟩,rfl,rfl,rfl,rfl⟩
 ·cases hx
def TVis:Tab Rs:=[(94,liftC zN 2 (con1 visitsP))]
theorem TVis_ok:TabOk D Tryz.prog TVis:=⟨liftC_ok _ _ visits_ok,trivial⟩
def gvisitsP:Prim Rs:=fun args hh=>match args,hh with
 |[.pointer (some ⟨0,0,none⟩)],[some (.inl (115,[.pointer (some ⟨1,0,none⟩),.int .i64 ti,.int .i64 tg])),some (.inr (.inr (.inr (.pool m))))]=>some ⟨True,.int .i64 m.visits,none,hh,[],[]⟩
 |_,_=>none
theorem gvisits_ok:ConOk D Tryz.prog 61 (con1 gvisitsP):=by
 refine prK Tryz.f61 fun args hh x hx=>?_
 unfold gvisitsP at hx;split at hx
 ·rename_i ti tg m;injection hx with hx
  subst hx;refine q4 fun _ hv=>?_
  generalize hG:Rx.Ends (R:=Rs) _ _=G;refine rx_ok (T:=TVis) TVis_ok mixed 200 ?_;refine as_text (q:=Vc True/\Post (G (Value.int IntKind.i64 (Gv.PM.visits m)) [trB 1 ti tg,oP m])) ?_ (by kernel_rfl)
  subst hG
  repeat' (first|apply And.intro|apply Vc.mk|apply fits.mk|intro h|apply Post.mk)
  all_goals (try simp only[sB] at *)
  all_goals first|contradiction|omega|exact vb1 ‹_›|exact vb2 ‹_›|exact vb3 ‹_›|exact⟨rfl,by omega⟩|exact rfl|(simp[*,-List.getD_eq_getElem?_getD];done)|skip
  exact⟨[0,1],rfl,rfl,⟨.inl rfl,rfl,trivial⟩,rfl,rfl,rfl,rfl⟩
 ·cases hx
def gputP (K:Nat):Prim Rs:=fun args hh=>match args,hh with
 |[.pointer (some ⟨0,0,none⟩),.agg ⟨kE⟩],[some (.inl (115,[.pointer (some ⟨1,0,none⟩),.int .i64 ti,.int .i64 tg])),some (.inr (.inr (.inr (.pool m))))]=>some ⟨kE=elL (elOf kE)/\(PP m/\Gv.PutD Sh.O9 K m (⟨ti,tg⟩:Gv.Ref) (elOf kE)),.bool (Gv.putF Sh.O9 K m (⟨ti,tg⟩:Gv.Ref) (elOf kE)).1,none,[some (.inl (115,[.pointer (some ⟨1,0,none⟩),.int .i64 (Gv.putF Sh.O9 K m (⟨ti,tg⟩:Gv.Ref) (elOf kE)).2.1.i,.int .i64 (Gv.putF Sh.O9 K m (⟨ti,tg⟩:Gv.Ref) (elOf kE)).2.1.g])),some (.inr (.inr (.inr (.pool (Gv.putF Sh.O9 K m (⟨ti,tg⟩:Gv.Ref) (elOf kE)).2.2))))],[],[(0,0)]⟩
 |_,_=>none
def TGPut (K:Nat):Tab Rs:=[(76,liftC zN 2 (con1 (replaceP K))),(78,liftC zN 2 (con1 oneP)),(77,liftC zN 2 (con1 putP)),(79,liftC zN 2 (con1 (hangP K)))]
theorem gput_ok (K:Nat):ConOk D Tryz.prog 52 (con1 (gputP K)):=by
 refine prK Tryz.f52 fun args hh x hx=>?_
 unfold gputP at hx;split at hx
 ·rename_i kE ti tg m;injection hx with hx
  subst hx;refine q4 fun _ hv=>?_
  obtain⟨hq0,hv⟩:=hv;generalize elOf kE=ke at *;subst hq0;obtain⟨hp,hd⟩:=hv
  generalize hG:Rx.Ends (R:=Rs) _ _=G;refine rx_ok (T:=(TGPut K)) (show TabOk D Tryz.prog (TGPut K) from⟨liftC_ok _ _ (replace_ok K),liftC_ok _ _ one_ok,liftC_ok _ _ put_ok,liftC_ok _ _ (hang_ok K),trivial⟩) mixed 200 ?_
  refine as_text (q:=let Z1:=(Gv.replace Sh.O9 K m (Gv.Ref.mk ti tg) ke);let Z2:=(Gv.Node.mk ke (Gv.Ref.mk (0:Int) (0:Int)) (Gv.Ref.mk (0:Int) (0:Int)) (Gv.one Sh.O9 ke) (1:Int));let Z3:=(Gv.put zd (Prod.snd Z1) Z2);let Z4:=(Value.bool !decide (Gv.PM.held (Prod.snd Z1)=Gv.PM.cap (Prod.snd Z1)));let Z5:=(Gv.hang Sh.O9 K Z3 (Gv.Ref.mk ti tg) (Gv.putR zd (Prod.snd Z1)) ke);Vc ((elL ke)=elL ke/\PP m/\Gv.Deep Sh.O9 K m (Gv.Ref.mk ti tg))/\(Prod.fst Z1=true->Post (G (Value.bool true) [trB 1 ti tg,oP (Prod.snd Z1),some (.inl (75,(elL ke)))]))/\(Prod.fst Z1=false->Vc ((elL ke)=elL ke/\True)/\Vc ((ndL (Gv.Node.mk ke (Gv.Ref.mk 0 0) (Gv.Ref.mk 0 0) (Gv.one Sh.O9 ke) 1))=ndL Z2/\PP (Prod.snd Z1))/\((!decide (Gv.PM.held (Prod.snd Z1)=Gv.PM.cap (Prod.snd Z1)))=true->Vc ((elL ke)=elL ke/\PP Z3/\Gv.Deep Sh.O9 K Z3 (Gv.Ref.mk ti tg))/\Post (G Z4 [trB 1 (Gv.Ref.i (Prod.fst Z5)) (Gv.Ref.g (Prod.fst Z5)),oP (Prod.snd Z5),some (.inl (75,(elL ke))),some (.inl (90,[Value.int IntKind.i64 (Gv.Ref.i (Gv.putR zd (Prod.snd Z1))),Value.int IntKind.i64 (Gv.Ref.g (Gv.putR zd (Prod.snd Z1)))]))]))/\((!decide (Gv.PM.held (Prod.snd Z1)=Gv.PM.cap (Prod.snd Z1)))=false->Post (G Z4 [trB 1 ti tg,oP Z3,some (.inl (75,(elL ke))),some (.inl (90,[Value.int IntKind.i64 (Gv.Ref.i (Gv.putR zd (Prod.snd Z1))),Value.int IntKind.i64 (Gv.Ref.g (Gv.putR zd (Prod.snd Z1)))]))])))) ?_ (by kernel_rfl)
  intro Z1 Z2 Z3 Z4 Z5;subst Z5 Z4 Z3 Z2 Z1;obtain⟨hd1,hd2⟩:=hd;have done:∀ (b:Bool) (i g:Int) (m':Pl) (rest:Hp Rs),Gv.putF Sh.O9 K m (⟨ti,tg⟩:Gv.Ref) ke=(b,⟨i,g⟩,m')->G (.bool b) ([some (.inl (115,[.pointer (some ⟨1,0,none⟩),.int .i64 (⟨i,g⟩:Gv.Ref).i,.int .i64 (⟨i,g⟩:Gv.Ref).g])),some (.inr (.inr (.inr (.pool m'))))]++rest):=by
   intro b i g m' rest e;subst hG;refine⟨[0,1],?_,rfl,⟨.inl ?_,?_,trivial⟩,rfl,rfl,rfl,rfl⟩
   ·simp only[e];rfl
   ·simp only[e];rfl
   ·simp only[e];rfl
  clear hG
  repeat' (first|apply And.intro|apply Vc.mk|apply fits.mk|intro h|apply Post.mk)
  all_goals (try simp only[sB] at *)
  all_goals first|contradiction|omega|exact vb1 ‹_›|exact vb2 ‹_›|exact vb3 ‹_›|exact⟨rfl,by omega⟩|exact rfl|(simp[*,-List.getD_eq_getElem?_getD];done)|skip
  all_goals first|assumption|(simp only[Gv.ok_s];assumption)|skip
  all_goals first|exact(hd2 (by assumption)).1|exact(hd2 (by assumption)).2|skip
  all_goals (refine done _ _ _ _ _ ?_;unfold Gv.putF;repeat' split)
  all_goals first|rfl|(exfalso;simp_all;done)|(refine Prod.ext ?_ rfl;simp[*];done)
 ·cases hx
def gdropP (K:Nat):Prim Rs:=fun args hh=>match args,hh with
 |[.pointer (some ⟨0,0,none⟩),.agg ⟨kE⟩],[some (.inl (115,[.pointer (some ⟨1,0,none⟩),.int .i64 ti,.int .i64 tg])),some (.inr (.inr (.inr (.pool m))))]=>some ⟨kE=elL (elOf kE)/\(PP m/\Gv.PickD Sh.O9 K K m (⟨ti,tg⟩:Gv.Ref) (elOf kE)),.tuple #[.agg ⟨elL (Gv.dropF Sh.O9 K m (⟨ti,tg⟩:Gv.Ref) (elOf kE)).1⟩,.bool (Gv.dropF Sh.O9 K m (⟨ti,tg⟩:Gv.Ref) (elOf kE)).2.1],none,[some (.inl (115,[.pointer (some ⟨1,0,none⟩),.int .i64 (Gv.dropF Sh.O9 K m (⟨ti,tg⟩:Gv.Ref) (elOf kE)).2.2.1.i,.int .i64 (Gv.dropF Sh.O9 K m (⟨ti,tg⟩:Gv.Ref) (elOf kE)).2.2.1.g])),some (.inr (.inr (.inr (.pool (Gv.dropF Sh.O9 K m (⟨ti,tg⟩:Gv.Ref) (elOf kE)).2.2.2))))],[],[(0,0)]⟩
 |_,_=>none
def TGDrop (K:Nat):Tab Rs:=[(91,liftC zN 2 (con1 (pickP K K))),(92,liftC zN 2 (con1 dropP))]
theorem gdrop_ok (K:Nat):ConOk D Tryz.prog 59 (con1 (gdropP K)):=by
 refine prK Tryz.f59 fun args hh x hx=>?_
 unfold gdropP at hx;split at hx
 ·rename_i kE ti tg m;injection hx with hx
  subst hx;refine q4 fun _ hv=>?_
  obtain⟨hq0,hv⟩:=hv;generalize elOf kE=ke at *;subst hq0;obtain⟨hp,hd⟩:=hv
  generalize hG:Rx.Ends (R:=Rs) _ _=G;refine rx_ok (T:=(TGDrop K)) (show TabOk D Tryz.prog (TGDrop K) from⟨liftC_ok _ _ (pick_ok K K),liftC_ok _ _ drop_ok,trivial⟩) mixed 200 ?_
  refine as_text (q:=let Z1:=(Prod.snd (Prod.snd (Gv.pick Sh.O9 K K m (Gv.Ref.mk ti tg) ke)));let Z2:=(Prod.fst (Prod.snd (Gv.pick Sh.O9 K K m (Gv.Ref.mk ti tg) ke)));let Z3:=(Gv.Ref.i (Prod.fst (Gv.pick Sh.O9 K K m (Gv.Ref.mk ti tg) ke)));let Z4:=(Gv.Ref.g (Prod.fst (Gv.pick Sh.O9 K K m (Gv.Ref.mk ti tg) ke)));Vc ((elL ke)=elL ke/\PP m/\Gv.PickD Sh.O9 K K m (Gv.Ref.mk ti tg) ke)/\Vc (PP Z1)/\Post (G (Value.tuple (Array.mk [Value.agg (Array.mk (elL (Gv.Node.e (Gv.look zd Z1 Z2)))),Value.bool (Gv.has Z1 Z2)])) [trB 1 Z3 Z4,oP (Gv.drop zd Z1 Z2),some (.inl (75,(elL ke))),some (.inl (75,(elL (Gv.Node.e (Gv.look zd Z1 Z2))))),some (.inl (90,[Value.int IntKind.i64 Z3,Value.int IntKind.i64 Z4])),some (.inl (90,[Value.int IntKind.i64 (Gv.Ref.i Z2),Value.int IntKind.i64 (Gv.Ref.g Z2)])),some (.inl (111,(ndL (Gv.look zd Z1 Z2))))])) ?_ (by kernel_rfl)
  intro Z1 Z2 Z3 Z4;subst Z4 Z3 Z2 Z1;subst hG
  repeat' (first|apply And.intro|apply Vc.mk|apply fits.mk|intro h|apply Post.mk)
  all_goals (try simp only[sB] at *)
  all_goals first|contradiction|omega|exact vb1 ‹_›|exact vb2 ‹_›|exact vb3 ‹_›|exact⟨rfl,by omega⟩|exact rfl|(simp[*,-List.getD_eq_getElem?_getD];done)|skip
  all_goals first|assumption|(simp only[Gv.ok_s];assumption)|skip
  exact⟨[0,1],rfl,rfl,⟨.inl rfl,rfl,trivial⟩,rfl,rfl,rfl,rfl⟩
 ·cases hx
theorem len_keep:KeepC [0] (con1 lenP):=by
 intro b args h x hx i hi hl;cases b with
 |false=>cases hx
 |true =>
  simp only[con1,Con.go,lenP] at hx;split at hx
  ·injection hx with hx
   subst hx;simp only[List.mem_singleton] at hi;subst hi
   rfl
  ·cases hx
def gallP (K:Nat):Prim Rs:=fun args hh=>match args,hh with
 |[.pointer (some ⟨0,0,none⟩)],[some (.inl (115,[.pointer (some ⟨1,0,none⟩),.int .i64 ti,.int .i64 tg])),some (.inr (.inr (.inr (.pool m))))]=>some ⟨PP m/\Gv.Deep Sh.O9 K m (⟨ti,tg⟩:Gv.Ref)/\(Gv.lk Sh.O9 m (⟨ti,tg⟩:Gv.Ref)).all.n=(Gv.gather Sh.O9 K (Gv.see m (⟨ti,tg⟩:Gv.Ref)) (⟨ti,tg⟩:Gv.Ref)).1.length/\(Gv.gather Sh.O9 K (Gv.see m (⟨ti,tg⟩:Gv.Ref)) (⟨ti,tg⟩:Gv.Ref)).1.length<900000,.slice (some ⟨2,0,some 4000⟩) (Gv.gather Sh.O9 K (Gv.see m (⟨ti,tg⟩:Gv.Ref)) (⟨ti,tg⟩:Gv.Ref)).1.length 0,none,[some (.inl (115,[.pointer (some ⟨1,0,none⟩),.int .i64 ti,.int .i64 tg])),some (.inr (.inr (.inr (.pool (Gv.gather Sh.O9 K (Gv.see m (⟨ti,tg⟩:Gv.Ref)) (⟨ti,tg⟩:Gv.Ref)).2)))),some (.inr (.inl (75,⟨[.int .i64 0,.int .i64 0,.bool false,.int .i64 0],(Gv.gather Sh.O9 K (Gv.see m (⟨ti,tg⟩:Gv.Ref)) (⟨ti,tg⟩:Gv.Ref)).1.length,[⟨((Gv.gather Sh.O9 K (Gv.see m (⟨ti,tg⟩:Gv.Ref)) (⟨ti,tg⟩:Gv.Ref)).1.map fun e=>e.it.k),[],[]⟩,⟨((Gv.gather Sh.O9 K (Gv.see m (⟨ti,tg⟩:Gv.Ref)) (⟨ti,tg⟩:Gv.Ref)).1.map fun e=>e.it.i),[],[]⟩,⟨[],((Gv.gather Sh.O9 K (Gv.see m (⟨ti,tg⟩:Gv.Ref)) (⟨ti,tg⟩:Gv.Ref)).1.map fun e=>e.eaten),[]⟩,⟨((Gv.gather Sh.O9 K (Gv.see m (⟨ti,tg⟩:Gv.Ref)) (⟨ti,tg⟩:Gv.Ref)).1.map fun e=>e.time),[],[]⟩]⟩)))],[],[(0,0)]⟩
 |_,_=>none
def TGAll (K:Nat):Tab Rs:=[(33,liftKC [0] 2 (con1 lenP)),(69,liftC zN 2 (con1 (gatherP K)))]
theorem gall_ok (K:Nat):ConOk D Tryz.prog 45 (con1 (gallP K)):=by
 refine prK Tryz.f45 fun args hh x hx=>?_
 unfold gallP at hx;split at hx
 ·rename_i ti tg m;injection hx with hx
  subst hx;refine q4 fun _ hv=>?_
  obtain⟨hp,hd⟩:=hv;generalize hG:Rx.Ends (R:=Rs) _ _=G;refine rx_ok (T:=(TGAll K)) (show TabOk D Tryz.prog (TGAll K) from⟨liftKC_ok _ _ len_ok len_keep,liftC_ok _ _ (gather_ok K),trivial⟩) mixed 200 ?_
  refine as_text (q:=let Z1:=(Gv.Node.all (Gv.lk Sh.O9 m (Gv.Ref.mk ti tg)));let Z2:=(Gv.gather Sh.O9 K (Gv.see m (Gv.Ref.mk ti tg)) (Gv.Ref.mk ti tg));Vc (PP m)/\Vc ((0:Int)≤(0:Int)/\(0:Int)≤Gv.Part.n Z1/\Gv.Part.n Z1*(32:Int)≤(140737488355328:Int)/\Gv.Part.n Z1≤(140737488355328:Int))/\Vc ((PP (Gv.see m (Gv.Ref.mk ti tg))/\0=0/\0=0/\0=0/\0=0/\0=0/\0+List.length (Prod.fst Z2)<900000)/\Gv.Deep Sh.O9 K (Gv.see m (Gv.Ref.mk ti tg)) (Gv.Ref.mk ti tg))/\Post (G (Value.slice (some (Addr.mk 4 0 (some 4000))) (0+List.length (Prod.fst Z2)) (if List.length (Prod.fst Z2)=0 then Int.toNat (Gv.Part.n Z1) else 0)) [trB 1 ti tg,oP (Prod.snd Z2),some (.inr (.inl (75,Row.mk (elL (Sh.Sl.mk (Wv.It.mk 0 0) false 0)) 0 [Col.mk [] [] [],Col.mk [] [] [],Col.mk [] [] [],Col.mk [] [] []]))),none,some (.inr (.inl (75,Row.mk (elL (Sh.Sl.mk (Wv.It.mk 0 0) false 0)) (0+List.length (Prod.fst Z2)) [Col.mk ([]++List.map (fun e=>Wv.It.k (Sh.Sl.it e)) (Prod.fst Z2)) [] [],Col.mk ([]++List.map (fun e=>Wv.It.i (Sh.Sl.it e)) (Prod.fst Z2)) [] [],Col.mk [] ([]++List.map (fun e=>Sh.Sl.eaten e) (Prod.fst Z2)) [],Col.mk ([]++List.map (fun e=>Sh.Sl.time e) (Prod.fst Z2)) [] []])))])) ?_ (by kernel_rfl)
  intro Z1 Z2;subst Z2 Z1;subst hG;obtain⟨hd1,hd2,hd4⟩:=hd;have hd5:=(Gv.Deep_see (s:=(⟨ti,tg⟩:Gv.Ref))).2 hd1;have e2:(if(Gv.gather Sh.O9 K (Gv.see m (⟨ti,tg⟩:Gv.Ref)) (⟨ti,tg⟩:Gv.Ref)).1.length=0 then(Gv.lk Sh.O9 m (⟨ti,tg⟩:Gv.Ref)).all.n.toNat else 0)=0:=by rw[hd2];split<;>omega
  simp only[e2,Nat.zero_add,List.nil_append]
  repeat' (first|apply And.intro|apply Vc.mk|apply fits.mk|intro h|apply Post.mk)
  all_goals (try simp only[sB] at *)
  all_goals first|contradiction|omega|exact vb1 ‹_›|exact vb2 ‹_›|exact vb3 ‹_›|exact⟨rfl,by omega⟩|exact rfl|(simp[*,-List.getD_eq_getElem?_getD];done)|skip
  all_goals first|omega|assumption|exact Gv.see_ok.2 hp|(simp;done)|skip
  refine⟨[0,1,4],?_,rfl,?_,rfl,rfl,rfl,rfl⟩
  ·rfl
  ·simp[elL,Pulls,pullB,nth,at2,dnL,dnV,mvL,mvV,mvA,mvQ_lt,blt_true,blt_false,RowLe,colI,colB]
   all_goals first|rfl|skip
 ·cases hx
def gfindP (K:Nat):Prim Rs:=fun args hh=>match args,hh with
 |[.pointer (some ⟨0,0,none⟩),.agg ⟨kE⟩],[some (.inl (115,[.pointer (some ⟨1,0,none⟩),.int .i64 ti,.int .i64 tg])),some (.inr (.inr (.inr (.pool m))))]=>some ⟨kE=elL (elOf kE)/\(PP m/\Gv.FindE Sh.O9 K (Gv.see m (⟨ti,tg⟩:Gv.Ref)) (Gv.lk Sh.O9 m (⟨ti,tg⟩:Gv.Ref)) (elOf kE)),.tuple #[.agg ⟨elL (Gv.find Sh.O9 K (Gv.see m (⟨ti,tg⟩:Gv.Ref)) (Gv.lk Sh.O9 m (⟨ti,tg⟩:Gv.Ref)) (elOf kE)).1.1⟩,.bool (Gv.find Sh.O9 K (Gv.see m (⟨ti,tg⟩:Gv.Ref)) (Gv.lk Sh.O9 m (⟨ti,tg⟩:Gv.Ref)) (elOf kE)).1.2],none,[some (.inl (115,[.pointer (some ⟨1,0,none⟩),.int .i64 ti,.int .i64 tg])),some (.inr (.inr (.inr (.pool (Gv.find Sh.O9 K (Gv.see m (⟨ti,tg⟩:Gv.Ref)) (Gv.lk Sh.O9 m (⟨ti,tg⟩:Gv.Ref)) (elOf kE)).2))))],[],[(0,0)]⟩
 |_,_=>none
def TGFind (K:Nat):Tab Rs:=[(63,liftC zN 2 (con1 lookP)),(82,liftC zN 2 (con1 Sh.scmpP))]
theorem gfind_ok (K:Nat):ConOk D Tryz.prog 70 (con1 (gfindP K)):=by
 refine prK Tryz.f70 fun args hh x hx=>?_
 unfold gfindP at hx;split at hx
 ·rename_i kE ti tg m;injection hx with hx
  subst hx;refine q4 fun _ hv=>?_
  obtain⟨hq0,hv⟩:=hv;generalize elOf kE=ke at *;subst hq0;obtain⟨hp,hd⟩:=hv
  generalize hG:Rx.Ends (R:=Rs) _ _=G;refine rx_ok (T:=(TGFind K)) (show TabOk D Tryz.prog (TGFind K) from⟨liftC_ok _ _ look_ok,liftC_ok _ _ Sh.scmp_ok,trivial⟩) mixed 200 ?_
  refine as_text (q:=let Z1:=(Value.pointer (some (Addr.mk 0 0 none)));Vc (PP m)/\At D Tryz.prog (codeOf Tryz.f70) 2 (retK Tryz.prog (Array.toList (Func.results Tryz.f70)) G) [.inl [1,1,0,0],.inr (.inl 0),.inl [1,1,1]] (SS.mk [some Z1,some (Value.agg (Array.mk (elL ke))),none,some (Value.pointer (some (Addr.mk 2 0 none))),some (Value.pointer (some (Addr.mk 3 0 none))),some (Value.bool false),some (Value.pointer (some (Addr.mk 4 0 none))),none,none,some Z1,some Z1,some Z1,some (Value.pointer (some (Addr.mk 0 1 none))),some (Value.agg (Array.mk [Value.int IntKind.i64 ti,Value.int IntKind.i64 tg])),some (Value.agg (Array.mk (ndL (Gv.lk Sh.O9 m (Gv.Ref.mk ti tg))))),none,none,none,none,none,none,none,none,none,none,none,none,none,none,none,none,none,none,none,none,none,none,none] [(5,false)] [trB 1 ti tg,oP (Gv.see m (Gv.Ref.mk ti tg)),some (.inl (75,(elL ke))),some (.inl (75,(elL (Sh.Sl.mk (Wv.It.mk 0 0) false 0)))),some (.inl (111,(ndL (Gv.lk Sh.O9 m (Gv.Ref.mk ti tg)))))])) ?_ (by kernel_rfl)
  intro Z1;subst Z1;refine⟨⟨hp⟩,?_⟩;refine loop_atM (by kernel_rfl) (ι:=Nat×Nd×Pl) (fun s=>PP s.2.2/\Gv.FindE Sh.O9 s.1 s.2.2 s.2.1 ke/\Gv.find Sh.O9 s.1 s.2.2 s.2.1 ke=Gv.find Sh.O9 K (Gv.see m (⟨ti,tg⟩:Gv.Ref)) (Gv.lk Sh.O9 m (⟨ti,tg⟩:Gv.Ref)) ke) [0,3,4,5,6] (fun s=>[.pointer (some ⟨0,0,none⟩),.pointer (some ⟨2,0,none⟩),.pointer (some ⟨3,0,none⟩),.bool false,.pointer (some ⟨4,0,none⟩)]) (fun s=>[some (.inl (115,[.pointer (some ⟨1,0,none⟩),.int .i64 ti,.int .i64 tg])),some (.inr (.inr (.inr (.pool s.2.2)))),some (.inl (75,elL ke)),some (.inl (75,[.int .i64 0,.int .i64 0,.bool false,.int .i64 0])),some (.inl (111,ndL s.2.1))]) (fun s=>s.1) (Tryz.f70).ntmps (fun s hs=>⟨rfl,rfl,Nat.le_add_left _ _⟩) ⟨(K,Gv.lk Sh.O9 m (⟨ti,tg⟩:Gv.Ref),Gv.see m (⟨ti,tg⟩:Gv.Ref)),⟨Gv.see_ok.2 hp,hd,rfl⟩,⟨[0,1,2,3,4],rfl,⟨.inl rfl,rfl,.inl rfl,.inl rfl,.inl rfl,trivial⟩,rfl,rfl,rfl,rfl⟩⟩ fun s hs=>?_
  obtain⟨k,n,m2⟩:=s;obtain⟨s1,s2,s3⟩:=hs;simp only at s1 s2 s3;rcases k with _|k
  ·exact s2.elim
  refine rx_ok (T:=TGFind K) (show TabOk D Tryz.prog (TGFind K) from⟨liftC_ok _ _ look_ok,liftC_ok _ _ Sh.scmp_ok,trivial⟩) mixed 200 ?_
  refine as_text (q:=let Z5:=Value.pointer (some (Addr.mk 0 0 none));let Z6:=Value.pointer (some (Addr.mk 3 0 none));let Z7:=Value.pointer (some (Addr.mk 2 0 none));let Z8:=Value.pointer (some (Addr.mk 4 0 none));let Z1:=(Gv.Ops.cmp Sh.O9 ke (Gv.Node.e (Prod.fst (n,m2)))==(0:Int));let Z2:=(Prod.snd (n,m2));let Z3:=(Gv.Ops.cmp Sh.O9 ke (Gv.Node.e (Prod.fst (n,m2)))<(0:Int));let Z4:=(elL (Sh.Sl.mk (Wv.It.mk 0 0) false 0));(decide (Gv.Node.h (Prod.fst (n,m2))>(0:Int))=true->Vc True/\Vc True/\(Z1=true->Post (G (Value.tuple (Array.mk [Value.agg (Array.mk (elL (Gv.Node.e (Prod.fst (n,m2))))),Value.bool true])) [trB 1 ti tg,oP Z2,some (.inl (75,(elL ke))),some (.inl (75,(elL (Gv.Node.e (Prod.fst (n,m2)))))),some (.inl (111,(ndL (Prod.fst (n,m2)))))]))/\(Z1=false->(decide Z3=true->Vc (PP Z2)/\Post (∃ j,(PP (Prod.snd (Prod.snd j))/\Gv.FindE Sh.O9 (Prod.fst j) (Prod.snd (Prod.snd j)) (Prod.fst (Prod.snd j)) ke/\Gv.find Sh.O9 (Prod.fst j) (Prod.snd (Prod.snd j)) (Prod.fst (Prod.snd j)) ke=Gv.find Sh.O9 K (Gv.see m (Gv.Ref.mk ti tg)) (Gv.lk Sh.O9 m (Gv.Ref.mk ti tg)) ke)/\Prod.fst j<k+1/\FitsM Rs 2 (Func.ntmps Tryz.f70) [0,3,4,5,6] [Z5,Z7,Z6,Value.bool false,Z8] [trB 1 ti tg,oP (Prod.snd (Prod.snd j)),some (.inl ((75:TypeId),elL ke)),some (.inl ((75:TypeId),Z4)),some (.inl ((111:TypeId),ndL (Prod.fst (Prod.snd j))))] [some (Z5),some (Z7),some (Z6),some (Value.bool false),some (Z8)] [trB 1 ti tg,oP (Gv.see Z2 (Gv.Node.l (Prod.fst (n,m2)))),some (.inl (75,(elL ke))),some (.inl (75,Z4)),some (.inl (111,(ndL (Gv.lk Sh.O9 Z2 (Gv.Node.l (Prod.fst (n,m2)))))))] 38))/\(decide Z3=false->Vc (PP Z2)/\Post (∃ j,(PP (Prod.snd (Prod.snd j))/\Gv.FindE Sh.O9 (Prod.fst j) (Prod.snd (Prod.snd j)) (Prod.fst (Prod.snd j)) ke/\Gv.find Sh.O9 (Prod.fst j) (Prod.snd (Prod.snd j)) (Prod.fst (Prod.snd j)) ke=Gv.find Sh.O9 K (Gv.see m (Gv.Ref.mk ti tg)) (Gv.lk Sh.O9 m (Gv.Ref.mk ti tg)) ke)/\Prod.fst j<k+1/\FitsM Rs 2 (Func.ntmps Tryz.f70) [0,3,4,5,6] [Z5,Z7,Z6,Value.bool false,Z8] [trB 1 ti tg,oP (Prod.snd (Prod.snd j)),some (.inl ((75:TypeId),elL ke)),some (.inl ((75:TypeId),Z4)),some (.inl ((111:TypeId),ndL (Prod.fst (Prod.snd j))))] [some (Z5),some (Z7),some (Z6),some (Value.bool false),some (Z8)] [trB 1 ti tg,oP (Gv.see Z2 (Gv.Node.r (Prod.fst (n,m2)))),some (.inl (75,(elL ke))),some (.inl (75,Z4)),some (.inl (111,(ndL (Gv.lk Sh.O9 Z2 (Gv.Node.r (Prod.fst (n,m2)))))))] 38))))/\(decide (Gv.Node.h (Prod.fst (n,m2))>(0:Int))=false->Post (G (Value.tuple (Array.mk [Value.agg (Array.mk Z4),Value.bool false])) [trB 1 ti tg,oP Z2,some (.inl (75,(elL ke))),some (.inl (75,Z4)),some (.inl (111,(ndL (Prod.fst (n,m2))))),some (.inl (75,Z4))]))) ?_ (by kernel_rfl)
  intro Z5 Z6 Z7 Z8 Z1 Z2 Z3 Z4;subst Z4 Z3 Z2 Z1 Z8 Z7 Z6 Z5;rw[Gv.FindE] at s2;rw[Gv.find] at s3;subst hG
  repeat' (first|apply And.intro|apply Vc.mk|apply fits.mk|intro h|apply Post.mk)
  all_goals (try simp only[sB] at *)
  all_goals first|contradiction|omega|exact vb1 ‹_›|exact vb2 ‹_›|exact vb3 ‹_›|exact⟨rfl,by omega⟩|exact rfl|(simp[*,-List.getD_eq_getElem?_getD];done)|skip
  all_goals first|assumption|skip
  ·have h1:n.h>0:=by assumption
   have h2:Sh.O9.cmp ke n.e=0:=by assumption
   rw[if_pos h1,if_pos h2] at s3;rw[← s3];exact⟨[0,1],rfl,rfl,⟨.inl rfl,rfl,trivial⟩,rfl,rfl,rfl,rfl⟩
  ·have h1:n.h>0:=by assumption
   have h2:Sh.O9.cmp ke n.e≠0:=by assumption
   have h3:Sh.O9.cmp ke n.e<0:=by assumption
   rw[if_pos h1,if_neg h2,if_pos h3] at s3;exact⟨(k,Gv.lk Sh.O9 m2 n.l,Gv.see m2 n.l),⟨Gv.see_ok.2 s1,(s2 h1 h2).1 (by omega),s3⟩,Nat.lt_succ_self _,⟨[0,1,2,3,4],rfl,⟨.inl rfl,rfl,.inl rfl,.inl rfl,.inl rfl,trivial⟩,rfl,rfl,rfl,rfl⟩⟩
  ·have h1:n.h>0:=by assumption
   have h2:Sh.O9.cmp ke n.e≠0:=by assumption
   have h3:¬ Sh.O9.cmp ke n.e<0:=by omega
   rw[if_pos h1,if_neg h2,if_neg h3] at s3;exact⟨(k,Gv.lk Sh.O9 m2 n.r,Gv.see m2 n.r),⟨Gv.see_ok.2 s1,(s2 h1 h2).2 (by omega),s3⟩,Nat.lt_succ_self _,⟨[0,1,2,3,4],rfl,⟨.inl rfl,rfl,.inl rfl,.inl rfl,.inl rfl,trivial⟩,rfl,rfl,rfl,rfl⟩⟩
  ·have h1:¬ n.h>0:=by omega
   rw[if_neg h1] at s3;rw[← s3];exact⟨[0,1],rfl,rfl,⟨.inl rfl,rfl,trivial⟩,rfl,rfl,rfl,rfl⟩
 ·cases hx
end G9
namespace G9
open Rx
open Gv (KK)
set_option maxRecDepth 100000
set_option maxHeartbeats 8000000
def tnewP:Prim Rt:=fun args hh=>match args,hh with
 |[.int .i64 c],[]=>some ⟨True,.pointer (some ⟨0,0,none⟩),none,[oT (Gv.TS.new k9 c)],[],[(0,0)]⟩
 |_,_=>none
theorem tnew_ok:ConOk D2 Tryz.prog 66 (con1 tnewP):=by
 refine res_up (c:=con1 gnewP) gnew_ok fun args hh x hx=>?_
 unfold tnewP at hx;split at hx
 ·rename_i c;injection hx with hx
  subst hx;refine⟨Nat.zero_le _,noLit rfl,(fun hw=>by cases hw),fun hv=>⟨⟨_,.inl ⟨rfl,rfl⟩,rfl,?_,?_,?_⟩,rfl,rfl⟩⟩
  ·trivial
  ·rfl
  ·rfl
 ·cases hx
def tlenP:Prim Rt:=fun args hh=>match args,hh with
 |[.pointer (some ⟨0,0,none⟩)],[some (.inr (.inr (.inr (.tree s))))]=>some ⟨s.Few,.int .i64 s.l.length,none,[oT s.seen],[],[(0,0)]⟩
 |_,_=>none
theorem tlen_ok:ConOk D2 Tryz.prog 33 (con1 tlenP):=by
 refine res_up (c:=con1 lenP) len_ok fun args hh x hx=>?_
 unfold tlenP at hx;split at hx
 ·rename_i s;injection hx with hx
  subst hx;refine⟨Nat.le_refl _,noLit rfl,(fun hw=>by cases hw),fun hv=>⟨⟨_,.inl ⟨rfl,rfl⟩,rfl,?_,?_,?_⟩,rfl,rfl⟩⟩
  ·exact s.pp hv
  ·rfl
  ·exact congrArg (Value.int IntKind.i64) s.ok.nn
 ·cases hx
def tvisP:Prim Rt:=fun args hh=>match args,hh with
 |[.pointer (some ⟨0,0,none⟩)],[some (.inr (.inr (.inr (.tree s))))]=>some ⟨True,.int .i64 s.m.visits,none,hh,[],[]⟩
 |_,_=>none
theorem tvis_ok:ConOk D2 Tryz.prog 61 (con1 tvisP):=by
 refine res_up (c:=con1 gvisitsP) gvisits_ok fun args hh x hx=>?_
 unfold tvisP at hx;split at hx
 ·rename_i s;injection hx with hx
  subst hx;refine⟨Nat.le_refl _,noLit rfl,(fun _=>rfl),fun hv=>⟨⟨_,.inl ⟨rfl,rfl⟩,rfl,?_,?_,?_⟩,rfl,rfl⟩⟩
  ·trivial
  ·rfl
  ·rfl
 ·cases hx
def tputP:Prim Rt:=fun args hh=>match args,hh with
 |[.pointer (some ⟨0,0,none⟩),.agg ⟨[.int .i64 k0,.int .i64 k1,.bool k2,.int .i64 k3]⟩],[some (.inr (.inr (.inr (.tree s))))]=>some ⟨s.PutOk (⟨⟨k0,k1⟩,k2,k3⟩:Sh.Sl),.bool (s.putB (⟨⟨k0,k1⟩,k2,k3⟩:Sh.Sl)),none,[oT (s.put (⟨⟨k0,k1⟩,k2,k3⟩:Sh.Sl))],[],[(0,0)]⟩
 |_,_=>none
theorem tput_ok:ConOk D2 Tryz.prog 52 (con1 tputP):=by
 refine res_up (c:=con1 (gputP KK)) (gput_ok KK) fun args hh x hx=>?_
 unfold tputP at hx;split at hx
 ·rename_i k0 k1 k2 k3 s;injection hx with hx
  subst hx;refine⟨Nat.le_refl _,noLit rfl,(fun hw=>by cases hw),fun hv=>⟨⟨_,.inl ⟨rfl,rfl⟩,rfl,?_,?_,?_⟩,rfl,rfl⟩⟩
  ·exact⟨rfl,s.pp hv.few,(Gv.TS.put_ok hv).1⟩
  ·rw[Gv.TS.put_eq hv];rfl
  ·exact congrArg Value.bool (Gv.TS.put_ok hv).2.1
 ·cases hx
def tdropP:Prim Rt:=fun args hh=>match args,hh with
 |[.pointer (some ⟨0,0,none⟩),.agg ⟨[.int .i64 k0,.int .i64 k1,.bool k2,.int .i64 k3]⟩],[some (.inr (.inr (.inr (.tree s))))]=>some ⟨s.Few,.tuple #[.agg ⟨[.int .i64 (Gv.fndE Sh.O9 (⟨⟨k0,k1⟩,k2,k3⟩:Sh.Sl) s.l).1.it.k,.int .i64 (Gv.fndE Sh.O9 (⟨⟨k0,k1⟩,k2,k3⟩:Sh.Sl) s.l).1.it.i,.bool (Gv.fndE Sh.O9 (⟨⟨k0,k1⟩,k2,k3⟩:Sh.Sl) s.l).1.eaten,.int .i64 (Gv.fndE Sh.O9 (⟨⟨k0,k1⟩,k2,k3⟩:Sh.Sl) s.l).1.time]⟩,.bool (Gv.fndE Sh.O9 (⟨⟨k0,k1⟩,k2,k3⟩:Sh.Sl) s.l).2],none,[oT (s.drop (⟨⟨k0,k1⟩,k2,k3⟩:Sh.Sl))],[],[(0,0)]⟩
 |_,_=>none
theorem tdrop_ok:ConOk D2 Tryz.prog 59 (con1 tdropP):=by
 refine res_up (c:=con1 (gdropP KK)) (gdrop_ok KK) fun args hh x hx=>?_
 unfold tdropP at hx;split at hx
 ·rename_i k0 k1 k2 k3 s;injection hx with hx
  subst hx;refine⟨Nat.le_refl _,noLit rfl,(fun hw=>by cases hw),fun hv=>⟨⟨_,.inl ⟨rfl,rfl⟩,rfl,?_,?_,?_⟩,rfl,rfl⟩⟩
  ·exact⟨rfl,s.pp hv,(s.drop_ok (⟨⟨k0,k1⟩,k2,k3⟩:Sh.Sl)).1⟩
  ·rfl
  ·obtain⟨_,h1,h2,_⟩:=s.drop_ok (⟨⟨k0,k1⟩,k2,k3⟩:Sh.Sl);show Value.tuple #[.agg ⟨[.int .i64 (Gv.dropF Sh.O9 KK s.m s.r (⟨⟨k0,k1⟩,k2,k3⟩:Sh.Sl)).1.it.k,.int .i64 (Gv.dropF Sh.O9 KK s.m s.r (⟨⟨k0,k1⟩,k2,k3⟩:Sh.Sl)).1.it.i,.bool (Gv.dropF Sh.O9 KK s.m s.r (⟨⟨k0,k1⟩,k2,k3⟩:Sh.Sl)).1.eaten,.int .i64 (Gv.dropF Sh.O9 KK s.m s.r (⟨⟨k0,k1⟩,k2,k3⟩:Sh.Sl)).1.time]⟩,.bool (Gv.dropF Sh.O9 KK s.m s.r (⟨⟨k0,k1⟩,k2,k3⟩:Sh.Sl)).2.1]=_
   have h1:(Gv.dropF Sh.O9 KK s.m s.r (⟨⟨k0,k1⟩,k2,k3⟩:Sh.Sl)).1=(Gv.fndE Sh.O9 (⟨⟨k0,k1⟩,k2,k3⟩:Sh.Sl) s.l).1:=h1;have h2:(Gv.dropF Sh.O9 KK s.m s.r (⟨⟨k0,k1⟩,k2,k3⟩:Sh.Sl)).2.1=(Gv.fndE Sh.O9 (⟨⟨k0,k1⟩,k2,k3⟩:Sh.Sl) s.l).2:=h2;rw[h1,h2]
   rfl
 ·cases hx
def tfindP:Prim Rt:=fun args hh=>match args,hh with
 |[.pointer (some ⟨0,0,none⟩),.agg ⟨[.int .i64 k0,.int .i64 k1,.bool k2,.int .i64 k3]⟩],[some (.inr (.inr (.inr (.tree s))))]=>some ⟨s.Few,.tuple #[.agg ⟨[.int .i64 (Gv.fndE Sh.O9 (⟨⟨k0,k1⟩,k2,k3⟩:Sh.Sl) s.l).1.it.k,.int .i64 (Gv.fndE Sh.O9 (⟨⟨k0,k1⟩,k2,k3⟩:Sh.Sl) s.l).1.it.i,.bool (Gv.fndE Sh.O9 (⟨⟨k0,k1⟩,k2,k3⟩:Sh.Sl) s.l).1.eaten,.int .i64 (Gv.fndE Sh.O9 (⟨⟨k0,k1⟩,k2,k3⟩:Sh.Sl) s.l).1.time]⟩,.bool (Gv.fndE Sh.O9 (⟨⟨k0,k1⟩,k2,k3⟩:Sh.Sl) s.l).2],none,[oT (s.find (⟨⟨k0,k1⟩,k2,k3⟩:Sh.Sl))],[],[(0,0)]⟩
 |_,_=>none
theorem tfind_ok:ConOk D2 Tryz.prog 70 (con1 tfindP):=by
 refine res_up (c:=con1 (gfindP KK)) (gfind_ok KK) fun args hh x hx=>?_
 unfold tfindP at hx;split at hx
 ·rename_i k0 k1 k2 k3 s;injection hx with hx
  subst hx;refine⟨Nat.le_refl _,noLit rfl,(fun hw=>by cases hw),fun hv=>⟨⟨_,.inl ⟨rfl,rfl⟩,rfl,?_,?_,?_⟩,rfl,rfl⟩⟩
  ·exact⟨rfl,s.pp hv,(s.ok.find (e:=(⟨⟨k0,k1⟩,k2,k3⟩:Sh.Sl)) s.k1).1⟩
  ·rfl
  ·obtain⟨_,m',h1,_⟩:=s.ok.find (K:=KK) (e:=(⟨⟨k0,k1⟩,k2,k3⟩:Sh.Sl)) s.k1;have h1:(Gv.find Sh.O9 KK (Gv.see s.m s.r) (Gv.lk Sh.O9 s.m s.r) (⟨⟨k0,k1⟩,k2,k3⟩:Sh.Sl))=((Gv.fndE Sh.O9 (⟨⟨k0,k1⟩,k2,k3⟩:Sh.Sl) s.l),m'):=h1;show Value.tuple #[.agg ⟨[.int .i64 (Gv.find Sh.O9 KK (Gv.see s.m s.r) (Gv.lk Sh.O9 s.m s.r) (⟨⟨k0,k1⟩,k2,k3⟩:Sh.Sl)).1.1.it.k,.int .i64 (Gv.find Sh.O9 KK (Gv.see s.m s.r) (Gv.lk Sh.O9 s.m s.r) (⟨⟨k0,k1⟩,k2,k3⟩:Sh.Sl)).1.1.it.i,.bool (Gv.find Sh.O9 KK (Gv.see s.m s.r) (Gv.lk Sh.O9 s.m s.r) (⟨⟨k0,k1⟩,k2,k3⟩:Sh.Sl)).1.1.eaten,.int .i64 (Gv.find Sh.O9 KK (Gv.see s.m s.r) (Gv.lk Sh.O9 s.m s.r) (⟨⟨k0,k1⟩,k2,k3⟩:Sh.Sl)).1.1.time]⟩,.bool (Gv.find Sh.O9 KK (Gv.see s.m s.r) (Gv.lk Sh.O9 s.m s.r) (⟨⟨k0,k1⟩,k2,k3⟩:Sh.Sl)).1.2]=_
   rw[h1]
   rfl
 ·cases hx
def tallP:Prim Rt:=fun args hh=>match args,hh with
 |[.pointer (some ⟨0,0,none⟩)],[some (.inr (.inr (.inr (.tree s))))]=>some ⟨s.Few,.slice (some ⟨1,0,some 4000⟩) s.l.length 0,none,[oT s.all,some (.inr (.inl (75,⟨[.int .i64 0,.int .i64 0,.bool false,.int .i64 0],s.l.length,[⟨s.l.map fun e=>e.it.k,[],[]⟩,⟨s.l.map fun e=>e.it.i,[],[]⟩,⟨[],s.l.map fun e=>e.eaten,[]⟩,⟨s.l.map fun e=>e.time,[],[]⟩]⟩)))],[],[(0,0)]⟩
 |_,_=>none
theorem tall_ok:ConOk D2 Tryz.prog 45 (con1 tallP):=by
 refine res_up (c:=con1 (gallP KK)) (gall_ok KK) fun args hh x hx=>?_
 unfold tallP at hx;split at hx
 ·rename_i s;injection hx with hx
  subst hx;refine⟨Nat.le_succ _,noLit rfl,(fun hw=>by cases hw),fun hv=>⟨⟨_,.inl ⟨rfl,rfl⟩,rfl,?_,?_,?_⟩,rfl,rfl⟩⟩
  ·exact⟨s.pp hv,(s.ok.all (K:=KK) s.k1).1⟩
  ·obtain⟨_,m',h1,_⟩:=s.ok.all (K:=KK) s.k1;have h1:(Gv.gather Sh.O9 KK (Gv.see s.m s.r) s.r)=(s.l,m'):=h1;show([some (.inl (115,[.pointer (some ⟨1,0,none⟩),.int .i64 s.r.i,.int .i64 s.r.g])),some (.inr (.inr (.inr (.pool (Gv.gather Sh.O9 KK (Gv.see s.m s.r) s.r).2)))),some (.inr (.inl (75,⟨[.int .i64 0,.int .i64 0,.bool false,.int .i64 0],(Gv.gather Sh.O9 KK (Gv.see s.m s.r) s.r).1.length,[⟨(Gv.gather Sh.O9 KK (Gv.see s.m s.r) s.r).1.map fun e=>e.it.k,[],[]⟩,⟨(Gv.gather Sh.O9 KK (Gv.see s.m s.r) s.r).1.map fun e=>e.it.i,[],[]⟩,⟨[],(Gv.gather Sh.O9 KK (Gv.see s.m s.r) s.r).1.map fun e=>e.eaten,[]⟩,⟨(Gv.gather Sh.O9 KK (Gv.see s.m s.r) s.r).1.map fun e=>e.time,[],[]⟩]⟩)))]:Hp Rs)=[some (.inl (115,[.pointer (some ⟨1,0,none⟩),.int .i64 s.r.i,.int .i64 s.r.g])),some (.inr (.inr (.inr (.pool (Gv.gather Sh.O9 KK (Gv.see s.m s.r) s.r).2)))),some (.inr (.inl (75,⟨[.int .i64 0,.int .i64 0,.bool false,.int .i64 0],s.l.length,[⟨s.l.map fun e=>e.it.k,[],[]⟩,⟨s.l.map fun e=>e.it.i,[],[]⟩,⟨[],s.l.map fun e=>e.eaten,[]⟩,⟨s.l.map fun e=>e.time,[],[]⟩]⟩)))]
   rw[h1]
  ·obtain⟨_,m',h1,_⟩:=s.ok.all (K:=KK) s.k1;have h1:(Gv.gather Sh.O9 KK (Gv.see s.m s.r) s.r)=(s.l,m'):=h1;show Value.slice (some ⟨2,0,some 4000⟩) (Gv.gather Sh.O9 KK (Gv.see s.m s.r) s.r).1.length 0=_
   rw[h1]
   rfl
 ·cases hx
end G9
namespace Wv
open Rx
set_option maxRecDepth 100000
set_option maxHeartbeats 4000000
abbrev iR (l:List It):Row:=⟨[.int .i64 0,.int .i64 0],l.length,[⟨l.map It.k,[],[]⟩,⟨l.map It.i,[],[]⟩]⟩
theorem range_get {α:Type} {l:List α} {f:Nat->α} (h:∀ i (hi:i<l.length),f i=l[i]):(List.range l.length).map f=l:=by
 refine List.ext_getElem (by simp) fun i h1 h2=>?_
 simp only[List.getElem_map,List.getElem_range];exact h i h2
theorem map_getD {α β:Type} {l:List α} {i:Nat} (f:α->β) (d:β) (hi:i<l.length):(l.map f).getD i d=f l[i]:=by
 rw[List.getD_eq_getElem?_getD,List.getElem?_map,List.getElem?_eq_getElem hi];rfl
theorem cm {α β:Type} (f:α->β) (l:List α):cut (l.map f) 0 l.length=l.map f:=cut_eq (by simp)
abbrev vI {R:Type} (l:List It):Option (SB R):=some (.inr (.inr (.inl (iR l))))
abbrev oI {R:Type} (l:List It):Option (SB R):=some (.inr (.inl (31,iR l)))
theorem insE {x:It} {S:List It} {k:Nat} (h:posAt x S S.length=k):(ins x S).map It.k=(S.map It.k).take k++x.k::(S.map It.k).drop k/\(ins x S).map It.i=(S.map It.i).take k++x.i::(S.map It.i).drop k/\(k≤S.length->k+1+((S.length:Int)-(k:Int)).toNat=(ins x S).length):=by
 subst h;refine⟨?_,?_,fun h=>?_⟩
 ·unfold ins;rw[List.map_append,List.map_cons,List.map_take,List.map_drop]
 ·unfold ins;rw[List.map_append,List.map_cons,List.map_take,List.map_drop]
 ·rw[ins_len];omega
end Wv
namespace Sh
open Rx Wv
set_option maxRecDepth 100000
set_option maxHeartbeats 4000000
end Sh
namespace G9
open Rx Wv Sh
set_option maxRecDepth 100000
set_option maxHeartbeats 16000000
def rdP2:Con Rt:=⟨fun _ _=>some true,fun _ _=>none,fun _ _=>some ⟨True,.bool false,none,[],[],[]⟩⟩
theorem rdP2_ok:RdOk D2 rdP2:=by
 refine⟨fun _ X p F w h=>?_,fun e X x p F w hx=>by cases hx⟩
 obtain⟨ρl,ftl,h1,h2,h3⟩:=h;obtain⟨t,cs,tl,hl⟩:∃ t cs tl,L2.lay X=some (.inl (t,cs))::tl:=by cases X;exact⟨_,_,_,rfl⟩
 obtain⟨g1,g2,g3⟩:=(h3.at_ 0 (.inl (t,cs)) (by rw[hl];rfl)).1
 subst h1;exact⟨(h2 _).2 ⟨0,(g2 _).2 rfl⟩,_,_,g3⟩
def its (s:Ts):List It:=s.l.map Sl.it
abbrev oS (l:List Sl):Option (SB Rt):=some (.inr (.inl (75,⟨[.int .i64 0,.int .i64 0,.bool false,.int .i64 0],l.length,[⟨l.map fun e=>e.it.k,[],[]⟩,⟨l.map fun e=>e.it.i,[],[]⟩,⟨[],l.map fun e=>e.eaten,[]⟩,⟨l.map fun e=>e.time,[],[]⟩]⟩)))
def TNw:Tab Rt:=[(66,liftC zN 2 (con1 tnewP))]
theorem TNw_ok:TabOk D2 Tryz.prog TNw:=⟨liftC_ok _ _ tnew_ok,trivial⟩
def tnwP:Prim Rt:=fun args hh=>match args,hh with
 |[.int .i64 c],[]=>some ⟨True,.pointer (some ⟨0,0,none⟩),none,[oT (Gv.TS.new k9 c)],[],[(0,0)]⟩
 |_,_=>none
theorem tnw_ok:ConOk D2 Tryz.prog 37 (con1 tnwP):=by
 refine prK Tryz.f37 fun args hh x hx=>?_
 unfold tnwP at hx;split at hx
 ·rename_i c;injection hx with hx
  subst hx;refine q4 fun _ hv=>?_
  generalize hG:Rx.Ends (R:=Rt) _ _=G;refine rx_ok (T:=TNw) TNw_ok mixed 200 ?_;refine as_text (q:=Vc True/\Post (G (Value.pointer (some (Addr.mk 0 0 none))) [some (.inr (.inr (.inr (Rt.tree (Gv.TS.new k9 c)))))])) ?_ (by kernel_rfl)
  subst hG;exact⟨⟨trivial⟩,⟨⟨[0],rfl,rfl,⟨rfl,trivial⟩,rfl,rfl,rfl,rfl⟩⟩⟩
 ·cases hx
end G9
namespace Br
open Rx Wv G8
set_option maxRecDepth 100000
def tkL (x:Option It):List Value:=[.bool x.isSome,.int .i64 (x.getD iz).k,.int .i64 (x.getD iz).i]
theorem asksB {L:List Mk} {b:Int} (hl:L.length≤60) (hb0:-1099511627776≤b) (hb1:b≤1099511627776):Gv.AsksX O8 S8 (Pa.mayB b) (fun i=>decide (hgh L b (i+1)≤0)) L:=asks_low fun p l q hL hne=>by
 have hn:=congrArg List.length hL;simp only[List.length_append] at hn;have hp:p.length≤60:=by omega
 have hq:l.length≤60:=by omega
 have h1:=Ti.psum_small (small_map wgt_b hp) _ (Nat.le_refl _);have h2:=Ti.lowTo_small (small_map wgt_b hq) _ (Nat.le_refl _);have e1:(S8 p).w.s=Ti.psum (p.map wgt) (p.map wgt).length:=rfl;have e2:(S8 l).w.l=Ti.lowTo (l.map wgt) (l.map wgt).length:=rfl;rw[← e1] at h1;rw[← e2] at h2;unfold Pa.mayB;have w1:Gv.W (b+(S8 p).w.s)=b+(S8 p).w.s:=Gv.W_of (by omega)
 have w2:Gv.W (b+(S8 p).w.s+(S8 l).w.l)=b+(S8 p).w.s+(S8 l).w.l:=Gv.W_of (by omega)
 rw[w1,w2,decide_eq_true_eq]
theorem k60 (s:Ts):s.l.length≤60:=s.ok.good
def hgS (s:Ts) (p:Int):Ts:=s.seen.bet 0 (clp s.l.length p)
def nxS (s:Ts) (p b:Int):Ts:=if clp s.l.length p=0/\b≤0 then s.seen else s.seen.first (Pa.mayB b) ((clp s.l.length p:Int)-1)
def prS (s:Ts) (p b:Int):Ts:=s.seen.last (Pa.mayB b) (clp s.l.length p)
def bsS (s:Ts) (p:Int):Ts:=s.seen.seen.bet (clp s.l.length p) s.l.length
theorem nxS_l (s:Ts) (p b:Int):(nxS s p b).l=s.l:=by unfold nxS;split<;>rfl
theorem nxS_n (s:Ts) (p b:Int):(nxS s p b).n=s.n:=by unfold nxS;split<;>rfl
theorem nxS_c (s:Ts) (p b:Int):(nxS s p b).c=s.c:=by unfold nxS;split<;>rfl
theorem nxS_vis {s:Ts} {L:List Mk} {p b:Int} (hL:s.l=L) (hb0:-1099511627776≤b) (hb1:b≤1099511627776):Gv.Vis (8*Gv.hgt L.length+5) s.m (nxS s p b).m:=by
 subst hL;have h1:=s.seen_vis;have h3:=Gv.TS.first_vis (s:=s.seen) (f:=(clp s.l.length p:Int)-1) (may:=Pa.mayB b) (asksB (L:=s.l) (k60 s) hb0 hb1);unfold nxS;split
 ·exact h1.mono (by omega)
 ·exact(h1.trans h3).mono (by show 1+(4*Gv.hgt s.l.length+1)≤_;omega)
theorem prS_vis {s:Ts} {L:List Mk} {p b:Int} (hL:s.l=L) (hb0:-1099511627776≤b) (hb1:b≤1099511627776):Gv.Vis (8*Gv.hgt L.length+5) s.m (prS s p b).m:=by
 subst hL;have h1:=s.seen_vis;have h3:=Gv.TS.last_vis (s:=s.seen) (f:=(clp s.l.length p:Int)) (may:=Pa.mayB b) (asksB (L:=s.l) (k60 s) hb0 hb1);exact(h1.trans h3).mono (by show 1+(4*Gv.hgt s.l.length+1)≤_;omega)
set_option maxHeartbeats 8000000
def rdP2:Con Rt:=⟨fun _ _=>some true,fun _ _=>none,fun _ _=>some ⟨True,.bool false,none,[],[],[]⟩⟩
theorem rdP2_ok:RdOk D2 rdP2:=by
 refine⟨fun _ X p F w h=>?_,fun e X x p F w hx=>by cases hx⟩
 obtain⟨ρl,ftl,h1,h2,h3⟩:=h;obtain⟨t,cs,tl,hl⟩:∃ t cs tl,L2.lay X=some (.inl (t,cs))::tl:=by cases X;exact⟨_,_,_,rfl⟩
 obtain⟨g1,g2,g3⟩:=(h3.at_ 0 (.inl (t,cs)) (by rw[hl];rfl)).1
 subst h1;exact⟨(h2 _).2 ⟨0,(g2 _).2 rfl⟩,_,_,g3⟩
def TNw:Tab Rt:=[(65,liftC zN 2 (con1 tnewP))]
theorem TNw_ok:TabOk D2 Tryz.prog TNw:=⟨liftC_ok _ _ tnew_ok,trivial⟩
def tnwP:Prim Rt:=fun args hh=>match args,hh with
 |[.int .i64 c],[]=>some ⟨True,.pointer (some ⟨0,0,none⟩),none,[oT (Gv.TS.new k8 c)],[],[(0,0)]⟩
 |_,_=>none
theorem tnw_ok:ConOk D2 Tryz.prog 36 (con1 tnwP):=by
 refine prK Tryz.f36 fun args hh x hx=>?_
 unfold tnwP at hx;split at hx
 ·rename_i c;injection hx with hx
  subst hx;refine q4 fun _ hv=>?_
  generalize hG:Rx.Ends (R:=Rt) _ _=G;refine rx_ok (T:=TNw) TNw_ok mixed 200 ?_;refine as_text (q:=Vc True/\Post (G (Value.pointer (some (Addr.mk 0 0 none))) [some (.inr (.inr (.inr (Rt.tree (Gv.TS.new k8 c)))))])) ?_ (by kernel_rfl)
  subst hG;exact⟨⟨trivial⟩,⟨⟨[0],rfl,rfl,⟨rfl,trivial⟩,rfl,rfl,rfl,rfl⟩⟩⟩
 ·cases hx
def TCl:Tab Rt:=[(35,liftC zN 2 (con1 tlenP)),(62,liftC zN 2 (con1 tbetP))]
theorem TCl_ok:TabOk D2 Tryz.prog TCl:=⟨liftC_ok _ _ tlen_ok,liftC_ok _ _ tbet_ok,trivial⟩
def clamP:Prim Rt:=fun args hh=>match args,hh with
 |[.pointer (some ⟨0,0,none⟩),.int .i64 p],[some (.inr (.inr (.inr (.tree s))))]=>some ⟨s.Few,.tuple ⟨[.pointer (some ⟨0,0,none⟩),.int .i64 (clp s.l.length p)]⟩,none,[oT s.seen],[],[(0,0)]⟩
 |_,_=>none
theorem clam_ok:ConOk D2 Tryz.prog 100 (con1 clamP):=by
 refine prK Tryz.f100 fun args hh x hx=>?_
 unfold clamP at hx;split at hx
 ·rename_i p s;injection hx with hx
  subst hx;refine q4 fun _ hv=>?_
  generalize hG:Rx.Ends (R:=Rt) _ _=G;refine rx_ok (T:=TCl) TCl_ok mixed 200 ?_;refine as_text (q:=Vc (Gv.TS.Few s)/\Post (G (Value.tuple (Array.mk [Value.pointer (some (Addr.mk 0 0 none)),Value.int IntKind.i64 (if(↑(List.length (Gv.TS.l s)):Int)<if(0:Int)>p then(0:Int) else p then(↑(List.length (Gv.TS.l s)):Int) else if(0:Int)>p then(0:Int) else p)])) [some (.inr (.inr (.inr (Rt.tree (Gv.TS.seen s)))))])) ?_ (by kernel_rfl)
  have e:(if(s.l.length:Int)<(if 0>p then 0 else p) then(s.l.length:Int) else(if 0>p then 0 else p))=(clp s.l.length p:Int):=by unfold clp;split<;>split at *<;>omega
  rw[e];subst hG;exact⟨⟨hv⟩,⟨⟨[0],rfl,rfl,⟨rfl,trivial⟩,rfl,rfl,rfl,rfl⟩⟩⟩
 ·cases hx
theorem sub_drop' (l:List Mk) (p:Int):Gv.sub l (clp l.length p) l.length=l.drop (clp l.length p):=by
 show(l.drop _).take (l.length-_)=_
 rw[List.take_of_length_le (by rw[List.length_drop];exact Nat.le_refl _)]
theorem sub_take' (l:List Mk) (p:Int):Gv.sub l 0 (clp l.length p)=l.take (clp l.length p):=rfl
theorem few_seen {s:Ts} (h:s.Few):s.seen.Few:=h
def blowP:Prim Rt:=fun args hh=>match args,hh with
 |[.int .i64 b],[]=>some ⟨True,.func (.func 117) ⟨[]⟩ ⟨[.pointer (some ⟨0,0,none⟩)]⟩,none,[some (.inl (3,[.int .i64 b]))],[],[(0,0)]⟩
 |_,_=>none
theorem blow_ok:ConOk D2 Tryz.prog 101 (con1 blowP):=by
 refine prK Tryz.f101 fun args hh x hx=>?_
 unfold blowP at hx;split at hx
 ·rename_i b;injection hx with hx
  subst hx;refine q4 fun _ hv=>?_
  generalize hG:Rx.Ends (R:=Rt) _ _=G;refine rx_ok (T:=[]) trivial mixed 200 ?_;refine as_text (q:=Vc True/\Post (G (Value.func (Fn.func 117) (Array.mk []) (Array.mk [Value.pointer (some (Addr.mk 0 0 none))])) [some (.inl (3,[Value.int IntKind.i64 b]))])) ?_ (by kernel_rfl)
  subst hG;exact⟨⟨trivial⟩,⟨⟨[0],rfl,rfl,⟨.inl rfl,trivial⟩,rfl,rfl,rfl,rfl⟩⟩⟩
 ·cases hx
def TBr:Tab Rt:=[(1000000000,rdP2),(100,liftC zN 2 (con1 clamP)),(101,liftC zN 2 (con1 blowP)),(84,liftC zN 2 (con1 tfirstBP)),(87,liftC zN 2 (con1 tlastBP)),(35,liftC zN 2 (con1 tlenP)),(62,liftC zN 2 (con1 tbetP))]
theorem TBr_ok:TabOk D2 Tryz.prog TBr:=⟨rdP2_ok,liftC_ok _ _ clam_ok,liftC_ok _ _ blow_ok,liftC_ok _ _ tfirstB_ok,liftC_ok _ _ tlastB_ok,liftC_ok _ _ tlen_ok,liftC_ok _ _ tbet_ok,trivial⟩
def bnxP:Prim Rt:=fun args hh=>match args,hh with
 |[.pointer (some ⟨0,0,none⟩),.int .i64 p,.int .i64 b],[some (.inr (.inr (.inr (.tree s))))]=>some ⟨s.Few/\-1099511627776≤b/\b≤1099511627776,.int .i64 (nxI s.l p b),none,[oT (nxS s p b)],[],[(0,0)]⟩
 |_,_=>none
theorem bnx_ok:ConOk D2 Tryz.prog 88 (con1 bnxP):=by
 refine prK Tryz.f88 fun args hh x hx=>?_
 unfold bnxP at hx;split at hx
 ·rename_i p b s;injection hx with hx
  subst hx;refine q4 fun _ hv=>?_
  generalize hG:Rx.Ends (R:=Rt) _ _=G;refine rx_ok (T:=TBr) TBr_ok mixed 200 ?_;refine as_text (q:=let Z2:=Value.int IntKind.i64;let Z1:=(IntKind.wrap IntKind.i64 ((↑(clp (List.length (Gv.TS.l s)) p):Int)-(1:Int)));Vc (Gv.TS.Few s)/\(((↑(clp (List.length (Gv.TS.l s)) p):Int)==(0:Int))=true->(decide (b≤(0:Int))=true->Post (G (Z2 0) [some (.inr (.inr (.inr (Rt.tree (Gv.TS.seen s)))))]))/\(decide (b≤(0:Int))=false->Vc True/\Vc True/\Vc (Gv.TS.Few (Gv.TS.seen s))/\(decide (Gv.TS.firstI (Pa.mayB b) (Gv.TS.seen s) Z1<(0:Int))=true->Post (G (Z2 (-1:Int)) [some (.inr (.inr (.inr (Rt.tree (Gv.TS.first (Pa.mayB b) (Gv.TS.seen s) Z1))))),some (.inl (3,[Z2 b]))]))/\(decide (Gv.TS.firstI (Pa.mayB b) (Gv.TS.seen s) Z1<(0:Int))=false->Vc True/\Post (G (Z2 (IntKind.wrap IntKind.i64 (Gv.TS.firstI (Pa.mayB b) (Gv.TS.seen s) Z1+(1:Int)))) [some (.inr (.inr (.inr (Rt.tree (Gv.TS.first (Pa.mayB b) (Gv.TS.seen s) Z1))))),some (.inl (3,[Z2 b]))]))))/\(((↑(clp (List.length (Gv.TS.l s)) p):Int)==(0:Int))=false->Vc True/\Vc True/\Vc (Gv.TS.Few (Gv.TS.seen s))/\(decide (Gv.TS.firstI (Pa.mayB b) (Gv.TS.seen s) Z1<(0:Int))=true->Post (G (Z2 (-1:Int)) [some (.inr (.inr (.inr (Rt.tree (Gv.TS.first (Pa.mayB b) (Gv.TS.seen s) Z1))))),some (.inl (3,[Z2 b]))]))/\(decide (Gv.TS.firstI (Pa.mayB b) (Gv.TS.seen s) Z1<(0:Int))=false->Vc True/\Post (G (Z2 (IntKind.wrap IntKind.i64 (Gv.TS.firstI (Pa.mayB b) (Gv.TS.seen s) Z1+(1:Int)))) [some (.inr (.inr (.inr (Rt.tree (Gv.TS.first (Pa.mayB b) (Gv.TS.seen s) Z1))))),some (.inl (3,[Z2 b]))])))) ?_ (by kernel_rfl)
  intro Z2 Z1;subst Z1 Z2;obtain⟨few,hb0,hb1⟩:=hv;have done:∀ (x:Int) (rest:Hp Rt),x=nxI s.l p b->G (.int .i64 x) (oT (nxS s p b)::rest):=by
   intro x rest e;subst e;subst hG;exact⟨[0],rfl,rfl,⟨rfl,trivial⟩,rfl,rfl,rfl,rfl⟩
  clear hG;have hl:=k60 s;have hc:=clp_le s.l.length p;have hN:=nxI_is s.l p b;have hA:=asksB (L:=s.l) hl hb0 hb1;have e1:IntKind.i64.wrap ((clp s.l.length p:Int)-1)=(clp s.l.length p:Int)-1:=fits_wrap ⟨by omega,by omega⟩
  simp only[e1];refine⟨⟨few⟩,fun h0=>⟨fun h1=>⟨?_⟩,fun h1=>?_⟩,fun h0=>?_⟩
  ·have h0:clp s.l.length p=0:=by have:=eq_of_beq h0;omega
   have h1:=of_decide_eq_true h1;rw[nxS,if_pos ⟨h0,h1⟩] at done;exact done _ _ (isN_eq (.inr ⟨0,rfl,by omega,by omega,by rw[hgh_zero];exact h1,fun i g1 g2=>by omega⟩) hN)
  all_goals
   have cb:¬ (clp s.l.length p=0/\b≤0):=by
    first
    |exact fun c=>absurd c.2 (of_decide_eq_false h1)
    |exact fun c=>by have:=beq_eq_false_iff_ne.1 h0;omega
   rw[nxS,if_neg cb] at done;have hF:=Gv.TS.first_is (s:=s.seen) (f:=(clp s.l.length p:Int)-1) (may:=Pa.mayB b) hA.toAsks;have hI:=isN_first' hc (fun c0 c1=>cb ⟨c0,c1⟩) hF
   generalize Gv.TS.firstI (Pa.mayB b) s.seen ((clp s.l.length p:Int)-1)=r at *
   have hr:-1≤r/\r<60:=by
    rcases hF with⟨h1,_⟩|⟨j,h1,_,h3,_⟩
    ·omega
    ·have h3:j<s.l.length:=h3;omega
   refine⟨⟨trivial⟩,⟨trivial⟩,⟨few_seen few⟩,fun h2=>⟨?_⟩,fun h2=>⟨⟨trivial⟩,⟨?_⟩⟩⟩
   ·rw[if_pos (of_decide_eq_true h2)] at hI;exact done _ _ (isN_eq hI hN)
   ·rw[if_neg (of_decide_eq_false h2)] at hI;rw[show IntKind.i64.wrap (r+1)=r+1 from fits_wrap ⟨by omega,by omega⟩]
    exact done _ _ (isN_eq hI hN)
 ·cases hx
def bprP:Prim Rt:=fun args hh=>match args,hh with
 |[.pointer (some ⟨0,0,none⟩),.int .i64 p,.int .i64 b],[some (.inr (.inr (.inr (.tree s))))]=>some ⟨s.Few/\-1099511627776≤b/\b≤1099511627776,.int .i64 (prI s.l p b),none,[oT (prS s p b)],[],[(0,0)]⟩
 |_,_=>none
theorem bpr_ok:ConOk D2 Tryz.prog 71 (con1 bprP):=by
 refine prK Tryz.f71 fun args hh x hx=>?_
 unfold bprP at hx;split at hx
 ·rename_i p b s;injection hx with hx
  subst hx;refine q4 fun _ hv=>?_
  generalize hG:Rx.Ends (R:=Rt) _ _=G;refine rx_ok (T:=TBr) TBr_ok mixed 200 ?_;refine as_text (q:=let Z2:=Value.int IntKind.i64;let Z1:=(↑(clp (List.length (Gv.TS.l s)) p):Int);Vc (Gv.TS.Few s)/\Vc True/\Vc (Gv.TS.Few (Gv.TS.seen s))/\(decide (Gv.TS.lastI (Pa.mayB b) (Gv.TS.seen s) Z1<(0:Int))=true->(decide (b>(0:Int))=true->Post (G (Z2 (-1:Int)) [some (.inr (.inr (.inr (Rt.tree (Gv.TS.last (Pa.mayB b) (Gv.TS.seen s) Z1))))),some (.inl (3,[Z2 b]))]))/\(decide (b>(0:Int))=false->Vc True/\Post (G (Z2 (IntKind.wrap IntKind.i64 (Gv.TS.lastI (Pa.mayB b) (Gv.TS.seen s) Z1+(1:Int)))) [some (.inr (.inr (.inr (Rt.tree (Gv.TS.last (Pa.mayB b) (Gv.TS.seen s) Z1))))),some (.inl (3,[Z2 b]))])))/\(decide (Gv.TS.lastI (Pa.mayB b) (Gv.TS.seen s) Z1<(0:Int))=false->Vc True/\Post (G (Z2 (IntKind.wrap IntKind.i64 (Gv.TS.lastI (Pa.mayB b) (Gv.TS.seen s) Z1+(1:Int)))) [some (.inr (.inr (.inr (Rt.tree (Gv.TS.last (Pa.mayB b) (Gv.TS.seen s) Z1))))),some (.inl (3,[Z2 b]))]))) ?_ (by kernel_rfl)
  intro Z2 Z1;subst Z1 Z2;obtain⟨few,hb0,hb1⟩:=hv;have done:∀ (x:Int) (rest:Hp Rt),x=prI s.l p b->G (.int .i64 x) (oT (prS s p b)::rest):=by
   intro x rest e;subst e;subst hG;exact⟨[0],rfl,rfl,⟨rfl,trivial⟩,rfl,rfl,rfl,rfl⟩
  clear hG;have hl:=k60 s;have hc:=clp_le s.l.length p;have hN:=prI_is s.l p b;have hA:=asksB (L:=s.l) hl hb0 hb1;have hF:=Gv.TS.last_is (s:=s.seen) (f:=(clp s.l.length p:Int)) (may:=Pa.mayB b) hA.toAsks;have hI:=isP_last hc hF;unfold prS at done;generalize Gv.TS.lastI (Pa.mayB b) s.seen (clp s.l.length p)=r at *
  have hr:-1≤r/\r<60:=by
   rcases hF with⟨h1,_⟩|⟨j,h1,_,h3,_⟩
   ·omega
   ·have h3:j<s.l.length:=h3;omega
  refine⟨⟨few⟩,⟨trivial⟩,⟨few_seen few⟩,fun h=>⟨fun h2=>⟨?_⟩,fun h2=>⟨⟨trivial⟩,⟨?_⟩⟩⟩,fun h=>⟨⟨trivial⟩,⟨?_⟩⟩⟩
  ·have h:=of_decide_eq_true h;have h2:=of_decide_eq_true h2;rw[if_neg (by omega),if_neg (by omega)] at hI
   exact done _ _ (isP_eq hI hN)
  ·have h:=of_decide_eq_true h;have h2:=of_decide_eq_false h2;rw[if_neg (by omega),if_pos (by omega)] at hI
   rw[show IntKind.i64.wrap (r+1)=0 from by rw[fits_wrap ⟨by omega,by omega⟩];omega]
   exact done _ _ (isP_eq hI hN)
  ·have h:=of_decide_eq_false h;rw[if_pos (by omega)] at hI
   rw[show IntKind.i64.wrap (r+1)=r+1 from fits_wrap ⟨by omega,by omega⟩]
   exact done _ _ (isP_eq hI hN)
 ·cases hx
def bbsP:Prim Rt:=fun args hh=>match args,hh with
 |[.pointer (some ⟨0,0,none⟩),.int .i64 p],[some (.inr (.inr (.inr (.tree s))))]=>some ⟨s.Few,.agg ⟨tkL (bstI s.l p)⟩,none,[oT (bsS s p)],[],[(0,0)]⟩
 |_,_=>none
theorem bbs_ok:ConOk D2 Tryz.prog 80 (con1 bbsP):=by
 refine prK Tryz.f80 fun args hh x hx=>?_
 unfold bbsP at hx;split at hx
 ·rename_i p s;injection hx with hx
  subst hx;refine q4 fun _ hv=>?_
  generalize hG:Rx.Ends (R:=Rt) _ _=G;refine rx_ok (T:=TBr) TBr_ok mixed 200 ?_;refine as_text (q:=let Z1:=(S8 (Gv.sub (Gv.TS.l (Gv.TS.seen (Gv.TS.seen s))) (Int.toNat (↑(clp (List.length (Gv.TS.l s)) p):Int)) (Int.toNat (↑(List.length (Gv.TS.l (Gv.TS.seen s))):Int))));Vc (Gv.TS.Few s)/\Vc (Gv.TS.Few (Gv.TS.seen s))/\Vc (Gv.TS.Few (Gv.TS.seen (Gv.TS.seen s)))/\Post (G (Value.agg (Array.mk [Value.bool (Sw.gf Z1),Value.int IntKind.i64 (It.k (Sw.g Z1)),Value.int IntKind.i64 (It.i (Sw.g Z1))])) [some (.inr (.inr (.inr (Rt.tree (Gv.TS.bet (Gv.TS.seen (Gv.TS.seen s)) (↑(clp (List.length (Gv.TS.l s)) p):Int) (↑(List.length (Gv.TS.l (Gv.TS.seen s))):Int)))))),some (.inl (47,[Value.bool (Sw.gf Z1),Value.int IntKind.i64 (It.k (Sw.g Z1)),Value.int IntKind.i64 (It.i (Sw.g Z1))]))])) ?_ (by kernel_rfl)
  intro Z1;subst Z1;subst hG;simp only[show Gv.TS.l (Gv.TS.seen s)=s.l from rfl,show Gv.TS.l (Gv.TS.seen (Gv.TS.seen s))=s.l from rfl,Int.toNat_natCast,sub_drop']
  exact⟨⟨hv⟩,⟨few_seen hv⟩,⟨few_seen (few_seen hv)⟩,⟨⟨[0],rfl,rfl,⟨rfl,trivial⟩,rfl,rfl,rfl,rfl⟩⟩⟩
 ·cases hx
def blsP:Prim Rt:=fun args hh=>match args,hh with
 |[.pointer (some ⟨0,0,none⟩),.int .i64 p],[some (.inr (.inr (.inr (.tree s))))]=>some ⟨s.Few,.agg ⟨tkL (lstI s.l p)⟩,none,[oT (hgS s p)],[],[(0,0)]⟩
 |_,_=>none
theorem bls_ok:ConOk D2 Tryz.prog 85 (con1 blsP):=by
 refine prK Tryz.f85 fun args hh x hx=>?_
 unfold blsP at hx;split at hx
 ·rename_i p s;injection hx with hx
  subst hx;refine q4 fun _ hv=>?_
  generalize hG:Rx.Ends (R:=Rt) _ _=G;refine rx_ok (T:=TBr) TBr_ok mixed 200 ?_;refine as_text (q:=let Z1:=(S8 (Gv.sub (Gv.TS.l (Gv.TS.seen s)) 0 (Int.toNat (↑(clp (List.length (Gv.TS.l s)) p):Int))));Vc (Gv.TS.Few s)/\Vc (Gv.TS.Few (Gv.TS.seen s))/\Post (G (Value.agg (Array.mk [Value.bool (Sw.lf Z1),Value.int IntKind.i64 (It.k (Sw.l Z1)),Value.int IntKind.i64 (It.i (Sw.l Z1))])) [some (.inr (.inr (.inr (Rt.tree (Gv.TS.bet (Gv.TS.seen s) (0:Int) (↑(clp (List.length (Gv.TS.l s)) p):Int)))))),some (.inl (47,[Value.bool (Sw.lf Z1),Value.int IntKind.i64 (It.k (Sw.l Z1)),Value.int IntKind.i64 (It.i (Sw.l Z1))]))])) ?_ (by kernel_rfl)
  intro Z1;subst Z1;subst hG;simp only[show Gv.TS.l (Gv.TS.seen s)=s.l from rfl,Int.toNat_natCast,sub_take']
  exact⟨⟨hv⟩,⟨few_seen hv⟩,⟨⟨[0],rfl,rfl,⟨rfl,trivial⟩,rfl,rfl,rfl,rfl⟩⟩⟩
 ·cases hx
end Br
namespace Rx
open Go.RowKit State
structure Emb (R0 R:Type) where
 e:R0->R
 d:R->Option R0
 de:∀ y x,d y=some x->y=e x
section
variable {R R0:Type}
def eB (E:Emb R0 R):SB R0->SB R
 |.inl x=>.inl x
 |.inr (.inl x)=>.inr (.inl x)
 |.inr (.inr (.inl r))=>.inr (.inr (.inl r))
 |.inr (.inr (.inr x))=>.inr (.inr (.inr (E.e x)))
def dB (E:Emb R0 R):SB R->Option (SB R0)
 |.inl x=>some (.inl x)
 |.inr (.inl x)=>some (.inr (.inl x))
 |.inr (.inr (.inl r))=>some (.inr (.inr (.inl r)))
 |.inr (.inr (.inr y))=>match E.d y with
  |some x=>some (.inr (.inr (.inr x)))
  |none=>none
def eS (E:Emb R0 R):Option (SB R0)->Option (SB R)
 |none=>none
 |some b=>some (eB E b)
def eH (E:Emb R0 R):Hp R0->Hp R
 |[]=>[]
 |b::l=>eS E b::eH E l
def dH (E:Emb R0 R):Hp R->Option (Hp R0)
 |[]=>some []
 |none::l=>match dH E l with
  |some l'=>some (none::l')
  |none=>none
 |some b::l=>match dB E b with
  |some b'=>match dH E l with
   |some l'=>some (some b'::l')
   |none=>none
  |none=>none
variable {E:Emb R0 R}
theorem dB_e {b:SB R} {b0:SB R0} (h:dB E b=some b0):b=eB E b0:=by
 rcases b with x|x|r|y
 ·injection h with h;subst h;rfl
 ·injection h with h;subst h;rfl
 ·injection h with h;subst h;rfl
 ·unfold dB at h;simp only at h;split at h
  ·rename_i x hx;injection h with h
   subst h;rw[E.de _ _ hx]
   rfl
  ·cases h
theorem dH_e:∀ {h:Hp R} {h0:Hp R0},dH E h=some h0->h=eH E h0
 |[],h0,hh=>by injection hh with hh;subst hh;rfl
 |none::l,h0,hh=>by
  unfold dH at hh;split at hh
  ·rename_i l' hl;injection hh with hh
   subst hh;rw[dH_e hl];rfl
  ·cases hh
 |some b::l,h0,hh=>by
  unfold dH at hh;split at hh
  ·rename_i b' hb;split at hh
   ·rename_i l' hl;injection hh with hh
    subst hh;rw[dH_e hl,dB_e hb];rfl
   ·cases hh
  ·cases hh
theorem eH_len:∀ h:Hp R0,(eH E h).length=h.length
 |[]=>rfl
 |b::l=>by show(eH E l).length+1=l.length+1;rw[eH_len l]
theorem eH_get:∀ (h:Hp R0) (i:Nat),(eH E h)[i]?=(h[i]?).map (eS E)
 |[],i=>by simp[eH]
 |b::l,0=>rfl
 |b::l,i+1=>by
  show(eS E b::eH E l)[i+1]?=_
  rw[List.getElem?_cons_succ,List.getElem?_cons_succ,eH_get l i]
variable {D:Res R} {D0:Res R0} {P:Program} {C:Ctx} {ρ:Env} {w:World}
theorem hold_e (hD:∀ x p F w,D.H (E.e x) p F w↔D0.H x p F w) {i:Nat} {F:Nat->Prop} (b:SB R0):hold D C ρ i F w (eB E b)↔hold D0 C ρ i F w b:=by
 rcases b with x|x|r|x
 ·exact Iff.rfl
 ·exact Iff.rfl
 ·exact Iff.rfl
 ·exact hD _ _ _ _
theorem inside_e {n:Nat} (b:SB R0):inside n (eB E b)↔inside n b:=by
 rcases b with x|x|r|x<;>exact Iff.rfl
theorem hm_e (hD:∀ x p F w,D.H (E.e x) p F w↔D0.H x p F w) {ft:Nat->Nat->Prop} {h:Hp R0}:HM D C ρ ft (eH E h) w↔HM D0 C ρ ft h w:=by
 constructor
 ·intro m;refine⟨fun i B hi=>?_,m.lt,m.fresh,m.apart,fun i k hk=>?_,m.kept⟩
  ·have h1:=m.at_ i (eB E B) (by rw[eH_get,hi];rfl)
   rw[hold_e hD,inside_e,eH_len] at h1;exact h1
  ·obtain⟨B,hB⟩:=m.some_ i k hk;rw[eH_get] at hB;cases hc:h[i]? with
   |none=>rw[hc] at hB;cases hB
   |some o =>
    rw[hc] at hB;cases o with
    |none=>cases hB
    |some b=>exact⟨b,rfl⟩
 ·intro m;refine⟨fun i B hi=>?_,m.lt,m.fresh,m.apart,fun i k hk=>?_,m.kept⟩
  ·rw[eH_get] at hi;cases hc:h[i]? with
   |none=>rw[hc] at hi;cases hi
   |some o =>
    rw[hc] at hi;cases o with
    |none=>cases hi
    |some b =>
     have hi:some (some (eB E b))=some (some B):=hi;injection hi with hi
     injection hi with hi
     subst hi;rw[hold_e hD,inside_e,eH_len];exact m.at_ i b hc
  ·obtain⟨B,hB⟩:=m.some_ i k hk;exact⟨eB E B,by rw[eH_get,hB];rfl⟩
def eO (E:Emb R0 R) (x:Out R0):Out R:=⟨x.vc,x.v,x.lit,eH E x.hp,x.rd,x.wr⟩
def eP (E:Emb R0 R) (p:Prim R0):Prim R:=fun args hh=>match dH E hh with
 |some h0=>match p args h0 with
  |some x=>some (eO E x)
  |none=>none
 |none=>none
def eC (E:Emb R0 R) (c:Con R0):Con R:=⟨fun args hh=>match dH E hh with
 |some h0=>c.when args h0
 |none=>none,eP E c.yes,eP E c.no⟩
theorem eP_some {p:Prim R0} {args:List Value} {hh:Hp R} {x:Out R} (h:eP E p args hh=some x):∃ h0 x0,dH E hh=some h0/\hh=eH E h0/\p args h0=some x0/\x=eO E x0:=by
 unfold eP at h;split at h
 ·rename_i h0 e0;split at h
  ·rename_i x0 e1;injection h with h
   exact⟨h0,x0,e0,dH_e e0,e1,h.symm⟩
  ·cases h
 ·cases h
theorem eC_go (c:Con R0) (b:Bool):(eC E c).go b=eP E (c.go b):=by cases b<;>rfl
theorem e_ok {f:FuncId} {c:Con R0} (hD:∀ x p F w,D.H (E.e x) p F w↔D0.H x p F w) (hc:ConOk D0 P f c):ConOk D P f (eC E c):=by
 intro b;have h:=hc b;rw[eC_go];refine⟨h.known,fun args hh x on hx C ρ ft w hm hv hi=>?_,fun args hh x hx=>?_,fun args hh x hx=>?_,fun args hh x hx hw=>?_⟩
 ·obtain⟨h0,x0,e0,e1,e2,e3⟩:=eP_some hx;subst e3;subst e1;have on0:way c b args h0:=by
   have on:(match dH E (eH E h0) with|some h0=>c.when args h0|none=>none)=none/\b=true∨(match dH E (eH E h0) with|some h0=>c.when args h0|none=>none)=some b:=on
   rw[e0] at on;exact on
  rw[eH_len] at hi;refine(h.run args h0 x0 on0 e2 C ρ ft w ((hm_e hD).1 hm) hv hi).mono fun e w' ⟨ρ',ft',g1,g2,g3⟩=>?_
  exact⟨ρ',ft',fun i hi=>g1 i (by rwa [eH_len] at hi),g2,(hm_e hD).2 g3⟩
 ·obtain⟨h0,x0,e0,e1,e2,e3⟩:=eP_some hx;subst e3;subst e1;show(eH E h0).length≤(eH E x0.hp).length
  rw[eH_len,eH_len];exact h.len _ _ _ e2
 ·obtain⟨h0,x0,e0,e1,e2,e3⟩:=eP_some hx;subst e3;exact h.lit _ _ _ e2
 ·obtain⟨h0,x0,e0,e1,e2,e3⟩:=eP_some hx;subst e3;subst e1;show eH E x0.hp=eH E h0
  rw[h.still _ _ _ e2 hw]
end
def resSum {R1 R2:Type} (D1:Res R1) (D2:Res R2):Res (R1 ⊕ R2) where
 H x p F w:=match x with
  |.inl x=>D1.H x p F w
  |.inr x=>D2.H x p F w
 keep x p F w w' h hk:=by
  cases x with
  |inl x=>exact D1.keep x p F w w' h hk
  |inr x=>exact D2.keep x p F w w' h hk
 lt x p F w k h hk:=by
  cases x with
  |inl x=>exact D1.lt x p F w k h hk
  |inr x=>exact D2.lt x p F w k h hk
def embL (R1 R2:Type):Emb R1 (R1 ⊕ R2):=⟨.inl,fun y=>match y with|.inl x=>some x|.inr _=>none,fun y x h=>by cases y with|inl a=>injection h with h;rw[h]|inr a=>cases h⟩
def embR (R1 R2:Type):Emb R2 (R1 ⊕ R2):=⟨.inr,fun y=>match y with|.inr x=>some x|.inl _=>none,fun y x h=>by cases y with|inr a=>injection h with h;rw[h]|inl a=>cases h⟩
theorem embL_ok {R1 R2:Type} {D1:Res R1} {D2:Res R2} {P:Program} {f:FuncId} {c:Con R1} (hc:ConOk D1 P f c):ConOk (resSum D1 D2) P f (eC (embL R1 R2) c):=e_ok (fun _ _ _ _=>Iff.rfl) hc
theorem embR_ok {R1 R2:Type} {D1:Res R1} {D2:Res R2} {P:Program} {f:FuncId} {c:Con R2} (hc:ConOk D2 P f c):ConOk (resSum D1 D2) P f (eC (embR R1 R2) c):=e_ok (fun _ _ _ _=>Iff.rfl) hc
end Rx
namespace Pa
open Rx Wv Br
open Sh (putI dropI sls sl inI)
abbrev T8:=G8.Ts
abbrev T9:=G9.Ts
structure QS where
 mt:T8
 pr:T9
 gn:T9
 cap:Int
def keyM (t:Int):Mk:=⟨t,false,⟨0,0⟩,false,false,⟨0,0⟩⟩
def opK (t:Int) (x:It):Mk:=⟨t,true,x,false,false,⟨0,0⟩⟩
def lenQ (q:QS):QS:=⟨q.mt.seen,q.pr,q.gn,q.cap⟩
def dlsQ (q:QS):QS:=⟨q.mt.seen.bet 0 q.mt.l.length,q.pr,q.gn,q.cap⟩
def dlsI (q:QS):Int:=(dels q.mt.l).length
def excQ (q:QS):QS:=⟨(dlsQ q).mt,q.pr,q.gn.seen,q.cap⟩
def excI (q:QS):Int:=dlsI q-q.gn.l.length
def opsQ (q:QS):QS:=⟨q.mt.seen.all,q.pr,q.gn,q.cap⟩
def refI (q:QS) (t:Int):Int:=if(q.mt.l.length:Int)=q.cap then 10 else if(Gv.fndE O8 (keyM t) q.mt.l).2=true then 11 else 0
def refQ (q:QS) (t:Int):QS:=⟨if(q.mt.l.length:Int)=q.cap then q.mt.seen else q.mt.seen.find (keyM t),q.pr,q.gn,q.cap⟩
def indB (q:QS) (x:It):Bool:=(Gv.fndE Sh.O9 (sl x) q.pr.l).2||(Gv.fndE Sh.O9 (sl x) q.gn.l).2
def indQ (q:QS) (x:It):QS:=⟨q.mt,q.pr.find (sl x),q.gn.find (sl x),q.cap⟩
def rnkI (q:QS) (m:Mk):Int:=(Gv.loE O8 m q.mt.l).length
def rnkQ (q:QS) (m:Mk):QS:=⟨q.mt.rank m,q.pr,q.gn,q.cap⟩
def buI (q:QS) (p:Int):Int:=prI q.mt.l p (excI q)
def buQ (q:QS) (p:Int):QS:=⟨prS (excQ q).mt p (excI q),q.pr,(excQ q).gn,q.cap⟩
def bfI (q:QS) (p:Int):Int:=nxI q.mt.l p (excI q)
def bfQ (q:QS) (p:Int):QS:=⟨nxS (excQ q).mt p (excI q),q.pr,(excQ q).gn,q.cap⟩
def trM (s:T8) (i:Int) (b:Bool):Mk:=⟨(Gv.nthE O8 i s.l).1.t,(Gv.nthE O8 i s.l).1.ins,(Gv.nthE O8 i s.l).1.it,b,(Gv.nthE O8 i s.l).1.tf,(Gv.nthE O8 i s.l).1.tk⟩
def trS (s:T8) (i:Int) (b:Bool):T8:=(s.at_ i).put (trM s i b)
def gbZ (q:QS) (f:Int):It:=(bstI q.mt.l f).getD iz
def gbT (q:QS) (f:Int):T8:=(bsS q.mt f).first (mayG (gbZ q f)) f
def gbP (q:QS) (f:Int):Int:=Gv.TS.firstI (mayG (gbZ q f)) (bsS q.mt f) f
def gbQ (q:QS) (f:Int):QS:=if f<0 then q else⟨trS (gbT q f) (gbP q f) true,q.pr.put (sl (gbZ q f)),q.gn.drop (sl (gbZ q f)),q.cap⟩
def gbL (q:QS) (f:Int):List It:=if f<0 then[] else[gbZ q f]
def GbOk (q:QS) (f:Int):Prop:=q.mt.Few/\q.pr.Few/\q.gn.Few/\(¬ f<0->((gbT q f).at_ (gbP q f)).PutOk (trM (gbT q f) (gbP q f) true)/\q.pr.PutOk (sl (gbZ q f)))
def taZ (q:QS) (u:Int):It:=(lstI q.mt.l u).getD iz
def taT (q:QS) (u:Int):T8:=(hgS q.mt u).last (mayL (taZ q u)) u
def taP (q:QS) (u:Int):Int:=Gv.TS.lastI (mayL (taZ q u)) (hgS q.mt u) u
def taB (q:QS) (u:Int):Bool:=(lstI q.mt.l u).isSome
def taQ (q:QS) (u:Int):QS:=if taB q u=true then⟨trS (taT q u) (taP q u) false,q.pr.drop (sl (taZ q u)),q.gn.put (sl (taZ q u)),q.cap⟩ else⟨hgS q.mt u,q.pr,q.gn,q.cap⟩
def taL (q:QS) (u:Int):List It:=if taB q u=true then[taZ q u] else[]
def TaOk (q:QS) (u:Int):Prop:=q.mt.Few/\q.pr.Few/\q.gn.Few/\(taB q u=true->((taT q u).at_ (taP q u)).PutOk (trM (taT q u) (taP q u) false)/\q.gn.PutOk (sl (taZ q u)))
structure MQ (q:QS) (L:List Mk) (P G:List It) (c:Int) (n:Nat) (a:QS) (k:Int):Prop where
 m0:q.mt.l=L
 p0:q.pr.l=sls P
 g0:q.gn.l=sls G
 cap:q.cap=c
 c1:q.mt.c=c
 c2:q.pr.c=c
 c3:q.gn.c=c
 f1:q.mt.n≤n
 f2:q.pr.n≤n
 f3:q.gn.n≤n
 v1:0≤q.mt.m.visits/\q.mt.m.visits≤a.mt.m.visits+k
 v2:0≤q.pr.m.visits/\q.pr.m.visits≤a.pr.m.visits+k
 v3:0≤q.gn.m.visits/\q.gn.m.visits≤a.gn.m.visits+k
def VB (a:QS):Prop:=a.mt.m.visits≤1000000000000000/\a.pr.m.visits≤1000000000000000/\a.gn.m.visits≤1000000000000000
section
variable {q:QS} {L:List Mk} {P G:List It} {c:Int} {n:Nat} {a:QS} {k:Int}
theorem MQ.few (h:MQ q L P G c n a k) (hn:n≤99999):q.mt.Few/\q.pr.Few/\q.gn.Few :=
 ⟨Nat.lt_of_le_of_lt h.f1 (by omega),Nat.lt_of_le_of_lt h.f2 (by omega),Nat.lt_of_le_of_lt h.f3 (by omega)⟩
theorem MQ.short (h:MQ q L P G c n a k):L.length≤60:=by rw[← h.m0];exact k60 q.mt
theorem MQ.mt' (h:MQ q L P G c n a k) (hB:VB a) (hk:k≤1000000) {s:T8} {L':List Mk} {d κ:Nat} (hl:s.l=L') (hc:s.c=q.mt.c) (hn:s.n≤q.mt.n+d) (hv:Gv.Vis κ q.mt.m s.m) {e:Int} (hκ:(κ:Int)≤e) (he:e≤10000:=by omega):MQ ⟨s,q.pr,q.gn,q.cap⟩ L' P G c (n+d) a (k+e):=by
 obtain⟨b1,b2,b3⟩:=hB;have hw:=Gv.TS.vis_le hv h.v1.1 h.v1.2 (by omega)
 have:=h.f1;have:=h.f2;have:=h.f3;have:=h.v2;have:=h.v3;exact⟨hl,h.p0,h.g0,h.cap,hc.trans h.c1,h.c2,h.c3,by show s.n≤_;omega,by show q.pr.n≤_;omega,by show q.gn.n≤_;omega,⟨hw.1,by show s.m.visits≤_;omega⟩,⟨h.v2.1,by show q.pr.m.visits≤_;omega⟩,⟨h.v3.1,by show q.gn.m.visits≤_;omega⟩⟩
theorem MQ.pr' (h:MQ q L P G c n a k) (hB:VB a) (hk:k≤1000000) {s:T9} {P':List It} {d κ:Nat} (hl:s.l=sls P') (hc:s.c=q.pr.c) (hn:s.n≤q.pr.n+d) (hv:Gv.Vis κ q.pr.m s.m) {e:Int} (hκ:(κ:Int)≤e) (he:e≤10000:=by omega):MQ ⟨q.mt,s,q.gn,q.cap⟩ L P' G c (n+d) a (k+e):=by
 obtain⟨b1,b2,b3⟩:=hB;have hw:=Gv.TS.vis_le hv h.v2.1 h.v2.2 (by omega)
 have:=h.f1;have:=h.f2;have:=h.f3;have:=h.v1;have:=h.v3;exact⟨h.m0,hl,h.g0,h.cap,h.c1,hc.trans h.c2,h.c3,by show q.mt.n≤_;omega,by show s.n≤_;omega,by show q.gn.n≤_;omega,⟨h.v1.1,by show q.mt.m.visits≤_;omega⟩,⟨hw.1,by show s.m.visits≤_;omega⟩,⟨h.v3.1,by show q.gn.m.visits≤_;omega⟩⟩
theorem MQ.gn' (h:MQ q L P G c n a k) (hB:VB a) (hk:k≤1000000) {s:T9} {G':List It} {d κ:Nat} (hl:s.l=sls G') (hc:s.c=q.gn.c) (hn:s.n≤q.gn.n+d) (hv:Gv.Vis κ q.gn.m s.m) {e:Int} (hκ:(κ:Int)≤e) (he:e≤10000:=by omega):MQ ⟨q.mt,q.pr,s,q.cap⟩ L P G' c (n+d) a (k+e):=by
 obtain⟨b1,b2,b3⟩:=hB;have hw:=Gv.TS.vis_le hv h.v3.1 h.v3.2 (by omega)
 have:=h.f1;have:=h.f2;have:=h.f3;have:=h.v1;have:=h.v2;exact⟨h.m0,h.p0,hl,h.cap,h.c1,h.c2,hc.trans h.c3,by show q.mt.n≤_;omega,by show q.pr.n≤_;omega,by show s.n≤_;omega,⟨h.v1.1,by show q.mt.m.visits≤_;omega⟩,⟨h.v2.1,by show q.pr.m.visits≤_;omega⟩,⟨hw.1,by show s.m.visits≤_;omega⟩⟩
theorem MQ.lst (h:MQ q L P G c n a k) {L':List Mk} (e:L=L'):MQ q L' P G c n a k:=e▸h
theorem MQ.up (h:MQ q L P G c n a k) {n':Nat} {k':Int} (hn:n≤n') (hk:k≤k'):MQ q L P G c n' a k' :=
 ⟨h.m0,h.p0,h.g0,h.cap,h.c1,h.c2,h.c3,Nat.le_trans h.f1 hn,Nat.le_trans h.f2 hn,Nat.le_trans h.f3 hn,⟨h.v1.1,by have:=h.v1;omega⟩,⟨h.v2.1,by have:=h.v2;omega⟩,⟨h.v3.1,by have:=h.v3;omega⟩⟩
theorem MQ.len_ (h:MQ q L P G c n a k) (hB:VB a) (hk:k≤1000000):MQ (lenQ q) L P G c n a (k+10) :=
 h.mt' hB hk (s:=q.mt.seen) (e:=10) (d:=0) h.m0 rfl (Nat.le_refl _) q.mt.seen_vis (by omega)
theorem MQ.dls_ (h:MQ q L P G c n a k) (hB:VB a) (hk:k≤1000000):MQ (dlsQ q) L P G c n a (k+130) :=
 h.mt' hB hk (s:=(q.mt.seen.bet 0 q.mt.l.length)) (e:=130) (d:=0) h.m0 rfl (Nat.le_refl _) (q.mt.seen_vis.trans (q.mt.seen.bet_vis 0 q.mt.l.length)) (by have:=q.mt.seen.hgt30;omega)
theorem MQ.exc_ (h:MQ q L P G c n a k) (hB:VB a) (hk:k≤990000):MQ (excQ q) L P G c n a (k+140) :=
 ((h.dls_ hB (by omega)).gn' hB (by omega) (e:=10) (s:=q.gn.seen) (d:=0) h.g0 rfl (Nat.le_refl _) q.gn.seen_vis (by omega)).up (Nat.le_refl _) (by omega)
theorem MQ.ops_ (h:MQ q L P G c n a k) (hB:VB a) (hk:k≤1000000):MQ (opsQ q) L P G c n a (k+2100) :=
 h.mt' hB hk (s:=q.mt.seen.all) (e:=2100) (d:=0) h.m0 rfl (Nat.le_refl _) (q.mt.seen_vis.trans q.mt.seen.all_vis) (by have:=q.mt.seen.len_le;omega)
theorem MQ.ref_ (h:MQ q L P G c n a k) (hB:VB a) (hk:k≤1000000) (t:Int):MQ (refQ q t) L P G c n a (k+50):=by
 unfold refQ;split
 ·exact(h.len_ hB hk).up (Nat.le_refl _) (by omega)
 ·exact h.mt' hB hk (s:=(q.mt.seen.find (keyM t))) (e:=50) (d:=0) h.m0 rfl (Nat.le_refl _) (q.mt.seen_vis.trans (q.mt.seen.find_vis (keyM t))) (by have:=q.mt.seen.hgt30;omega)
theorem MQ.ind_ (h:MQ q L P G c n a k) (hB:VB a) (hk:k≤990000) (x:It):MQ (indQ q x) L P G c n a (k+60) :=
 ((h.pr' hB (by omega) (e:=30) (s:=q.pr.find (sl x)) (d:=0) h.p0 rfl (Nat.le_refl _) (q.pr.find_vis (sl x)) (by have:=q.pr.hgt30;omega)).gn' hB (by omega) (e:=30) (s:=q.gn.find (sl x)) (d:=0) h.g0 rfl (Nat.le_refl _) (q.gn.find_vis (sl x)) (by have:=q.gn.hgt30;omega)).up (Nat.le_refl _) (by omega)
theorem MQ.fnd_ (h:MQ q L P G c n a k) (hB:VB a) (hk:k≤1000000) (m:Mk):MQ ⟨q.mt.find m,q.pr,q.gn,q.cap⟩ L P G c n a (k+40) :=
 h.mt' hB hk (s:=(q.mt.find m)) (e:=40) (d:=0) h.m0 rfl (Nat.le_refl _) (q.mt.find_vis m) (by have:=q.mt.hgt30;omega)
theorem MQ.rnk_ (h:MQ q L P G c n a k) (hB:VB a) (hk:k≤1000000) (m:Mk):MQ (rnkQ q m) L P G c n a (k+70) :=
 h.mt' hB hk (s:=(q.mt.rank m)) (e:=70) (d:=0) h.m0 rfl (Nat.le_refl _) (q.mt.rank_vis m) (by have:=q.mt.hgt30;omega)
theorem dels_le (l:List Mk):(dels l).length≤l.length:=List.length_filter_le ..
theorem exc_b (q:QS):-1099511627776≤excI q/\excI q≤1099511627776:=by
 have h1:=dels_le q.mt.l;have h2:=k60 q.mt;have h3:=q.gn.len_le;unfold excI dlsI;omega
theorem MQ.bu_ (h:MQ q L P G c n a k) (hB:VB a) (hk:k≤980000) (p:Int):MQ (buQ q p) L P G c n a (k+400):=by
 have h1:=h.exc_ hB (by omega)
 have hb:=exc_b q;exact(h1.mt' hB (by omega) (e:=260) (s:=prS (excQ q).mt p (excI q)) (d:=0) h1.m0 rfl (Nat.le_refl _) (prS_vis rfl hb.1 hb.2) (by have:=(excQ q).mt.hgt30;omega)).up (Nat.le_refl _) (by omega)
theorem MQ.bf_ (h:MQ q L P G c n a k) (hB:VB a) (hk:k≤980000) (p:Int):MQ (bfQ q p) L P G c n a (k+400):=by
 have h1:=h.exc_ hB (by omega)
 have hb:=exc_b q;exact(h1.mt' hB (by omega) (e:=260) (s:=nxS (excQ q).mt p (excI q)) (d:=0) ((nxS_l _ _ _).trans h1.m0) (nxS_c _ _ _) (Nat.le_of_eq (nxS_n _ _ _)) (nxS_vis rfl hb.1 hb.2) (by have:=(excQ q).mt.hgt30;omega)).up (Nat.le_refl _) (by omega)
theorem put8_ok {s:T8} {m:Mk} (hf:s.Few) (hg:(Gv.putE O8 m s.l).length≤60):s.PutOk m:=⟨hf,hg⟩
theorem put9_ok {s:T9} {x:It} {P:List It} (h:s.l=sls P) (ho:Ord P) (hf:s.Few) (hl:P.length≤100):s.PutOk (sl x):=⟨hf,by
 show(Gv.putE Sh.O9 (sl x) s.l).length≤1000
 rw[h,Sh.put_sl ho];have:=Sh.putI_len x P;have e:(sls (putI x P)).length=(putI x P).length:=List.length_map ..;omega⟩
theorem MQ.put8 (h:MQ q L P G c n a k) (hB:VB a) (hk:k≤1000000) (hn:n≤99999) {m:Mk} (hg:(Gv.putE O8 m L).length≤60) (hp:(Gv.hitE O8 m L).isSome=true∨(L.length:Int)≠c):MQ ⟨q.mt.put m,q.pr,q.gn,q.cap⟩ (Gv.putE O8 m L) P G c (n+1) a (k+1000):=by
 have ok:q.mt.PutOk m:=put8_ok (h.few hn).1 (by rw[h.m0];exact hg)
 refine h.mt' hB hk (s:=q.mt.put m) (e:=1000) (d:=1) ?_ (Gv.TS.put_c ok) (Nat.le_of_eq (Gv.TS.put_n ok)) (Gv.TS.put_vis ok) (by have:=q.mt.hgt30;omega)
 rw[Gv.TS.put_l ok];unfold Gv.TS.putL;rw[if_pos,h.m0];· rfl
 unfold Gv.TS.putB;show((Gv.hitE O8 m q.mt.l).isSome||decide ((q.mt.l.length:Int)≠q.mt.c))=true
 rw[h.m0,h.c1];rcases hp with hp|hp
 ·rw[hp];rfl
 ·rw[decide_eq_true hp,Bool.or_true]
theorem MQ.drop8 (h:MQ q L P G c n a k) (hB:VB a) (hk:k≤1000000) (m:Mk):MQ ⟨q.mt.drop m,q.pr,q.gn,q.cap⟩ (Gv.dropE O8 m L) P G c (n+1) a (k+3500) :=
 h.mt' hB hk (s:=(q.mt.drop m)) (e:=3500) (d:=1) (by show Gv.dropE O8 m q.mt.l=_;rw[h.m0]) rfl (Nat.le_refl _) (q.mt.drop_vis m) (by have:=q.mt.hgt30;omega)
theorem put9_l {s:T9} {x:It} {P:List It} {c:Int} (h:s.l=sls P) (hc:s.c=c) (ho:Ord P) (ok:s.PutOk (sl x)) (hx:x∉P) (hl:(P.length:Int)≠c):(s.put (sl x)).l=sls (insI x P):=by
 rw[Gv.TS.put_l ok];unfold Gv.TS.putL;rw[if_pos,h]
 ·show Gv.putE Sh.O9 (sl x) (sls P)=_
  rw[Sh.put_sl ho,putI_eq ho hx]
 ·unfold Gv.TS.putB;have e:(sls P).length=P.length:=List.length_map ..;rw[h,hc,e,decide_eq_true hl,Bool.or_true]
theorem MQ.putP (h:MQ q L P G c n a k) (hB:VB a) (hk:k≤1000000) (hn:n≤99999) {x:It} (ho:Ord P) (hx:x∉P) (hl:(P.length:Int)≠c) (hl':P.length≤100):MQ ⟨q.mt,q.pr.put (sl x),q.gn,q.cap⟩ L (insI x P) G c (n+1) a (k+1000):=by
 have ok:q.pr.PutOk (sl x):=put9_ok h.p0 ho (h.few hn).2.1 hl';exact h.pr' hB hk (s:=(q.pr.put (sl x))) (e:=1000) (d:=1) (put9_l h.p0 h.c2 ho ok hx hl) (Gv.TS.put_c ok) (Nat.le_of_eq (Gv.TS.put_n ok)) (Gv.TS.put_vis ok) (by have:=q.pr.hgt30;omega)
theorem MQ.putG (h:MQ q L P G c n a k) (hB:VB a) (hk:k≤1000000) (hn:n≤99999) {x:It} (ho:Ord G) (hx:x∉G) (hl:(G.length:Int)≠c) (hl':G.length≤100):MQ ⟨q.mt,q.pr,q.gn.put (sl x),q.cap⟩ L P (insI x G) c (n+1) a (k+1000):=by
 have ok:q.gn.PutOk (sl x):=put9_ok h.g0 ho (h.few hn).2.2 hl';exact h.gn' hB hk (s:=(q.gn.put (sl x))) (e:=1000) (d:=1) (put9_l h.g0 h.c3 ho ok hx hl) (Gv.TS.put_c ok) (Nat.le_of_eq (Gv.TS.put_n ok)) (Gv.TS.put_vis ok) (by have:=q.gn.hgt30;omega)
theorem drop9_l {s:T9} {x:It} {P:List It} (h:s.l=sls P) (ho:Ord P):(s.drop (sl x)).l=sls (rmv x P):=by
 show Gv.dropE Sh.O9 (sl x) s.l=_
 rw[h,Sh.drop_sl ho,dropI_eq ho]
theorem MQ.dropP (h:MQ q L P G c n a k) (hB:VB a) (hk:k≤1000000) {x:It} (ho:Ord P):MQ ⟨q.mt,q.pr.drop (sl x),q.gn,q.cap⟩ L (rmv x P) G c (n+1) a (k+3500) :=
 h.pr' hB hk (s:=(q.pr.drop (sl x))) (e:=3500) (d:=1) (drop9_l h.p0 ho) rfl (Nat.le_refl _) (q.pr.drop_vis (sl x)) (by have:=q.pr.hgt30;omega)
theorem MQ.dropG (h:MQ q L P G c n a k) (hB:VB a) (hk:k≤1000000) {x:It} (ho:Ord G):MQ ⟨q.mt,q.pr,q.gn.drop (sl x),q.cap⟩ L P (rmv x G) c (n+1) a (k+3500) :=
 h.gn' hB hk (s:=(q.gn.drop (sl x))) (e:=3500) (d:=1) (drop9_l h.g0 ho) rfl (Nat.le_refl _) (q.gn.drop_vis (sl x)) (by have:=q.gn.hgt30;omega)
end
theorem turn_ok {s:T8} {H H':List It} {l:List Op} {k:Nat} {b:Bool} (hl:s.l=mkH H l) (ht:Tm l) (hn:(itm l).Nodup) (hk:k<l.length) (hi':(og l k).ins=true) (hb:b=decide ((og l k).it∈H')) (hH:∀ z,z≠(og l k).it->(z∈H↔z∈H')) (hf:s.Few) :
  (s.at_ (k:Int)).PutOk (trM s k b)/\(trS s k b).l=mkH H' l/\(trS s k b).c=s.c/\(trS s k b).n=s.n+1/\Gv.Vis 1100 s.m (trS s k b).m:=by
 have e0:(Gv.nthE O8 (k:Int) s.l).1=mkO H (og l k):=by
  unfold Gv.nthE;rw[if_pos ⟨Int.natCast_nonneg _,by rw[hl,mkH_len];omega⟩]
  show s.l.getD (k:Int).toNat mz=_
  rw[Int.toNat_natCast,hl,mkH_get H hk]
 have e1:trM s k b=mkO H' (og l k):=by
  unfold trM;rw[e0,hb];unfold mkO;simp only[hi',Bool.true_and]
 have hp:Gv.putE O8 (trM s k b) (mkH H l)=mkH H' l:=by
  rw[e1,put_old ht hk rfl];exact flip hn hk hi' hH
 have ok:(s.at_ (k:Int)).PutOk (trM s k b):=put8_ok hf (by
  show(Gv.putE O8 (trM s k b) s.l).length≤60
  rw[hl,hp];have:=k60 s;rw[hl] at this
  rwa [mkH_len] at this ⊢)
 refine⟨ok,?_,Gv.TS.put_c ok,Gv.TS.put_n ok,?_⟩
 ·unfold trS;rw[Gv.TS.put_l ok];unfold Gv.TS.putL;show(if Gv.TS.putB (s.at_ (k:Int)) (trM s k b)=true then Gv.putE O8 (trM s k b) s.l else s.l)=_
  rw[hl,hp,if_pos];unfold Gv.TS.putB;show((Gv.hitE O8 (trM s k b) s.l).isSome||_)=true
  rw[hl,e1,(hit_at (H:=H) (e:=mkO H' (og l k)) ht hk rfl).1]
  rfl
 ·refine((s.at_vis k).trans (Gv.TS.put_vis ok)).mono ?_;have h1:=s.hgt30;have h2:=(s.at_ (k:Int)).hgt30;omega
theorem bst_at {H:List It} {l:List Op} {f:Int} {z:It} (hf:¬ f<0) (h:bstI (mkH H l) f=some z) :
  ∃ k,k<l.length/\f.toNat≤k/\(og l k).ins=true/\(og l k).it=z/\z∉H/\hi (itms false ((mkH H l).drop f.toNat))=some z:=by
 unfold bstI at h;obtain⟨m,h1,h2,h3,h4⟩:=mem_itms.1 (hi_mem h);obtain⟨j,hj,rfl⟩:=List.getElem_of_mem h1;rw[List.getElem_drop] at h2 h3 h4;rw[List.length_drop,mkH_len] at hj;have hc:clp l.length f=f.toNat:=by
  unfold clp at hj ⊢;rw[Nat.min_eq_left];rcases Nat.le_total f.toNat l.length with c|c
  ·exact c
  ·rw[Nat.min_eq_right c] at hj;omega
 rw[mkH_len,hc] at h;have hk:clp l.length f+j<l.length:=by omega
 have e:∀ hh,(mkH H l)[clp (mkH H l).length f+j]'hh=mkO H (og l (clp l.length f+j)):=fun hh=>by
  have:=mkH_get H hk;rw[List.getD_eq_getElem?_getD,List.getElem?_eq_getElem (by rw[mkH_len];exact hk)] at this
  simpa only [mkH_len,Option.getD_some] using this
 rw[e] at h2 h3 h4;have h2:(og l (clp l.length f+j)).ins=true:=h2;have h4:(og l (clp l.length f+j)).it=z:=h4;have h3:((og l (clp l.length f+j)).ins&&decide ((og l (clp l.length f+j)).it∈H))=false:=h3;rw[h2,Bool.true_and,decide_eq_false_iff_not,h4] at h3;exact⟨_,hk,by omega,h2,h4,h3,h⟩
theorem lst_at {H:List It} {l:List Op} {u:Int} {z:It} (h:lstI (mkH H l) u=some z) :
  ∃ k,k<l.length/\(k:Int)<u/\(og l k).ins=true/\(og l k).it=z/\z∈H/\lo (itms true ((mkH H l).take u.toNat))=some z:=by
 unfold lstI at h;obtain⟨m,h1,h2,h3,h4⟩:=mem_itms.1 (lo_mem h);obtain⟨j,hj,rfl⟩:=List.getElem_of_mem h1;rw[List.getElem_take] at h2 h3 h4;rw[List.length_take,mkH_len] at hj;have hk:j<l.length:=by omega
 have hu:j<u.toNat:=by unfold clp at hj;omega
 have e:∀ hh,(mkH H l)[j]'hh=mkO H (og l j):=fun hh=>by
  have:=mkH_get H hk
  rwa [List.getD_eq_getElem?_getD,List.getElem?_eq_getElem hh] at this
 rw[e] at h2 h3 h4;have h2:(og l j).ins=true:=h2;have h4:(og l j).it=z:=h4;have h3:((og l j).ins&&decide ((og l j).it∈H))=true:=h3;rw[h2,Bool.true_and,decide_eq_true_eq,h4] at h3;refine⟨_,hk,by omega,h2,h4,h3,?_⟩
 have:(mkH H l).take (clp (mkH H l).length u)=(mkH H l).take u.toNat:=by
  unfold clp;rcases Nat.le_total u.toNat (mkH H l).length with c|c
  ·rw[Nat.min_eq_left c]
  ·rw[Nat.min_eq_right c,List.take_length,List.take_of_length_le c]
 rw[this] at h;exact h
section
variable {q:QS} {H:List It} {l:List Op} {P G:List It} {c:Int} {n:Nat} {a:QS} {k:Int}
theorem MQ.gb_no (h:MQ q (mkH H l) P G c n a k) (hn:n≤99999) {f:Int} (hf:f<0):gbQ q f=q/\GbOk q f/\gbL q f=[]:=by
 unfold gbQ gbL GbOk;rw[if_pos hf,if_pos hf];exact⟨rfl,⟨(h.few hn).1,(h.few hn).2.1,(h.few hn).2.2,fun c=>absurd hf c⟩,rfl⟩
theorem MQ.gb_ (h:MQ q (mkH H l) P G c n a k) (hB:VB a) (hk:k≤900000) (hn:n≤99990) {f:Int} {z:It} (ht:Tm l) (hd:(itm l).Nodup) (hf:¬ f<0) (hz:bstI (mkH H l) f=some z) (hoP:Ord P) (hoG:Ord G) (hzP:z∉P) (hl:(P.length:Int)≠c) (hl':P.length≤100) :
  MQ (gbQ q f) (mkH (z::H) l) (insI z P) (rmv z G) c (n+3) a (k+6500)/\GbOk q f/\gbL q f=[z]:=by
 obtain⟨i,h1,h2,h3,h4,h5,h6⟩:=bst_at hf hz;have eZ:gbZ q f=z:=by unfold gbZ;rw[h.m0,hz];rfl
 have few:=h.few (by omega)
 have hb:Gv.FirstIs (fun j=>isG z ((bsS q.mt f).l.getD j mz)) 0 (bsS q.mt f).l.length f (gbP q f):=by
  unfold gbP;rw[eZ];exact Gv.TS.first_is (s:=bsS q.mt f) (f:=f) (may:=mayG z) (asksG z (bsS q.mt f).l).toAsks
 have el:(bsS q.mt f).l=mkH H l:=h.m0;rw[el,show f=(f.toNat:Int) by omega] at hb
 have eP:gbP q f=(i:Int):=by
  have:=first_g hd h1 h3 h4 h5 h2 h6 hb
  rwa [show((f.toNat:Nat):Int)=f by omega] at this
 have eT:(gbT q f).l=mkH H l:=h.m0;have T:=turn_ok (s:=gbT q f) (H':=z::H) (b:=true) eT ht hd h1 h3 (by rw[h4,decide_eq_true (List.mem_cons_self)]) (fun w hw=>by rw[h4] at hw;rw[List.mem_cons];exact⟨.inr,fun c=>c.resolve_left hw⟩) few.1
 have hv:Gv.Vis 2000 q.mt.m (trS (gbT q f) (i:Int) true).m:=by
  have v1:=q.mt.seen_vis;have v2:=q.mt.seen.seen_vis;have v3:=q.mt.seen.seen.bet_vis (clp q.mt.l.length f) q.mt.l.length;have v4:=Gv.TS.first_vis (s:=bsS q.mt f) (f:=f) (may:=mayG (gbZ q f)) (asksG _ _);refine((((v1.trans v2).trans v3).trans v4).trans T.2.2.2.2).mono ?_;have a1:=q.mt.seen.seen.hgt30;have a2:=(bsS q.mt f).hgt30;omega
 have m1:=h.mt' hB (by omega) (e:=2000) (s:=trS (gbT q f) (i:Int) true) (d:=1) T.2.1 T.2.2.1 (Nat.le_of_eq T.2.2.2.1) hv (by omega)
 have m2:=m1.dropG hB (by omega) (x:=z) hoG
 have m3:=m2.putP hB (by omega) (by omega) (x:=z) hoP hzP hl hl'
 refine⟨?_,?_,?_⟩
 ·unfold gbQ;rw[if_neg hf,eZ,eP];exact m3.up (by omega) (by omega)
 ·refine⟨few.1,few.2.1,few.2.2,fun _=>⟨?_,?_⟩⟩
  ·rw[eP];exact T.1
  ·rw[eZ];exact put9_ok h.p0 hoP few.2.1 hl'
 ·unfold gbL;rw[if_neg hf,eZ]
theorem MQ.ta_no (h:MQ q (mkH H l) P G c n a k) (hB:VB a) (hk:k≤900000) (hn:n≤99990) {u:Int} (hz:lstI (mkH H l) u=none):MQ (taQ q u) (mkH H l) P G c n a (k+6500)/\TaOk q u/\taL q u=[]:=by
 have e:taB q u=false:=by unfold taB;rw[h.m0,hz];rfl
 have few:=h.few (by omega)
 unfold taQ taL TaOk;simp only[e,Bool.false_eq_true,if_false];refine⟨?_,⟨few.1,few.2.1,few.2.2,fun c=>c.elim⟩,trivial⟩
 exact(h.mt' hB (by omega) (e:=2000) (s:=hgS q.mt u) (d:=0) h.m0 rfl (Nat.le_refl _) (q.mt.seen_vis.trans (q.mt.seen.bet_vis 0 (clp q.mt.l.length u))) (by have:=q.mt.seen.hgt30;omega)).up (Nat.le_refl _) (by omega)
theorem MQ.ta_ (h:MQ q (mkH H l) P G c n a k) (hB:VB a) (hk:k≤900000) (hn:n≤99990) {u:Int} {z:It} (ht:Tm l) (hd:(itm l).Nodup) (hz:lstI (mkH H l) u=some z) (hoP:Ord P) (hoG:Ord G) (hzG:z∉G) (hl:(G.length:Int)≠c) (hl':G.length≤100) :
  MQ (taQ q u) (mkH (rmv z H) l) (rmv z P) (insI z G) c (n+3) a (k+6500)/\TaOk q u/\taL q u=[z]:=by
 obtain⟨i,h1,h2,h3,h4,h5,h6⟩:=lst_at hz;have eB:taB q u=true:=by unfold taB;rw[h.m0,hz];rfl
 have eZ:taZ q u=z:=by unfold taZ;rw[h.m0,hz];rfl
 have few:=h.few (by omega)
 have hb:Gv.LastIs (fun j=>isL z ((hgS q.mt u).l.getD j mz)) 0 (hgS q.mt u).l.length u (taP q u):=by
  unfold taP;rw[eZ];exact Gv.TS.last_is (s:=hgS q.mt u) (f:=u) (may:=mayL z) (asksL z (hgS q.mt u).l).toAsks
 have el:(hgS q.mt u).l=mkH H l:=h.m0;rw[el,show u=(u.toNat:Int) by omega] at hb
 have eP:taP q u=(i:Int):=by
  have:=last_l hd h1 h3 h4 h5 (by omega:i<u.toNat) h6 hb
  rwa [show((u.toNat:Nat):Int)=u by omega] at this
 have eT:(taT q u).l=mkH H l:=h.m0;have T:=turn_ok (s:=taT q u) (H':=rmv z H) (b:=false) eT ht hd h1 h3 (by rw[h4,decide_eq_false (fun c=>(mem_rmv.1 c).2 rfl)]) (fun w hw=>by rw[h4] at hw;rw[mem_rmv];exact⟨fun c=>⟨c,hw⟩,fun c=>c.1⟩) few.1
 have hv:Gv.Vis 2000 q.mt.m (trS (taT q u) (i:Int) false).m:=by
  have v1:=q.mt.seen_vis;have v3:=q.mt.seen.bet_vis 0 (clp q.mt.l.length u);have v4:=Gv.TS.last_vis (s:=hgS q.mt u) (f:=u) (may:=mayL (taZ q u)) (asksL _ _);refine(((v1.trans v3).trans v4).trans T.2.2.2.2).mono ?_;have a1:=q.mt.seen.hgt30;have a2:=(hgS q.mt u).hgt30;omega
 have m1:=h.mt' hB (by omega) (e:=2000) (s:=trS (taT q u) (i:Int) false) (d:=1) T.2.1 T.2.2.1 (Nat.le_of_eq T.2.2.2.1) hv (by omega)
 have m2:=m1.dropP hB (by omega) (x:=z) hoP
 have m3:=m2.putG hB (by omega) (by omega) (x:=z) hoG hzG hl hl'
 refine⟨?_,?_,?_⟩
 ·unfold taQ;rw[if_pos eB,eZ,eP];exact m3.up (by omega) (by omega)
 ·refine⟨few.1,few.2.1,few.2.2,fun _=>⟨?_,?_⟩⟩
  ·rw[eP];exact T.1
  ·rw[eZ];exact put9_ok h.g0 hoG few.2.2 hl'
 ·unfold taL;rw[if_pos eB,eZ]
end
end Pa
namespace Pa
open Rx Wv Br
open Sh (putI dropI sls sl inI)
def in1 (q:QS) (t:Int) (x:It):QS:=indQ (refQ q t) x
def in2 (q:QS) (t:Int) (x:It):QS:=rnkQ (in1 q t x) (keyM t)
def inF (q:QS) (t:Int) (x:It):Int:=buI (in2 q t x) (rnkI (in1 q t x) (keyM t))
def in3 (q:QS) (t:Int) (x:It):QS:=buQ (in2 q t x) (rnkI (in1 q t x) (keyM t))
def in4 (q:QS) (t:Int) (x:It):QS:=⟨(in3 q t x).mt.put (opK t x),(in3 q t x).pr,(in3 q t x).gn.put (sl x),(in3 q t x).cap⟩
def insC (q:QS) (t:Int) (x:It):Int:=if refI q t=0 then if indB (refQ q t) x=true then 2 else 0 else refI q t
def insQ (q:QS) (t:Int) (x:It):QS:=if refI q t=0 then if indB (refQ q t) x=true then in1 q t x else gbQ (in4 q t x) (inF q t x) else refQ q t
def insI' (q:QS) (t:Int) (x:It):List It:=if refI q t=0 then if indB (refQ q t) x=true then[] else gbL (in4 q t x) (inF q t x) else[]
def QS.Few (q:QS):Prop:=q.mt.Few/\q.pr.Few/\q.gn.Few
def InsOk (q:QS) (t:Int) (x:It):Prop:=q.Few/\(refI q t=0->indB (refQ q t) x=false->(in3 q t x).mt.PutOk (opK t x)/\(in3 q t x).gn.PutOk (sl x)/\GbOk (in4 q t x) (inF q t x))
def de1 (q:QS) (t:Int):QS:=rnkQ (refQ q t) (keyM t)
def deU (q:QS) (t:Int):Int:=bfI (de1 q t) (rnkI (refQ q t) (keyM t))
def de2 (q:QS) (t:Int):QS:=bfQ (de1 q t) (rnkI (refQ q t) (keyM t))
def de3 (q:QS) (t:Int):QS:=taQ (de2 q t) (deU q t)
def delQ (q:QS) (t:Int):QS:=if refI q t=0 then⟨(de3 q t).mt.put (keyM t),(de3 q t).pr,(de3 q t).gn,(de3 q t).cap⟩ else refQ q t
def delI (q:QS) (t:Int):List It:=if refI q t=0 then taL (de2 q t) (deU q t) else[]
def DelOk (q:QS) (t:Int):Prop:=q.Few/\(refI q t=0->TaOk (de2 q t) (deU q t)/\(de3 q t).mt.PutOk (keyM t))
def rvB (q:QS) (t:Int):Bool:=(Gv.fndE O8 (keyM t) q.mt.l).2
def rvM (q:QS) (t:Int):Mk:=(Gv.fndE O8 (keyM t) q.mt.l).1
def rv1 (q:QS) (t:Int):QS:=⟨q.mt.find (keyM t),q.pr,q.gn,q.cap⟩
def rv2 (q:QS) (t:Int):QS:=rnkQ (rv1 q t) (rvM q t)
def rvP (q:QS) (t:Int):Int:=rnkI (rv1 q t) (rvM q t)
def rv3 (q:QS) (t:Int):QS:=⟨(buQ (rv2 q t) (rvP q t)).mt.drop (rvM q t),(buQ (rv2 q t) (rvP q t)).pr,(buQ (rv2 q t) (rvP q t)).gn,(buQ (rv2 q t) (rvP q t)).cap⟩
def rvF (q:QS) (t:Int):Int:=buI (rv2 q t) (rvP q t)
def rv5 (q:QS) (t:Int):QS:=bfQ (rv2 q t) (rvP q t+1)
def rvU (q:QS) (t:Int):Int:=bfI (rv2 q t) (rvP q t+1)
def rv6 (q:QS) (t:Int):QS:=taQ (rv5 q t) (rvU q t)
def rvkC (q:QS) (t:Int):Int:=if rvB q t=true then 0 else 14
def rvkQ (q:QS) (t:Int):QS:=if rvB q t=true then if(rvM q t).ins=true then if(rvM q t).here=true then⟨(rv1 q t).mt.drop (rvM q t),(rv1 q t).pr.drop (sl (rvM q t).it),(rv1 q t).gn,(rv1 q t).cap⟩ else⟨(rv6 q t).mt.drop (rvM q t),(rv6 q t).pr,(rv6 q t).gn.drop (sl (rvM q t).it),(rv6 q t).cap⟩ else gbQ (rv3 q t) (rvF q t) else rv1 q t
def rvkI (q:QS) (t:Int):List It:=if rvB q t=true then if(rvM q t).ins=true then[] else gbL (rv3 q t) (rvF q t) else[]
def rvkO (q:QS) (t:Int):List It:=if rvB q t=true then if(rvM q t).ins=true then if(rvM q t).here=true then[(rvM q t).it] else taL (rv5 q t) (rvU q t) else[] else[]
def RvkOk (q:QS) (t:Int):Prop:=q.Few/\(rvB q t=true->((rvM q t).ins=false->GbOk (rv3 q t) (rvF q t))/\((rvM q t).ins=true->(rvM q t).here=false->TaOk (rv5 q t) (rvU q t)/\(rv6 q t).mt.Few/\(rv6 q t).gn.Few))
theorem few_ref {q:QS} {t:Int} (h:q.Few):(refQ q t).Few:=by
 refine⟨?_,h.2.1,h.2.2⟩;unfold refQ;show Gv.TS.Few (if _ then _ else _)
 split<;>exact h.1
structure HQ (q:QS) (l:List Op) (c:Int) (n:Nat):Prop where
 mq:MQ q (mkL l) (fin [] l) (gn l) c n q 0
 tm:Tm l
 nd:(itm l).Nodup
 dl:∀ o,o∈l->o.ins=false->o.it=iz
 len:(l.length:Int)≤c/\c≤65536
 l60:l.length≤60
 vb:q.mt.m.visits≤100000*n/\q.pr.m.visits≤100000*n/\q.gn.m.visits≤100000*n
theorem HQ.m0 {q:QS} {l:List Op} {c:Int} {n:Nat} (h:HQ q l c n):q.mt.l=mkL l:=h.mq.m0
theorem HQ.p0 {q:QS} {l:List Op} {c:Int} {n:Nat} (h:HQ q l c n):q.pr.l=sls (fin [] l):=h.mq.p0
theorem HQ.g0 {q:QS} {l:List Op} {c:Int} {n:Nat} (h:HQ q l c n):q.gn.l=sls (gn l):=h.mq.g0
theorem fin_le:∀ (a:List Op) (h:List It),(fin h a).length≤h.length+a.length
 |[],h=>by rw[fin];omega
 |o::r,h=>by
  have:=fin_le r (stp h o);rw[fin];have e:(stp h o).length≤h.length+1:=by
   have il:∀ (x:It) (m:List It),(insI x m).length=m.length+1:=fun x m=>by
    induction m with
    |nil=>rfl
    |cons y m ih=>unfold insI;split<;>simp[ih]
   unfold stp;split
   ·rw[il];exact Nat.le_refl _
   ·rw[List.length_tail];omega
  rw[List.length_cons];omega
theorem tk_le:∀ (a:List Op) (h:List It),(tk h a).length+fre h a=(a.filter fun o=>!o.ins).length
 |[],h=>by rw[tk,fre];rfl
 |o::r,h=>by
  rcases ins_cases o with e|e
  ·rw[tk_ins e,fre_ins e,tk_le r,List.filter_cons,e];rfl
  ·rw[List.filter_cons,e];cases h with
   |nil=>rw[tk_del0 e,fre_del0 e];have:=tk_le r [];simp only[Bool.not_false,if_true,List.length_cons];omega
   |cons y h=>rw[tk_delc e,fre_delc e];have:=tk_le r h;simp only[Bool.not_false,if_true,List.length_cons];omega
theorem gn_le (l:List Op):(gn l).length≤l.length:=by
 have h1:=tk_le l [];have h2:(l.filter fun o=>!o.ins).length≤l.length:=List.length_filter_le ..
 rw[gn_len];omega
theorem fin_le0 (l:List Op):(fin [] l).length≤l.length:=by have:=fin_le l [];simpa using this
theorem dels_mk (H:List It) (l:List Op):(dels (mkH H l)).length=(l.filter fun o=>!o.ins).length:=by
 unfold dels mkH;rw[List.filter_map,List.length_map]
 rfl
section
variable {q:QS} {H:List It} {l:List Op} {P:List It} {c:Int} {n:Nat} {a:QS} {k:Int}
theorem MQ.exc (h:MQ q (mkH H l) P (gn l) c n a k):excI q=exc l:=by
 unfold excI dlsI;rw[h.m0,h.g0,dels_mk,show(sls (gn l)).length=(gn l).length from List.length_map ..,gn_len]
 have:=tk_le l [];show _=(fre [] l:Int)
 omega
theorem rnk_at (h:MQ q (mkH H l) P (gn l) c n a k) (m:Mk):rnkI q m=(rkT m.t l:Int):=by
 unfold rnkI;rw[h.m0,Gv.lo_rk,List.length_take,Nat.min_eq_left,rk_mk];rw[rk_mk,mkH_len];exact rkT_le _ _
theorem HQ.vb' (h:HQ q l c n) (hn:n≤100000):VB q:=by
 obtain⟨h1,h2,h3⟩:=h.vb;exact⟨by omega,by omega,by omega⟩
end
theorem nd_fin {l:List Op} (h:(itm l).Nodup) {x:It} (hx:x∉itm l):x∉fin [] l/\x∉gn l/\x∉tk [] l:=by
 have h1:x∉tk [] l:=fun c=>(tk_from (ap_nil h) x c).elim (fun h=>by cases h) hx
 exact⟨fun c=>((mem_fin (ap_nil h) x).1 c).1.elim (fun h=>by cases h) hx,fun c=>h1 ((mem_gn h).1 c),h1⟩
theorem gn_ext {l:List Op} {G:List It} (h:(itm l).Nodup) (ho:Ord G) (hm:∀ w,w∈G↔w∈tk [] l):G=gn l :=
 ord_ext ho (gn_ord h) fun w=>(hm w).trans (mem_gn h).symm
theorem HQ.mk' {q:QS} {l:List Op} {c:Int} {n n':Nat} {a:QS} {k:Int} (h:MQ q (mkL l) (fin [] l) (gn l) c n a k) (ha:a.mt.m.visits≤100000*n'/\a.pr.m.visits≤100000*n'/\a.gn.m.visits≤100000*n') (hk:k≤100000) (hn:n'+1≤n) (tm:Tm l) (nd:(itm l).Nodup) (dl:∀ o,o∈l->o.ins=false->o.it=iz) (len:(l.length:Int)≤c/\c≤65536) (l60:l.length≤60):HQ q l c n:=by
 obtain⟨a1,a2,a3⟩:=ha;have v1:=h.v1;have v2:=h.v2;have v3:=h.v3;exact⟨⟨h.m0,h.p0,h.g0,h.cap,h.c1,h.c2,h.c3,h.f1,h.f2,h.f3,⟨v1.1,by omega⟩,⟨v2.1,by omega⟩,⟨v3.1,by omega⟩⟩,tm,nd,dl,len,l60,⟨by omega,by omega,by omega⟩⟩
theorem HQ.ref {q:QS} {l:List Op} {c:Int} {n:Nat} (h:HQ q l c n) (t:Int) :
  ((l.length:Int)=c->refI q t=10)/\((l.length:Int)≠c->¬ Free l t->refI q t=11)/\((l.length:Int)≠c->Free l t->refI q t=0):=by
 have e:(q.mt.l.length:Int)=q.cap↔(l.length:Int)=c:=by rw[h.m0,mkL_len,h.mq.cap]
 unfold refI;refine⟨fun h1=>by rw[if_pos (e.2 h1)],fun h1 h2=>?_,fun h1 h2=>?_⟩
 ·rw[if_neg (fun k=>h1 (e.1 k)),if_pos]
  rcases free_or l t with f|⟨k,hk,ht⟩
  ·exact absurd f h2
  ·rw[h.m0];exact(hit_at (H:=fin [] l) (e:=keyM t) h.tm hk ht).1
 ·rw[if_neg (fun k=>h1 (e.1 k)),if_neg]
  rw[h.m0];have:=hit_free (H:=fin [] l) (e:=keyM t) h2;show ¬ (Gv.hitE O8 (keyM t) (mkL l)).isSome=true
  rw[mkL_H,this];decide
theorem HQ.ind {q:QS} {l:List Op} {c:Int} {n:Nat} (h:HQ q l c n) (x:It):indB q x=true↔x∈itm l:=by
 have f9:∀ {P:List It},Ord P->(Gv.fndE Sh.O9 (sl x) (sls P)).2=inI x P:=fun ho=>Sh.hit_sl x ho
 unfold indB;rw[h.p0,h.g0,f9 (fin_ord h.nd),f9 (gn_ord h.nd),Bool.or_eq_true,mem_inI,mem_inI,mem_gn h.nd]
 constructor
 ·rintro (k|k)
  ·exact((mem_fin (ap_nil h.nd) x).1 k).1.elim (fun h=>by cases h) id
  ·exact(tk_from (ap_nil h.nd) x k).elim (fun h=>by cases h) id
 ·intro k
  by_cases c:x∈tk [] l
  ·exact .inr c
  ·exact .inl ((mem_fin (ap_nil h.nd) x).2 ⟨.inr k,c⟩)
theorem drop_in {l:List Op} {p f:Nat} (hf:f≤p) (hp:p≤l.length) (X:List Op):(l.take p++X).drop f=(l.take p).drop f++X:=List.drop_append_of_le_length (by rw[List.length_take];omega)
theorem mem_itms_mk {b:Bool} {H:List It} {l:List Op} {w:It}:w∈itms b (mkH H l)↔∃ o,o∈l/\o.ins=true/\o.it=w/\decide (w∈H)=b:=by
 rw[mem_itms];unfold mkH
 constructor
 ·rintro ⟨m,h1,h2,h3,h4⟩
  obtain⟨o,ho,rfl⟩:=List.mem_map.1 h1;have h2:o.ins=true:=h2;have h4:o.it=w:=h4;have h3:(o.ins&&decide (o.it∈H))=b:=h3;rw[h2,Bool.true_and,h4] at h3;exact⟨o,ho,h2,h4,h3⟩
 ·rintro ⟨o,ho,h2,h4,h3⟩
  refine⟨mkO H o,List.mem_map_of_mem ho,h2,?_,h4⟩;show(o.ins&&decide (o.it∈H))=b
  rw[h2,Bool.true_and,h4];exact h3
theorem mk_drop (H:List It) (l:List Op) (f:Nat):(mkH H l).drop f=mkH H (l.drop f):=by unfold mkH;rw[List.map_drop]
theorem bst_drop {H:List It} {l:List Op} {f:Nat} (hf:f≤l.length):bstI (mkH H l) (f:Int)=hi (itms false (mkH H (l.drop f))):=by
 unfold bstI;rw[mkH_len,clp_nat hf,mk_drop]
theorem prB_is {l:List Op} {p:Nat} (hp:p≤l.length) (hb:¬ prB l p<0):∃ f:Nat,prB l p=f/\f≤p:=by
 have hP:=prI_is (mkL l) p (exc l);rw[mkL_len,clp_nat hp] at hP;rcases hP with⟨h1,_⟩|⟨j,h1,h2,_⟩
 ·exact absurd (show prB l p<0 by show prI (mkL l) p (exc l)<0;rw[h1];omega) hb
 ·exact⟨j,h1,h2⟩
theorem bst_ad {l:List Op} {p:Nat} {x:It} {t:Int} (hd:(itm l).Nodup) (hx:x∉fin [] l) (hp:p≤l.length) (hb:¬ prB l p<0) :
  bstI (mkH (fin [] l) (adA l p ⟨t,true,x⟩)) (prB l p)=up (some x) (bstI (mkL l) (prB l p)):=by
 obtain⟨f,e,hf⟩:=prB_is hp hb;rw[e,mkL_H,bst_drop (by unfold adA;rw[List.length_append,List.length_cons,List.length_take,List.length_drop];omega),bst_drop (by omega)]
 show _=hi (x::itms false (mkH (fin [] l) (l.drop f)))
 refine hi_ext fun w=>?_
 have e2:l.drop f=(l.take p).drop f++l.drop p:=by rw[← drop_in hf hp,List.take_append_drop]
 rw[List.mem_cons,mem_itms_mk,mem_itms_mk,e2];unfold adA;rw[drop_in hf hp];simp only[List.mem_append,List.mem_cons]
 constructor
 ·rintro ⟨o,(h1|rfl|h1),h2,h3,h4⟩
  ·exact .inr ⟨o,.inl h1,h2,h3,h4⟩
  ·exact .inl h3.symm
  ·exact .inr ⟨o,.inr h1,h2,h3,h4⟩
 ·rintro (rfl|⟨o,(h1|h1),h2,h3,h4⟩)
  ·exact⟨⟨t,true,w⟩,.inr (.inl rfl),rfl,rfl,decide_eq_false hx⟩
  ·exact⟨o,.inl h1,h2,h3,h4⟩
  ·exact⟨o,.inr (.inr h1),h2,h3,h4⟩
theorem bst_wo {l:List Op} {k:Nat} (hk:k<l.length) (hi':(og l k).ins=false) (hb:¬ prB l k<0) :
  bstI (mkH (fin [] l) (woA l k)) (prB l k)=bstI (mkL l) (prB l k):=by
 obtain⟨f,e,hf⟩:=prB_is (by omega) hb
 rw[e,mkL_H,bst_drop (by unfold woA;rw[List.length_append,List.length_take,List.length_drop];omega),bst_drop (by omega)]
 refine hi_ext fun w=>?_
 have e2:l.drop f=(l.take k).drop f++(og l k::l.drop (k+1)):=by rw[← drop_in hf (by omega),← cut_at hk,List.take_append_drop]
 rw[mem_itms_mk,mem_itms_mk,e2];unfold woA;rw[drop_in hf (by omega)]
 simp only[List.mem_append,List.mem_cons]
 constructor
 ·rintro ⟨o,(h1|h1),h2⟩
  ·exact⟨o,.inl h1,h2⟩
  ·exact⟨o,.inr (.inr h1),h2⟩
 ·rintro ⟨o,(h1|rfl|h1),h2⟩
  ·exact⟨o,.inl h1,h2⟩
  ·exact absurd (h2.1.symm.trans hi') (by decide)
  ·exact⟨o,.inr h1,h2⟩
theorem ad_len (l:List Op) (p:Nat) (o:Op) (hp:p≤l.length):(adA l p o).length=l.length+1:=by
 unfold adA;rw[List.length_append,List.length_cons,List.length_take,List.length_drop];omega
theorem wo_len {l:List Op} {k:Nat} (hk:k<l.length):(woA l k).length=l.length-1:=by
 unfold woA;rw[List.length_append,List.length_take,List.length_drop];omega
theorem mem_adA {l:List Op} {p:Nat} {o w:Op}:w∈adA l p o↔w=o∨w∈l:=by
 unfold adA;rw[List.mem_append,List.mem_cons]
 conv=>rhs;rw[← List.take_append_drop p l,List.mem_append]
 constructor
 ·rintro (h|h|h)
  ·exact .inr (.inl h)
  ·exact .inl h
  ·exact .inr (.inr h)
 ·rintro (h|h|h)
  ·exact .inr (.inl h)
  ·exact .inl h
  ·exact .inr (.inr h)
theorem mem_woA {l:List Op} {k:Nat} {w:Op} (h:w∈woA l k):w∈l:=by
 unfold woA at h;rw[List.mem_append] at h;exact h.elim List.mem_of_mem_take List.mem_of_mem_drop
theorem ins_go {q:QS} {l:List Op} {c:Int} {n:Nat} {t:Int} {x:It} (h:HQ q l c n) (h59:l.length≤59) (hn:n≤90000) (hc:(l.length:Int)≠c) (hf:Free l t) (hx:x∉itm l) :
  InsOk q t x/\insC q t x=0/\HQ (insQ q t x) (adA l (rkT t l) ⟨t,true,x⟩) c (n+10)/\(insQ q t x).mt.m.visits≤q.mt.m.visits+20000/\(insQ q t x).pr.m.visits≤q.pr.m.visits+20000/\(insQ q t x).gn.m.visits≤q.gn.m.visits+20000 /\
   ((prB l (rkT t l)<0->insI' q t x=[]/\fin [] (adA l (rkT t l) ⟨t,true,x⟩)=fin [] l)/\(¬ prB l (rkT t l)<0->∃ z,z∉fin [] l/\insI' q t x=[z]/\fin [] (adA l (rkT t l) ⟨t,true,x⟩)=insI z (fin [] l))):=by
 have hB:=h.vb' (by omega)
 have r0:=(h.ref t).2.2 hc hf;have n0:=nd_fin h.nd hx;have hp:=rkT_le t l;have i0:indB (refQ q t) x=false:=by
  rw[Bool.eq_false_iff];intro k;have k:indB q x=true:=k;exact hx ((h.ind x).1 k)
 have c0:insC q t x=0:=by unfold insC;rw[if_pos r0,if_neg (by rw[i0];decide)]
 have m1:=h.mq.ref_ hB (by omega) t
 have m2:=m1.ind_ hB (by omega) x
 have m3:=m2.rnk_ hB (by omega) (keyM t)
 have eR:rnkI (in1 q t x) (keyM t)=(rkT t l:Int):=rnk_at (H:=fin [] l) m2 (keyM t);have eF:inF q t x=prB l (rkT t l):=by
  have e1:excI (in2 q t x)=exc l:=MQ.exc (H:=fin [] l) m3;have e2:(in2 q t x).mt.l=mkL l:=m3.m0;unfold inF buI;rw[eR,e1,e2]
 have m4:=m3.bu_ hB (by omega) (rnkI (in1 q t x) (keyM t))
 have pe:=put_new (H:=fin [] l) (l:=l) (o:=⟨t,true,x⟩) (m:=opK t x) hf (by unfold mkO opK;rw[decide_eq_false n0.1];rfl)
 have al:=ad_len l (rkT t l) ⟨t,true,x⟩ hp;have pg:(Gv.putE O8 (opK t x) (mkL l)).length≤60:=by rw[mkL_H,pe,mkH_len,al];omega
 have m5:=m4.put8 hB (by omega) (by omega) (m:=opK t x) pg (.inr (by rw[mkL_len];exact hc))
 have gl:=gn_le l;have fl:=fin_le0 l;have lc:=h.len;have m6:=m5.putG hB (by omega) (by omega) (x:=x) (gn_ord h.nd) n0.2.1 (by omega) (by omega)
 have m6:MQ (in4 q t x) (mkH (fin [] l) (adA l (rkT t l) ⟨t,true,x⟩)) (fin [] l) (insI x (gn l)) c (n+2) q 3000:=(m6.lst pe).up (Nat.le_refl _) (by omega)
 have ok3:(in3 q t x).mt.PutOk (opK t x):=put8_ok (m4.few (by omega)).1 (by show(Gv.putE O8 (opK t x) (buQ (in2 q t x) (rnkI (in1 q t x) (keyM t))).mt.l).length≤60;rw[show(buQ (in2 q t x) (rnkI (in1 q t x) (keyM t))).mt.l=mkL l from m4.m0];exact pg)
 have ok4:(in3 q t x).gn.PutOk (sl x):=put9_ok m4.g0 (gn_ord h.nd) (m4.few (by omega)).2.2 (by omega)
 have fq:=h.mq.few (by omega)
 have tm':=tm_ad (o:=⟨t,true,x⟩) h.tm hf;have nd':=nd_ad (p:=rkT t l) (o:=⟨t,true,x⟩) h.nd (fun _=>hx)
 have dl':∀ o,o∈adA l (rkT t l) ⟨t,true,x⟩->o.ins=false->o.it=iz:=fun o ho hi'=>by
  rcases mem_adA.1 ho with rfl|ho
  ·cases hi'
  ·exact h.dl o ho hi'
 have oG:Ord (insI x (gn l)):=ord_ins (gn_ord h.nd) n0.2.1;have eQ:insQ q t x=gbQ (in4 q t x) (inF q t x):=by unfold insQ;rw[if_pos r0,if_neg (by rw[i0];decide)]
 have eI:insI' q t x=gbL (in4 q t x) (inF q t x):=by unfold insI';rw[if_pos r0,if_neg (by rw[i0];decide)]
 obtain⟨E1,E2⟩:=ins_ed (t:=t) h.nd hx hp;rw[eQ,eI,eF]
 by_cases hb:prB l (rkT t l)<0
 ·obtain⟨g1,g2,g3⟩:=m6.gb_no (by omega) hb
  obtain⟨a1,a2,a3⟩:=E1 hb;have mq:MQ (in4 q t x) (mkL (adA l (rkT t l) ⟨t,true,x⟩)) (fin [] (adA l (rkT t l) ⟨t,true,x⟩)) (gn (adA l (rkT t l) ⟨t,true,x⟩)) c (n+2) q 3000:=by
   rw[mkL_H,a1,← gn_ext nd' oG fun w=>by rw[mem_ins,a3,mem_gn h.nd,or_comm]]
   exact m6
  have v1:=mq.v1;have v2:=mq.v2;have v3:=mq.v3;rw[g1,g3];refine⟨⟨fq,fun _ _=>⟨ok3,ok4,?_⟩⟩,c0,HQ.mk' (mq.up (n':=n+10) (k':=90000) (by omega) (by omega)) h.vb (by omega) (by omega) tm' nd' dl' ⟨by rw[al];omega,h.len.2⟩ (by rw[al];omega),by omega,by omega,by omega,fun _=>⟨rfl,a1⟩,fun c=>absurd hb c⟩
  rw[eF];exact g2
 ·obtain⟨z,a0,a1,a2,a3,a4,a5⟩:=E2 hb;have hz:=(bst_ad (t:=t) h.nd n0.1 hp hb).trans a0;obtain⟨g1,g2,g3⟩:=m6.gb_ hB (by omega) (by omega) tm' nd' hb hz (fin_ord h.nd) oG a1 (by omega) (by omega)
  have mq:MQ (gbQ (in4 q t x) (prB l (rkT t l))) (mkL (adA l (rkT t l) ⟨t,true,x⟩)) (fin [] (adA l (rkT t l) ⟨t,true,x⟩)) (gn (adA l (rkT t l) ⟨t,true,x⟩)) c (n+5) q 9500:=by
   rw[mkL_H,a3,← gn_ext nd' (ord_rmv (z:=z) oG) fun w=>by rw[mem_rmv,mem_ins,a5,mem_gn h.nd,or_comm (a:=w∈tk [] l)],
    ← mkH_congr (H:=z::fin [] l) fun w _=>by rw[List.mem_cons,mem_ins]]
   exact g1.up (Nat.le_refl _) (by omega)
  have v1:=mq.v1;have v2:=mq.v2;have v3:=mq.v3;rw[g3];refine⟨⟨fq,fun _ _=>⟨ok3,ok4,?_⟩⟩,c0,HQ.mk' (mq.up (n':=n+10) (k':=90000) (by omega) (by omega)) h.vb (by omega) (by omega) tm' nd' dl' ⟨by rw[al];omega,h.len.2⟩ (by rw[al];omega),by omega,by omega,by omega,fun c=>absurd c hb,fun _=>⟨z,a1,rfl,a3⟩⟩
  rw[eF];exact g2
end Pa
namespace Pa
open Rx Wv Br
open Sh (putI dropI sls sl inI)
theorem del_go {q:QS} {l:List Op} {c:Int} {n:Nat} {t:Int} (h:HQ q l c n) (h59:l.length≤59) (hn:n≤90000) (hc:(l.length:Int)≠c) (hf:Free l t) :
  DelOk q t/\HQ (delQ q t) (adA l (rkT t l) ⟨t,false,iz⟩) c (n+10)/\(delQ q t).mt.m.visits≤q.mt.m.visits+20000/\(delQ q t).pr.m.visits≤q.pr.m.visits+20000/\(delQ q t).gn.m.visits≤q.gn.m.visits+20000 /\
   ((delI q t=[]/\fin [] (adA l (rkT t l) ⟨t,false,iz⟩)=fin [] l)∨∃ z,z∈fin [] l/\delI q t=[z]/\fin [] (adA l (rkT t l) ⟨t,false,iz⟩)=rmv z (fin [] l)):=by
 have hB:=h.vb' (by omega)
 have r0:=(h.ref t).2.2 hc hf;have hp:=rkT_le t l;have m1:=h.mq.ref_ hB (by omega) t
 have m2:=m1.rnk_ hB (by omega) (keyM t)
 have eR:rnkI (refQ q t) (keyM t)=(rkT t l:Int):=rnk_at (H:=fin [] l) m1 (keyM t);have eU:deU q t=nxB l (rkT t l):=by
  have e1:excI (de1 q t)=exc l:=MQ.exc (H:=fin [] l) m2;have e2:(de1 q t).mt.l=mkL l:=m2.m0;unfold deU bfI;rw[eR,e1,e2]
 have m3:=m2.bf_ hB (by omega) (rnkI (refQ q t) (keyM t))
 have m3:MQ (de2 q t) (mkH (fin [] l) l) (fin [] l) (gn l) c n q 600:=MQ.up m3 (Nat.le_refl _) (by omega)
 have al:=ad_len l (rkT t l) ⟨t,false,iz⟩ hp;have gl:=gn_le l;have fl:=fin_le0 l;have lc:=h.len;have fq:=h.mq.few (by omega)
 have tm':=tm_ad (o:=⟨t,false,iz⟩) h.tm hf;have nd':=nd_ad (p:=rkT t l) (o:=⟨t,false,iz⟩) h.nd (fun c=>by cases c)
 have dl':∀ o,o∈adA l (rkT t l) ⟨t,false,iz⟩->o.ins=false->o.it=iz:=fun o ho hi'=>by
  rcases mem_adA.1 ho with rfl|ho
  ·rfl
  ·exact h.dl o ho hi'
 have pe:∀ H,Gv.putE O8 (keyM t) (mkH H l)=mkH H (adA l (rkT t l) ⟨t,false,iz⟩):=fun H=>put_new (H:=H) (l:=l) (o:=⟨t,false,iz⟩) (m:=keyM t) hf rfl
 have pg:∀ H,(Gv.putE O8 (keyM t) (mkH H l)).length≤60:=fun H=>by rw[pe,mkH_len,al];omega
 have eQ:delQ q t=⟨(de3 q t).mt.put (keyM t),(de3 q t).pr,(de3 q t).gn,(de3 q t).cap⟩:=by unfold delQ;rw[if_pos r0]
 have eI:delI q t=taL (de2 q t) (deU q t):=by unfold delI;rw[if_pos r0]
 obtain⟨E1,E2⟩:=del_ed (x:=iz) (t:=t) h.nd hp;rw[eQ,eI];cases hz:lstI (mkL l) (nxB l (rkT t l)) with
 |none =>
  have hz':lstI (mkH (fin [] l) l) (deU q t)=none:=by rw[eU];exact hz
  obtain⟨a1,a2,a3⟩:=E1 hz;obtain⟨g1,g2,g3⟩:=m3.ta_no hB (by omega) (by omega) hz'
  have g4:=MQ.put8 (q:=de3 q t) g1 hB (by omega) (by omega) (m:=keyM t) (pg _) (.inr (by rw[mkH_len];exact hc))
  have mq:MQ ⟨(de3 q t).mt.put (keyM t),(de3 q t).pr,(de3 q t).gn,(de3 q t).cap⟩ (mkL (adA l (rkT t l) ⟨t,false,iz⟩)) (fin [] (adA l (rkT t l) ⟨t,false,iz⟩)) (gn (adA l (rkT t l) ⟨t,false,iz⟩)) c (n+5) q 9500:=by
   rw[mkL_H,a1,← gn_ext nd' (gn_ord h.nd) fun w=>by rw[a3,mem_gn h.nd],← pe]
   exact g4.up (by omega) (by omega)
  have v1:=mq.v1;have v2:=mq.v2;have v3:=mq.v3;refine⟨⟨fq,fun _=>⟨g2,put8_ok (MQ.few (q:=de3 q t) g1 (by omega)).1 ?_⟩⟩,HQ.mk' (mq.up (n':=n+10) (k':=90000) (by omega) (by omega)) h.vb (by omega) (by omega) tm' nd' dl' ⟨by rw[al];omega,h.len.2⟩ (by rw[al];omega),by omega,by omega,by omega,.inl ⟨g3,a1⟩⟩
  rw[show(de3 q t).mt.l=mkH (fin [] l) l from g1.m0];exact pg _
 |some z =>
  have hz':lstI (mkH (fin [] l) l) (deU q t)=some z:=by rw[eU];exact hz
  obtain⟨a0,a1,a2,a3⟩:=E2 z hz;have zg:z∉gn l:=fun k=>((mem_fin (ap_nil h.nd) z).1 a0).2 ((mem_gn h.nd).1 k)
  obtain⟨g1,g2,g3⟩:=m3.ta_ hB (by omega) (by omega) h.tm h.nd hz' (fin_ord h.nd) (gn_ord h.nd) zg (by omega) (by omega)
  have g4:=MQ.put8 (q:=de3 q t) g1 hB (by omega) (by omega) (m:=keyM t) (pg _) (.inr (by rw[mkH_len];exact hc))
  have mq:MQ ⟨(de3 q t).mt.put (keyM t),(de3 q t).pr,(de3 q t).gn,(de3 q t).cap⟩ (mkL (adA l (rkT t l) ⟨t,false,iz⟩)) (fin [] (adA l (rkT t l) ⟨t,false,iz⟩)) (gn (adA l (rkT t l) ⟨t,false,iz⟩)) c (n+5) q 9500:=by
   rw[mkL_H,a1,← gn_ext nd' (ord_ins (x:=z) (gn_ord h.nd) zg) fun w=>by rw[mem_ins,a3,mem_gn h.nd,or_comm],← pe]
   exact g4.up (by omega) (by omega)
  have v1:=mq.v1;have v2:=mq.v2;have v3:=mq.v3;refine⟨⟨fq,fun _=>⟨g2,put8_ok (MQ.few (q:=de3 q t) g1 (by omega)).1 ?_⟩⟩,HQ.mk' (mq.up (n':=n+10) (k':=90000) (by omega) (by omega)) h.vb (by omega) (by omega) tm' nd' dl' ⟨by rw[al];omega,h.len.2⟩ (by rw[al];omega),by omega,by omega,by omega,.inr ⟨z,a0,g3,a1⟩⟩
  rw[show(de3 q t).mt.l=mkH (rmv z (fin [] l)) l from g1.m0];exact pg _
theorem rv_at {q:QS} {l:List Op} {c:Int} {n:Nat} {t:Int} {k:Nat} (h:HQ q l c n) (hk:k<l.length) (ht:(og l k).t=t):rvB q t=true/\rvM q t=mkO (fin [] l) (og l k):=by
 have hh:=hit_at (H:=fin [] l) (e:=keyM t) h.tm hk ht;have e:(mkH (fin [] l) l).getD k mz=mkO (fin [] l) (og l k):=mkH_get _ hk;have s:=Gv.srt_fnd laws8 (e:=keyM t) (tm_srt (H:=fin [] l) h.tm) (i:=k) (by rw[mkH_len];exact hk) (by
  show O8.cmp (keyM t) ((mkH (fin [] l) l).getD k mz)=0
  rw[e,cmp_zero];exact ht.symm)
 unfold rvB rvM;rw[h.m0,mkL_H,s];exact⟨rfl,e⟩
theorem rvk_go {q:QS} {l:List Op} {c:Int} {n:Nat} {t:Int} {k:Nat} (h:HQ q l c n) (hn:n≤90000) (hk:k<l.length) (ht:(og l k).t=t) :
  RvkOk q t/\rvkC q t=0/\HQ (rvkQ q t) (woA l k) c (n+10)/\(rvkQ q t).mt.m.visits≤q.mt.m.visits+20000/\(rvkQ q t).pr.m.visits≤q.pr.m.visits+20000/\(rvkQ q t).gn.m.visits≤q.gn.m.visits+20000 /\
   ((rvkI q t=[]/\rvkO q t=[]/\fin [] (woA l k)=fin [] l)∨(∃ z,z∉fin [] l/\rvkI q t=[z]/\rvkO q t=[]/\fin [] (woA l k)=insI z (fin [] l))∨(∃ z,z∈fin [] l/\rvkI q t=[]/\rvkO q t=[z]/\fin [] (woA l k)=rmv z (fin [] l))):=by
 have hB:=h.vb' (by omega)
 obtain⟨hb,hm⟩:=rv_at h hk ht;have c0:rvkC q t=0:=by unfold rvkC;rw[if_pos hb]
 have l60:=h.l60;have m1:=h.mq.fnd_ hB (by omega) (keyM t)
 have m1:MQ (rv1 q t) (mkH (fin [] l) l) (fin [] l) (gn l) c n q 40:=m1;have m2:=m1.rnk_ hB (by omega) (rvM q t)
 have m2:MQ (rv2 q t) (mkH (fin [] l) l) (fin [] l) (gn l) c n q 110:=m2;have eR:rvP q t=(k:Int):=by
  unfold rvP;rw[rnk_at (H:=fin [] l) m1 (rvM q t),hm];show(rkT (og l k).t l:Int)=k
  rw[rkT_at h.tm hk rfl]
 have eX:excI (rv2 q t)=exc l:=MQ.exc (H:=fin [] l) m2;have eL:(rv2 q t).mt.l=mkL l:=m2.m0;have wl:=wo_len hk;have gl:=gn_le l;have fl:=fin_le0 l;have lc:=h.len;have fq:=h.mq.few (by omega)
 have tm':=tm_wo h.tm k;obtain⟨nd',nm⟩:=nd_wo h.nd hk;have dl':∀ o,o∈woA l k->o.ins=false->o.it=iz:=fun o ho hi'=>h.dl o (mem_woA ho) hi'
 have de:∀ H,Gv.dropE O8 (rvM q t) (mkH H l)=mkH H (woA l k):=fun H=>drop_old h.tm hk (by rw[hm];rfl)
 have eins:(rvM q t).ins=(og l k).ins:=by rw[hm];rfl
 have eit:(rvM q t).it=(og l k).it:=by rw[hm];rfl
 have ehere:(rvM q t).here=((og l k).ins&&decide ((og l k).it∈fin [] l)):=by rw[hm];rfl
 have fin_:∀ {q':QS} {d:Nat} {e:Int},MQ q' (mkL (woA l k)) (fin [] (woA l k)) (gn (woA l k)) c (n+d) q e->d≤10->e≤15000->HQ q' (woA l k) c (n+10)/\q'.mt.m.visits≤q.mt.m.visits+20000/\q'.pr.m.visits≤q.pr.m.visits+20000/\q'.gn.m.visits≤q.gn.m.visits+20000:=fun mq hd he=>by
  have v1:=mq.v1;have v2:=mq.v2;have v3:=mq.v3;exact⟨HQ.mk' (mq.up (n':=n+10) (k':=90000) (by omega) (by omega)) h.vb (by omega) (by omega) tm' nd' dl' ⟨by rw[wl];omega,h.len.2⟩ (by rw[wl];omega),by omega,by omega,by omega⟩
 rcases ins_cases (og l k) with ei|ei
 ·obtain⟨E1,E2⟩:=rins_ed h.nd hk ei;have eins:(rvM q t).ins=true:=eins.trans ei
  by_cases hin:(og l k).it∈fin [] l
  ·have eh:(rvM q t).here=true:=by rw[ehere,ei,decide_eq_true hin];rfl
   obtain⟨a1,a2,a3⟩:=E1 hin;have m3:=m1.drop8 hB (by omega) (rvM q t)
   have m4:=m3.dropP hB (by omega) (x:=(og l k).it) (fin_ord h.nd)
   have eQ:rvkQ q t=⟨(rv1 q t).mt.drop (rvM q t),(rv1 q t).pr.drop (sl (og l k).it),(rv1 q t).gn,(rv1 q t).cap⟩:=by unfold rvkQ;rw[if_pos hb,if_pos eins,if_pos eh,eit]
   have mq:MQ (rvkQ q t) (mkL (woA l k)) (fin [] (woA l k)) (gn (woA l k)) c (n+2) q 9000:=by
    rw[eQ,mkL_H,a1,← gn_ext nd' (gn_ord h.nd) fun w=>by rw[a3,mem_gn h.nd],mkH_congr (H:=rmv (og l k).it (fin [] l)) (H':=fin [] l) fun w hw=>by
     rw[mem_rmv];exact⟨fun c=>c.1,fun c=>⟨c,fun e=>((nm w).1 hw).2 ⟨ei,e⟩⟩⟩,← de]
    exact m4.up (by omega) (by omega)
   obtain⟨f1,f2,f3,f4⟩:=fin_ mq (by omega) (by omega)
   refine⟨⟨fq,fun _=>⟨fun c=>absurd (eins.symm.trans c) (by decide),fun _ c=>absurd (eh.symm.trans c) (by decide)⟩⟩,c0,f1,f2,f3,f4,.inr (.inr ⟨_,hin,?_,?_,a1⟩)⟩
   ·unfold rvkI;rw[if_pos hb,if_pos eins]
   ·unfold rvkO;rw[if_pos hb,if_pos eins,if_pos eh,eit]
  ·have eh:(rvM q t).here=false:=by rw[ehere,ei,decide_eq_false hin];rfl
   obtain⟨a0,A1,A2⟩:=E2 hin;have m3:=m2.bf_ hB (by omega) (rvP q t+1)
   have m3:MQ (rv5 q t) (mkH (fin [] l) l) (fin [] l) (gn l) c n q 600:=MQ.up m3 (Nat.le_refl _) (by omega)
   have eU:rvU q t=nxB l (k+1):=by
    unfold rvU bfI;rw[eX,eL,eR]
    rfl
   have eQ:rvkQ q t=⟨(rv6 q t).mt.drop (rvM q t),(rv6 q t).pr,(rv6 q t).gn.drop (sl (og l k).it),(rv6 q t).cap⟩:=by unfold rvkQ;rw[if_pos hb,if_pos eins,if_neg (by rw[eh];decide),eit]
   have eI:rvkI q t=[]:=by unfold rvkI;rw[if_pos hb,if_pos eins]
   have eO:rvkO q t=taL (rv5 q t) (rvU q t):=by unfold rvkO;rw[if_pos hb,if_pos eins,if_neg (by rw[eh];decide)]
   cases hz:lstI (mkL l) (nxB l (k+1)) with
   |none =>
    have hz':lstI (mkH (fin [] l) l) (rvU q t)=none:=by rw[eU];exact hz
    obtain⟨a1,a2,a3⟩:=A1 hz;obtain⟨g1,g2,g3⟩:=m3.ta_no hB (by omega) (by omega) hz'
    have g4:=MQ.drop8 (q:=rv6 q t) g1 hB (by omega) (rvM q t)
    have g5:=g4.dropG hB (by omega) (x:=(og l k).it) (gn_ord h.nd)
    have mq:MQ (rvkQ q t) (mkL (woA l k)) (fin [] (woA l k)) (gn (woA l k)) c (n+2) q 15000:=by
     rw[eQ,mkL_H,a1,← gn_ext nd' (ord_rmv (z:=(og l k).it) (gn_ord h.nd)) fun w=>by rw[mem_rmv,a3,mem_gn h.nd],← de]
     exact g5.up (by omega) (by omega)
    obtain⟨f1,f2,f3,f4⟩:=fin_ mq (by omega) (by omega)
    exact⟨⟨fq,fun _=>⟨fun c=>absurd (eins.symm.trans c) (by decide),fun _ _=>⟨g2,(MQ.few (q:=rv6 q t) g1 (by omega)).1,(MQ.few (q:=rv6 q t) g1 (by omega)).2.2⟩⟩⟩,c0,f1,f2,f3,f4,.inl ⟨eI,eO.trans g3,a1⟩⟩
   |some z =>
    have hz':lstI (mkH (fin [] l) l) (rvU q t)=some z:=by rw[eU];exact hz
    obtain⟨b0,a1,a2,a3⟩:=A2 z hz;have zg:z∉gn l:=fun k=>((mem_fin (ap_nil h.nd) z).1 b0).2 ((mem_gn h.nd).1 k)
    have gi:(gn l).length≤l.length-1∨(gn l).length=l.length:=by omega
    obtain⟨g1,g2,g3⟩:=m3.ta_ hB (by omega) (by omega) h.tm h.nd hz' (fin_ord h.nd) (gn_ord h.nd) zg (by
     have e1:=tk_le l [];have e2:(l.filter fun o=>!o.ins).length<l.length:=by
      rw[List.length_filter_lt_length_iff_exists];exact⟨_,mem_og hk,by rw[ei];decide⟩
     rw[gn_len];omega) (by omega)
    have g4:=MQ.drop8 (q:=rv6 q t) g1 hB (by omega) (rvM q t)
    have g5:=g4.dropG hB (by omega) (x:=(og l k).it) (ord_ins (x:=z) (gn_ord h.nd) zg)
    have mq:MQ (rvkQ q t) (mkL (woA l k)) (fin [] (woA l k)) (gn (woA l k)) c (n+5) q 15000:=by
     rw[eQ,mkL_H,a1,← gn_ext nd' (ord_rmv (z:=(og l k).it) (ord_ins (x:=z) (gn_ord h.nd) zg)) fun w=>by rw[mem_rmv,mem_ins,a3,mem_gn h.nd,or_comm (a:=w=z)],← de]
     exact g5.up (by omega) (by omega)
    obtain⟨f1,f2,f3,f4⟩:=fin_ mq (by omega) (by omega)
    exact⟨⟨fq,fun _=>⟨fun c=>absurd (eins.symm.trans c) (by decide),fun _ _=>⟨g2,(MQ.few (q:=rv6 q t) g1 (by omega)).1,(MQ.few (q:=rv6 q t) g1 (by omega)).2.2⟩⟩⟩,c0,f1,f2,f3,f4,.inr (.inr ⟨z,b0,eI,eO.trans g3,a1⟩)⟩
 ·have eins:(rvM q t).ins=false:=eins.trans ei;have nt:¬ (rvM q t).ins=true:=by rw[eins];decide
  obtain⟨E1,E2⟩:=rdel_ed h.nd hk ei;have m3:=m2.bu_ hB (by omega) (rvP q t)
  have m4:=m3.drop8 hB (by omega) (rvM q t)
  have m4:MQ (rv3 q t) (mkH (fin [] l) (woA l k)) (fin [] l) (gn l) c (n+1) q 5000:=(m4.lst (de _)).up (Nat.le_refl _) (by omega)
  have eF:rvF q t=prB l k:=by
   unfold rvF buI;rw[eX,eL,eR]
  have eQ:rvkQ q t=gbQ (rv3 q t) (rvF q t):=by unfold rvkQ;rw[if_pos hb,if_neg nt]
  have eI:rvkI q t=gbL (rv3 q t) (rvF q t):=by unfold rvkI;rw[if_pos hb,if_neg nt]
  have eO:rvkO q t=[]:=by unfold rvkO;rw[if_pos hb,if_neg nt]
  have nm':∀ w,w∈itm (woA l k)↔w∈itm l:=fun w=>by rw[nm,ei];simp
  by_cases hb':prB l k<0
  ·obtain⟨g1,g2,g3⟩:=m4.gb_no (by omega) (f:=rvF q t) (by rw[eF];exact hb')
   obtain⟨a1,a2,a3⟩:=E1 hb';have mq:MQ (rvkQ q t) (mkL (woA l k)) (fin [] (woA l k)) (gn (woA l k)) c (n+1) q 5000:=by
    rw[eQ,g1,mkL_H,a1,← gn_ext nd' (gn_ord h.nd) fun w=>by rw[a3,mem_gn h.nd]]
    exact m4
   obtain⟨f1,f2,f3,f4⟩:=fin_ mq (by omega) (by omega)
   exact⟨⟨fq,fun _=>⟨fun _=>g2,fun c=>absurd c nt⟩⟩,c0,f1,f2,f3,f4,.inl ⟨eI.trans g3,eO,a1⟩⟩
  ·obtain⟨z,a0,b1,b2,a3,a4,a5⟩:=E2 hb';have hz:=(bst_wo hk ei hb').trans a0;obtain⟨g1,g2,g3⟩:=m4.gb_ hB (by omega) (by omega) (f:=rvF q t) tm' nd' (by rw[eF];exact hb') (by rw[eF];exact hz) (fin_ord h.nd) (gn_ord h.nd) b1 (by
    have e0:∀ (a:List Op) (h:List It),(fin h a).length+(a.filter fun o=>!o.ins).length≤h.length+a.length+fre h a-0:=fun a=>by
     intro h;have il:∀ (x:It) (m:List It),(insI x m).length=m.length+1:=fun x m=>by
      induction m with
      |nil=>rfl
      |cons y m ih=>unfold insI;split<;>simp[ih]
     induction a generalizing h with
     |nil=>rw[fin,fre];simp
     |cons o r ih =>
      rcases ins_cases o with e|e
      ·rw[fin_ins e,fre_ins e,List.filter_cons,e];have:=ih (insI o.it h);rw[il] at this;simp only[Bool.not_true,Bool.false_eq_true,if_false,List.length_cons];omega
      ·rw[fin_del e,List.filter_cons,e];have:=ih h.tail;simp only[Bool.not_false,if_true,List.length_cons];cases h with
       |nil=>rw[fre_del0 e];simp only[List.tail_nil,List.length_nil] at this ⊢;omega
       |cons y h=>rw[fre_delc e];simp only[List.tail_cons,List.length_cons] at this ⊢;omega
    have e1:=tk_le l [];have e2:=e0 l [];have e3:0<(tk [] l).length:=List.length_pos_of_mem b2;simp only[List.length_nil] at e2;omega) (by omega)
   have mq:MQ (rvkQ q t) (mkL (woA l k)) (fin [] (woA l k)) (gn (woA l k)) c (n+5) q 12000:=by
    rw[eQ,mkL_H,a3,← gn_ext nd' (ord_rmv (z:=z) (gn_ord h.nd)) fun w=>by rw[mem_rmv,a5,mem_gn h.nd],
     ← mkH_congr (H:=z::fin [] l) fun w _=>by rw[List.mem_cons,mem_ins]]
    exact g1.up (by omega) (by omega)
   obtain⟨f1,f2,f3,f4⟩:=fin_ mq (by omega) (by omega)
   exact⟨⟨fq,fun _=>⟨fun _=>g2,fun c=>absurd c nt⟩⟩,c0,f1,f2,f3,f4,.inr (.inl ⟨z,b1,eI.trans g3,eO,a3⟩)⟩
end Pa
namespace Pa
open Rx Wv Sh
set_option maxRecDepth 100000
set_option maxHeartbeats 8000000
abbrev oz:Op:=⟨0,false,⟨0,0⟩⟩
abbrev oR (l:List Op):Row:=⟨[.int .i64 0,.bool false,.int .i64 0,.int .i64 0],l.length,[⟨l.map Op.t,[],[]⟩,⟨[],l.map Op.ins,[]⟩,⟨l.map fun o=>o.it.k,[],[]⟩,⟨l.map fun o=>o.it.i,[],[]⟩]⟩
def oRx (l:List Op) (a n:Nat):Row:=⟨[.int .i64 0,.bool false,.int .i64 0,.int .i64 0],n,[⟨cut (l.map Op.t) a n,[],[]⟩,⟨[],cut (l.map Op.ins) a n,[]⟩,⟨cut (l.map fun o=>o.it.k) a n,[],[]⟩,⟨cut (l.map fun o=>o.it.i) a n,[],[]⟩]⟩
theorem oRx_all (l:List Op):oRx l 0 l.length=oR l:=by unfold oRx;simp only[cm]
theorem oR_cut (l:List Op):(⟨[.int .i64 0,.bool false,.int .i64 0,.int .i64 0],l.length,[⟨cut (l.map Op.t) 0 l.length,[],[]⟩,⟨[],cut (l.map Op.ins) 0 l.length,[]⟩,⟨cut (l.map fun o=>o.it.k) 0 l.length,[],[]⟩,⟨cut (l.map fun o=>o.it.i) 0 l.length,[],[]⟩]⟩:Row)=oR l:=by simp only[cm]
def uO (r:Row):List Op:=match r.cols with
 |[a,b,c,d]=>(List.range r.n).map fun i=>⟨a.i.getD i 0,b.b.getD i false,⟨c.i.getD i 0,d.i.getD i 0⟩⟩
 |_=>[]
theorem uO_oR (l:List Op):uO (oR l)=l:=by
 unfold uO;refine range_get fun i hi=>?_
 simp only[map_getD _ _ hi]
theorem gO' {β:Type} {l:List Op} {i:Nat} (f:Op->β) (d:β) (h:f oz=d):(l.map f).getD i d=f (l.getD i oz):=by
 subst h;rw[List.getD_eq_getElem?_getD,List.getD_eq_getElem?_getD,List.getElem?_map];cases l[i]?<;>rfl
abbrev vO {R:Type} (l:List Op):Option (SB R):=some (.inr (.inr (.inl (oR l))))
abbrev oO {R:Type} (l:List Op):Option (SB R):=some (.inr (.inl (45,oR l)))
theorem e_i (i:Nat):0+(i:Int).toNat=i:=by omega
def atO (l:List Op) (t:Int):Int:=if l.findIdx (fun o=>o.t==t)<l.length then(l.findIdx (fun o=>o.t==t):Int) else -1
def rkO (t:Int) (l:List Op):Nat:=l.findIdx (fun o=>!decide (o.t<t))
def addO' (l:List Op) (o:Op):List Op:=l.take (rkO o.t l)++o::l.drop (rkO o.t l)
def woO (l:List Op) (i:Nat):List Op:=l.take i++l.drop (i+1)
theorem rkO_le (t:Int) (l:List Op):rkO t l≤l.length:=List.findIdx_le_length
theorem addO_len (l:List Op) (o:Op):(addO' l o).length=l.length+1:=by
 have:=rkO_le o.t l;unfold addO';rw[List.length_append,List.length_cons,List.length_take,List.length_drop];omega
def addP {R:Type}:Prim R:=fun args hh=>match args,hh with
 |[.slice (some ⟨0,0,some 4000⟩) n c,.agg ⟨[.int .i64 k0,.bool k1,.int .i64 k2,.int .i64 k3]⟩],[some (.inr (.inr (.inl r)))]=>some ⟨r=oR (uO r)/\n=(uO r).length/\(uO r).length≤100,.slice (some ⟨1,0,some 4000⟩) (addO' (uO r) (⟨k0,k1,⟨k2,k3⟩⟩:Op)).length 0,none,[some (.inr (.inr (.inl r))),oO (addO' (uO r) (⟨k0,k1,⟨k2,k3⟩⟩:Op))],[],[(0,0)]⟩
 |_,_=>none
theorem take_one {l:List Op} {i:Nat} (h:i<l.length):l.take (i+1)=l.take i++[l.getD i oz]:=by
 rw[List.take_succ_eq_append_getElem h,List.getD_eq_getElem?_getD,List.getElem?_eq_getElem h];rfl
theorem colS {β:Type} (f:It->β) (h:List It) (y:It):cut (cut ([]++cut (h.map f) 0 h.length) 0 (0+h.length)++cut [f y] 0 1) 0 (0+h.length+1)=(h++[y]).map f:=by
 have e1:cut (h.map f) 0 h.length=h.map f:=cut_eq (by simp)
 have e2:cut [f y] 0 1=[f y]:=rfl;rw[List.nil_append,e1,Nat.zero_add,e1,e2,cut_eq (by simp),List.map_append]
 rfl
def hasB (l:List Op) (x:It):Bool:=l.any fun o=>o.ins&&decide (o.it=x)
theorem has_mem {l:List Op} {x:It}:hasB l x=true↔x∈itm l:=by
 rw[mem_itm];unfold hasB;rw[List.any_eq_true]
 constructor
 ·rintro ⟨o,h1,h2⟩
  rw[Bool.and_eq_true,decide_eq_true_eq] at h2;exact⟨o,h1,h2.1,h2.2⟩
 ·rintro ⟨o,h1,h2,h3⟩
  exact⟨o,h1,by rw[h2,decide_eq_true h3];rfl⟩
theorem Op.ext_ {a b:Op} (h:a.t=b.t) (h1:a.ins=b.ins) (h2:a.it=b.it):a=b:=by cases a;cases b;cases h;cases h1;cases h2;rfl
instance:DecidableEq Op:=fun a b=>decidable_of_iff (a.t=b.t/\a.ins=b.ins/\a.it=b.it) ⟨fun h=>Op.ext_ h.1 h.2.1 h.2.2,fun h=>by subst h;exact⟨rfl,rfl,rfl⟩⟩
def chN (old now:List It) (i:Nat):List It:=(now.take i).filter fun x=>!inI x old
abbrev chA (old now:List It):List It:=chN old now now.length
end Pa
namespace Rx
set_option maxRecDepth 100000
def restI (a n:Int):Int:=((a.tmod n)+n).tmod n
theorem rest_bounds {a n:Int} (h:0<n):0≤restI a n/\restI a n<n:=by
 have h1:0≤a.tmod n+n:=by have:=Int.tmod_lt_of_pos a h;have:=Int.lt_tmod_of_pos a h;omega
 exact⟨Int.tmod_nonneg _ h1,Int.tmod_lt_of_pos _ h⟩
def restP {R:Type}:Prim R:=fun args hh=>match args,hh with
 |[.int .i64 a,.int .i64 n],[]=>some ⟨0<n/\n<1000000,.int .i64 (restI a n),none,hh,[],[]⟩
 |_,_=>none
theorem rest_ok {R:Type} {D:Res R}:ConOk D Tryz.prog 28 (con1 restP):=by
 refine prK Tryz.f28 fun args hh x hx=>?_
 unfold restP at hx;split at hx
 ·rename_i a n;injection hx with hx
  subst hx;refine q4 fun _ hv=>?_
  generalize hG:Rx.Ends (R:=R) _ _=G;refine rx_ok (T:=[]) trivial mixed 200 ?_;refine as_text (q:=Vc (n≠(0:Int))/\Vc (fits (Int.tmod a n+n))/\Vc (n≠(0:Int))/\Post (G (Value.int IntKind.i64 (Int.tmod (Int.tmod a n+n) n)) [])) ?_ (by kernel_rfl)
  subst hG;have h1:=Int.tmod_lt_of_pos a hv.1;have h2:=Int.lt_tmod_of_pos a hv.1;refine⟨⟨by omega⟩,⟨⟨by omega,by omega⟩⟩,⟨by omega⟩,⟨⟨[],rfl,rfl,trivial,rfl,rfl,rfl,rfl⟩⟩⟩
 ·cases hx
end Rx
namespace Pa
open Rx Wv Sh
set_option maxRecDepth 100000
set_option maxHeartbeats 8000000
structure Act where
 k:Int
 t:Int
 d:Bool
 x:It
def timA (a:Act) (l:List Op):Int:=if a.d=true/\l≠[] then(l.getD (restI a.t l.length).toNat oz).t else a.t
def TTm {R:Type}:Tab R:=[(28,liftC zN 2 (con1 restP))]
theorem TTm_ok {R:Type} {D:Res R}:TabOk D Tryz.prog (TTm:Tab R):=⟨liftC_ok _ _ rest_ok,trivial⟩
def timP {R:Type}:Prim R:=fun args hh=>match args,hh with
 |[.agg ⟨[.int .i64 k0,.int .i64 k1,.bool k2,.int .i64 k3,.int .i64 k4]⟩,.slice (some ⟨0,0,some 4000⟩) n c],[some (.inr (.inr (.inl r)))]=>some ⟨r=oR (uO r)/\n=(uO r).length/\(uO r).length≤100,.int .i64 (timA ⟨k0,k1,k2,⟨k3,k4⟩⟩ (uO r)),none,hh,[],[]⟩
 |_,_=>none
theorem tim_ok {R:Type} {D:Res R}:ConOk D Tryz.prog 27 (con1 timP):=by
 refine prK Tryz.f27 fun args hh x hx=>?_
 unfold timP at hx;split at hx
 ·rename_i k0 k1 k2 k3 k4 n c r;injection hx with hx
  subst hx;refine q4 fun _ hv=>?_
  obtain⟨hr,rfl,hb⟩:=hv;generalize uO r=l at *;subst hr
  generalize hG:Rx.Ends (R:=R) _ _=G;refine rx_ok (T:=TTm) TTm_ok mixed 200 ?_;refine as_text (q:=let Z2:=Value.int IntKind.i64;let Z1:=(↑(List.length l):Int);((!k2)=false->((Z1==(0:Int))=true->Post (G (Z2 k1) [some (.inr (.inr (.inl (oR l)))),some (.inl (33,[Z2 k0,Z2 k1,Value.bool k2,Z2 k3,Z2 k4]))]))/\((Z1==(0:Int))=false->Vc ((0:Int)<Z1/\Z1<(1000000:Int))/\Vc ((0:Int)≤restI k1 Z1/\restI k1 Z1<Z1/\0+List.length l≤List.length l)/\Vc (0+Int.toNat (restI k1 Z1)<List.length l)/\Post (G (Z2 (List.getD (List.map Op.t l) (0+Int.toNat (restI k1 Z1)) (0:Int))) [some (.inr (.inr (.inl (oR l)))),some (.inl (33,[Z2 k0,Z2 k1,Value.bool k2,Z2 k3,Z2 k4]))])))/\((!k2)=true->Post (G (Z2 k1) [some (.inr (.inr (.inl (oR l)))),some (.inl (33,[Z2 k0,Z2 k1,Value.bool k2,Z2 k3,Z2 k4]))]))) ?_ (by kernel_rfl)
  intro Z2 Z1;subst Z1 Z2;have done:∀ (v:Int) (rest:Hp R),v=timA ⟨k0,k1,k2,⟨k3,k4⟩⟩ l->G (.int .i64 v) (vO l::rest):=by
   intro v rest e;subst e;subst hG;exact⟨[0],rfl,rfl,⟨rfl,trivial⟩,rfl,rfl,rfl,rfl⟩
  clear hG;refine⟨fun h=>⟨fun h2=>⟨?_⟩,fun h2=>?_⟩,fun h=>⟨?_⟩⟩
  ·have h3:l=[]:=List.eq_nil_of_length_eq_zero (by have:=eq_of_beq h2;omega)
   exact done _ _ (by unfold timA;rw[if_neg (fun c=>c.2 h3)])
  ·have h3:0<l.length:=by have:=ne_of_beq_false h2;omega
   have hr:=rest_bounds (a:=k1) (n:=l.length) (by omega)
   have hk:k2=true:=by simpa using h
   refine⟨⟨by omega,by omega⟩,⟨hr.1,hr.2,by omega⟩,⟨by omega⟩,⟨done _ _ ?_⟩⟩
   unfold timA;rw[if_pos ⟨hk,List.ne_nil_of_length_pos h3⟩,gO' Op.t 0 rfl,Nat.zero_add]
  ·have hk:k2=false:=by simpa using h
   exact done _ _ (by unfold timA;rw[if_neg (fun c=>by rw[hk] at c;cases c.1)])
 ·cases hx
end Pa
end Go.Proofs.YtpjdphiopolanaaGreat
