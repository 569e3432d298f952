import Derived.Test.YtpjdphiopolanaaGreatZvc
import Derived.Test.YtpjdphiopolanaaGreatZvb
set_option linter.unusedVariables false
set_option linter.unusedSimpArgs false
namespace Go.Proofs.YtpjdphiopolanaaGreat
namespace G8
open Rx
set_option maxRecDepth 100000
abbrev trB (b:Nat) (i g:Int):Option (SB Rs):=some (.inl (92,[.pointer (some ⟨b,0,none⟩),.int .i64 i,.int .i64 g]))
abbrev oP (m:Pl):Option (SB Rs):=some (.inr (.inr (.inr (.pool m))))
def TOne {R:Type}:Tab R:=[(151,liftC zN 2 (con1 Wv.msumP))]
theorem TOne_ok {R:Type} {D:Res R}:TabOk D Tryz.prog (TOne:Tab R):=⟨liftC_ok _ _ Wv.msum_ok,trivial⟩
def TPlus {R:Type}:Tab R:=[(1000000000,wrapCon),(157,liftC zN 2 (con1 Wv.splusP))]
theorem TPlus_ok {R:Type} {D:Res R}:TabOk D Tryz.prog (TPlus:Tab R):=⟨wrapCon_ok,liftC_ok _ _ Wv.splus_ok,trivial⟩
def oneP {R:Type}:Prim R:=fun args hh=>match args,hh with
 |[.agg ⟨kE⟩],[]=>some ⟨kE=elL (elOf kE)/\(True),.agg ⟨ptL (Gv.one Wv.O8 (elOf kE))⟩,none,hh,[],[]⟩
 |_,_=>none
theorem one_ok {R:Type} {D:Res R}:ConOk D Tryz.prog 74 (con1 oneP):=by
 refine prK Tryz.f74 fun args hh x hx=>?_
 unfold oneP at hx;split at hx
 ·rename_i kE;injection hx with hx
  subst hx;refine q4 fun _ hv=>?_
  obtain⟨hq0,hv⟩:=hv;generalize elOf kE=ke at *;subst hq0
  generalize hG:Rx.Ends (R:=R) _ _=G;refine rx_ok (T:=TOne) TOne_ok mixed 200 ?_;refine as_text (q:=Vc True/\Vc True/\Post (G (Value.agg (Array.mk (ptL (Gv.Part.mk 1 (Gv.Ops.sum Wv.O8 ke))))) [some (.inl (49,(elL ke))),some (.inl (117,(ptL (Gv.Part.mk 1 (Gv.Ops.sum Wv.O8 ke)))))])) ?_ (by kernel_rfl)
  subst hG
  repeat' (first|apply And.intro|apply Vc.mk|apply fits.mk|intro h|apply Post.mk)
  all_goals (try simp only[sB] at *)
  all_goals first|contradiction|omega|exact vb1 ‹_›|exact vb2 ‹_›|exact vb3 ‹_›|exact⟨rfl,by omega⟩|exact rfl|(simp[*,-List.getD_eq_getElem?_getD];done)|skip
  exact⟨[],rfl,rfl,trivial,rfl,rfl,rfl,rfl⟩
 ·cases hx
def plusP {R:Type}:Prim R:=fun args hh=>match args,hh with
 |[.agg ⟨pP⟩,.agg ⟨qP⟩],[]=>some ⟨pP=ptL (ptOf pP)/\qP=ptL (ptOf qP)/\(True),.agg ⟨ptL (Gv.plusP Wv.O8 (ptOf pP) (ptOf qP))⟩,none,hh,[],[]⟩
 |_,_=>none
theorem plus_ok {R:Type} {D:Res R}:ConOk D Tryz.prog 116 (con1 plusP):=by
 refine prK Tryz.f116 fun args hh x hx=>?_
 unfold plusP at hx;split at hx
 ·rename_i pP qP;injection hx with hx
  subst hx;refine q4 fun _ hv=>?_
  obtain⟨hq0,hq1,hv⟩:=hv;generalize ptOf pP=pp at *;subst hq0;generalize ptOf qP=qp at *;subst hq1
  generalize hG:Rx.Ends (R:=R) _ _=G;refine rx_ok (T:=TPlus) TPlus_ok mixed 200 ?_;refine as_text (q:=let Z1:=(ptL (Gv.Part.mk (IntKind.wrap IntKind.i64 (Gv.Part.n pp+Gv.Part.n qp)) (Gv.Ops.plus Wv.O8 (Gv.Part.sum pp) (Gv.Part.sum qp))));((Gv.Part.n pp==(0:Int))=true->Post (G (Value.agg (Array.mk (ptL qp))) [some (.inl (117,(ptL pp))),some (.inl (117,(ptL qp))),some (.inl (117,(ptL qp)))]))/\((Gv.Part.n pp==(0:Int))=false->((Gv.Part.n qp==(0:Int))=true->Post (G (Value.agg (Array.mk (ptL pp))) [some (.inl (117,(ptL pp))),some (.inl (117,(ptL qp))),some (.inl (117,(ptL pp)))]))/\((Gv.Part.n qp==(0:Int))=false->Vc True/\Vc True/\Vc True/\Post (G (Value.agg (Array.mk Z1)) [some (.inl (117,(ptL pp))),some (.inl (117,(ptL qp))),some (.inl (117,Z1))])))) ?_ (by kernel_rfl)
  intro Z1;subst Z1;have done:∀ (p:Gv.Part Wv.Sw) (hp:Hp R),p=Gv.plusP Wv.O8 pp qp->G (.agg ⟨ptL p⟩) hp:=by
   intro p hp e;subst e;subst hG;exact⟨⟨[],rfl,rfl,trivial,rfl,rfl,rfl,rfl⟩⟩
  clear hG
  repeat' (first|apply And.intro|apply Vc.mk|apply fits.mk|intro h|apply Post.mk)
  all_goals (try simp only[sB] at *)
  all_goals first|contradiction|omega|exact vb1 ‹_›|exact vb2 ‹_›|exact vb3 ‹_›|exact⟨rfl,by omega⟩|exact rfl|(simp[*,-List.getD_eq_getElem?_getD];done)|skip
  ·have h:pp.n=0:=by assumption
   exact done qp _ (by rw[Gv.plusP,if_pos h])
  ·have h:pp.n≠0:=by assumption
   have h2:qp.n=0:=by assumption
   exact done pp _ (by rw[Gv.plusP,if_neg h,if_pos h2])
  ·have h:pp.n≠0:=by assumption
   have h2:qp.n≠0:=by assumption
   exact done ⟨Gv.W (pp.n+qp.n),Wv.O8.plus pp.sum qp.sum⟩ _ (by rw[Gv.plusP,if_neg h,if_neg h2])
 ·cases hx
def TLook:Tab Rs:=[(97,liftC zN 2 (con1 getP))]
theorem TLook_ok:TabOk D Tryz.prog TLook:=⟨liftC_ok _ _ get_ok,trivial⟩
def lookP:Prim Rs:=fun args hh=>match args,hh with
 |[.pointer (some ⟨0,0,none⟩),.agg ⟨[.int .i64 ri,.int .i64 rg]⟩],[some (.inl (92,[.pointer (some ⟨1,0,none⟩),.int .i64 ti,.int .i64 tg])),some (.inr (.inr (.inr (.pool m))))]=>some ⟨PP m,.agg ⟨ndL (Gv.lk Wv.O8 m ⟨ri,rg⟩)⟩,none,[some (.inl (92,[.pointer (some ⟨1,0,none⟩),.int .i64 ti,.int .i64 tg])),some (.inr (.inr (.inr (.pool (Gv.see m ⟨ri,rg⟩)))))],[],[(0,0)]⟩
 |_,_=>none
theorem look_ok:ConOk D Tryz.prog 64 (con1 lookP):=by
 refine prK Tryz.f64 fun args hh x hx=>?_
 unfold lookP at hx;split at hx
 ·rename_i ri rg ti tg m;injection hx with hx
  subst hx;refine q4 fun _ hv=>?_
  generalize hG:Rx.Ends (R:=Rs) _ _=G;refine rx_ok (T:=TLook) TLook_ok mixed 200 ?_;refine as_text (q:=Vc (PP m)/\Post (G (Value.agg (Array.mk (ndL (Gv.look zd m (Gv.Ref.mk ri rg))))) [trB 1 ti tg,oP (Gv.see m (Gv.Ref.mk ri rg)),some (.inl (90,[Value.int IntKind.i64 ri,Value.int IntKind.i64 rg])),some (.inl (119,(ndL (Gv.look zd m (Gv.Ref.mk ri rg))))),some (.inl (119,(ndL (Gv.look zd m (Gv.Ref.mk ri rg)))))])) ?_ (by kernel_rfl)
  subst hG;exact⟨⟨hv⟩,⟨⟨[0,1],rfl,rfl,⟨.inl rfl,rfl,trivial⟩,rfl,rfl,rfl,rfl⟩⟩⟩
 ·cases hx
def TSet:Tab Rs:=[(1000000000,wrapCon),(74,liftC zN 2 (con1 oneP)),(116,liftC zN 2 (con1 plusP)),(130,liftC zN 2 (con1 setP))]
theorem TSet_ok:TabOk D Tryz.prog TSet:=⟨wrapCon_ok,liftC_ok _ _ one_ok,liftC_ok _ _ plus_ok,liftC_ok _ _ set_ok,trivial⟩
def setNP:Prim Rs:=fun args hh=>match args,hh with
 |[.pointer (some ⟨0,0,none⟩),.agg ⟨[.int .i64 ri,.int .i64 rg]⟩,.agg ⟨xN⟩,.agg ⟨yN⟩,.agg ⟨zN⟩],[some (.inl (92,[.pointer (some ⟨1,0,none⟩),.int .i64 ti,.int .i64 tg])),some (.inr (.inr (.inr (.pool m))))]=>some ⟨xN=ndL (ndOf xN)/\yN=ndL (ndOf yN)/\zN=ndL (ndOf zN)/\(PP m),.agg ⟨[.int .i64 ri,.int .i64 rg]⟩,none,[some (.inl (92,[.pointer (some ⟨1,0,none⟩),.int .i64 ti,.int .i64 tg])),some (.inr (.inr (.inr (.pool (Gv.setN Wv.O8 m ⟨ri,rg⟩ (ndOf xN) (ndOf yN) (ndOf zN))))))],[],[(0,0)]⟩
 |_,_=>none
theorem setN_ok:ConOk D Tryz.prog 118 (con1 setNP):=by
 refine prK Tryz.f118 fun args hh x hx=>?_
 unfold setNP at hx;split at hx
 ·rename_i ri rg xN yN zN ti tg m;injection hx with hx
  subst hx;refine q4 fun _ hv=>?_
  obtain⟨hq0,hq1,hq2,hv⟩:=hv;generalize ndOf xN=xn at *;subst hq0;generalize ndOf yN=yn at *;subst hq1;generalize ndOf zN=zn at *;subst hq2
  generalize hG:Rx.Ends (R:=Rs) _ _=G;refine rx_ok (T:=TSet) TSet_ok mixed 200 ?_;refine as_text (q:=let Z3:=Value.int IntKind.i64;let Z1:=(Gv.plusP Wv.O8 (Gv.Node.all yn) (Gv.one Wv.O8 (Gv.Node.e xn)));let Z2:=(Gv.Node.mk (Gv.Node.e xn) (Gv.Node.l xn) (Gv.Node.r xn) (Gv.plusP Wv.O8 Z1 (Gv.Node.all zn)) (IntKind.wrap IntKind.i64 ((1:Int)+if Gv.Node.h zn>Gv.Node.h yn then Gv.Node.h zn else Gv.Node.h yn)));Vc True/\Vc ((elL (Gv.Node.e xn))=elL (Gv.Node.e xn)/\True)/\Vc ((ptL (Gv.Node.all yn))=ptL (Gv.Node.all yn)/\(ptL (Gv.one Wv.O8 (Gv.Node.e xn)))=ptL (Gv.one Wv.O8 (Gv.Node.e xn))/\True)/\Vc ((ptL Z1)=ptL Z1/\(ptL (Gv.Node.all zn))=ptL (Gv.Node.all zn)/\True)/\Vc ((ndL Z2)=ndL Z2/\PP m)/\Post (G (Value.agg (Array.mk [Z3 ri,Z3 rg])) [trB 1 ti tg,oP (Gv.put1 m (Gv.Ref.mk ri rg) Z2),some (.inl (90,[Z3 ri,Z3 rg])),some (.inl (119,(ndL Z2))),some (.inl (119,(ndL yn))),some (.inl (119,(ndL zn))),some (.inl (90,[Z3 ri,Z3 rg]))])) ?_ (by kernel_rfl)
  intro Z3 Z1 Z2;subst Z2 Z1 Z3;subst hG
  repeat' (first|apply And.intro|apply Vc.mk|apply fits.mk|intro h|apply Post.mk)
  all_goals (try simp only[sB] at *)
  all_goals first|contradiction|omega|exact vb1 ‹_›|exact vb2 ‹_›|exact vb3 ‹_›|exact⟨rfl,by omega⟩|exact rfl|(simp[*,-List.getD_eq_getElem?_getD];done)|skip
  all_goals first|assumption|exact⟨[0,1],rfl,rfl,⟨.inl rfl,rfl,trivial⟩,rfl,rfl,rfl,rfl⟩
 ·cases hx
def TTie:Tab Rs:=[(64,liftC zN 2 (con1 lookP)),(118,liftC zN 2 (con1 setNP))]
theorem TTie_ok:TabOk D Tryz.prog TTie:=⟨liftC_ok _ _ look_ok,liftC_ok _ _ setN_ok,trivial⟩
def tieP:Prim Rs:=fun args hh=>match args,hh with
 |[.pointer (some ⟨0,0,none⟩),.agg ⟨[.int .i64 ri,.int .i64 rg]⟩,.agg ⟨xN⟩],[some (.inl (92,[.pointer (some ⟨1,0,none⟩),.int .i64 ti,.int .i64 tg])),some (.inr (.inr (.inr (.pool m))))]=>some ⟨xN=ndL (ndOf xN)/\(PP m),.agg ⟨[.int .i64 ri,.int .i64 rg]⟩,none,[some (.inl (92,[.pointer (some ⟨1,0,none⟩),.int .i64 ti,.int .i64 tg])),some (.inr (.inr (.inr (.pool (Gv.tie Wv.O8 m ⟨ri,rg⟩ (ndOf xN))))))],[],[(0,0)]⟩
 |_,_=>none
theorem tie_ok:ConOk D Tryz.prog 102 (con1 tieP):=by
 refine prK Tryz.f102 fun args hh x hx=>?_
 unfold tieP at hx;split at hx
 ·rename_i ri rg xN ti tg m;injection hx with hx
  subst hx;refine q4 fun _ hv=>?_
  obtain⟨hq0,hv⟩:=hv;generalize ndOf xN=xn at *;subst hq0
  generalize hG:Rx.Ends (R:=Rs) _ _=G;refine rx_ok (T:=TTie) TTie_ok mixed 200 ?_;refine as_text (q:=let Z2:=Value.int IntKind.i64;let Z1:=(Gv.lk Wv.O8 (Gv.see m (Gv.Node.l xn)) (Gv.Node.r xn));Vc (PP m)/\Vc (PP (Gv.see m (Gv.Node.l xn)))/\Vc ((ndL xn)=ndL xn/\(ndL (Gv.lk Wv.O8 m (Gv.Node.l xn)))=ndL (Gv.lk Wv.O8 m (Gv.Node.l xn))/\(ndL Z1)=ndL Z1/\PP (Gv.see (Gv.see m (Gv.Node.l xn)) (Gv.Node.r xn)))/\Post (G (Value.agg (Array.mk [Z2 ri,Z2 rg])) [trB 1 ti tg,oP (Gv.setN Wv.O8 (Gv.see (Gv.see m (Gv.Node.l xn)) (Gv.Node.r xn)) (Gv.Ref.mk ri rg) xn (Gv.lk Wv.O8 m (Gv.Node.l xn)) Z1),some (.inl (90,[Z2 ri,Z2 rg])),some (.inl (119,(ndL xn))),some (.inl (90,[Z2 ri,Z2 rg]))])) ?_ (by kernel_rfl)
  intro Z2 Z1;subst Z1 Z2;subst hG
  repeat' (first|apply And.intro|apply Vc.mk|apply fits.mk|intro h|apply Post.mk)
  all_goals (try simp only[sB] at *)
  all_goals first|contradiction|omega|exact vb1 ‹_›|exact vb2 ‹_›|exact vb3 ‹_›|exact⟨rfl,by omega⟩|exact rfl|(simp[*,-List.getD_eq_getElem?_getD];done)|skip
  all_goals first|assumption|(simp only[Gv.ok_s];assumption)|skip
  exact⟨[0,1],rfl,rfl,⟨.inl rfl,rfl,trivial⟩,rfl,rfl,rfl,rfl⟩
 ·cases hx
def TTurn:Tab Rs:=[(64,liftC zN 2 (con1 lookP)),(102,liftC zN 2 (con1 tieP))]
theorem TTurn_ok:TabOk D Tryz.prog TTurn:=⟨liftC_ok _ _ look_ok,liftC_ok _ _ tie_ok,trivial⟩
def turnLP:Prim Rs:=fun args hh=>match args,hh with
 |[.pointer (some ⟨0,0,none⟩),.agg ⟨[.int .i64 ri,.int .i64 rg]⟩,.agg ⟨xN⟩],[some (.inl (92,[.pointer (some ⟨1,0,none⟩),.int .i64 ti,.int .i64 tg])),some (.inr (.inr (.inr (.pool m))))]=>some ⟨xN=ndL (ndOf xN)/\(PP m),.agg ⟨[.int .i64 (ndOf xN).r.i,.int .i64 (ndOf xN).r.g]⟩,none,[some (.inl (92,[.pointer (some ⟨1,0,none⟩),.int .i64 ti,.int .i64 tg])),some (.inr (.inr (.inr (.pool (Gv.turnL Wv.O8 m ⟨ri,rg⟩ (ndOf xN))))))],[],[(0,0)]⟩
 |_,_=>none
theorem turnL_ok:ConOk D Tryz.prog 119 (con1 turnLP):=by
 refine prK Tryz.f119 fun args hh x hx=>?_
 unfold turnLP at hx;split at hx
 ·rename_i ri rg xN ti tg m;injection hx with hx
  subst hx;refine q4 fun _ hv=>?_
  obtain⟨hq0,hv⟩:=hv;generalize ndOf xN=xn at *;subst hq0
  generalize hG:Rx.Ends (R:=Rs) _ _=G;refine rx_ok (T:=TTurn) TTurn_ok mixed 200 ?_;refine as_text (q:=let Z5:=Value.int IntKind.i64;let Z1:=(Gv.lk Wv.O8 m (Gv.Node.r xn));let Z2:=(Gv.Node.mk (Gv.Node.e xn) (Gv.Node.l xn) (Gv.Node.l Z1) (Gv.Node.all xn) (Gv.Node.h xn));let Z3:=(Gv.Node.mk (Gv.Node.e Z1) (Gv.Ref.mk ri rg) (Gv.Node.r Z1) (Gv.Node.all Z1) (Gv.Node.h Z1));let Z4:=(Gv.tie Wv.O8 (Gv.see m (Gv.Node.r xn)) (Gv.Ref.mk ri rg) Z2);Vc (PP m)/\Vc ((ndL Z2)=ndL Z2/\PP (Gv.see m (Gv.Node.r xn)))/\Vc ((ndL Z3)=ndL Z3/\PP Z4)/\Post (G (Value.agg (Array.mk [Z5 (Gv.Ref.i (Gv.Node.r xn)),Z5 (Gv.Ref.g (Gv.Node.r xn))])) [trB 1 ti tg,oP (Gv.tie Wv.O8 Z4 (Gv.Node.r xn) Z3),some (.inl (90,[Z5 ri,Z5 rg])),some (.inl (119,(ndL Z2))),some (.inl (90,[Z5 (Gv.Ref.i (Gv.Node.r xn)),Z5 (Gv.Ref.g (Gv.Node.r xn))])),some (.inl (90,[Z5 (Gv.Ref.i (Gv.Node.r xn)),Z5 (Gv.Ref.g (Gv.Node.r xn))])),some (.inl (119,(ndL Z3)))])) ?_ (by kernel_rfl)
  intro Z5 Z1 Z2 Z3 Z4;subst Z4 Z3 Z2 Z1 Z5;subst hG
  repeat' (first|apply And.intro|apply Vc.mk|apply fits.mk|intro h|apply Post.mk)
  all_goals (try simp only[sB] at *)
  all_goals first|contradiction|omega|exact vb1 ‹_›|exact vb2 ‹_›|exact vb3 ‹_›|exact⟨rfl,by omega⟩|exact rfl|(simp[*,-List.getD_eq_getElem?_getD];done)|skip
  all_goals first|assumption|(simp only[Gv.ok_s];assumption)|skip
  exact⟨[0,1],rfl,rfl,⟨.inl rfl,rfl,trivial⟩,rfl,rfl,rfl,rfl⟩
 ·cases hx
def turnRP:Prim Rs:=fun args hh=>match args,hh with
 |[.pointer (some ⟨0,0,none⟩),.agg ⟨[.int .i64 ri,.int .i64 rg]⟩,.agg ⟨xN⟩],[some (.inl (92,[.pointer (some ⟨1,0,none⟩),.int .i64 ti,.int .i64 tg])),some (.inr (.inr (.inr (.pool m))))]=>some ⟨xN=ndL (ndOf xN)/\(PP m),.agg ⟨[.int .i64 (ndOf xN).l.i,.int .i64 (ndOf xN).l.g]⟩,none,[some (.inl (92,[.pointer (some ⟨1,0,none⟩),.int .i64 ti,.int .i64 tg])),some (.inr (.inr (.inr (.pool (Gv.turnR Wv.O8 m ⟨ri,rg⟩ (ndOf xN))))))],[],[(0,0)]⟩
 |_,_=>none
theorem turnR_ok:ConOk D Tryz.prog 120 (con1 turnRP):=by
 refine prK Tryz.f120 fun args hh x hx=>?_
 unfold turnRP at hx;split at hx
 ·rename_i ri rg xN ti tg m;injection hx with hx
  subst hx;refine q4 fun _ hv=>?_
  obtain⟨hq0,hv⟩:=hv;generalize ndOf xN=xn at *;subst hq0
  generalize hG:Rx.Ends (R:=Rs) _ _=G;refine rx_ok (T:=TTurn) TTurn_ok mixed 200 ?_;refine as_text (q:=let Z5:=Value.int IntKind.i64;let Z1:=(Gv.lk Wv.O8 m (Gv.Node.l xn));let Z2:=(Gv.Node.mk (Gv.Node.e xn) (Gv.Node.r Z1) (Gv.Node.r xn) (Gv.Node.all xn) (Gv.Node.h xn));let Z3:=(Gv.Node.mk (Gv.Node.e Z1) (Gv.Node.l Z1) (Gv.Ref.mk ri rg) (Gv.Node.all Z1) (Gv.Node.h Z1));let Z4:=(Gv.tie Wv.O8 (Gv.see m (Gv.Node.l xn)) (Gv.Ref.mk ri rg) Z2);Vc (PP m)/\Vc ((ndL Z2)=ndL Z2/\PP (Gv.see m (Gv.Node.l xn)))/\Vc ((ndL Z3)=ndL Z3/\PP Z4)/\Post (G (Value.agg (Array.mk [Z5 (Gv.Ref.i (Gv.Node.l xn)),Z5 (Gv.Ref.g (Gv.Node.l xn))])) [trB 1 ti tg,oP (Gv.tie Wv.O8 Z4 (Gv.Node.l xn) Z3),some (.inl (90,[Z5 ri,Z5 rg])),some (.inl (119,(ndL Z2))),some (.inl (90,[Z5 (Gv.Ref.i (Gv.Node.l xn)),Z5 (Gv.Ref.g (Gv.Node.l xn))])),some (.inl (90,[Z5 (Gv.Ref.i (Gv.Node.l xn)),Z5 (Gv.Ref.g (Gv.Node.l xn))])),some (.inl (119,(ndL Z3)))])) ?_ (by kernel_rfl)
  intro Z5 Z1 Z2 Z3 Z4;subst Z4 Z3 Z2 Z1 Z5;subst hG
  repeat' (first|apply And.intro|apply Vc.mk|apply fits.mk|intro h|apply Post.mk)
  all_goals (try simp only[sB] at *)
  all_goals first|contradiction|omega|exact vb1 ‹_›|exact vb2 ‹_›|exact vb3 ‹_›|exact⟨rfl,by omega⟩|exact rfl|(simp[*,-List.getD_eq_getElem?_getD];done)|skip
  all_goals first|assumption|(simp only[Gv.ok_s];assumption)|skip
  exact⟨[0,1],rfl,rfl,⟨.inl rfl,rfl,trivial⟩,rfl,rfl,rfl,rfl⟩
 ·cases hx
def TLev:Tab Rs:=[(1000000000,wrapCon),(64,liftC zN 2 (con1 lookP)),(118,liftC zN 2 (con1 setNP)),(119,liftC zN 2 (con1 turnLP)),(120,liftC zN 2 (con1 turnRP))]
theorem TLev_ok:TabOk D Tryz.prog TLev:=⟨wrapCon_ok,liftC_ok _ _ look_ok,liftC_ok _ _ setN_ok,liftC_ok _ _ turnL_ok,liftC_ok _ _ turnR_ok,trivial⟩
def levelP:Prim Rs:=fun args hh=>match args,hh with
 |[.pointer (some ⟨0,0,none⟩),.agg ⟨[.int .i64 ri,.int .i64 rg]⟩,.agg ⟨xN⟩],[some (.inl (92,[.pointer (some ⟨1,0,none⟩),.int .i64 ti,.int .i64 tg])),some (.inr (.inr (.inr (.pool m))))]=>some ⟨xN=ndL (ndOf xN)/\(PP m),.agg ⟨[.int .i64 (Gv.level Wv.O8 m ⟨ri,rg⟩ (ndOf xN)).1.i,.int .i64 (Gv.level Wv.O8 m ⟨ri,rg⟩ (ndOf xN)).1.g]⟩,none,[some (.inl (92,[.pointer (some ⟨1,0,none⟩),.int .i64 ti,.int .i64 tg])),some (.inr (.inr (.inr (.pool (Gv.level Wv.O8 m ⟨ri,rg⟩ (ndOf xN)).2))))],[],[(0,0)]⟩
 |_,_=>none
theorem level_ok:ConOk D Tryz.prog 104 (con1 levelP):=by
 refine prK Tryz.f104 fun args hh x hx=>?_
 unfold levelP at hx;split at hx
 ·rename_i ri rg xN ti tg m;injection hx with hx
  subst hx;refine q4 fun _ hv=>?_
  obtain⟨hq0,hv⟩:=hv;generalize ndOf xN=xn at *;subst hq0
  generalize hG:Rx.Ends (R:=Rs) _ _=G;refine rx_ok (T:=TLev) TLev_ok mixed 200 ?_;refine as_text (q:=let Z12:=Value.int IntKind.i64;let Z1:=(Gv.lk Wv.O8 m (Gv.Node.l xn));let Z2:=(Gv.lk Wv.O8 (Gv.see m (Gv.Node.l xn)) (Gv.Node.r xn));let Z3:=(Gv.Node.h Z1>IntKind.wrap IntKind.i64 (Gv.Node.h Z2+(1:Int)));let Z4:=(Gv.see (Gv.see m (Gv.Node.l xn)) (Gv.Node.r xn));let Z5:=(Gv.Node.h (Gv.lk Wv.O8 Z4 (Gv.Node.r Z1))>Gv.Node.h (Gv.lk Wv.O8 (Gv.see Z4 (Gv.Node.r Z1)) (Gv.Node.l Z1)));let Z6:=(Gv.see (Gv.see Z4 (Gv.Node.r Z1)) (Gv.Node.l Z1));let Z7:=(Gv.Node.mk (Gv.Node.e xn) (Gv.Node.r Z1) (Gv.Node.r xn) (Gv.Node.all xn) (Gv.Node.h xn));let Z8:=(Gv.Node.h Z2>IntKind.wrap IntKind.i64 (Gv.Node.h Z1+(1:Int)));let Z9:=(Gv.Node.h (Gv.lk Wv.O8 Z4 (Gv.Node.l Z2))>Gv.Node.h (Gv.lk Wv.O8 (Gv.see Z4 (Gv.Node.l Z2)) (Gv.Node.r Z2)));let Z10:=(Gv.see (Gv.see Z4 (Gv.Node.l Z2)) (Gv.Node.r Z2));let Z11:=(Gv.Node.mk (Gv.Node.e xn) (Gv.Node.l xn) (Gv.Node.l Z2) (Gv.Node.all xn) (Gv.Node.h xn));Vc (PP m)/\Vc (PP (Gv.see m (Gv.Node.l xn)))/\Vc True/\(decide Z3=true->Vc (PP Z4)/\Vc (PP (Gv.see Z4 (Gv.Node.r Z1)))/\(decide Z5=true->Vc ((ndL Z1)=ndL Z1/\PP Z6)/\Vc ((ndL Z7)=ndL Z7/\PP (Gv.turnL Wv.O8 Z6 (Gv.Node.l xn) Z1))/\Post (G (Value.agg (Array.mk [Z12 (Gv.Ref.i (Gv.Node.l Z7)),Z12 (Gv.Ref.g (Gv.Node.l Z7))])) [trB 1 ti tg,oP (Gv.turnR Wv.O8 (Gv.turnL Wv.O8 Z6 (Gv.Node.l xn) Z1) (Gv.Ref.mk ri rg) Z7),some (.inl (90,[Z12 ri,Z12 rg])),some (.inl (119,(ndL Z7))),some (.inl (90,[Z12 (Gv.Ref.i (Gv.Node.l Z7)),Z12 (Gv.Ref.g (Gv.Node.l Z7))])),some (.inl (119,(ndL Z1))),some (.inl (119,(ndL Z2)))]))/\(decide Z5=false->Vc ((ndL xn)=ndL xn/\PP Z6)/\Post (G (Value.agg (Array.mk [Z12 (Gv.Ref.i (Gv.Node.l xn)),Z12 (Gv.Ref.g (Gv.Node.l xn))])) [trB 1 ti tg,oP (Gv.turnR Wv.O8 Z6 (Gv.Ref.mk ri rg) xn),some (.inl (90,[Z12 ri,Z12 rg])),some (.inl (119,(ndL xn))),some (.inl (90,[Z12 (Gv.Ref.i (Gv.Node.l xn)),Z12 (Gv.Ref.g (Gv.Node.l xn))])),some (.inl (119,(ndL Z1))),some (.inl (119,(ndL Z2)))])))/\(decide Z3=false->Vc True/\(decide Z8=true->Vc (PP Z4)/\Vc (PP (Gv.see Z4 (Gv.Node.l Z2)))/\(decide Z9=true->Vc ((ndL Z2)=ndL Z2/\PP Z10)/\Vc ((ndL Z11)=ndL Z11/\PP (Gv.turnR Wv.O8 Z10 (Gv.Node.r xn) Z2))/\Post (G (Value.agg (Array.mk [Z12 (Gv.Ref.i (Gv.Node.r Z11)),Z12 (Gv.Ref.g (Gv.Node.r Z11))])) [trB 1 ti tg,oP (Gv.turnL Wv.O8 (Gv.turnR Wv.O8 Z10 (Gv.Node.r xn) Z2) (Gv.Ref.mk ri rg) Z11),some (.inl (90,[Z12 ri,Z12 rg])),some (.inl (119,(ndL Z11))),some (.inl (90,[Z12 (Gv.Ref.i (Gv.Node.r Z11)),Z12 (Gv.Ref.g (Gv.Node.r Z11))])),some (.inl (119,(ndL Z1))),some (.inl (119,(ndL Z2)))]))/\(decide Z9=false->Vc ((ndL xn)=ndL xn/\PP Z10)/\Post (G (Value.agg (Array.mk [Z12 (Gv.Ref.i (Gv.Node.r xn)),Z12 (Gv.Ref.g (Gv.Node.r xn))])) [trB 1 ti tg,oP (Gv.turnL Wv.O8 Z10 (Gv.Ref.mk ri rg) xn),some (.inl (90,[Z12 ri,Z12 rg])),some (.inl (119,(ndL xn))),some (.inl (90,[Z12 (Gv.Ref.i (Gv.Node.r xn)),Z12 (Gv.Ref.g (Gv.Node.r xn))])),some (.inl (119,(ndL Z1))),some (.inl (119,(ndL Z2)))])))/\(decide Z8=false->Vc ((ndL xn)=ndL xn/\(ndL Z1)=ndL Z1/\(ndL Z2)=ndL Z2/\PP Z4)/\Post (G (Value.agg (Array.mk [Z12 ri,Z12 rg])) [trB 1 ti tg,oP (Gv.setN Wv.O8 Z4 (Gv.Ref.mk ri rg) xn Z1 Z2),some (.inl (90,[Z12 ri,Z12 rg])),some (.inl (119,(ndL xn))),some (.inl (90,[Z12 ri,Z12 rg])),some (.inl (119,(ndL Z1))),some (.inl (119,(ndL Z2)))])))) ?_ (by kernel_rfl)
  intro Z12 Z1 Z2 Z3 Z4 Z5 Z6 Z7 Z8 Z9 Z10 Z11;subst Z11 Z10 Z9 Z8 Z7 Z6 Z5 Z4 Z3 Z2 Z1 Z12;have done:∀ (i g:Int) (m':Pl) (rest:Hp Rs),Gv.level Wv.O8 m ⟨ri,rg⟩ xn=(⟨i,g⟩,m')->G (.agg ⟨[.int .i64 i,.int .i64 g]⟩) ([some (.inl (92,[.pointer (some ⟨1,0,none⟩),.int .i64 ti,.int .i64 tg])),some (.inr (.inr (.inr (.pool m'))))]++rest):=by
   intro i g m' rest e;subst hG;refine⟨[0,1],?_,rfl,⟨.inl rfl,?_,trivial⟩,rfl,rfl,rfl,rfl⟩
   ·simp only[e];rfl
   ·simp only[e];rfl
  clear hG
  repeat' (first|apply And.intro|apply Vc.mk|apply fits.mk|intro h|apply Post.mk)
  all_goals (try simp only[sB] at *)
  all_goals first|contradiction|omega|exact vb1 ‹_›|exact vb2 ‹_›|exact vb3 ‹_›|exact⟨rfl,by omega⟩|exact rfl|(simp[*,-List.getD_eq_getElem?_getD];done)|skip
  all_goals first|assumption|(simp only[Gv.ok_s];assumption)|skip
  all_goals (refine done _ _ _ _ ?_;unfold Gv.level;(try dsimp only [Gv.W]);repeat' split)
  all_goals first|rfl|(exfalso;omega)
 ·cases hx
def hangP  (k:Nat):Prim Rs:=fun args hh=>match args,hh with
 |[.pointer (some ⟨0,0,none⟩),.agg ⟨[.int .i64 ri,.int .i64 rg]⟩,.agg ⟨[.int .i64 fi,.int .i64 fg]⟩,.agg ⟨kE⟩],[some (.inl (92,[.pointer (some ⟨1,0,none⟩),.int .i64 ti,.int .i64 tg])),some (.inr (.inr (.inr (.pool m))))]=>some ⟨kE=elL (elOf kE)/\(PP m/\Gv.Deep Wv.O8 k m ⟨ri,rg⟩),.agg ⟨[.int .i64 (Gv.hang Wv.O8 k m ⟨ri,rg⟩ ⟨fi,fg⟩ (elOf kE)).1.i,.int .i64 (Gv.hang Wv.O8 k m ⟨ri,rg⟩ ⟨fi,fg⟩ (elOf kE)).1.g]⟩,none,[some (.inl (92,[.pointer (some ⟨1,0,none⟩),.int .i64 ti,.int .i64 tg])),some (.inr (.inr (.inr (.pool (Gv.hang Wv.O8 k m ⟨ri,rg⟩ ⟨fi,fg⟩ (elOf kE)).2))))],[],[(0,0)]⟩
 |_,_=>none
def THang (k:Nat):Tab Rs:=[(150,liftC zN 2 (con1 Wv.mcmpP)),(64,liftC zN 2 (con1 lookP)),(104,liftC zN 2 (con1 levelP)),(75,liftC zN 2 (con1 (hangP k)))]
theorem hang_ok:∀ k:Nat,ConOk D Tryz.prog 75 (con1 (hangP k))
 |0=>by
  refine prK Tryz.f75 fun args hh x hx=>?_
  unfold hangP at hx;split at hx
  ·rename_i ri rg fi fg kE ti tg m;injection hx with hx
   subst hx;refine q4 fun _ hv=>?_
   exact False.elim (And.right (And.right hv))
  ·cases hx
 |k+1=>by
  have ih:=hang_ok k;refine prK Tryz.f75 fun args hh x hx=>?_
  unfold hangP at hx;split at hx
  ·rename_i ri rg fi fg kE ti tg m;injection hx with hx
   subst hx;refine q4 fun _ hv=>?_
   obtain⟨hq0,hv⟩:=hv;generalize elOf kE=ke at *;subst hq0;obtain⟨hp,hd⟩:=hv
   generalize hG:Rx.Ends (R:=Rs) _ _=G;refine rx_ok (T:=(THang k)) (show TabOk D Tryz.prog (THang k) from⟨liftC_ok _ _ Wv.mcmp_ok,liftC_ok _ _ look_ok,liftC_ok _ _ level_ok,liftC_ok _ _ ih,trivial⟩) mixed 200 ?_
   refine as_text (q:=let Z11:=Value.int IntKind.i64;let Z1:=(Gv.lk Wv.O8 m (Gv.Ref.mk ri rg));let Z2:=(Gv.see m (Gv.Ref.mk ri rg));let Z3:=(Gv.Node.mk (Gv.Node.e Z1) (Prod.fst (Gv.hang Wv.O8 k Z2 (Gv.Node.l Z1) (Gv.Ref.mk fi fg) ke)) (Gv.Node.r Z1) (Gv.Node.all Z1) (Gv.Node.h Z1));let Z4:=(Prod.snd (Gv.hang Wv.O8 k Z2 (Gv.Node.l Z1) (Gv.Ref.mk fi fg) ke));let Z5:=(Gv.Ref.i (Prod.fst (Gv.level Wv.O8 Z4 (Gv.Ref.mk ri rg) Z3)));let Z6:=(Gv.Ref.g (Prod.fst (Gv.level Wv.O8 Z4 (Gv.Ref.mk ri rg) Z3)));let Z7:=(Gv.Node.mk (Gv.Node.e Z1) (Gv.Node.l Z1) (Prod.fst (Gv.hang Wv.O8 k Z2 (Gv.Node.r Z1) (Gv.Ref.mk fi fg) ke)) (Gv.Node.all Z1) (Gv.Node.h Z1));let Z8:=(Prod.snd (Gv.hang Wv.O8 k Z2 (Gv.Node.r Z1) (Gv.Ref.mk fi fg) ke));let Z9:=(Gv.Ref.i (Prod.fst (Gv.level Wv.O8 Z8 (Gv.Ref.mk ri rg) Z7)));let Z10:=(Gv.Ref.g (Prod.fst (Gv.level Wv.O8 Z8 (Gv.Ref.mk ri rg) Z7)));Vc (PP m)/\((Gv.Node.h Z1==(0:Int))=true->Post (G (Value.agg (Array.mk [Z11 fi,Z11 fg])) [trB 1 ti tg,oP Z2,some (.inl (90,[Z11 ri,Z11 rg])),some (.inl (90,[Z11 fi,Z11 fg])),some (.inl (49,(elL ke))),some (.inl (90,[Z11 fi,Z11 fg])),some (.inl (119,(ndL Z1)))]))/\((Gv.Node.h Z1==(0:Int))=false->Vc True/\Vc True/\(decide (Gv.Ops.cmp Wv.O8 ke (Gv.Node.e Z1)<(0:Int))=true->Vc ((elL ke)=elL ke/\PP Z2/\Gv.Deep Wv.O8 k Z2 (Gv.Node.l Z1))/\Vc ((ndL Z3)=ndL Z3/\PP Z4)/\Post (G (Value.agg (Array.mk [Z11 Z5,Z11 Z6])) [trB 1 ti tg,oP (Prod.snd (Gv.level Wv.O8 Z4 (Gv.Ref.mk ri rg) Z3)),some (.inl (90,[Z11 ri,Z11 rg])),some (.inl (90,[Z11 fi,Z11 fg])),some (.inl (49,(elL ke))),some (.inl (90,[Z11 Z5,Z11 Z6])),some (.inl (119,(ndL Z3)))]))/\(decide (Gv.Ops.cmp Wv.O8 ke (Gv.Node.e Z1)<(0:Int))=false->Vc ((elL ke)=elL ke/\PP Z2/\Gv.Deep Wv.O8 k Z2 (Gv.Node.r Z1))/\Vc ((ndL Z7)=ndL Z7/\PP Z8)/\Post (G (Value.agg (Array.mk [Z11 Z9,Z11 Z10])) [trB 1 ti tg,oP (Prod.snd (Gv.level Wv.O8 Z8 (Gv.Ref.mk ri rg) Z7)),some (.inl (90,[Z11 ri,Z11 rg])),some (.inl (90,[Z11 fi,Z11 fg])),some (.inl (49,(elL ke))),some (.inl (90,[Z11 Z9,Z11 Z10])),some (.inl (119,(ndL Z7)))])))) ?_ (by kernel_rfl)
   intro Z11 Z1 Z2 Z3 Z4 Z5 Z6 Z7 Z8 Z9 Z10;subst Z10 Z9 Z8 Z7 Z6 Z5 Z4 Z3 Z2 Z1 Z11;simp only[Gv.Deep] at hd;have done:∀ (i g:Int) (m':Pl) (rest:Hp Rs),Gv.hang Wv.O8 (k+1) m ⟨ri,rg⟩ ⟨fi,fg⟩ ke=(⟨i,g⟩,m')->G (.agg ⟨[.int .i64 i,.int .i64 g]⟩) ([some (.inl (92,[.pointer (some ⟨1,0,none⟩),.int .i64 ti,.int .i64 tg])),some (.inr (.inr (.inr (.pool m'))))]++rest):=by
    intro i g m' rest e;subst hG;refine⟨[0,1],?_,rfl,⟨.inl rfl,?_,trivial⟩,rfl,rfl,rfl,rfl⟩
    ·simp only[e];rfl
    ·simp only[e];rfl
   clear hG
   repeat' (first|apply And.intro|apply Vc.mk|apply fits.mk|intro h|apply Post.mk)
   all_goals (try simp only[sB] at *)
   all_goals first|contradiction|omega|exact vb1 ‹_›|exact vb2 ‹_›|exact vb3 ‹_›|exact⟨rfl,by omega⟩|exact rfl|(simp[*,-List.getD_eq_getElem?_getD];done)|skip
   all_goals first|assumption|(simp only[Gv.ok_s];assumption)|skip
   all_goals first|(rw[Gv.Deep_see];rcases hd with hd|hd;exfalso;omega;first|exact hd.1|exact hd.2)|skip
   all_goals (refine done _ _ _ _ ?_;rw[Gv.hang];(try dsimp only [Gv.W]);repeat' split)
   all_goals first|rfl|(exfalso;omega)|contradiction|exact Prod.ext (Eq.symm (by assumption)) rfl|(exfalso;simp_all;done)
  ·cases hx
def replaceP  (k:Nat):Prim Rs:=fun args hh=>match args,hh with
 |[.pointer (some ⟨0,0,none⟩),.agg ⟨[.int .i64 ri,.int .i64 rg]⟩,.agg ⟨kE⟩],[some (.inl (92,[.pointer (some ⟨1,0,none⟩),.int .i64 ti,.int .i64 tg])),some (.inr (.inr (.inr (.pool m))))]=>some ⟨kE=elL (elOf kE)/\(PP m/\Gv.Deep Wv.O8 k m ⟨ri,rg⟩),.bool (Gv.replace Wv.O8 k m ⟨ri,rg⟩ (elOf kE)).1,none,[some (.inl (92,[.pointer (some ⟨1,0,none⟩),.int .i64 ti,.int .i64 tg])),some (.inr (.inr (.inr (.pool (Gv.replace Wv.O8 k m ⟨ri,rg⟩ (elOf kE)).2))))],[],[(0,0)]⟩
 |_,_=>none
def TRepl (k:Nat):Tab Rs:=[(150,liftC zN 2 (con1 Wv.mcmpP)),(64,liftC zN 2 (con1 lookP)),(102,liftC zN 2 (con1 tieP)),(72,liftC zN 2 (con1 (replaceP k)))]
theorem replace_ok:∀ k:Nat,ConOk D Tryz.prog 72 (con1 (replaceP k))
 |0=>by
  refine prK Tryz.f72 fun args hh x hx=>?_
  unfold replaceP at hx;split at hx
  ·rename_i ri rg kE ti tg m;injection hx with hx
   subst hx;refine q4 fun _ hv=>?_
   exact False.elim (And.right (And.right hv))
  ·cases hx
 |k+1=>by
  have ih:=replace_ok k;refine prK Tryz.f72 fun args hh x hx=>?_
  unfold replaceP at hx;split at hx
  ·rename_i ri rg kE ti tg m;injection hx with hx
   subst hx;refine q4 fun _ hv=>?_
   obtain⟨hq0,hv⟩:=hv;generalize elOf kE=ke at *;subst hq0;obtain⟨hp,hd⟩:=hv
   generalize hG:Rx.Ends (R:=Rs) _ _=G;refine rx_ok (T:=(TRepl k)) (show TabOk D Tryz.prog (TRepl k) from⟨liftC_ok _ _ Wv.mcmp_ok,liftC_ok _ _ look_ok,liftC_ok _ _ tie_ok,liftC_ok _ _ ih,trivial⟩) mixed 200 ?_
   refine as_text (q:=let Z6:=Value.int IntKind.i64;let Z1:=(Gv.lk Wv.O8 m (Gv.Ref.mk ri rg));let Z2:=(Gv.see m (Gv.Ref.mk ri rg));let Z3:=(Gv.replace Wv.O8 k Z2 (Gv.Node.l Z1) ke);let Z4:=(Gv.replace Wv.O8 k Z2 (Gv.Node.r Z1) ke);let Z5:=(Gv.Node.mk ke (Gv.Node.l Z1) (Gv.Node.r Z1) (Gv.Node.all Z1) (Gv.Node.h Z1));Vc (PP m)/\((Gv.Node.h Z1==(0:Int))=true->Post (G (Value.bool false) [trB 1 ti tg,oP Z2,some (.inl (90,[Z6 ri,Z6 rg])),some (.inl (49,(elL ke))),some (.inl (119,(ndL Z1)))]))/\((Gv.Node.h Z1==(0:Int))=false->Vc True/\Vc True/\(decide (Gv.Ops.cmp Wv.O8 ke (Gv.Node.e Z1)<(0:Int))=true->Vc ((elL ke)=elL ke/\PP Z2/\Gv.Deep Wv.O8 k Z2 (Gv.Node.l Z1))/\(Prod.fst Z3=true->Vc ((ndL Z1)=ndL Z1/\PP (Prod.snd Z3))/\Post (G (Value.bool (Prod.fst Z3)) [trB 1 ti tg,oP (Gv.tie Wv.O8 (Prod.snd Z3) (Gv.Ref.mk ri rg) Z1),some (.inl (90,[Z6 ri,Z6 rg])),some (.inl (49,(elL ke))),some (.inl (119,(ndL Z1)))]))/\(Prod.fst Z3=false->Post (G (Value.bool (Prod.fst Z3)) [trB 1 ti tg,oP (Prod.snd Z3),some (.inl (90,[Z6 ri,Z6 rg])),some (.inl (49,(elL ke))),some (.inl (119,(ndL Z1)))])))/\(decide (Gv.Ops.cmp Wv.O8 ke (Gv.Node.e Z1)<(0:Int))=false->(decide (Gv.Ops.cmp Wv.O8 ke (Gv.Node.e Z1)>(0:Int))=true->Vc ((elL ke)=elL ke/\PP Z2/\Gv.Deep Wv.O8 k Z2 (Gv.Node.r Z1))/\(Prod.fst Z4=true->Vc ((ndL Z1)=ndL Z1/\PP (Prod.snd Z4))/\Post (G (Value.bool (Prod.fst Z4)) [trB 1 ti tg,oP (Gv.tie Wv.O8 (Prod.snd Z4) (Gv.Ref.mk ri rg) Z1),some (.inl (90,[Z6 ri,Z6 rg])),some (.inl (49,(elL ke))),some (.inl (119,(ndL Z1)))]))/\(Prod.fst Z4=false->Post (G (Value.bool (Prod.fst Z4)) [trB 1 ti tg,oP (Prod.snd Z4),some (.inl (90,[Z6 ri,Z6 rg])),some (.inl (49,(elL ke))),some (.inl (119,(ndL Z1)))])))/\(decide (Gv.Ops.cmp Wv.O8 ke (Gv.Node.e Z1)>(0:Int))=false->Vc ((ndL Z5)=ndL Z5/\PP Z2)/\Post (G (Value.bool true) [trB 1 ti tg,oP (Gv.tie Wv.O8 Z2 (Gv.Ref.mk ri rg) Z5),some (.inl (90,[Z6 ri,Z6 rg])),some (.inl (49,(elL ke))),some (.inl (119,(ndL Z5)))]))))) ?_ (by kernel_rfl)
   intro Z6 Z1 Z2 Z3 Z4 Z5;subst Z5 Z4 Z3 Z2 Z1 Z6;simp only[Gv.Deep] at hd;have done:∀ (b:Bool) (m':Pl) (rest:Hp Rs),Gv.replace Wv.O8 (k+1) m ⟨ri,rg⟩ ke=(b,m')->G (.bool b) ([some (.inl (92,[.pointer (some ⟨1,0,none⟩),.int .i64 ti,.int .i64 tg])),some (.inr (.inr (.inr (.pool m'))))]++rest):=by
    intro b m' rest e;subst hG;refine⟨[0,1],?_,rfl,⟨.inl rfl,?_,trivial⟩,rfl,rfl,rfl,rfl⟩
    ·simp only[e];rfl
    ·simp only[e];rfl
   clear hG
   repeat' (first|apply And.intro|apply Vc.mk|apply fits.mk|intro h|apply Post.mk)
   all_goals (try simp only[sB] at *)
   all_goals first|contradiction|omega|exact vb1 ‹_›|exact vb2 ‹_›|exact vb3 ‹_›|exact⟨rfl,by omega⟩|exact rfl|(simp[*,-List.getD_eq_getElem?_getD];done)|skip
   all_goals first|assumption|(simp only[Gv.ok_s];assumption)|skip
   all_goals first|(rw[Gv.Deep_see];rcases hd with hd|hd;exfalso;omega;first|exact hd.1|exact hd.2)|skip
   all_goals (refine done _ _ _ ?_;rw[Gv.replace];(try dsimp only [Gv.W]);repeat' split)
   all_goals first|rfl|(exfalso;omega)|contradiction|exact Prod.ext (Eq.symm (by assumption)) rfl|(exfalso;simp_all;done)
  ·cases hx
def pickFP  (k:Nat):Prim Rs:=fun args hh=>match args,hh with
 |[.pointer (some ⟨0,0,none⟩),.agg ⟨[.int .i64 ri,.int .i64 rg]⟩],[some (.inl (92,[.pointer (some ⟨1,0,none⟩),.int .i64 ti,.int .i64 tg])),some (.inr (.inr (.inr (.pool m))))]=>some ⟨PP m/\Gv.PickFD Wv.O8 k m ⟨ri,rg⟩,.tuple #[.agg ⟨[.int .i64 (Gv.pickF Wv.O8 k m ⟨ri,rg⟩).1.i,.int .i64 (Gv.pickF Wv.O8 k m ⟨ri,rg⟩).1.g]⟩,.agg ⟨[.int .i64 (Gv.pickF Wv.O8 k m ⟨ri,rg⟩).2.1.i,.int .i64 (Gv.pickF Wv.O8 k m ⟨ri,rg⟩).2.1.g]⟩],none,[some (.inl (92,[.pointer (some ⟨1,0,none⟩),.int .i64 ti,.int .i64 tg])),some (.inr (.inr (.inr (.pool (Gv.pickF Wv.O8 k m ⟨ri,rg⟩).2.2))))],[],[(0,0)]⟩
 |_,_=>none
def TPickF (k:Nat):Tab Rs:=[(64,liftC zN 2 (con1 lookP)),(104,liftC zN 2 (con1 levelP)),(126,liftC zN 2 (con1 (pickFP k)))]
theorem pickF_ok:∀ k:Nat,ConOk D Tryz.prog 126 (con1 (pickFP k))
 |0=>by
  refine prK Tryz.f126 fun args hh x hx=>?_
  unfold pickFP at hx;split at hx
  ·rename_i ri rg ti tg m;injection hx with hx
   subst hx;refine q4 fun _ hv=>?_
   exact False.elim (And.right hv)
  ·cases hx
 |k+1=>by
  have ih:=pickF_ok k;refine prK Tryz.f126 fun args hh x hx=>?_
  unfold pickFP at hx;split at hx
  ·rename_i ri rg ti tg m;injection hx with hx
   subst hx;refine q4 fun _ hv=>?_
   obtain⟨hp,hd⟩:=hv;generalize hG:Rx.Ends (R:=Rs) _ _=G;refine rx_ok (T:=(TPickF k)) (show TabOk D Tryz.prog (TPickF k) from⟨liftC_ok _ _ look_ok,liftC_ok _ _ level_ok,liftC_ok _ _ ih,trivial⟩) mixed 200 ?_
   refine as_text (q:=let Z9:=Value.int IntKind.i64;let Z1:=(Gv.lk Wv.O8 m (Gv.Ref.mk ri rg));let Z2:=(if false=true then !(Gv.Ref.i (Gv.Node.l Z1)==(0:Int)&&(Gv.Ref.g (Gv.Node.l Z1)==(0:Int)&&true)) else Gv.Ref.i (Gv.Node.l Z1)==(0:Int)&&(Gv.Ref.g (Gv.Node.l Z1)==(0:Int)&&true));let Z3:=(Gv.see m (Gv.Ref.mk ri rg));let Z4:=(Gv.Node.mk (Gv.Node.e Z1) (Prod.fst (Gv.pickF Wv.O8 k Z3 (Gv.Node.l Z1))) (Gv.Node.r Z1) (Gv.Node.all Z1) (Gv.Node.h Z1));let Z5:=(Prod.snd (Prod.snd (Gv.pickF Wv.O8 k Z3 (Gv.Node.l Z1))));let Z6:=(Gv.Ref.i (Prod.fst (Gv.level Wv.O8 Z5 (Gv.Ref.mk ri rg) Z4)));let Z7:=(Gv.Ref.g (Prod.fst (Gv.level Wv.O8 Z5 (Gv.Ref.mk ri rg) Z4)));let Z8:=(Prod.fst (Prod.snd (Gv.pickF Wv.O8 k Z3 (Gv.Node.l Z1))));Vc (PP m)/\(Z2=true->Post (G (Value.tuple (Array.mk [Value.agg (Array.mk [Z9 (Gv.Ref.i (Gv.Node.r Z1)),Z9 (Gv.Ref.g (Gv.Node.r Z1))]),Value.agg (Array.mk [Z9 ri,Z9 rg])])) [trB 1 ti tg,oP Z3,some (.inl (90,[Z9 ri,Z9 rg])),some (.inl (90,[Z9 (Gv.Ref.i (Gv.Node.r Z1)),Z9 (Gv.Ref.g (Gv.Node.r Z1))])),some (.inl (90,[Z9 ri,Z9 rg])),some (.inl (119,(ndL Z1)))]))/\(Z2=false->Vc (PP Z3/\Gv.PickFD Wv.O8 k Z3 (Gv.Node.l Z1))/\Vc ((ndL Z4)=ndL Z4/\PP Z5)/\Post (G (Value.tuple (Array.mk [Value.agg (Array.mk [Z9 Z6,Z9 Z7]),Value.agg (Array.mk [Z9 (Gv.Ref.i Z8),Z9 (Gv.Ref.g Z8)])])) [trB 1 ti tg,oP (Prod.snd (Gv.level Wv.O8 Z5 (Gv.Ref.mk ri rg) Z4)),some (.inl (90,[Z9 ri,Z9 rg])),some (.inl (90,[Z9 Z6,Z9 Z7])),some (.inl (90,[Z9 (Gv.Ref.i Z8),Z9 (Gv.Ref.g Z8)])),some (.inl (119,(ndL Z4)))]))) ?_ (by kernel_rfl)
   intro Z9 Z1 Z2 Z3 Z4 Z5 Z6 Z7 Z8;subst Z8 Z7 Z6 Z5 Z4 Z3 Z2 Z1 Z9;simp only[Gv.PickFD] at hd;have done:∀ (i g i2 g2:Int) (m':Pl) (rest:Hp Rs),Gv.pickF Wv.O8 (k+1) m ⟨ri,rg⟩=(⟨i,g⟩,⟨i2,g2⟩,m')->G (.tuple #[.agg ⟨[.int .i64 i,.int .i64 g]⟩,.agg ⟨[.int .i64 i2,.int .i64 g2]⟩]) ([some (.inl (92,[.pointer (some ⟨1,0,none⟩),.int .i64 ti,.int .i64 tg])),some (.inr (.inr (.inr (.pool m'))))]++rest):=by
    intro i g i2 g2 m' rest e;subst hG;refine⟨[0,1],?_,rfl,⟨.inl rfl,?_,trivial⟩,rfl,rfl,rfl,rfl⟩
    ·simp only[e];rfl
    ·simp only[e];rfl
   clear hG
   try simp only[Gv.eq0,Gv.ref_eta]
   repeat' (first|apply And.intro|apply Vc.mk|apply fits.mk|intro h|apply Post.mk)
   all_goals (try simp only[sB] at *)
   all_goals first|contradiction|omega|exact vb1 ‹_›|exact vb2 ‹_›|exact vb3 ‹_›|exact⟨rfl,by omega⟩|exact rfl|(simp[*,-List.getD_eq_getElem?_getD];done)|skip
   all_goals first|assumption|(simp only[Gv.ok_s];assumption)|skip
   all_goals first|(rw[Gv.PickFD_see];first|assumption|(rw[if_neg (by assumption),Gv.PickFD_see] at hd;exact hd))|skip
   all_goals (refine done _ _ _ _ _ _ ?_;rw[Gv.pickF];(try dsimp only [Gv.W]);repeat' split)
   all_goals first|rfl|(exfalso;omega)|contradiction|exact Prod.ext (Eq.symm (by assumption)) rfl|(exfalso;simp_all;done)
  ·cases hx
def linkP  (k:Nat):Prim Rs:=fun args hh=>match args,hh with
 |[.pointer (some ⟨0,0,none⟩),.agg ⟨[.int .i64 ai,.int .i64 ag]⟩,.agg ⟨[.int .i64 bi,.int .i64 bg]⟩,.agg ⟨[.int .i64 ci,.int .i64 cg]⟩],[some (.inl (92,[.pointer (some ⟨1,0,none⟩),.int .i64 ti,.int .i64 tg])),some (.inr (.inr (.inr (.pool m))))]=>some ⟨PP m/\Gv.LinkD Wv.O8 k m ⟨ai,ag⟩ ⟨bi,bg⟩ ⟨ci,cg⟩,.agg ⟨[.int .i64 (Gv.link Wv.O8 k m ⟨ai,ag⟩ ⟨bi,bg⟩ ⟨ci,cg⟩).1.i,.int .i64 (Gv.link Wv.O8 k m ⟨ai,ag⟩ ⟨bi,bg⟩ ⟨ci,cg⟩).1.g]⟩,none,[some (.inl (92,[.pointer (some ⟨1,0,none⟩),.int .i64 ti,.int .i64 tg])),some (.inr (.inr (.inr (.pool (Gv.link Wv.O8 k m ⟨ai,ag⟩ ⟨bi,bg⟩ ⟨ci,cg⟩).2))))],[],[(0,0)]⟩
 |_,_=>none
def TLink (k:Nat):Tab Rs:=[(1000000000,wrapCon),(64,liftC zN 2 (con1 lookP)),(104,liftC zN 2 (con1 levelP)),(118,liftC zN 2 (con1 setNP)),(127,liftC zN 2 (con1 (linkP k)))]
theorem link_ok:∀ k:Nat,ConOk D Tryz.prog 127 (con1 (linkP k))
 |0=>by
  refine prK Tryz.f127 fun args hh x hx=>?_
  unfold linkP at hx;split at hx
  ·rename_i ai ag bi bg ci cg ti tg m;injection hx with hx
   subst hx;refine q4 fun _ hv=>?_
   exact False.elim (And.right hv)
  ·cases hx
 |k+1=>by
  have ih:=link_ok k;refine prK Tryz.f127 fun args hh x hx=>?_
  unfold linkP at hx;split at hx
  ·rename_i ai ag bi bg ci cg ti tg m;injection hx with hx
   subst hx;refine q4 fun _ hv=>?_
   obtain⟨hp,hd⟩:=hv;generalize hG:Rx.Ends (R:=Rs) _ _=G;refine rx_ok (T:=(TLink k)) (show TabOk D Tryz.prog (TLink k) from⟨wrapCon_ok,liftC_ok _ _ look_ok,liftC_ok _ _ level_ok,liftC_ok _ _ setN_ok,liftC_ok _ _ ih,trivial⟩) mixed 200 ?_
   refine as_text (q:=let Z14:=Value.int IntKind.i64;let Z1:=(Gv.Ref.mk ai ag);let Z2:=(Gv.lk Wv.O8 m Z1);let Z3:=(Gv.Ref.mk ci cg);let Z4:=(Gv.lk Wv.O8 (Gv.see m Z1) Z3);let Z5:=(Gv.Node.h Z2>IntKind.wrap IntKind.i64 (Gv.Node.h Z4+(1:Int)));let Z6:=(Gv.see (Gv.see m Z1) Z3);let Z7:=(Gv.Ref.mk bi bg);let Z8:=(Gv.Node.mk (Gv.Node.e Z2) (Gv.Node.l Z2) (Prod.fst (Gv.link Wv.O8 k Z6 (Gv.Node.r Z2) Z7 Z3)) (Gv.Node.all Z2) (Gv.Node.h Z2));let Z9:=(Gv.level Wv.O8 (Prod.snd (Gv.link Wv.O8 k Z6 (Gv.Node.r Z2) Z7 Z3)) Z1 Z8);let Z10:=(Gv.Node.h Z4>IntKind.wrap IntKind.i64 (Gv.Node.h Z2+(1:Int)));let Z11:=(Gv.Node.mk (Gv.Node.e Z4) (Prod.fst (Gv.link Wv.O8 k Z6 Z1 Z7 (Gv.Node.l Z4))) (Gv.Node.r Z4) (Gv.Node.all Z4) (Gv.Node.h Z4));let Z12:=(Gv.level Wv.O8 (Prod.snd (Gv.link Wv.O8 k Z6 Z1 Z7 (Gv.Node.l Z4))) Z3 Z11);let Z13:=(Gv.Node.mk (Gv.Node.e (Gv.lk Wv.O8 Z6 Z7)) Z1 Z3 (Gv.Node.all (Gv.lk Wv.O8 Z6 Z7)) (Gv.Node.h (Gv.lk Wv.O8 Z6 Z7)));Vc (PP m)/\Vc (PP (Gv.see m Z1))/\Vc True/\(decide Z5=true->Vc (PP Z6/\Gv.LinkD Wv.O8 k Z6 (Gv.Node.r Z2) Z7 Z3)/\Vc ((ndL Z8)=ndL Z8/\PP (Prod.snd (Gv.link Wv.O8 k Z6 (Gv.Node.r Z2) Z7 Z3)))/\Post (G (Value.agg (Array.mk [Z14 (Gv.Ref.i (Prod.fst Z9)),Z14 (Gv.Ref.g (Prod.fst Z9))])) [trB 1 ti tg,oP (Prod.snd Z9),some (.inl (90,[Z14 ai,Z14 ag])),some (.inl (90,[Z14 bi,Z14 bg])),some (.inl (90,[Z14 ci,Z14 cg])),some (.inl (90,[Z14 (Gv.Ref.i (Prod.fst Z9)),Z14 (Gv.Ref.g (Prod.fst Z9))])),some (.inl (119,(ndL Z8))),some (.inl (119,(ndL Z4)))]))/\(decide Z5=false->Vc True/\(decide Z10=true->Vc (PP Z6/\Gv.LinkD Wv.O8 k Z6 Z1 Z7 (Gv.Node.l Z4))/\Vc ((ndL Z11)=ndL Z11/\PP (Prod.snd (Gv.link Wv.O8 k Z6 Z1 Z7 (Gv.Node.l Z4))))/\Post (G (Value.agg (Array.mk [Z14 (Gv.Ref.i (Prod.fst Z12)),Z14 (Gv.Ref.g (Prod.fst Z12))])) [trB 1 ti tg,oP (Prod.snd Z12),some (.inl (90,[Z14 ai,Z14 ag])),some (.inl (90,[Z14 bi,Z14 bg])),some (.inl (90,[Z14 ci,Z14 cg])),some (.inl (90,[Z14 (Gv.Ref.i (Prod.fst Z12)),Z14 (Gv.Ref.g (Prod.fst Z12))])),some (.inl (119,(ndL Z2))),some (.inl (119,(ndL Z11)))]))/\(decide Z10=false->Vc (PP Z6)/\Vc ((ndL Z13)=ndL Z13/\(ndL Z2)=ndL Z2/\(ndL Z4)=ndL Z4/\PP (Gv.see Z6 Z7))/\Post (G (Value.agg (Array.mk [Z14 bi,Z14 bg])) [trB 1 ti tg,oP (Gv.setN Wv.O8 (Gv.see Z6 Z7) Z7 Z13 Z2 Z4),some (.inl (90,[Z14 ai,Z14 ag])),some (.inl (90,[Z14 bi,Z14 bg])),some (.inl (90,[Z14 ci,Z14 cg])),some (.inl (90,[Z14 bi,Z14 bg])),some (.inl (119,(ndL Z2))),some (.inl (119,(ndL Z4))),some (.inl (119,(ndL Z13)))])))) ?_ (by kernel_rfl)
   intro Z14 Z1 Z2 Z3 Z4 Z5 Z6 Z7 Z8 Z9 Z10 Z11 Z12 Z13;subst Z13 Z12 Z11 Z10 Z9 Z8 Z7 Z6 Z5 Z4 Z3 Z2 Z1 Z14;rw[Gv.LinkD] at hd
   dsimp only [Gv.W] at hd
   have done:∀ (i g:Int) (m':Pl) (rest:Hp Rs),Gv.link Wv.O8 (k+1) m ⟨ai,ag⟩ ⟨bi,bg⟩ ⟨ci,cg⟩=(⟨i,g⟩,m')->G (.agg ⟨[.int .i64 i,.int .i64 g]⟩) ([some (.inl (92,[.pointer (some ⟨1,0,none⟩),.int .i64 ti,.int .i64 tg])),some (.inr (.inr (.inr (.pool m'))))]++rest):=by
    intro i g m' rest e;subst hG;refine⟨[0,1],?_,rfl,⟨.inl rfl,?_,trivial⟩,rfl,rfl,rfl,rfl⟩
    ·simp only[e];rfl
    ·simp only[e];rfl
   clear hG
   repeat' (first|apply And.intro|apply Vc.mk|apply fits.mk|intro h|apply Post.mk)
   all_goals (try simp only[sB] at *)
   all_goals first|contradiction|omega|exact vb1 ‹_›|exact vb2 ‹_›|exact vb3 ‹_›|exact⟨rfl,by omega⟩|exact rfl|(simp[*,-List.getD_eq_getElem?_getD];done)|skip
   all_goals first|assumption|(simp only[Gv.ok_s];assumption)|skip
   all_goals first|(rw[if_pos (by assumption)] at hd;exact hd)|(rw[if_neg (by omega),if_pos (by assumption)] at hd;exact hd)|skip
   all_goals (refine done _ _ _ _ ?_;rw[Gv.link];(try dsimp only [Gv.W]);repeat' split)
   all_goals first|rfl|(exfalso;omega)|contradiction|exact Prod.ext (Eq.symm (by assumption)) rfl|(exfalso;simp_all;done)
  ·cases hx
def glueP (K:Nat):Prim Rs:=fun args hh=>match args,hh with
 |[.pointer (some ⟨0,0,none⟩),.agg ⟨[.int .i64 ai,.int .i64 ag]⟩,.agg ⟨[.int .i64 ci,.int .i64 cg]⟩],[some (.inl (92,[.pointer (some ⟨1,0,none⟩),.int .i64 ti,.int .i64 tg])),some (.inr (.inr (.inr (.pool m))))]=>some ⟨PP m/\Gv.GlueD Wv.O8 K m ⟨ai,ag⟩ ⟨ci,cg⟩,.agg ⟨[.int .i64 (Gv.glue Wv.O8 K m ⟨ai,ag⟩ ⟨ci,cg⟩).1.i,.int .i64 (Gv.glue Wv.O8 K m ⟨ai,ag⟩ ⟨ci,cg⟩).1.g]⟩,none,[some (.inl (92,[.pointer (some ⟨1,0,none⟩),.int .i64 ti,.int .i64 tg])),some (.inr (.inr (.inr (.pool (Gv.glue Wv.O8 K m ⟨ai,ag⟩ ⟨ci,cg⟩).2))))],[],[(0,0)]⟩
 |_,_=>none
def TGlue (K:Nat):Tab Rs:=[(126,liftC zN 2 (con1 (pickFP K))),(127,liftC zN 2 (con1 (linkP K)))]
theorem glue_ok (K:Nat):ConOk D Tryz.prog 112 (con1 (glueP K)):=by
 refine prK Tryz.f112 fun args hh x hx=>?_
 unfold glueP at hx;split at hx
 ·rename_i ai ag ci cg ti tg m;injection hx with hx
  subst hx;refine q4 fun _ hv=>?_
  obtain⟨hp,hd⟩:=hv;generalize hG:Rx.Ends (R:=Rs) _ _=G;refine rx_ok (T:=(TGlue K)) (show TabOk D Tryz.prog (TGlue K) from⟨liftC_ok _ _ (pickF_ok K),liftC_ok _ _ (link_ok K),trivial⟩) mixed 200 ?_
  refine as_text (q:=let Z7:=Value.int IntKind.i64;let Z1:=(if false=true then !(ci==(0:Int)&&(cg==(0:Int)&&true)) else ci==(0:Int)&&(cg==(0:Int)&&true));let Z2:=(Prod.snd (Prod.snd (Gv.pickF Wv.O8 K m (Gv.Ref.mk ci cg))));let Z3:=(Prod.fst (Prod.snd (Gv.pickF Wv.O8 K m (Gv.Ref.mk ci cg))));let Z4:=(Prod.fst (Gv.pickF Wv.O8 K m (Gv.Ref.mk ci cg)));let Z5:=(Gv.Ref.i (Prod.fst (Gv.link Wv.O8 K Z2 (Gv.Ref.mk ai ag) Z3 Z4)));let Z6:=(Gv.Ref.g (Prod.fst (Gv.link Wv.O8 K Z2 (Gv.Ref.mk ai ag) Z3 Z4)));(Z1=true->Post (G (Value.agg (Array.mk [Z7 ai,Z7 ag])) [trB 1 ti tg,oP m,some (.inl (90,[Z7 ai,Z7 ag])),some (.inl (90,[Z7 ci,Z7 cg])),some (.inl (90,[Z7 ai,Z7 ag]))]))/\(Z1=false->Vc (PP m/\Gv.PickFD Wv.O8 K m (Gv.Ref.mk ci cg))/\Vc (PP Z2/\Gv.LinkD Wv.O8 K Z2 (Gv.Ref.mk ai ag) Z3 Z4)/\Post (G (Value.agg (Array.mk [Z7 Z5,Z7 Z6])) [trB 1 ti tg,oP (Prod.snd (Gv.link Wv.O8 K Z2 (Gv.Ref.mk ai ag) Z3 Z4)),some (.inl (90,[Z7 ai,Z7 ag])),some (.inl (90,[Z7 ci,Z7 cg])),some (.inl (90,[Z7 Z5,Z7 Z6])),some (.inl (90,[Z7 (Gv.Ref.i Z4),Z7 (Gv.Ref.g Z4)])),some (.inl (90,[Z7 (Gv.Ref.i Z3),Z7 (Gv.Ref.g Z3)]))]))) ?_ (by kernel_rfl)
  intro Z7 Z1 Z2 Z3 Z4 Z5 Z6;subst Z6 Z5 Z4 Z3 Z2 Z1 Z7;unfold Gv.GlueD at hd;have done:∀ (i g:Int) (m':Pl) (rest:Hp Rs),Gv.glue Wv.O8 K m ⟨ai,ag⟩ ⟨ci,cg⟩=(⟨i,g⟩,m')->G (.agg ⟨[.int .i64 i,.int .i64 g]⟩) ([some (.inl (92,[.pointer (some ⟨1,0,none⟩),.int .i64 ti,.int .i64 tg])),some (.inr (.inr (.inr (.pool m'))))]++rest):=by
   intro i g m' rest e;subst hG;refine⟨[0,1],?_,rfl,⟨.inl rfl,?_,trivial⟩,rfl,rfl,rfl,rfl⟩
   ·simp only[e];rfl
   ·simp only[e];rfl
  clear hG
  try simp only[Gv.eq0,Gv.ref_eta]
  repeat' (first|apply And.intro|apply Vc.mk|apply fits.mk|intro h|apply Post.mk)
  all_goals (try simp only[sB] at *)
  all_goals first|contradiction|omega|exact vb1 ‹_›|exact vb2 ‹_›|exact vb3 ‹_›|exact⟨rfl,by omega⟩|exact rfl|(simp[*,-List.getD_eq_getElem?_getD];done)|skip
  all_goals first|assumption|(simp only[Gv.ok_s];assumption)|skip
  all_goals first|(rw[if_neg (by assumption)] at hd;first|exact hd.1|exact hd.2)|skip
  all_goals (refine done _ _ _ _ ?_;unfold Gv.glue;(try dsimp only [Gv.W]);repeat' split)
  all_goals first|rfl|(exfalso;omega)|contradiction|exact Prod.ext (Eq.symm (by assumption)) rfl|(exfalso;simp_all;done)
 ·cases hx
def pickP (K:Nat) (k:Nat):Prim Rs:=fun args hh=>match args,hh with
 |[.pointer (some ⟨0,0,none⟩),.agg ⟨[.int .i64 ri,.int .i64 rg]⟩,.agg ⟨kE⟩],[some (.inl (92,[.pointer (some ⟨1,0,none⟩),.int .i64 ti,.int .i64 tg])),some (.inr (.inr (.inr (.pool m))))]=>some ⟨kE=elL (elOf kE)/\(PP m/\Gv.PickD Wv.O8 K k m ⟨ri,rg⟩ (elOf kE)),.tuple #[.agg ⟨[.int .i64 (Gv.pick Wv.O8 K k m ⟨ri,rg⟩ (elOf kE)).1.i,.int .i64 (Gv.pick Wv.O8 K k m ⟨ri,rg⟩ (elOf kE)).1.g]⟩,.agg ⟨[.int .i64 (Gv.pick Wv.O8 K k m ⟨ri,rg⟩ (elOf kE)).2.1.i,.int .i64 (Gv.pick Wv.O8 K k m ⟨ri,rg⟩ (elOf kE)).2.1.g]⟩],none,[some (.inl (92,[.pointer (some ⟨1,0,none⟩),.int .i64 ti,.int .i64 tg])),some (.inr (.inr (.inr (.pool (Gv.pick Wv.O8 K k m ⟨ri,rg⟩ (elOf kE)).2.2))))],[],[(0,0)]⟩
 |_,_=>none
def TPick (K:Nat) (k:Nat):Tab Rs:=[(150,liftC zN 2 (con1 Wv.mcmpP)),(64,liftC zN 2 (con1 lookP)),(104,liftC zN 2 (con1 levelP)),(112,liftC zN 2 (con1 (glueP K))),(89,liftC zN 2 (con1 (pickP K k)))]
theorem pick_ok (K:Nat):∀ k:Nat,ConOk D Tryz.prog 89 (con1 (pickP K k))
 |0=>by
  refine prK Tryz.f89 fun args hh x hx=>?_
  unfold pickP at hx;split at hx
  ·rename_i ri rg kE ti tg m;injection hx with hx
   subst hx;refine q4 fun _ hv=>?_
   exact False.elim (And.right (And.right hv))
  ·cases hx
 |k+1=>by
  have ih:=pick_ok K k;refine prK Tryz.f89 fun args hh x hx=>?_
  unfold pickP at hx;split at hx
  ·rename_i ri rg kE ti tg m;injection hx with hx
   subst hx;refine q4 fun _ hv=>?_
   obtain⟨hq0,hv⟩:=hv;generalize elOf kE=ke at *;subst hq0;obtain⟨hp,hd⟩:=hv
   generalize hG:Rx.Ends (R:=Rs) _ _=G;refine rx_ok (T:=(TPick K k)) (show TabOk D Tryz.prog (TPick K k) from⟨liftC_ok _ _ Wv.mcmp_ok,liftC_ok _ _ look_ok,liftC_ok _ _ level_ok,liftC_ok _ _ (glue_ok K),liftC_ok _ _ ih,trivial⟩) mixed 200 ?_
   refine as_text (q:=let Z17:=Value.int IntKind.i64;let Z1:=(Gv.lk Wv.O8 m (Gv.Ref.mk ri rg));let Z2:=(Array.mk [Z17 ri,Z17 rg]);let Z3:=(Gv.see m (Gv.Ref.mk ri rg));let Z4:=(Prod.fst (Prod.snd (Gv.pick Wv.O8 K k Z3 (Gv.Node.l Z1) ke)));let Z5:=(if false=true then !(Gv.Ref.i Z4==(0:Int)&&(Gv.Ref.g Z4==(0:Int)&&true)) else Gv.Ref.i Z4==(0:Int)&&(Gv.Ref.g Z4==(0:Int)&&true));let Z6:=(Prod.snd (Prod.snd (Gv.pick Wv.O8 K k Z3 (Gv.Node.l Z1) ke)));let Z7:=(Gv.Node.mk (Gv.Node.e Z1) (Prod.fst (Gv.pick Wv.O8 K k Z3 (Gv.Node.l Z1) ke)) (Gv.Node.r Z1) (Gv.Node.all Z1) (Gv.Node.h Z1));let Z8:=(Gv.Ref.i (Prod.fst (Gv.level Wv.O8 Z6 (Gv.Ref.mk ri rg) Z7)));let Z9:=(Gv.Ref.g (Prod.fst (Gv.level Wv.O8 Z6 (Gv.Ref.mk ri rg) Z7)));let Z10:=(Prod.fst (Prod.snd (Gv.pick Wv.O8 K k Z3 (Gv.Node.r Z1) ke)));let Z11:=(if false=true then !(Gv.Ref.i Z10==(0:Int)&&(Gv.Ref.g Z10==(0:Int)&&true)) else Gv.Ref.i Z10==(0:Int)&&(Gv.Ref.g Z10==(0:Int)&&true));let Z12:=(Prod.snd (Prod.snd (Gv.pick Wv.O8 K k Z3 (Gv.Node.r Z1) ke)));let Z13:=(Gv.Node.mk (Gv.Node.e Z1) (Gv.Node.l Z1) (Prod.fst (Gv.pick Wv.O8 K k Z3 (Gv.Node.r Z1) ke)) (Gv.Node.all Z1) (Gv.Node.h Z1));let Z14:=(Gv.Ref.i (Prod.fst (Gv.level Wv.O8 Z12 (Gv.Ref.mk ri rg) Z13)));let Z15:=(Gv.Ref.g (Prod.fst (Gv.level Wv.O8 Z12 (Gv.Ref.mk ri rg) Z13)));let Z16:=(Prod.fst (Gv.glue Wv.O8 K Z3 (Gv.Node.l Z1) (Gv.Node.r Z1)));Vc (PP m)/\((Gv.Node.h Z1==(0:Int))=true->Post (G (Value.tuple (Array.mk [Value.agg Z2,Value.agg (Array.mk [Z17 0,Z17 0])])) [trB 1 ti tg,oP Z3,some (.inl (90,[Z17 ri,Z17 rg])),some (.inl (49,(elL ke))),some (.inl (90,[Z17 ri,Z17 rg])),some (.inl (90,[Z17 0,Z17 0])),some (.inl (119,(ndL Z1)))]))/\((Gv.Node.h Z1==(0:Int))=false->Vc True/\Vc True/\(decide (Gv.Ops.cmp Wv.O8 ke (Gv.Node.e Z1)<(0:Int))=true->Vc ((elL ke)=elL ke/\PP Z3/\Gv.PickD Wv.O8 K k Z3 (Gv.Node.l Z1) ke)/\(Z5=true->Post (G (Value.tuple (Array.mk [Value.agg Z2,Value.agg (Array.mk [Z17 (Gv.Ref.i Z4),Z17 (Gv.Ref.g Z4)])])) [trB 1 ti tg,oP Z6,some (.inl (90,[Z17 ri,Z17 rg])),some (.inl (49,(elL ke))),some (.inl (90,[Z17 ri,Z17 rg])),some (.inl (90,[Z17 (Gv.Ref.i Z4),Z17 (Gv.Ref.g Z4)])),some (.inl (119,(ndL Z7)))]))/\(Z5=false->Vc ((ndL Z7)=ndL Z7/\PP Z6)/\Post (G (Value.tuple (Array.mk [Value.agg (Array.mk [Z17 Z8,Z17 Z9]),Value.agg (Array.mk [Z17 (Gv.Ref.i Z4),Z17 (Gv.Ref.g Z4)])])) [trB 1 ti tg,oP (Prod.snd (Gv.level Wv.O8 Z6 (Gv.Ref.mk ri rg) Z7)),some (.inl (90,[Z17 ri,Z17 rg])),some (.inl (49,(elL ke))),some (.inl (90,[Z17 Z8,Z17 Z9])),some (.inl (90,[Z17 (Gv.Ref.i Z4),Z17 (Gv.Ref.g Z4)])),some (.inl (119,(ndL Z7)))])))/\(decide (Gv.Ops.cmp Wv.O8 ke (Gv.Node.e Z1)<(0:Int))=false->(decide (Gv.Ops.cmp Wv.O8 ke (Gv.Node.e Z1)>(0:Int))=true->Vc ((elL ke)=elL ke/\PP Z3/\Gv.PickD Wv.O8 K k Z3 (Gv.Node.r Z1) ke)/\(Z11=true->Post (G (Value.tuple (Array.mk [Value.agg Z2,Value.agg (Array.mk [Z17 (Gv.Ref.i Z10),Z17 (Gv.Ref.g Z10)])])) [trB 1 ti tg,oP Z12,some (.inl (90,[Z17 ri,Z17 rg])),some (.inl (49,(elL ke))),some (.inl (90,[Z17 ri,Z17 rg])),some (.inl (90,[Z17 (Gv.Ref.i Z10),Z17 (Gv.Ref.g Z10)])),some (.inl (119,(ndL Z13)))]))/\(Z11=false->Vc ((ndL Z13)=ndL Z13/\PP Z12)/\Post (G (Value.tuple (Array.mk [Value.agg (Array.mk [Z17 Z14,Z17 Z15]),Value.agg (Array.mk [Z17 (Gv.Ref.i Z10),Z17 (Gv.Ref.g Z10)])])) [trB 1 ti tg,oP (Prod.snd (Gv.level Wv.O8 Z12 (Gv.Ref.mk ri rg) Z13)),some (.inl (90,[Z17 ri,Z17 rg])),some (.inl (49,(elL ke))),some (.inl (90,[Z17 Z14,Z17 Z15])),some (.inl (90,[Z17 (Gv.Ref.i Z10),Z17 (Gv.Ref.g Z10)])),some (.inl (119,(ndL Z13)))])))/\(decide (Gv.Ops.cmp Wv.O8 ke (Gv.Node.e Z1)>(0:Int))=false->Vc (PP Z3/\Gv.GlueD Wv.O8 K Z3 (Gv.Node.l Z1) (Gv.Node.r Z1))/\Post (G (Value.tuple (Array.mk [Value.agg (Array.mk [Z17 (Gv.Ref.i Z16),Z17 (Gv.Ref.g Z16)]),Value.agg Z2])) [trB 1 ti tg,oP (Prod.snd (Gv.glue Wv.O8 K Z3 (Gv.Node.l Z1) (Gv.Node.r Z1))),some (.inl (90,[Z17 ri,Z17 rg])),some (.inl (49,(elL ke))),some (.inl (90,[Z17 (Gv.Ref.i Z16),Z17 (Gv.Ref.g Z16)])),some (.inl (90,[Z17 ri,Z17 rg])),some (.inl (119,(ndL Z1)))]))))) ?_ (by kernel_rfl)
   intro Z17 Z1 Z2 Z3 Z4 Z5 Z6 Z7 Z8 Z9 Z10 Z11 Z12 Z13 Z14 Z15 Z16;subst Z16 Z15 Z14 Z13 Z12 Z11 Z10 Z9 Z8 Z7 Z6 Z5 Z4 Z3 Z2 Z1 Z17;rw[Gv.PickD] at hd;have done:∀ (i g i2 g2:Int) (m':Pl) (rest:Hp Rs),Gv.pick Wv.O8 K (k+1) m ⟨ri,rg⟩ ke=(⟨i,g⟩,⟨i2,g2⟩,m')->G (.tuple #[.agg ⟨[.int .i64 i,.int .i64 g]⟩,.agg ⟨[.int .i64 i2,.int .i64 g2]⟩]) ([some (.inl (92,[.pointer (some ⟨1,0,none⟩),.int .i64 ti,.int .i64 tg])),some (.inr (.inr (.inr (.pool m'))))]++rest):=by
    intro i g i2 g2 m' rest e;subst hG;refine⟨[0,1],?_,rfl,⟨.inl rfl,?_,trivial⟩,rfl,rfl,rfl,rfl⟩
    ·simp only[e];rfl
    ·simp only[e];rfl
   clear hG
   try simp only[Gv.eq0,Gv.ref_eta]
   repeat' (first|apply And.intro|apply Vc.mk|apply fits.mk|intro h|apply Post.mk)
   all_goals (try simp only[sB] at *)
   all_goals first|contradiction|omega|exact vb1 ‹_›|exact vb2 ‹_›|exact vb3 ‹_›|exact⟨rfl,by omega⟩|exact rfl|(simp[*,-List.getD_eq_getElem?_getD];done)|skip
   all_goals first|assumption|(simp only[Gv.ok_s];assumption)|skip
   all_goals first|(rw[if_neg (by assumption),if_pos (by assumption)] at hd;exact hd)|(rw[if_neg (by assumption),if_neg (by omega),if_pos (by assumption)] at hd;exact hd)|(rw[if_neg (by assumption),if_neg (by omega),if_neg (by omega)] at hd;exact hd)|skip
   all_goals (refine done _ _ _ _ _ _ ?_;rw[Gv.pick];(try dsimp only [Gv.W]);repeat' split)
   all_goals first|rfl|(exfalso;omega)|contradiction|exact Prod.ext (Eq.symm (by assumption)) rfl|(exfalso;simp_all;done)
  ·cases hx
def gatherP  (k:Nat):Prim Rs:=fun args hh=>match args,hh with
 |[.pointer (some ⟨0,0,none⟩),.slice (some ⟨1,0,some 8000⟩) n cp,.agg ⟨[.int .i64 ri,.int .i64 rg]⟩],[some (.inl (92,[.pointer (some ⟨2,0,none⟩),.int .i64 ti,.int .i64 tg])),some (.inr (.inl (49,⟨[.int .i64 0,.bool false,.int .i64 0,.int .i64 0,.bool false,.bool false,.int .i64 0,.int .i64 0],n2,[⟨a0,[],[]⟩,⟨[],a1,[]⟩,⟨a2,[],[]⟩,⟨a3,[],[]⟩,⟨[],a4,[]⟩,⟨[],a5,[]⟩,⟨a6,[],[]⟩,⟨a7,[],[]⟩]⟩))),some (.inr (.inr (.inr (.pool m))))]=>some ⟨(PP m/\n2=n/\a0.length=n/\a1.length=n/\a2.length=n/\a3.length=n/\a4.length=n/\a5.length=n/\a6.length=n/\a7.length=n/\n+(Gv.gather Wv.O8 k m ⟨ri,rg⟩).1.length<900000)/\Gv.Deep Wv.O8 k m ⟨ri,rg⟩,.slice (some ⟨3,0,some 8000⟩) (n+(Gv.gather Wv.O8 k m ⟨ri,rg⟩).1.length) (if(Gv.gather Wv.O8 k m ⟨ri,rg⟩).1.length=0 then cp else 0),none,[some (.inl (92,[.pointer (some ⟨2,0,none⟩),.int .i64 ti,.int .i64 tg])),none,some (.inr (.inr (.inr (.pool (Gv.gather Wv.O8 k m ⟨ri,rg⟩).2)))),some (.inr (.inl (49,⟨[.int .i64 0,.bool false,.int .i64 0,.int .i64 0,.bool false,.bool false,.int .i64 0,.int .i64 0],(n+(Gv.gather Wv.O8 k m ⟨ri,rg⟩).1.length),[⟨(a0++(Gv.gather Wv.O8 k m ⟨ri,rg⟩).1.map fun e=>e.t),[],[]⟩,⟨[],(a1++(Gv.gather Wv.O8 k m ⟨ri,rg⟩).1.map fun e=>e.ins),[]⟩,⟨(a2++(Gv.gather Wv.O8 k m ⟨ri,rg⟩).1.map fun e=>e.it.k),[],[]⟩,⟨(a3++(Gv.gather Wv.O8 k m ⟨ri,rg⟩).1.map fun e=>e.it.i),[],[]⟩,⟨[],(a4++(Gv.gather Wv.O8 k m ⟨ri,rg⟩).1.map fun e=>e.here),[]⟩,⟨[],(a5++(Gv.gather Wv.O8 k m ⟨ri,rg⟩).1.map fun e=>e.tf),[]⟩,⟨(a6++(Gv.gather Wv.O8 k m ⟨ri,rg⟩).1.map fun e=>e.tk.k),[],[]⟩,⟨(a7++(Gv.gather Wv.O8 k m ⟨ri,rg⟩).1.map fun e=>e.tk.i),[],[]⟩]⟩)))],[],[(0,0)]⟩
 |_,_=>none
def TGather (k:Nat):Tab Rs:=[(64,liftC zN 2 (con1 lookP)),(44,liftC zN 2 (con1 (gatherP k)))]
theorem gather_ok:∀ k:Nat,ConOk D Tryz.prog 44 (con1 (gatherP k))
 |0=>by
  refine prK Tryz.f44 fun args hh x hx=>?_
  unfold gatherP at hx;split at hx
  ·rename_i n cp ri rg ti tg n2 a0 a1 a2 a3 a4 a5 a6 a7 m;injection hx with hx
   subst hx;refine q4 fun _ hv=>?_
   exact False.elim (And.right hv)
  ·cases hx
 |k+1=>by
  have ih:=gather_ok k;refine prK Tryz.f44 fun args hh x hx=>?_
  unfold gatherP at hx;split at hx
  ·rename_i n cp ri rg ti tg n2 a0 a1 a2 a3 a4 a5 a6 a7 m;injection hx with hx
   subst hx;refine q4 fun _ hv=>?_
   obtain⟨⟨hp,rfl,ha0,ha1,ha2,ha3,ha4,ha5,ha6,ha7,hb⟩,hd⟩:=hv;generalize hG:Rx.Ends (R:=Rs) _ _=G;refine rx_ok (T:=(TGather k)) (show TabOk D Tryz.prog (TGather k) from⟨liftC_ok _ _ look_ok,liftC_ok _ _ ih,trivial⟩) mixed 200 ?_
   refine as_text (q:=let Z1:=(Gv.lk Wv.O8 m (Gv.Ref.mk ri rg));let Z2:=(elL (Wv.Mk.mk 0 false (Wv.It.mk 0 0) false false (Wv.It.mk 0 0)));let Z3:=(Gv.see m (Gv.Ref.mk ri rg));let Z4:=(Prod.fst (Gv.gather Wv.O8 k Z3 (Gv.Node.l Z1)));let Z5:=(n2+List.length Z4);let Z6:=(Prod.snd (Gv.gather Wv.O8 k Z3 (Gv.Node.l Z1)));let Z7:=(Gv.Node.e Z1);let Z8:=(Prod.fst (Gv.gather Wv.O8 k Z6 (Gv.Node.r Z1)));Vc (PP m)/\((Gv.Node.h Z1==(0:Int))=true->Post (G (Value.slice (some (Addr.mk 1 0 (some 8000))) n2 cp) [trB 2 ti tg,some (.inr (.inl (49,Row.mk Z2 n2 [Col.mk a0 [] [],Col.mk [] a1 [],Col.mk a2 [] [],Col.mk a3 [] [],Col.mk [] a4 [],Col.mk [] a5 [],Col.mk a6 [] [],Col.mk a7 [] []]))),oP Z3,some (.inl (90,[Value.int IntKind.i64 ri,Value.int IntKind.i64 rg])),some (.inr (.inl (49,Row.mk Z2 0 [Col.mk [] [] [],Col.mk [] [] [],Col.mk [] [] [],Col.mk [] [] [],Col.mk [] [] [],Col.mk [] [] [],Col.mk [] [] [],Col.mk [] [] []]))),some (.inl (119,(ndL Z1)))]))/\((Gv.Node.h Z1==(0:Int))=false->Vc ((PP Z3/\n2=n2/\List.length a0=n2/\List.length a1=n2/\List.length a2=n2/\List.length a3=n2/\List.length a4=n2/\List.length a5=n2/\List.length a6=n2/\List.length a7=n2/\n2+List.length Z4<900000)/\Gv.Deep Wv.O8 k Z3 (Gv.Node.l Z1))/\Vc (0+Z5≤n2+List.length Z4/\1≤1/\(n2+List.length Z4+1)*64≤140737488355328/\n2+List.length Z4+1≤140737488355328)/\Vc ((PP Z6/\n2+List.length Z4+1=n2+List.length Z4+1/\List.length (cut (a0++List.map (fun e=>Wv.Mk.t e) Z4) 0 Z5++cut [Wv.Mk.t Z7] 0 1)=n2+List.length Z4+1/\List.length (cut (a1++List.map (fun e=>Wv.Mk.ins e) Z4) 0 Z5++cut [Wv.Mk.ins Z7] 0 1)=n2+List.length Z4+1/\List.length (cut (a2++List.map (fun e=>Wv.It.k (Wv.Mk.it e)) Z4) 0 Z5++cut [Wv.It.k (Wv.Mk.it Z7)] 0 1)=n2+List.length Z4+1/\List.length (cut (a3++List.map (fun e=>Wv.It.i (Wv.Mk.it e)) Z4) 0 Z5++cut [Wv.It.i (Wv.Mk.it Z7)] 0 1)=n2+List.length Z4+1/\List.length (cut (a4++List.map (fun e=>Wv.Mk.here e) Z4) 0 Z5++cut [Wv.Mk.here Z7] 0 1)=n2+List.length Z4+1/\List.length (cut (a5++List.map (fun e=>Wv.Mk.tf e) Z4) 0 Z5++cut [Wv.Mk.tf Z7] 0 1)=n2+List.length Z4+1/\List.length (cut (a6++List.map (fun e=>Wv.It.k (Wv.Mk.tk e)) Z4) 0 Z5++cut [Wv.It.k (Wv.Mk.tk Z7)] 0 1)=n2+List.length Z4+1/\List.length (cut (a7++List.map (fun e=>Wv.It.i (Wv.Mk.tk e)) Z4) 0 Z5++cut [Wv.It.i (Wv.Mk.tk Z7)] 0 1)=n2+List.length Z4+1/\n2+List.length Z4+1+List.length Z8<900000)/\Gv.Deep Wv.O8 k Z6 (Gv.Node.r Z1))/\Post (G (Value.slice (some (Addr.mk 9 0 (some 8000))) (n2+List.length Z4+1+List.length Z8) (if List.length Z8=0 then 0 else 0)) [trB 2 ti tg,none,oP (Prod.snd (Gv.gather Wv.O8 k Z6 (Gv.Node.r Z1))),some (.inl (90,[Value.int IntKind.i64 ri,Value.int IntKind.i64 rg])),some (.inr (.inl (49,Row.mk Z2 0 [Col.mk [] [] [],Col.mk [] [] [],Col.mk [] [] [],Col.mk [] [] [],Col.mk [] [] [],Col.mk [] [] [],Col.mk [] [] [],Col.mk [] [] []]))),some (.inl (119,(ndL Z1))),none,some (.inr (.inl (49,Row.mk Z2 1 [Col.mk [Wv.Mk.t Z7] [] [],Col.mk [] [Wv.Mk.ins Z7] [],Col.mk [Wv.It.k (Wv.Mk.it Z7)] [] [],Col.mk [Wv.It.i (Wv.Mk.it Z7)] [] [],Col.mk [] [Wv.Mk.here Z7] [],Col.mk [] [Wv.Mk.tf Z7] [],Col.mk [Wv.It.k (Wv.Mk.tk Z7)] [] [],Col.mk [Wv.It.i (Wv.Mk.tk Z7)] [] []]))),none,some (.inr (.inl (49,Row.mk Z2 (n2+List.length Z4+1+List.length Z8) [Col.mk (cut (a0++List.map (fun e=>Wv.Mk.t e) Z4) 0 Z5++cut [Wv.Mk.t Z7] 0 1++List.map (fun e=>Wv.Mk.t e) Z8) [] [],Col.mk [] (cut (a1++List.map (fun e=>Wv.Mk.ins e) Z4) 0 Z5++cut [Wv.Mk.ins Z7] 0 1++List.map (fun e=>Wv.Mk.ins e) Z8) [],Col.mk (cut (a2++List.map (fun e=>Wv.It.k (Wv.Mk.it e)) Z4) 0 Z5++cut [Wv.It.k (Wv.Mk.it Z7)] 0 1++List.map (fun e=>Wv.It.k (Wv.Mk.it e)) Z8) [] [],Col.mk (cut (a3++List.map (fun e=>Wv.It.i (Wv.Mk.it e)) Z4) 0 Z5++cut [Wv.It.i (Wv.Mk.it Z7)] 0 1++List.map (fun e=>Wv.It.i (Wv.Mk.it e)) Z8) [] [],Col.mk [] (cut (a4++List.map (fun e=>Wv.Mk.here e) Z4) 0 Z5++cut [Wv.Mk.here Z7] 0 1++List.map (fun e=>Wv.Mk.here e) Z8) [],Col.mk [] (cut (a5++List.map (fun e=>Wv.Mk.tf e) Z4) 0 Z5++cut [Wv.Mk.tf Z7] 0 1++List.map (fun e=>Wv.Mk.tf e) Z8) [],Col.mk (cut (a6++List.map (fun e=>Wv.It.k (Wv.Mk.tk e)) Z4) 0 Z5++cut [Wv.It.k (Wv.Mk.tk Z7)] 0 1++List.map (fun e=>Wv.It.k (Wv.Mk.tk e)) Z8) [] [],Col.mk (cut (a7++List.map (fun e=>Wv.It.i (Wv.Mk.tk e)) Z4) 0 Z5++cut [Wv.It.i (Wv.Mk.tk Z7)] 0 1++List.map (fun e=>Wv.It.i (Wv.Mk.tk e)) Z8) [] []])))]))) ?_ (by kernel_rfl)
   intro Z1 Z2 Z3 Z4 Z5 Z6 Z7 Z8;subst Z8 Z7 Z6 Z5 Z4 Z3 Z2 Z1;simp only[Gv.Deep] at hd;subst hG;have c1:∀ x:Int,cut [x] 0 1=[x]:=fun x=>rfl
   have c2:∀ x:Bool,cut [x] 0 1=[x]:=fun x=>rfl
   have e0:(Gv.lk Wv.O8 m (⟨ri,rg⟩:Gv.Ref)).h=0->Gv.gather Wv.O8 (k+1) m (⟨ri,rg⟩:Gv.Ref)=([],Gv.see m (⟨ri,rg⟩:Gv.Ref)):=fun h=>by rw[Gv.gather,if_pos h]
   have e1:(Gv.lk Wv.O8 m (⟨ri,rg⟩:Gv.Ref)).h≠0->Gv.gather Wv.O8 (k+1) m (⟨ri,rg⟩:Gv.Ref)=((Gv.gather Wv.O8 k (Gv.see m (⟨ri,rg⟩:Gv.Ref)) (Gv.lk Wv.O8 m (⟨ri,rg⟩:Gv.Ref)).l).1++(Gv.lk Wv.O8 m (⟨ri,rg⟩:Gv.Ref)).e::(Gv.gather Wv.O8 k (Gv.gather Wv.O8 k (Gv.see m (⟨ri,rg⟩:Gv.Ref)) (Gv.lk Wv.O8 m (⟨ri,rg⟩:Gv.Ref)).l).2 (Gv.lk Wv.O8 m (⟨ri,rg⟩:Gv.Ref)).r).1,(Gv.gather Wv.O8 k (Gv.gather Wv.O8 k (Gv.see m (⟨ri,rg⟩:Gv.Ref)) (Gv.lk Wv.O8 m (⟨ri,rg⟩:Gv.Ref)).l).2 (Gv.lk Wv.O8 m (⟨ri,rg⟩:Gv.Ref)).r).2):=fun h=>by rw[Gv.gather,if_neg h]
   have hb2:(Gv.lk Wv.O8 m (⟨ri,rg⟩:Gv.Ref)).h≠0->n2+((Gv.gather Wv.O8 k (Gv.see m (⟨ri,rg⟩:Gv.Ref)) (Gv.lk Wv.O8 m (⟨ri,rg⟩:Gv.Ref)).l).1.length+((Gv.gather Wv.O8 k (Gv.gather Wv.O8 k (Gv.see m (⟨ri,rg⟩:Gv.Ref)) (Gv.lk Wv.O8 m (⟨ri,rg⟩:Gv.Ref)).l).2 (Gv.lk Wv.O8 m (⟨ri,rg⟩:Gv.Ref)).r).1.length+1))<900000:=fun h=>by rw[e1 h] at hb;simpa using hb
   generalize hx:Gv.gather Wv.O8 k (Gv.see m (⟨ri,rg⟩:Gv.Ref)) (Gv.lk Wv.O8 m (⟨ri,rg⟩:Gv.Ref)).l=x at *
   generalize hy:Gv.gather Wv.O8 k x.2 (Gv.lk Wv.O8 m (⟨ri,rg⟩:Gv.Ref)).r=y at *
   have hxp:PP x.2:=by rw[← hx];exact Gv.gather_ok.2 (Gv.see_ok.2 hp)
   have hd2:∀ q,Gv.Deep Wv.O8 k x.2 q↔Gv.Deep Wv.O8 k m q:=fun q=>by rw[← hx,Gv.Deep_gather,Gv.Deep_see]
   simp only[cut_eq (show(a0++x.1.map fun e=>e.t).length=n2+x.1.length by simp[ha0]),cut_eq (show(a1++x.1.map fun e=>e.ins).length=n2+x.1.length by simp[ha1]),cut_eq (show(a2++x.1.map fun e=>e.it.k).length=n2+x.1.length by simp[ha2]),cut_eq (show(a3++x.1.map fun e=>e.it.i).length=n2+x.1.length by simp[ha3]),cut_eq (show(a4++x.1.map fun e=>e.here).length=n2+x.1.length by simp[ha4]),cut_eq (show(a5++x.1.map fun e=>e.tf).length=n2+x.1.length by simp[ha5]),cut_eq (show(a6++x.1.map fun e=>e.tk.k).length=n2+x.1.length by simp[ha6]),cut_eq (show(a7++x.1.map fun e=>e.tk.i).length=n2+x.1.length by simp[ha7]),c1,c2,Gv.Deep_see,hd2]
   repeat' (first|apply And.intro|apply Vc.mk|apply fits.mk|intro h|apply Post.mk)
   all_goals (try simp only[sB] at *)
   all_goals first|contradiction|omega|exact vb1 ‹_›|exact vb2 ‹_›|exact vb3 ‹_›|exact⟨rfl,by omega⟩|exact rfl|(simp[*,-List.getD_eq_getElem?_getD];done)|skip
   all_goals first|omega|assumption|exact Gv.see_ok.2 hp|(rcases hd with hd|hd;exfalso;omega;first|exact hd.1|exact hd.2)|(have:=hb2 (by assumption);omega)|(simp;omega)|skip
   ·have h0:(Gv.lk Wv.O8 m (⟨ri,rg⟩:Gv.Ref)).h=0:=by assumption
    rw[e0 h0];simp only[List.length_nil,if_true];refine⟨[0,1,2,1],?_,rfl,?_,rfl,rfl,rfl,(by kernel_rfl)⟩
    ·rfl
    ·simp[elL,Pulls,pullB,nth,at2,dnL,dnV,mvL,mvV,mvA,mvQ_lt,blt_true,blt_false,RowLe,colI,colB]
   ·have h0:(Gv.lk Wv.O8 m (⟨ri,rg⟩:Gv.Ref)).h≠0:=by assumption
    rw[e1 h0];have e2:n2+(x.1++(Gv.lk Wv.O8 m (⟨ri,rg⟩:Gv.Ref)).e::y.1).length=n2+x.1.length+1+y.1.length:=by simp;omega
    have e3:(x.1++(Gv.lk Wv.O8 m (⟨ri,rg⟩:Gv.Ref)).e::y.1).length≠0:=by simp
    simp only[e2,if_neg e3,ite_self];refine⟨[0,1,2,9],?_,rfl,?_,rfl,rfl,rfl,(by kernel_rfl)⟩
    ·rfl
    ·simp[elL,Pulls,pullB,nth,at2,dnL,dnV,mvL,mvV,mvA,mvQ_lt,blt_true,blt_false,RowLe,colI,colB]
     all_goals first|rfl|omega|skip
  ·cases hx
set_option maxHeartbeats 16000000
def betP  (k:Nat):Prim Rs:=fun args hh=>match args,hh with
 |[.pointer (some ⟨0,0,none⟩),.agg ⟨xN⟩,.int .i64 x_,.int .i64 y_],[some (.inl (92,[.pointer (some ⟨1,0,none⟩),.int .i64 ti,.int .i64 tg])),some (.inr (.inr (.inr (.pool m))))]=>some ⟨xN=ndL (ndOf xN)/\(PP m/\Gv.BetE Wv.O8 k m (ndOf xN) x_ y_),.agg ⟨ptL (Gv.between Wv.O8 k m (ndOf xN) x_ y_).1⟩,none,[some (.inl (92,[.pointer (some ⟨1,0,none⟩),.int .i64 ti,.int .i64 tg])),some (.inr (.inr (.inr (.pool (Gv.between Wv.O8 k m (ndOf xN) x_ y_).2))))],[],[(0,0)]⟩
 |_,_=>none
def TBet (k:Nat):Tab Rs:=[(1000000000,wrapCon),(64,liftC zN 2 (con1 lookP)),(74,liftC zN 2 (con1 oneP)),(116,liftC zN 2 (con1 plusP)),(95,liftC zN 2 (con1 (betP k)))]
theorem bet_ok:∀ k:Nat,ConOk D Tryz.prog 95 (con1 (betP k))
 |0=>by
  refine prK Tryz.f95 fun args hh x hx=>?_
  unfold betP at hx;split at hx
  ·rename_i xN x_ y_ ti tg m;injection hx with hx
   subst hx;refine q4 fun _ hv=>?_
   exact False.elim (And.right (And.right hv))
  ·cases hx
 |k+1=>by
  have ih:=bet_ok k;refine prK Tryz.f95 fun args hh x hx=>?_
  unfold betP at hx;split at hx
  ·rename_i xN x_ y_ ti tg m;injection hx with hx
   subst hx;refine q4 fun _ hv=>?_
   obtain⟨hq0,hv⟩:=hv;generalize ndOf xN=xn at *;subst hq0;obtain⟨hp,hd⟩:=hv
   generalize hG:Rx.Ends (R:=Rs) _ _=G;refine rx_ok (T:=(TBet k)) (show TabOk D Tryz.prog (TBet k) from⟨wrapCon_ok,liftC_ok _ _ look_ok,liftC_ok _ _ one_ok,liftC_ok _ _ plus_ok,liftC_ok _ _ ih,trivial⟩) mixed 200 ?_
   refine as_text (q:=let Z1:=(if(0:Int)>x_ then(0:Int) else x_);let Z2:=(Gv.Node.all xn);let Z3:=(ptL (Gv.Part.mk 0 (Wv.Sw.mk (Ti.Td.mk 0 0 0) (Ti.Td.mk 0 0 0) 0 0 (Wv.It.mk 0 0) false (Wv.It.mk 0 0) false (Wv.It.mk 0 0))));let Z4:=(if Gv.Part.n Z2<y_ then Gv.Part.n Z2 else y_);let Z5:=(Gv.lk Wv.O8 m (Gv.Node.l xn));let Z6:=(Gv.Part.n (Gv.Node.all Z5)<if Gv.Part.n Z2<y_ then Gv.Part.n Z2 else y_);let Z7:=(Prod.fst (Gv.between Wv.O8 k (Gv.see m (Gv.Node.l xn)) Z5 Z1 Z4));let Z8:=(Gv.plusP Wv.O8 Z7 (Gv.one Wv.O8 (Gv.Node.e xn)));let Z9:=(Prod.snd (Gv.between Wv.O8 k (Gv.see m (Gv.Node.l xn)) Z5 Z1 Z4));let Z10:=(Gv.lk Wv.O8 Z9 (Gv.Node.r xn));let Z11:=(IntKind.wrap IntKind.i64 (IntKind.wrap IntKind.i64 (Z1-Gv.Part.n (Gv.Node.all Z5))-(1:Int)));let Z12:=(IntKind.wrap IntKind.i64 (IntKind.wrap IntKind.i64 (Z4-Gv.Part.n (Gv.Node.all Z5))-(1:Int)));let Z13:=(Gv.between Wv.O8 k (Gv.see Z9 (Gv.Node.r xn)) Z10 Z11 Z12);(decide (Z1≥if Gv.Part.n Z2<y_ then Gv.Part.n Z2 else y_)=true->Post (G (Value.agg (Array.mk Z3)) [trB 1 ti tg,oP m,some (.inl (119,(ndL xn))),some (.inl (117,Z3))]))/\(decide (Z1≥if Gv.Part.n Z2<y_ then Gv.Part.n Z2 else y_)=false->((Z1==(0:Int))=true->((Z4==Gv.Part.n Z2)=true->Post (G (Value.agg (Array.mk (ptL Z2))) [trB 1 ti tg,oP m,some (.inl (119,(ndL xn))),some (.inl (117,(ptL Z2)))]))/\((Z4==Gv.Part.n Z2)=false->Vc (PP m)/\Vc ((ndL Z5)=ndL Z5/\PP (Gv.see m (Gv.Node.l xn))/\Gv.BetE Wv.O8 k (Gv.see m (Gv.Node.l xn)) Z5 Z1 Z4)/\(decide (Z1≤Gv.Part.n (Gv.Node.all Z5))=true->(decide Z6=true->Vc ((elL (Gv.Node.e xn))=elL (Gv.Node.e xn)/\True)/\Vc ((ptL Z7)=ptL Z7/\(ptL (Gv.one Wv.O8 (Gv.Node.e xn)))=ptL (Gv.one Wv.O8 (Gv.Node.e xn))/\True)/\Vc True/\(decide (Z4≤IntKind.wrap IntKind.i64 (Gv.Part.n (Gv.Node.all Z5)+(1:Int)))=true->Post (G (Value.agg (Array.mk (ptL Z8))) [trB 1 ti tg,oP Z9,some (.inl (119,(ndL xn))),some (.inl (117,(ptL Z8))),some (.inl (119,(ndL Z5))),some (.inl (117,(ptL Z8)))]))/\(decide (Z4≤IntKind.wrap IntKind.i64 (Gv.Part.n (Gv.Node.all Z5)+(1:Int)))=false->Vc (PP Z9)/\Vc True/\Vc True/\Vc True/\Vc True/\Vc ((ndL Z10)=ndL Z10/\PP (Gv.see Z9 (Gv.Node.r xn))/\Gv.BetE Wv.O8 k (Gv.see Z9 (Gv.Node.r xn)) Z10 Z11 Z12)/\Vc ((ptL Z8)=ptL Z8/\(ptL (Prod.fst Z13))=ptL (Prod.fst Z13)/\True)/\Post (G (Value.agg (Array.mk (ptL (Gv.plusP Wv.O8 Z8 (Prod.fst Z13))))) [trB 1 ti tg,oP (Prod.snd Z13),some (.inl (119,(ndL xn))),some (.inl (117,(ptL (Gv.plusP Wv.O8 Z8 (Prod.fst Z13))))),some (.inl (119,(ndL Z5))),some (.inl (117,(ptL Z8)))])))/\(decide Z6=false->Vc True/\(decide (Z4≤IntKind.wrap IntKind.i64 (Gv.Part.n (Gv.Node.all Z5)+(1:Int)))=true->Post (G (Value.agg (Array.mk (ptL Z7))) [trB 1 ti tg,oP Z9,some (.inl (119,(ndL xn))),some (.inl (117,(ptL Z7))),some (.inl (119,(ndL Z5))),some (.inl (117,(ptL Z7)))]))/\(decide (Z4≤IntKind.wrap IntKind.i64 (Gv.Part.n (Gv.Node.all Z5)+(1:Int)))=false->Vc (PP Z9)/\Vc True/\Vc True/\Vc True/\Vc True/\Vc ((ndL Z10)=ndL Z10/\PP (Gv.see Z9 (Gv.Node.r xn))/\Gv.BetE Wv.O8 k (Gv.see Z9 (Gv.Node.r xn)) Z10 Z11 Z12)/\Vc ((ptL Z7)=ptL Z7/\(ptL (Prod.fst Z13))=ptL (Prod.fst Z13)/\True)/\Post (G (Value.agg (Array.mk (ptL (Gv.plusP Wv.O8 Z7 (Prod.fst Z13))))) [trB 1 ti tg,oP (Prod.snd Z13),some (.inl (119,(ndL xn))),some (.inl (117,(ptL (Gv.plusP Wv.O8 Z7 (Prod.fst Z13))))),some (.inl (119,(ndL Z5))),some (.inl (117,(ptL Z7)))]))))/\(decide (Z1≤Gv.Part.n (Gv.Node.all Z5))=false->Vc True/\(decide (Z4≤IntKind.wrap IntKind.i64 (Gv.Part.n (Gv.Node.all Z5)+(1:Int)))=true->Post (G (Value.agg (Array.mk (ptL Z7))) [trB 1 ti tg,oP Z9,some (.inl (119,(ndL xn))),some (.inl (117,(ptL Z7))),some (.inl (119,(ndL Z5))),some (.inl (117,(ptL Z7)))]))/\(decide (Z4≤IntKind.wrap IntKind.i64 (Gv.Part.n (Gv.Node.all Z5)+(1:Int)))=false->Vc (PP Z9)/\Vc True/\Vc True/\Vc True/\Vc True/\Vc ((ndL Z10)=ndL Z10/\PP (Gv.see Z9 (Gv.Node.r xn))/\Gv.BetE Wv.O8 k (Gv.see Z9 (Gv.Node.r xn)) Z10 Z11 Z12)/\Vc ((ptL Z7)=ptL Z7/\(ptL (Prod.fst Z13))=ptL (Prod.fst Z13)/\True)/\Post (G (Value.agg (Array.mk (ptL (Gv.plusP Wv.O8 Z7 (Prod.fst Z13))))) [trB 1 ti tg,oP (Prod.snd Z13),some (.inl (119,(ndL xn))),some (.inl (117,(ptL (Gv.plusP Wv.O8 Z7 (Prod.fst Z13))))),some (.inl (119,(ndL Z5))),some (.inl (117,(ptL Z7)))])))))/\((Z1==(0:Int))=false->Vc (PP m)/\Vc ((ndL Z5)=ndL Z5/\PP (Gv.see m (Gv.Node.l xn))/\Gv.BetE Wv.O8 k (Gv.see m (Gv.Node.l xn)) Z5 Z1 Z4)/\(decide (Z1≤Gv.Part.n (Gv.Node.all Z5))=true->(decide Z6=true->Vc ((elL (Gv.Node.e xn))=elL (Gv.Node.e xn)/\True)/\Vc ((ptL Z7)=ptL Z7/\(ptL (Gv.one Wv.O8 (Gv.Node.e xn)))=ptL (Gv.one Wv.O8 (Gv.Node.e xn))/\True)/\Vc True/\(decide (Z4≤IntKind.wrap IntKind.i64 (Gv.Part.n (Gv.Node.all Z5)+(1:Int)))=true->Post (G (Value.agg (Array.mk (ptL Z8))) [trB 1 ti tg,oP Z9,some (.inl (119,(ndL xn))),some (.inl (117,(ptL Z8))),some (.inl (119,(ndL Z5))),some (.inl (117,(ptL Z8)))]))/\(decide (Z4≤IntKind.wrap IntKind.i64 (Gv.Part.n (Gv.Node.all Z5)+(1:Int)))=false->Vc (PP Z9)/\Vc True/\Vc True/\Vc True/\Vc True/\Vc ((ndL Z10)=ndL Z10/\PP (Gv.see Z9 (Gv.Node.r xn))/\Gv.BetE Wv.O8 k (Gv.see Z9 (Gv.Node.r xn)) Z10 Z11 Z12)/\Vc ((ptL Z8)=ptL Z8/\(ptL (Prod.fst Z13))=ptL (Prod.fst Z13)/\True)/\Post (G (Value.agg (Array.mk (ptL (Gv.plusP Wv.O8 Z8 (Prod.fst Z13))))) [trB 1 ti tg,oP (Prod.snd Z13),some (.inl (119,(ndL xn))),some (.inl (117,(ptL (Gv.plusP Wv.O8 Z8 (Prod.fst Z13))))),some (.inl (119,(ndL Z5))),some (.inl (117,(ptL Z8)))])))/\(decide Z6=false->Vc True/\(decide (Z4≤IntKind.wrap IntKind.i64 (Gv.Part.n (Gv.Node.all Z5)+(1:Int)))=true->Post (G (Value.agg (Array.mk (ptL Z7))) [trB 1 ti tg,oP Z9,some (.inl (119,(ndL xn))),some (.inl (117,(ptL Z7))),some (.inl (119,(ndL Z5))),some (.inl (117,(ptL Z7)))]))/\(decide (Z4≤IntKind.wrap IntKind.i64 (Gv.Part.n (Gv.Node.all Z5)+(1:Int)))=false->Vc (PP Z9)/\Vc True/\Vc True/\Vc True/\Vc True/\Vc ((ndL Z10)=ndL Z10/\PP (Gv.see Z9 (Gv.Node.r xn))/\Gv.BetE Wv.O8 k (Gv.see Z9 (Gv.Node.r xn)) Z10 Z11 Z12)/\Vc ((ptL Z7)=ptL Z7/\(ptL (Prod.fst Z13))=ptL (Prod.fst Z13)/\True)/\Post (G (Value.agg (Array.mk (ptL (Gv.plusP Wv.O8 Z7 (Prod.fst Z13))))) [trB 1 ti tg,oP (Prod.snd Z13),some (.inl (119,(ndL xn))),some (.inl (117,(ptL (Gv.plusP Wv.O8 Z7 (Prod.fst Z13))))),some (.inl (119,(ndL Z5))),some (.inl (117,(ptL Z7)))]))))/\(decide (Z1≤Gv.Part.n (Gv.Node.all Z5))=false->Vc True/\(decide (Z4≤IntKind.wrap IntKind.i64 (Gv.Part.n (Gv.Node.all Z5)+(1:Int)))=true->Post (G (Value.agg (Array.mk (ptL Z7))) [trB 1 ti tg,oP Z9,some (.inl (119,(ndL xn))),some (.inl (117,(ptL Z7))),some (.inl (119,(ndL Z5))),some (.inl (117,(ptL Z7)))]))/\(decide (Z4≤IntKind.wrap IntKind.i64 (Gv.Part.n (Gv.Node.all Z5)+(1:Int)))=false->Vc (PP Z9)/\Vc True/\Vc True/\Vc True/\Vc True/\Vc ((ndL Z10)=ndL Z10/\PP (Gv.see Z9 (Gv.Node.r xn))/\Gv.BetE Wv.O8 k (Gv.see Z9 (Gv.Node.r xn)) Z10 Z11 Z12)/\Vc ((ptL Z7)=ptL Z7/\(ptL (Prod.fst Z13))=ptL (Prod.fst Z13)/\True)/\Post (G (Value.agg (Array.mk (ptL (Gv.plusP Wv.O8 Z7 (Prod.fst Z13))))) [trB 1 ti tg,oP (Prod.snd Z13),some (.inl (119,(ndL xn))),some (.inl (117,(ptL (Gv.plusP Wv.O8 Z7 (Prod.fst Z13))))),some (.inl (119,(ndL Z5))),some (.inl (117,(ptL Z7)))])))))) ?_ (by kernel_rfl)
   intro Z1 Z2 Z3 Z4 Z5 Z6 Z7 Z8 Z9 Z10 Z11 Z12 Z13;subst Z13 Z12 Z11 Z10 Z9 Z8 Z7 Z6 Z5 Z4 Z3 Z2 Z1;rw[Gv.BetE] at hd
   dsimp only [Gv.W,Gv.mx,Gv.mn] at hd
   have done:∀ (o:Gv.Part Wv.Sw) (m':Pl) (rest:Hp Rs),Gv.between Wv.O8 (k+1) m xn x_ y_=(o,m')->G (.agg ⟨ptL o⟩) ([some (.inl (92,[.pointer (some ⟨1,0,none⟩),.int .i64 ti,.int .i64 tg])),some (.inr (.inr (.inr (.pool m'))))]++rest):=by
    intro o m' rest e;subst hG;refine⟨[0,1],?_,rfl,⟨.inl rfl,?_,trivial⟩,rfl,rfl,rfl,rfl⟩
    ·simp only[e];rfl
    ·simp only[e];rfl
   clear hG;rw[Gv.between] at done
   dsimp only [Gv.W,Gv.mx,Gv.mn] at done
   repeat' (first|apply And.intro|apply Vc.mk|apply fits.mk|intro h|apply Post.mk)
   all_goals (try simp only[sB] at *)
   all_goals first|contradiction|omega|exact vb1 ‹_›|exact vb2 ‹_›|exact vb3 ‹_›|exact⟨rfl,by omega⟩|exact rfl|(simp[*,-List.getD_eq_getElem?_getD];done)|skip
   all_goals first|assumption|(simp only[Gv.ok_s];assumption)|skip
   all_goals first|exact(hd (by omega) (by omega)).1|exact(hd (by omega) (by omega)).2 (by omega)|skip
   all_goals (refine done _ _ _ ?_;repeat' split)
   all_goals first|rfl|(exfalso;omega)
  ·cases hx
def TNew:Tab Rs:=[(98,liftC zN 2 (con1 newP))]
theorem TNew_ok:TabOk D Tryz.prog TNew:=⟨liftC_ok _ _ new_ok,trivial⟩
def gnewP:Prim Rs:=fun args hh=>match args,hh with
 |[.int .i64 c],[]=>some ⟨True,.pointer (some ⟨0,0,none⟩),none,[some (.inl (92,[.pointer (some ⟨1,0,none⟩),.int .i64 Gv.r0.i,.int .i64 Gv.r0.g])),some (.inr (.inr (.inr (.pool ⟨[],[],[],[],0,min (max c 0) 16777216,0⟩))))],[],[(0,0)]⟩
 |_,_=>none
theorem gnew_ok:ConOk D Tryz.prog 65 (con1 gnewP):=by
 refine prK Tryz.f65 fun args hh x hx=>?_
 unfold gnewP at hx;split at hx
 ·rename_i c;injection hx with hx
  subst hx;refine q4 fun _ hv=>?_
  generalize hG:Rx.Ends (R:=Rs) _ _=G;refine rx_ok (T:=TNew) TNew_ok mixed 200 ?_;refine as_text (q:=Vc True/\Post (G (Value.pointer (some (Addr.mk 1 0 none))) [oP (Gv.PM.mk [] [] [] [] (0:Int) (min (max c (0:Int)) (16777216:Int)) (0:Int)),trB 0 0 0])) ?_ (by kernel_rfl)
  subst hG
  repeat' (first|apply And.intro|apply Vc.mk|apply fits.mk|intro h|apply Post.mk)
  all_goals (try simp only[sB] at *)
  all_goals first|contradiction|omega|exact vb1 ‹_›|exact vb2 ‹_›|exact vb3 ‹_›|exact⟨rfl,by omega⟩|exact rfl|(simp[*,-List.getD_eq_getElem?_getD];done)|skip
  exact⟨[1,0],rfl,rfl,⟨.inl rfl,rfl,trivial⟩,rfl,rfl,rfl,rfl⟩
 ·cases hx
def TLook1:Tab Rs:=[(64,liftC zN 2 (con1 lookP))]
theorem TLook1_ok:TabOk D Tryz.prog TLook1:=⟨liftC_ok _ _ look_ok,trivial⟩
def lenP:Prim Rs:=fun args hh=>match args,hh with
 |[.pointer (some ⟨0,0,none⟩)],[some (.inl (92,[.pointer (some ⟨1,0,none⟩),.int .i64 ti,.int .i64 tg])),some (.inr (.inr (.inr (.pool m))))]=>some ⟨PP m,.int .i64 (Gv.lk Wv.O8 m (⟨ti,tg⟩:Gv.Ref)).all.n,none,[some (.inl (92,[.pointer (some ⟨1,0,none⟩),.int .i64 ti,.int .i64 tg])),some (.inr (.inr (.inr (.pool (Gv.see m (⟨ti,tg⟩:Gv.Ref))))))],[],[(0,0)]⟩
 |_,_=>none
theorem len_ok:ConOk D Tryz.prog 35 (con1 lenP):=by
 refine prK Tryz.f35 fun args hh x hx=>?_
 unfold lenP at hx;split at hx
 ·rename_i ti tg m;injection hx with hx
  subst hx;refine q4 fun _ hv=>?_
  generalize hG:Rx.Ends (R:=Rs) _ _=G;refine rx_ok (T:=TLook1) TLook1_ok mixed 200 ?_;refine as_text (q:=Vc (PP m)/\Post (G (Value.int IntKind.i64 (Gv.Part.n (Gv.Node.all (Gv.lk Wv.O8 m (Gv.Ref.mk ti tg))))) [trB 1 ti tg,oP (Gv.see m (Gv.Ref.mk ti tg))])) ?_ (by kernel_rfl)
  subst hG
  repeat' (first|apply And.intro|apply Vc.mk|apply fits.mk|intro h|apply Post.mk)
  all_goals (try simp only[sB] at *)
  all_goals first|contradiction|omega|exact vb1 ‹_›|exact vb2 ‹_›|exact vb3 ‹_›|exact⟨rfl,by omega⟩|exact rfl|(simp[*,-List.getD_eq_getElem?_getD];done)|skip
  all_goals first|assumption|(simp only[Gv.ok_s];assumption)|skip
  exact⟨[0,1],rfl,rfl,⟨.inl rfl,rfl,trivial⟩,rfl,rfl,rfl,rfl⟩
 ·cases hx
def TVis:Tab Rs:=[(93,liftC zN 2 (con1 visitsP))]
theorem TVis_ok:TabOk D Tryz.prog TVis:=⟨liftC_ok _ _ visits_ok,trivial⟩
def gvisitsP:Prim Rs:=fun args hh=>match args,hh with
 |[.pointer (some ⟨0,0,none⟩)],[some (.inl (92,[.pointer (some ⟨1,0,none⟩),.int .i64 ti,.int .i64 tg])),some (.inr (.inr (.inr (.pool m))))]=>some ⟨True,.int .i64 m.visits,none,hh,[],[]⟩
 |_,_=>none
theorem gvisits_ok:ConOk D Tryz.prog 60 (con1 gvisitsP):=by
 refine prK Tryz.f60 fun args hh x hx=>?_
 unfold gvisitsP at hx;split at hx
 ·rename_i ti tg m;injection hx with hx
  subst hx;refine q4 fun _ hv=>?_
  generalize hG:Rx.Ends (R:=Rs) _ _=G;refine rx_ok (T:=TVis) TVis_ok mixed 200 ?_;refine as_text (q:=Vc True/\Post (G (Value.int IntKind.i64 (Gv.PM.visits m)) [trB 1 ti tg,oP m])) ?_ (by kernel_rfl)
  subst hG
  repeat' (first|apply And.intro|apply Vc.mk|apply fits.mk|intro h|apply Post.mk)
  all_goals (try simp only[sB] at *)
  all_goals first|contradiction|omega|exact vb1 ‹_›|exact vb2 ‹_›|exact vb3 ‹_›|exact⟨rfl,by omega⟩|exact rfl|(simp[*,-List.getD_eq_getElem?_getD];done)|skip
  exact⟨[0,1],rfl,rfl,⟨.inl rfl,rfl,trivial⟩,rfl,rfl,rfl,rfl⟩
 ·cases hx
def gputP (K:Nat):Prim Rs:=fun args hh=>match args,hh with
 |[.pointer (some ⟨0,0,none⟩),.agg ⟨kE⟩],[some (.inl (92,[.pointer (some ⟨1,0,none⟩),.int .i64 ti,.int .i64 tg])),some (.inr (.inr (.inr (.pool m))))]=>some ⟨kE=elL (elOf kE)/\(PP m/\Gv.PutD Wv.O8 K m (⟨ti,tg⟩:Gv.Ref) (elOf kE)),.bool (Gv.putF Wv.O8 K m (⟨ti,tg⟩:Gv.Ref) (elOf kE)).1,none,[some (.inl (92,[.pointer (some ⟨1,0,none⟩),.int .i64 (Gv.putF Wv.O8 K m (⟨ti,tg⟩:Gv.Ref) (elOf kE)).2.1.i,.int .i64 (Gv.putF Wv.O8 K m (⟨ti,tg⟩:Gv.Ref) (elOf kE)).2.1.g])),some (.inr (.inr (.inr (.pool (Gv.putF Wv.O8 K m (⟨ti,tg⟩:Gv.Ref) (elOf kE)).2.2))))],[],[(0,0)]⟩
 |_,_=>none
def TGPut (K:Nat):Tab Rs:=[(72,liftC zN 2 (con1 (replaceP K))),(74,liftC zN 2 (con1 oneP)),(73,liftC zN 2 (con1 putP)),(75,liftC zN 2 (con1 (hangP K)))]
theorem gput_ok (K:Nat):ConOk D Tryz.prog 51 (con1 (gputP K)):=by
 refine prK Tryz.f51 fun args hh x hx=>?_
 unfold gputP at hx;split at hx
 ·rename_i kE ti tg m;injection hx with hx
  subst hx;refine q4 fun _ hv=>?_
  obtain⟨hq0,hv⟩:=hv;generalize elOf kE=ke at *;subst hq0;obtain⟨hp,hd⟩:=hv
  generalize hG:Rx.Ends (R:=Rs) _ _=G;refine rx_ok (T:=(TGPut K)) (show TabOk D Tryz.prog (TGPut K) from⟨liftC_ok _ _ (replace_ok K),liftC_ok _ _ one_ok,liftC_ok _ _ put_ok,liftC_ok _ _ (hang_ok K),trivial⟩) mixed 200 ?_
  refine as_text (q:=let Z1:=(Gv.replace Wv.O8 K m (Gv.Ref.mk ti tg) ke);let Z2:=(Gv.Node.mk ke (Gv.Ref.mk (0:Int) (0:Int)) (Gv.Ref.mk (0:Int) (0:Int)) (Gv.one Wv.O8 ke) (1:Int));let Z3:=(Gv.put zd (Prod.snd Z1) Z2);let Z4:=(Value.bool !decide (Gv.PM.held (Prod.snd Z1)=Gv.PM.cap (Prod.snd Z1)));let Z5:=(Gv.hang Wv.O8 K Z3 (Gv.Ref.mk ti tg) (Gv.putR zd (Prod.snd Z1)) ke);Vc ((elL ke)=elL ke/\PP m/\Gv.Deep Wv.O8 K m (Gv.Ref.mk ti tg))/\(Prod.fst Z1=true->Post (G (Value.bool true) [trB 1 ti tg,oP (Prod.snd Z1),some (.inl (49,(elL ke)))]))/\(Prod.fst Z1=false->Vc ((elL ke)=elL ke/\True)/\Vc ((ndL (Gv.Node.mk ke (Gv.Ref.mk 0 0) (Gv.Ref.mk 0 0) (Gv.one Wv.O8 ke) 1))=ndL Z2/\PP (Prod.snd Z1))/\((!decide (Gv.PM.held (Prod.snd Z1)=Gv.PM.cap (Prod.snd Z1)))=true->Vc ((elL ke)=elL ke/\PP Z3/\Gv.Deep Wv.O8 K Z3 (Gv.Ref.mk ti tg))/\Post (G Z4 [trB 1 (Gv.Ref.i (Prod.fst Z5)) (Gv.Ref.g (Prod.fst Z5)),oP (Prod.snd Z5),some (.inl (49,(elL ke))),some (.inl (90,[Value.int IntKind.i64 (Gv.Ref.i (Gv.putR zd (Prod.snd Z1))),Value.int IntKind.i64 (Gv.Ref.g (Gv.putR zd (Prod.snd Z1)))]))]))/\((!decide (Gv.PM.held (Prod.snd Z1)=Gv.PM.cap (Prod.snd Z1)))=false->Post (G Z4 [trB 1 ti tg,oP Z3,some (.inl (49,(elL ke))),some (.inl (90,[Value.int IntKind.i64 (Gv.Ref.i (Gv.putR zd (Prod.snd Z1))),Value.int IntKind.i64 (Gv.Ref.g (Gv.putR zd (Prod.snd Z1)))]))])))) ?_ (by kernel_rfl)
  intro Z1 Z2 Z3 Z4 Z5;subst Z5 Z4 Z3 Z2 Z1;obtain⟨hd1,hd2⟩:=hd;have done:∀ (b:Bool) (i g:Int) (m':Pl) (rest:Hp Rs),Gv.putF Wv.O8 K m (⟨ti,tg⟩:Gv.Ref) ke=(b,⟨i,g⟩,m')->G (.bool b) ([some (.inl (92,[.pointer (some ⟨1,0,none⟩),.int .i64 (⟨i,g⟩:Gv.Ref).i,.int .i64 (⟨i,g⟩:Gv.Ref).g])),some (.inr (.inr (.inr (.pool m'))))]++rest):=by
   intro b i g m' rest e;subst hG;refine⟨[0,1],?_,rfl,⟨.inl ?_,?_,trivial⟩,rfl,rfl,rfl,rfl⟩
   ·simp only[e];rfl
   ·simp only[e];rfl
   ·simp only[e];rfl
  clear hG
  repeat' (first|apply And.intro|apply Vc.mk|apply fits.mk|intro h|apply Post.mk)
  all_goals (try simp only[sB] at *)
  all_goals first|contradiction|omega|exact vb1 ‹_›|exact vb2 ‹_›|exact vb3 ‹_›|exact⟨rfl,by omega⟩|exact rfl|(simp[*,-List.getD_eq_getElem?_getD];done)|skip
  all_goals first|assumption|(simp only[Gv.ok_s];assumption)|skip
  all_goals first|exact(hd2 (by assumption)).1|exact(hd2 (by assumption)).2|skip
  all_goals (refine done _ _ _ _ _ ?_;unfold Gv.putF;repeat' split)
  all_goals first|rfl|(exfalso;simp_all;done)|(refine Prod.ext ?_ rfl;simp[*];done)
 ·cases hx
def gdropP (K:Nat):Prim Rs:=fun args hh=>match args,hh with
 |[.pointer (some ⟨0,0,none⟩),.agg ⟨kE⟩],[some (.inl (92,[.pointer (some ⟨1,0,none⟩),.int .i64 ti,.int .i64 tg])),some (.inr (.inr (.inr (.pool m))))]=>some ⟨kE=elL (elOf kE)/\(PP m/\Gv.PickD Wv.O8 K K m (⟨ti,tg⟩:Gv.Ref) (elOf kE)),.tuple #[.agg ⟨elL (Gv.dropF Wv.O8 K m (⟨ti,tg⟩:Gv.Ref) (elOf kE)).1⟩,.bool (Gv.dropF Wv.O8 K m (⟨ti,tg⟩:Gv.Ref) (elOf kE)).2.1],none,[some (.inl (92,[.pointer (some ⟨1,0,none⟩),.int .i64 (Gv.dropF Wv.O8 K m (⟨ti,tg⟩:Gv.Ref) (elOf kE)).2.2.1.i,.int .i64 (Gv.dropF Wv.O8 K m (⟨ti,tg⟩:Gv.Ref) (elOf kE)).2.2.1.g])),some (.inr (.inr (.inr (.pool (Gv.dropF Wv.O8 K m (⟨ti,tg⟩:Gv.Ref) (elOf kE)).2.2.2))))],[],[(0,0)]⟩
 |_,_=>none
def TGDrop (K:Nat):Tab Rs:=[(89,liftC zN 2 (con1 (pickP K K))),(90,liftC zN 2 (con1 dropP))]
theorem gdrop_ok (K:Nat):ConOk D Tryz.prog 58 (con1 (gdropP K)):=by
 refine prK Tryz.f58 fun args hh x hx=>?_
 unfold gdropP at hx;split at hx
 ·rename_i kE ti tg m;injection hx with hx
  subst hx;refine q4 fun _ hv=>?_
  obtain⟨hq0,hv⟩:=hv;generalize elOf kE=ke at *;subst hq0;obtain⟨hp,hd⟩:=hv
  generalize hG:Rx.Ends (R:=Rs) _ _=G;refine rx_ok (T:=(TGDrop K)) (show TabOk D Tryz.prog (TGDrop K) from⟨liftC_ok _ _ (pick_ok K K),liftC_ok _ _ drop_ok,trivial⟩) mixed 200 ?_
  refine as_text (q:=let Z1:=(Prod.snd (Prod.snd (Gv.pick Wv.O8 K K m (Gv.Ref.mk ti tg) ke)));let Z2:=(Prod.fst (Prod.snd (Gv.pick Wv.O8 K K m (Gv.Ref.mk ti tg) ke)));let Z3:=(Gv.Ref.i (Prod.fst (Gv.pick Wv.O8 K K m (Gv.Ref.mk ti tg) ke)));let Z4:=(Gv.Ref.g (Prod.fst (Gv.pick Wv.O8 K K m (Gv.Ref.mk ti tg) ke)));Vc ((elL ke)=elL ke/\PP m/\Gv.PickD Wv.O8 K K m (Gv.Ref.mk ti tg) ke)/\Vc (PP Z1)/\Post (G (Value.tuple (Array.mk [Value.agg (Array.mk (elL (Gv.Node.e (Gv.look zd Z1 Z2)))),Value.bool (Gv.has Z1 Z2)])) [trB 1 Z3 Z4,oP (Gv.drop zd Z1 Z2),some (.inl (49,(elL ke))),some (.inl (49,(elL (Gv.Node.e (Gv.look zd Z1 Z2))))),some (.inl (90,[Value.int IntKind.i64 Z3,Value.int IntKind.i64 Z4])),some (.inl (90,[Value.int IntKind.i64 (Gv.Ref.i Z2),Value.int IntKind.i64 (Gv.Ref.g Z2)])),some (.inl (119,(ndL (Gv.look zd Z1 Z2))))])) ?_ (by kernel_rfl)
  intro Z1 Z2 Z3 Z4;subst Z4 Z3 Z2 Z1;subst hG
  repeat' (first|apply And.intro|apply Vc.mk|apply fits.mk|intro h|apply Post.mk)
  all_goals (try simp only[sB] at *)
  all_goals first|contradiction|omega|exact vb1 ‹_›|exact vb2 ‹_›|exact vb3 ‹_›|exact⟨rfl,by omega⟩|exact rfl|(simp[*,-List.getD_eq_getElem?_getD];done)|skip
  all_goals first|assumption|(simp only[Gv.ok_s];assumption)|skip
  exact⟨[0,1],rfl,rfl,⟨.inl rfl,rfl,trivial⟩,rfl,rfl,rfl,rfl⟩
 ·cases hx
def gbetP (K:Nat):Prim Rs:=fun args hh=>match args,hh with
 |[.pointer (some ⟨0,0,none⟩),.int .i64 x_,.int .i64 y_],[some (.inl (92,[.pointer (some ⟨1,0,none⟩),.int .i64 ti,.int .i64 tg])),some (.inr (.inr (.inr (.pool m))))]=>some ⟨PP m/\Gv.BetE Wv.O8 K (Gv.see m (⟨ti,tg⟩:Gv.Ref)) (Gv.lk Wv.O8 m (⟨ti,tg⟩:Gv.Ref)) x_ y_,.agg ⟨smL (Gv.between Wv.O8 K (Gv.see m (⟨ti,tg⟩:Gv.Ref)) (Gv.lk Wv.O8 m (⟨ti,tg⟩:Gv.Ref)) x_ y_).1.sum⟩,none,[some (.inl (92,[.pointer (some ⟨1,0,none⟩),.int .i64 ti,.int .i64 tg])),some (.inr (.inr (.inr (.pool (Gv.between Wv.O8 K (Gv.see m (⟨ti,tg⟩:Gv.Ref)) (Gv.lk Wv.O8 m (⟨ti,tg⟩:Gv.Ref)) x_ y_).2))))],[],[(0,0)]⟩
 |_,_=>none
def TGBet (K:Nat):Tab Rs:=[(64,liftC zN 2 (con1 lookP)),(95,liftC zN 2 (con1 (betP K)))]
theorem gbet_ok (K:Nat):ConOk D Tryz.prog 62 (con1 (gbetP K)):=by
 refine prK Tryz.f62 fun args hh x hx=>?_
 unfold gbetP at hx;split at hx
 ·rename_i x_ y_ ti tg m;injection hx with hx
  subst hx;refine q4 fun _ hv=>?_
  obtain⟨hp,hd⟩:=hv;generalize hG:Rx.Ends (R:=Rs) _ _=G;refine rx_ok (T:=(TGBet K)) (show TabOk D Tryz.prog (TGBet K) from⟨liftC_ok _ _ look_ok,liftC_ok _ _ (bet_ok K),trivial⟩) mixed 200 ?_
  refine as_text (q:=let Z1:=(Gv.lk Wv.O8 m (Gv.Ref.mk ti tg));let Z2:=(smL (Gv.Part.sum (Prod.fst (Gv.between Wv.O8 K (Gv.see m (Gv.Ref.mk ti tg)) Z1 x_ y_))));Vc (PP m)/\Vc ((ndL Z1)=ndL Z1/\PP (Gv.see m (Gv.Ref.mk ti tg))/\Gv.BetE Wv.O8 K (Gv.see m (Gv.Ref.mk ti tg)) Z1 x_ y_)/\Post (G (Value.agg (Array.mk Z2)) [trB 1 ti tg,oP (Prod.snd (Gv.between Wv.O8 K (Gv.see m (Gv.Ref.mk ti tg)) Z1 x_ y_)),some (.inl (53,Z2))])) ?_ (by kernel_rfl)
  intro Z1 Z2;subst Z2 Z1;subst hG
  repeat' (first|apply And.intro|apply Vc.mk|apply fits.mk|intro h|apply Post.mk)
  all_goals (try simp only[sB] at *)
  all_goals first|contradiction|omega|exact vb1 ‹_›|exact vb2 ‹_›|exact vb3 ‹_›|exact⟨rfl,by omega⟩|exact rfl|(simp[*,-List.getD_eq_getElem?_getD];done)|skip
  all_goals first|assumption|(simp only[Gv.ok_s];assumption)|skip
  exact⟨[0,1],rfl,rfl,⟨.inl rfl,rfl,trivial⟩,rfl,rfl,rfl,rfl⟩
 ·cases hx
theorem len_keep:KeepC [0] (con1 lenP):=by
 intro b args h x hx i hi hl;cases b with
 |false=>cases hx
 |true =>
  simp only[con1,Con.go,lenP] at hx;split at hx
  ·injection hx with hx
   subst hx;simp only[List.mem_singleton] at hi;subst hi
   rfl
  ·cases hx
def gallP (K:Nat):Prim Rs:=fun args hh=>match args,hh with
 |[.pointer (some ⟨0,0,none⟩)],[some (.inl (92,[.pointer (some ⟨1,0,none⟩),.int .i64 ti,.int .i64 tg])),some (.inr (.inr (.inr (.pool m))))]=>some ⟨PP m/\Gv.Deep Wv.O8 K m (⟨ti,tg⟩:Gv.Ref)/\(Gv.lk Wv.O8 m (⟨ti,tg⟩:Gv.Ref)).all.n=(Gv.gather Wv.O8 K (Gv.see m (⟨ti,tg⟩:Gv.Ref)) (⟨ti,tg⟩:Gv.Ref)).1.length/\(Gv.gather Wv.O8 K (Gv.see m (⟨ti,tg⟩:Gv.Ref)) (⟨ti,tg⟩:Gv.Ref)).1.length<900000,.slice (some ⟨2,0,some 8000⟩) (Gv.gather Wv.O8 K (Gv.see m (⟨ti,tg⟩:Gv.Ref)) (⟨ti,tg⟩:Gv.Ref)).1.length 0,none,[some (.inl (92,[.pointer (some ⟨1,0,none⟩),.int .i64 ti,.int .i64 tg])),some (.inr (.inr (.inr (.pool (Gv.gather Wv.O8 K (Gv.see m (⟨ti,tg⟩:Gv.Ref)) (⟨ti,tg⟩:Gv.Ref)).2)))),some (.inr (.inl (49,⟨[.int .i64 0,.bool false,.int .i64 0,.int .i64 0,.bool false,.bool false,.int .i64 0,.int .i64 0],(Gv.gather Wv.O8 K (Gv.see m (⟨ti,tg⟩:Gv.Ref)) (⟨ti,tg⟩:Gv.Ref)).1.length,[⟨((Gv.gather Wv.O8 K (Gv.see m (⟨ti,tg⟩:Gv.Ref)) (⟨ti,tg⟩:Gv.Ref)).1.map fun e=>e.t),[],[]⟩,⟨[],((Gv.gather Wv.O8 K (Gv.see m (⟨ti,tg⟩:Gv.Ref)) (⟨ti,tg⟩:Gv.Ref)).1.map fun e=>e.ins),[]⟩,⟨((Gv.gather Wv.O8 K (Gv.see m (⟨ti,tg⟩:Gv.Ref)) (⟨ti,tg⟩:Gv.Ref)).1.map fun e=>e.it.k),[],[]⟩,⟨((Gv.gather Wv.O8 K (Gv.see m (⟨ti,tg⟩:Gv.Ref)) (⟨ti,tg⟩:Gv.Ref)).1.map fun e=>e.it.i),[],[]⟩,⟨[],((Gv.gather Wv.O8 K (Gv.see m (⟨ti,tg⟩:Gv.Ref)) (⟨ti,tg⟩:Gv.Ref)).1.map fun e=>e.here),[]⟩,⟨[],((Gv.gather Wv.O8 K (Gv.see m (⟨ti,tg⟩:Gv.Ref)) (⟨ti,tg⟩:Gv.Ref)).1.map fun e=>e.tf),[]⟩,⟨((Gv.gather Wv.O8 K (Gv.see m (⟨ti,tg⟩:Gv.Ref)) (⟨ti,tg⟩:Gv.Ref)).1.map fun e=>e.tk.k),[],[]⟩,⟨((Gv.gather Wv.O8 K (Gv.see m (⟨ti,tg⟩:Gv.Ref)) (⟨ti,tg⟩:Gv.Ref)).1.map fun e=>e.tk.i),[],[]⟩]⟩)))],[],[(0,0)]⟩
 |_,_=>none
def TGAll (K:Nat):Tab Rs:=[(35,liftKC [0] 2 (con1 lenP)),(44,liftC zN 2 (con1 (gatherP K)))]
theorem gall_ok (K:Nat):ConOk D Tryz.prog 16 (con1 (gallP K)):=by
 refine prK Tryz.f16 fun args hh x hx=>?_
 unfold gallP at hx;split at hx
 ·rename_i ti tg m;injection hx with hx
  subst hx;refine q4 fun _ hv=>?_
  obtain⟨hp,hd⟩:=hv;generalize hG:Rx.Ends (R:=Rs) _ _=G;refine rx_ok (T:=(TGAll K)) (show TabOk D Tryz.prog (TGAll K) from⟨liftKC_ok _ _ len_ok len_keep,liftC_ok _ _ (gather_ok K),trivial⟩) mixed 200 ?_
  refine as_text (q:=let Z1:=(Gv.Node.all (Gv.lk Wv.O8 m (Gv.Ref.mk ti tg)));let Z2:=(Gv.gather Wv.O8 K (Gv.see m (Gv.Ref.mk ti tg)) (Gv.Ref.mk ti tg));let Z3:=(Prod.fst Z2);let Z4:=(elL (Wv.Mk.mk 0 false (Wv.It.mk 0 0) false false (Wv.It.mk 0 0)));Vc (PP m)/\Vc ((0:Int)≤(0:Int)/\(0:Int)≤Gv.Part.n Z1/\Gv.Part.n Z1*(64:Int)≤(140737488355328:Int)/\Gv.Part.n Z1≤(140737488355328:Int))/\Vc ((PP (Gv.see m (Gv.Ref.mk ti tg))/\0=0/\0=0/\0=0/\0=0/\0=0/\0=0/\0=0/\0=0/\0=0/\0+List.length Z3<900000)/\Gv.Deep Wv.O8 K (Gv.see m (Gv.Ref.mk ti tg)) (Gv.Ref.mk ti tg))/\Post (G (Value.slice (some (Addr.mk 4 0 (some 8000))) (0+List.length Z3) (if List.length Z3=0 then Int.toNat (Gv.Part.n Z1) else 0)) [trB 1 ti tg,oP (Prod.snd Z2),some (.inr (.inl (49,Row.mk Z4 0 [Col.mk [] [] [],Col.mk [] [] [],Col.mk [] [] [],Col.mk [] [] [],Col.mk [] [] [],Col.mk [] [] [],Col.mk [] [] [],Col.mk [] [] []]))),none,some (.inr (.inl (49,Row.mk Z4 (0+List.length Z3) [Col.mk ([]++List.map (fun e=>Wv.Mk.t e) Z3) [] [],Col.mk [] ([]++List.map (fun e=>Wv.Mk.ins e) Z3) [],Col.mk ([]++List.map (fun e=>Wv.It.k (Wv.Mk.it e)) Z3) [] [],Col.mk ([]++List.map (fun e=>Wv.It.i (Wv.Mk.it e)) Z3) [] [],Col.mk [] ([]++List.map (fun e=>Wv.Mk.here e) Z3) [],Col.mk [] ([]++List.map (fun e=>Wv.Mk.tf e) Z3) [],Col.mk ([]++List.map (fun e=>Wv.It.k (Wv.Mk.tk e)) Z3) [] [],Col.mk ([]++List.map (fun e=>Wv.It.i (Wv.Mk.tk e)) Z3) [] []])))])) ?_ (by kernel_rfl)
  intro Z1 Z2 Z3 Z4;subst Z4 Z3 Z2 Z1;subst hG;obtain⟨hd1,hd2,hd4⟩:=hd;have hd5:=(Gv.Deep_see (s:=(⟨ti,tg⟩:Gv.Ref))).2 hd1;have e2:(if(Gv.gather Wv.O8 K (Gv.see m (⟨ti,tg⟩:Gv.Ref)) (⟨ti,tg⟩:Gv.Ref)).1.length=0 then(Gv.lk Wv.O8 m (⟨ti,tg⟩:Gv.Ref)).all.n.toNat else 0)=0:=by rw[hd2];split<;>omega
  simp only[e2,Nat.zero_add,List.nil_append]
  repeat' (first|apply And.intro|apply Vc.mk|apply fits.mk|intro h|apply Post.mk)
  all_goals (try simp only[sB] at *)
  all_goals first|contradiction|omega|exact vb1 ‹_›|exact vb2 ‹_›|exact vb3 ‹_›|exact⟨rfl,by omega⟩|exact rfl|(simp[*,-List.getD_eq_getElem?_getD];done)|skip
  all_goals first|omega|assumption|exact Gv.see_ok.2 hp|(simp;done)|skip
  refine⟨[0,1,4],?_,rfl,?_,rfl,rfl,rfl,rfl⟩
  ·rfl
  ·simp[elL,Pulls,pullB,nth,at2,dnL,dnV,mvL,mvV,mvA,mvQ_lt,blt_true,blt_false,RowLe,colI,colB]
   all_goals first|rfl|skip
 ·cases hx
def gfindP (K:Nat):Prim Rs:=fun args hh=>match args,hh with
 |[.pointer (some ⟨0,0,none⟩),.agg ⟨kE⟩],[some (.inl (92,[.pointer (some ⟨1,0,none⟩),.int .i64 ti,.int .i64 tg])),some (.inr (.inr (.inr (.pool m))))]=>some ⟨kE=elL (elOf kE)/\(PP m/\Gv.FindE Wv.O8 K (Gv.see m (⟨ti,tg⟩:Gv.Ref)) (Gv.lk Wv.O8 m (⟨ti,tg⟩:Gv.Ref)) (elOf kE)),.tuple #[.agg ⟨elL (Gv.find Wv.O8 K (Gv.see m (⟨ti,tg⟩:Gv.Ref)) (Gv.lk Wv.O8 m (⟨ti,tg⟩:Gv.Ref)) (elOf kE)).1.1⟩,.bool (Gv.find Wv.O8 K (Gv.see m (⟨ti,tg⟩:Gv.Ref)) (Gv.lk Wv.O8 m (⟨ti,tg⟩:Gv.Ref)) (elOf kE)).1.2],none,[some (.inl (92,[.pointer (some ⟨1,0,none⟩),.int .i64 ti,.int .i64 tg])),some (.inr (.inr (.inr (.pool (Gv.find Wv.O8 K (Gv.see m (⟨ti,tg⟩:Gv.Ref)) (Gv.lk Wv.O8 m (⟨ti,tg⟩:Gv.Ref)) (elOf kE)).2))))],[],[(0,0)]⟩
 |_,_=>none
def TGFind (K:Nat):Tab Rs:=[(64,liftC zN 2 (con1 lookP)),(150,liftC zN 2 (con1 Wv.mcmpP))]
theorem gfind_ok (K:Nat):ConOk D Tryz.prog 57 (con1 (gfindP K)):=by
 refine prK Tryz.f57 fun args hh x hx=>?_
 unfold gfindP at hx;split at hx
 ·rename_i kE ti tg m;injection hx with hx
  subst hx;refine q4 fun _ hv=>?_
  obtain⟨hq0,hv⟩:=hv;generalize elOf kE=ke at *;subst hq0;obtain⟨hp,hd⟩:=hv
  generalize hG:Rx.Ends (R:=Rs) _ _=G;refine rx_ok (T:=(TGFind K)) (show TabOk D Tryz.prog (TGFind K) from⟨liftC_ok _ _ look_ok,liftC_ok _ _ Wv.mcmp_ok,trivial⟩) mixed 200 ?_
  refine as_text (q:=let Z1:=(Value.pointer (some (Addr.mk 0 0 none)));Vc (PP m)/\At D Tryz.prog (codeOf Tryz.f57) 2 (retK Tryz.prog (Array.toList (Func.results Tryz.f57)) G) [.inl [1,1,0,0],.inr (.inl 0),.inl [1,1,1]] (SS.mk [some Z1,some (Value.agg (Array.mk (elL ke))),none,some (Value.pointer (some (Addr.mk 2 0 none))),some (Value.pointer (some (Addr.mk 3 0 none))),some (Value.bool false),some (Value.pointer (some (Addr.mk 4 0 none))),none,none,some Z1,some Z1,some Z1,some (Value.pointer (some (Addr.mk 0 1 none))),some (Value.agg (Array.mk [Value.int IntKind.i64 ti,Value.int IntKind.i64 tg])),some (Value.agg (Array.mk (ndL (Gv.lk Wv.O8 m (Gv.Ref.mk ti tg))))),none,none,none,none,none,none,none,none,none,none,none,none,none,none,none,none,none,none,none,none,none,none,none] [(5,false)] [trB 1 ti tg,oP (Gv.see m (Gv.Ref.mk ti tg)),some (.inl (49,(elL ke))),some (.inl (49,(elL (Wv.Mk.mk 0 false (Wv.It.mk 0 0) false false (Wv.It.mk 0 0))))),some (.inl (119,(ndL (Gv.lk Wv.O8 m (Gv.Ref.mk ti tg)))))])) ?_ (by kernel_rfl)
  intro Z1;subst Z1;refine⟨⟨hp⟩,?_⟩;refine loop_atM (by kernel_rfl) (ι:=Nat×Nd×Pl) (fun s=>PP s.2.2/\Gv.FindE Wv.O8 s.1 s.2.2 s.2.1 ke/\Gv.find Wv.O8 s.1 s.2.2 s.2.1 ke=Gv.find Wv.O8 K (Gv.see m (⟨ti,tg⟩:Gv.Ref)) (Gv.lk Wv.O8 m (⟨ti,tg⟩:Gv.Ref)) ke) [0,3,4,5,6] (fun s=>[.pointer (some ⟨0,0,none⟩),.pointer (some ⟨2,0,none⟩),.pointer (some ⟨3,0,none⟩),.bool false,.pointer (some ⟨4,0,none⟩)]) (fun s=>[some (.inl (92,[.pointer (some ⟨1,0,none⟩),.int .i64 ti,.int .i64 tg])),some (.inr (.inr (.inr (.pool s.2.2)))),some (.inl (49,elL ke)),some (.inl (49,[.int .i64 0,.bool false,.int .i64 0,.int .i64 0,.bool false,.bool false,.int .i64 0,.int .i64 0])),some (.inl (119,ndL s.2.1))]) (fun s=>s.1) (Tryz.f57).ntmps (fun s hs=>⟨rfl,rfl,Nat.le_add_left _ _⟩) ⟨(K,Gv.lk Wv.O8 m (⟨ti,tg⟩:Gv.Ref),Gv.see m (⟨ti,tg⟩:Gv.Ref)),⟨Gv.see_ok.2 hp,hd,rfl⟩,⟨[0,1,2,3,4],rfl,⟨.inl rfl,rfl,.inl rfl,.inl rfl,.inl rfl,trivial⟩,rfl,rfl,rfl,rfl⟩⟩ fun s hs=>?_
  obtain⟨k,n,m2⟩:=s;obtain⟨s1,s2,s3⟩:=hs;simp only at s1 s2 s3;rcases k with _|k
  ·exact s2.elim
  refine rx_ok (T:=TGFind K) (show TabOk D Tryz.prog (TGFind K) from⟨liftC_ok _ _ look_ok,liftC_ok _ _ Wv.mcmp_ok,trivial⟩) mixed 200 ?_
  refine as_text (q:=let Z5:=Value.pointer (some (Addr.mk 4 0 none));let Z6:=Value.pointer (some (Addr.mk 2 0 none));let Z7:=Value.pointer (some (Addr.mk 3 0 none));let Z8:=Value.pointer (some (Addr.mk 0 0 none));let Z1:=(Gv.Ops.cmp Wv.O8 ke (Gv.Node.e (Prod.fst (n,m2)))==(0:Int));let Z2:=(Prod.snd (n,m2));let Z3:=(Gv.Ops.cmp Wv.O8 ke (Gv.Node.e (Prod.fst (n,m2)))<(0:Int));let Z4:=(elL (Wv.Mk.mk 0 false (Wv.It.mk 0 0) false false (Wv.It.mk 0 0)));(decide (Gv.Node.h (Prod.fst (n,m2))>(0:Int))=true->Vc True/\Vc True/\(Z1=true->Post (G (Value.tuple (Array.mk [Value.agg (Array.mk (elL (Gv.Node.e (Prod.fst (n,m2))))),Value.bool true])) [trB 1 ti tg,oP Z2,some (.inl (49,(elL ke))),some (.inl (49,(elL (Gv.Node.e (Prod.fst (n,m2)))))),some (.inl (119,(ndL (Prod.fst (n,m2)))))]))/\(Z1=false->(decide Z3=true->Vc (PP Z2)/\Post (∃ j,(PP (Prod.snd (Prod.snd j))/\Gv.FindE Wv.O8 (Prod.fst j) (Prod.snd (Prod.snd j)) (Prod.fst (Prod.snd j)) ke/\Gv.find Wv.O8 (Prod.fst j) (Prod.snd (Prod.snd j)) (Prod.fst (Prod.snd j)) ke=Gv.find Wv.O8 K (Gv.see m (Gv.Ref.mk ti tg)) (Gv.lk Wv.O8 m (Gv.Ref.mk ti tg)) ke)/\Prod.fst j<k+1/\FitsM Rs 2 (Func.ntmps Tryz.f57) [0,3,4,5,6] [Z8,Z6,Z7,Value.bool false,Z5] [trB 1 ti tg,oP (Prod.snd (Prod.snd j)),some (.inl ((49:TypeId),elL ke)),some (.inl ((49:TypeId),Z4)),some (.inl ((119:TypeId),ndL (Prod.fst (Prod.snd j))))] [some (Z8),some (Z6),some (Z7),some (Value.bool false),some (Z5)] [trB 1 ti tg,oP (Gv.see Z2 (Gv.Node.l (Prod.fst (n,m2)))),some (.inl (49,(elL ke))),some (.inl (49,Z4)),some (.inl (119,(ndL (Gv.lk Wv.O8 Z2 (Gv.Node.l (Prod.fst (n,m2)))))))] 38))/\(decide Z3=false->Vc (PP Z2)/\Post (∃ j,(PP (Prod.snd (Prod.snd j))/\Gv.FindE Wv.O8 (Prod.fst j) (Prod.snd (Prod.snd j)) (Prod.fst (Prod.snd j)) ke/\Gv.find Wv.O8 (Prod.fst j) (Prod.snd (Prod.snd j)) (Prod.fst (Prod.snd j)) ke=Gv.find Wv.O8 K (Gv.see m (Gv.Ref.mk ti tg)) (Gv.lk Wv.O8 m (Gv.Ref.mk ti tg)) ke)/\Prod.fst j<k+1/\FitsM Rs 2 (Func.ntmps Tryz.f57) [0,3,4,5,6] [Z8,Z6,Z7,Value.bool false,Z5] [trB 1 ti tg,oP (Prod.snd (Prod.snd j)),some (.inl ((49:TypeId),elL ke)),some (.inl ((49:TypeId),Z4)),some (.inl ((119:TypeId),ndL (Prod.fst (Prod.snd j))))] [some (Z8),some (Z6),some (Z7),some (Value.bool false),some (Z5)] [trB 1 ti tg,oP (Gv.see Z2 (Gv.Node.r (Prod.fst (n,m2)))),some (.inl (49,(elL ke))),some (.inl (49,Z4)),some (.inl (119,(ndL (Gv.lk Wv.O8 Z2 (Gv.Node.r (Prod.fst (n,m2)))))))] 38))))/\(decide (Gv.Node.h (Prod.fst (n,m2))>(0:Int))=false->Post (G (Value.tuple (Array.mk [Value.agg (Array.mk Z4),Value.bool false])) [trB 1 ti tg,oP Z2,some (.inl (49,(elL ke))),some (.inl (49,Z4)),some (.inl (119,(ndL (Prod.fst (n,m2))))),some (.inl (49,Z4))]))) ?_ (by kernel_rfl)
  intro Z5 Z6 Z7 Z8 Z1 Z2 Z3 Z4;subst Z4 Z3 Z2 Z1 Z8 Z7 Z6 Z5;rw[Gv.FindE] at s2;rw[Gv.find] at s3;subst hG
  repeat' (first|apply And.intro|apply Vc.mk|apply fits.mk|intro h|apply Post.mk)
  all_goals (try simp only[sB] at *)
  all_goals first|contradiction|omega|exact vb1 ‹_›|exact vb2 ‹_›|exact vb3 ‹_›|exact⟨rfl,by omega⟩|exact rfl|(simp[*,-List.getD_eq_getElem?_getD];done)|skip
  all_goals first|assumption|skip
  ·have h1:n.h>0:=by assumption
   have h2:Wv.O8.cmp ke n.e=0:=by assumption
   rw[if_pos h1,if_pos h2] at s3;rw[← s3];exact⟨[0,1],rfl,rfl,⟨.inl rfl,rfl,trivial⟩,rfl,rfl,rfl,rfl⟩
  ·have h1:n.h>0:=by assumption
   have h2:Wv.O8.cmp ke n.e≠0:=by assumption
   have h3:Wv.O8.cmp ke n.e<0:=by assumption
   rw[if_pos h1,if_neg h2,if_pos h3] at s3;exact⟨(k,Gv.lk Wv.O8 m2 n.l,Gv.see m2 n.l),⟨Gv.see_ok.2 s1,(s2 h1 h2).1 (by omega),s3⟩,Nat.lt_succ_self _,⟨[0,1,2,3,4],rfl,⟨.inl rfl,rfl,.inl rfl,.inl rfl,.inl rfl,trivial⟩,rfl,rfl,rfl,rfl⟩⟩
  ·have h1:n.h>0:=by assumption
   have h2:Wv.O8.cmp ke n.e≠0:=by assumption
   have h3:¬ Wv.O8.cmp ke n.e<0:=by omega
   rw[if_pos h1,if_neg h2,if_neg h3] at s3;exact⟨(k,Gv.lk Wv.O8 m2 n.r,Gv.see m2 n.r),⟨Gv.see_ok.2 s1,(s2 h1 h2).2 (by omega),s3⟩,Nat.lt_succ_self _,⟨[0,1,2,3,4],rfl,⟨.inl rfl,rfl,.inl rfl,.inl rfl,.inl rfl,trivial⟩,rfl,rfl,rfl,rfl⟩⟩
  ·have h1:¬ n.h>0:=by omega
   rw[if_neg h1] at s3;rw[← s3];exact⟨[0,1],rfl,rfl,⟨.inl rfl,rfl,trivial⟩,rfl,rfl,rfl,rfl⟩
 ·cases hx
def grankP (K:Nat):Prim Rs:=fun args hh=>match args,hh with
 |[.pointer (some ⟨0,0,none⟩),.agg ⟨kE⟩],[some (.inl (92,[.pointer (some ⟨1,0,none⟩),.int .i64 ti,.int .i64 tg])),some (.inr (.inr (.inr (.pool m))))]=>some ⟨kE=elL (elOf kE)/\(PP m/\Gv.RankE Wv.O8 K (Gv.see m (⟨ti,tg⟩:Gv.Ref)) (Gv.lk Wv.O8 m (⟨ti,tg⟩:Gv.Ref)) (elOf kE) 0),.int .i64 (Gv.rank Wv.O8 K (Gv.see m (⟨ti,tg⟩:Gv.Ref)) (Gv.lk Wv.O8 m (⟨ti,tg⟩:Gv.Ref)) (elOf kE) 0).1,none,[some (.inl (92,[.pointer (some ⟨1,0,none⟩),.int .i64 ti,.int .i64 tg])),some (.inr (.inr (.inr (.pool (Gv.rank Wv.O8 K (Gv.see m (⟨ti,tg⟩:Gv.Ref)) (Gv.lk Wv.O8 m (⟨ti,tg⟩:Gv.Ref)) (elOf kE) 0).2))))],[],[(0,0)]⟩
 |_,_=>none
def TGRank (K:Nat):Tab Rs:=[(1000000000,wrapCon),(64,liftC zN 2 (con1 lookP)),(150,liftC zN 2 (con1 Wv.mcmpP))]
theorem grank_ok (K:Nat):ConOk D Tryz.prog 49 (con1 (grankP K)):=by
 refine prK Tryz.f49 fun args hh x hx=>?_
 unfold grankP at hx;split at hx
 ·rename_i kE ti tg m;injection hx with hx
  subst hx;refine q4 fun _ hv=>?_
  obtain⟨hq0,hv⟩:=hv;generalize elOf kE=ke at *;subst hq0;obtain⟨hp,hd⟩:=hv
  generalize hG:Rx.Ends (R:=Rs) _ _=G;refine rx_ok (T:=(TGRank K)) (show TabOk D Tryz.prog (TGRank K) from⟨wrapCon_ok,liftC_ok _ _ look_ok,liftC_ok _ _ Wv.mcmp_ok,trivial⟩) mixed 200 ?_
  refine as_text (q:=let Z1:=(Value.pointer (some (Addr.mk 0 0 none)));Vc (PP m)/\At D Tryz.prog (codeOf Tryz.f49) 2 (retK Tryz.prog (Array.toList (Func.results Tryz.f49)) G) [.inl [1,1,1,0,0],.inr (.inl 0),.inl [1,1,1,1]] (SS.mk [some Z1,some (Value.agg (Array.mk (elL ke))),none,some (Value.pointer (some (Addr.mk 2 0 none))),some (Value.int IntKind.i64 0),some (Value.int IntKind.i64 0),some (Value.pointer (some (Addr.mk 3 0 none))),none,some Z1,some Z1,some Z1,some (Value.pointer (some (Addr.mk 0 1 none))),some (Value.agg (Array.mk [Value.int IntKind.i64 ti,Value.int IntKind.i64 tg])),some (Value.agg (Array.mk (ndL (Gv.lk Wv.O8 m (Gv.Ref.mk ti tg))))),none,none,none,none,none,none,none,none,none,none,none,none,none,none,none,none,none,none,none,none,none,none,none,none,none,none,none,none] [] [trB 1 ti tg,oP (Gv.see m (Gv.Ref.mk ti tg)),some (.inl (49,(elL ke))),some (.inl (119,(ndL (Gv.lk Wv.O8 m (Gv.Ref.mk ti tg)))))])) ?_ (by kernel_rfl)
  intro Z1;subst Z1;refine⟨⟨hp⟩,?_⟩;refine loop_atM (by kernel_rfl) (ι:=Nat×Nd×Pl×Int) (fun s=>PP s.2.2.1/\Gv.RankE Wv.O8 s.1 s.2.2.1 s.2.1 ke s.2.2.2/\Gv.rank Wv.O8 s.1 s.2.2.1 s.2.1 ke s.2.2.2=Gv.rank Wv.O8 K (Gv.see m (⟨ti,tg⟩:Gv.Ref)) (Gv.lk Wv.O8 m (⟨ti,tg⟩:Gv.Ref)) ke 0) [0,3,5,6] (fun s=>[.pointer (some ⟨0,0,none⟩),.pointer (some ⟨2,0,none⟩),.int .i64 s.2.2.2,.pointer (some ⟨3,0,none⟩)]) (fun s=>[some (.inl (92,[.pointer (some ⟨1,0,none⟩),.int .i64 ti,.int .i64 tg])),some (.inr (.inr (.inr (.pool s.2.2.1)))),some (.inl (49,elL ke)),some (.inl (119,ndL s.2.1))]) (fun s=>s.1) (Tryz.f49).ntmps (fun s hs=>⟨rfl,rfl,Nat.le_add_left _ _⟩) ⟨(K,Gv.lk Wv.O8 m (⟨ti,tg⟩:Gv.Ref),Gv.see m (⟨ti,tg⟩:Gv.Ref),0),⟨Gv.see_ok.2 hp,hd,rfl⟩,⟨[0,1,2,3],rfl,⟨.inl rfl,rfl,.inl rfl,.inl rfl,trivial⟩,rfl,rfl,rfl,rfl⟩⟩ fun s hs=>?_
  obtain⟨k,n,m2,c⟩:=s;obtain⟨s1,s2,s3⟩:=hs;simp only at s1 s2 s3;rcases k with _|k
  ·exact s2.elim
  refine rx_ok (T:=TGRank K) (show TabOk D Tryz.prog (TGRank K) from⟨wrapCon_ok,liftC_ok _ _ look_ok,liftC_ok _ _ Wv.mcmp_ok,trivial⟩) mixed 200 ?_
  refine as_text (q:=let Z3:=Value.pointer (some (Addr.mk 2 0 none));let Z4:=Value.pointer (some (Addr.mk 3 0 none));let Z5:=Value.pointer (some (Addr.mk 0 0 none));let Z6:=Value.int IntKind.i64;let Z1:=(Prod.fst (n,m2,c));let Z2:=(Prod.fst (Prod.snd (n,m2,c)));(decide (Gv.Node.h Z1>(0:Int))=true->Vc True/\Vc True/\(decide (Gv.Ops.cmp Wv.O8 ke (Gv.Node.e Z1)≤(0:Int))=true->Vc (PP Z2)/\Post (∃ j,(PP (Prod.fst (Prod.snd (Prod.snd j)))/\Gv.RankE Wv.O8 (Prod.fst j) (Prod.fst (Prod.snd (Prod.snd j))) (Prod.fst (Prod.snd j)) ke (Prod.snd (Prod.snd (Prod.snd j)))/\Gv.rank Wv.O8 (Prod.fst j) (Prod.fst (Prod.snd (Prod.snd j))) (Prod.fst (Prod.snd j)) ke (Prod.snd (Prod.snd (Prod.snd j)))=Gv.rank Wv.O8 K (Gv.see m (Gv.Ref.mk ti tg)) (Gv.lk Wv.O8 m (Gv.Ref.mk ti tg)) ke (0:Int))/\Prod.fst j<k+1/\FitsM Rs 2 (Func.ntmps Tryz.f49) [0,3,5,6] [Z5,Z3,Z6 (Prod.snd (Prod.snd (Prod.snd j))),Z4] [trB 1 ti tg,oP (Prod.fst (Prod.snd (Prod.snd j))),some (.inl ((49:TypeId),elL ke)),some (.inl ((119:TypeId),ndL (Prod.fst (Prod.snd j))))] [some (Z5),some (Z3),some (Z6 (Prod.snd (Prod.snd (n,m2,c)))),some (Z4)] [trB 1 ti tg,oP (Gv.see Z2 (Gv.Node.l Z1)),some (.inl (49,(elL ke))),some (.inl (119,(ndL (Gv.lk Wv.O8 Z2 (Gv.Node.l Z1)))))] 42))/\(decide (Gv.Ops.cmp Wv.O8 ke (Gv.Node.e Z1)≤(0:Int))=false->Vc (PP Z2)/\Vc True/\Vc True/\Post (∃ j,(PP (Prod.fst (Prod.snd (Prod.snd j)))/\Gv.RankE Wv.O8 (Prod.fst j) (Prod.fst (Prod.snd (Prod.snd j))) (Prod.fst (Prod.snd j)) ke (Prod.snd (Prod.snd (Prod.snd j)))/\Gv.rank Wv.O8 (Prod.fst j) (Prod.fst (Prod.snd (Prod.snd j))) (Prod.fst (Prod.snd j)) ke (Prod.snd (Prod.snd (Prod.snd j)))=Gv.rank Wv.O8 K (Gv.see m (Gv.Ref.mk ti tg)) (Gv.lk Wv.O8 m (Gv.Ref.mk ti tg)) ke (0:Int))/\Prod.fst j<k+1/\FitsM Rs 2 (Func.ntmps Tryz.f49) [0,3,5,6] [Z5,Z3,Z6 (Prod.snd (Prod.snd (Prod.snd j))),Z4] [trB 1 ti tg,oP (Prod.fst (Prod.snd (Prod.snd j))),some (.inl ((49:TypeId),elL ke)),some (.inl ((119:TypeId),ndL (Prod.fst (Prod.snd j))))] [some (Z5),some (Z3),some (Z6 (IntKind.wrap IntKind.i64 (Prod.snd (Prod.snd (n,m2,c))+IntKind.wrap IntKind.i64 (Gv.Part.n (Gv.Node.all Z1)-Gv.Part.n (Gv.Node.all (Gv.lk Wv.O8 Z2 (Gv.Node.r Z1))))))),some (Z4)] [trB 1 ti tg,oP (Gv.see Z2 (Gv.Node.r Z1)),some (.inl (49,(elL ke))),some (.inl (119,(ndL (Gv.lk Wv.O8 Z2 (Gv.Node.r Z1))))),some (.inl (119,(ndL (Gv.lk Wv.O8 Z2 (Gv.Node.r Z1)))))] 42)))/\(decide (Gv.Node.h Z1>(0:Int))=false->Post (G (Z6 (Prod.snd (Prod.snd (n,m2,c)))) [trB 1 ti tg,oP Z2,some (.inl (49,(elL ke))),some (.inl (119,(ndL Z1)))]))) ?_ (by kernel_rfl)
  intro Z3 Z4 Z5 Z6 Z1 Z2;subst Z2 Z1 Z6 Z5 Z4 Z3;rw[Gv.RankE] at s2;rw[Gv.rank] at s3;subst hG
  repeat' (first|apply And.intro|apply Vc.mk|apply fits.mk|intro h|apply Post.mk)
  all_goals (try simp only[sB] at *)
  all_goals first|contradiction|omega|exact vb1 ‹_›|exact vb2 ‹_›|exact vb3 ‹_›|exact⟨rfl,by omega⟩|exact rfl|(simp[*,-List.getD_eq_getElem?_getD];done)|skip
  all_goals first|assumption|skip
  ·have h1:n.h>0:=by assumption
   have h2:Wv.O8.cmp ke n.e≤0:=by assumption
   rw[if_pos h1,if_pos h2] at s3;exact⟨(k,Gv.lk Wv.O8 m2 n.l,Gv.see m2 n.l,c),⟨Gv.see_ok.2 s1,(s2 h1).1 (by omega),s3⟩,Nat.lt_succ_self _,⟨[0,1,2,3],rfl,⟨.inl rfl,rfl,.inl rfl,.inl rfl,trivial⟩,rfl,rfl,rfl,rfl⟩⟩
  ·have h1:n.h>0:=by assumption
   have h2:¬ Wv.O8.cmp ke n.e≤0:=by omega
   rw[if_pos h1,if_neg h2] at s3;exact⟨(k,Gv.lk Wv.O8 m2 n.r,Gv.see m2 n.r,Gv.W (c+Gv.W (n.all.n-(Gv.lk Wv.O8 m2 n.r).all.n))),⟨Gv.see_ok.2 s1,(s2 h1).2 (by omega),s3⟩,Nat.lt_succ_self _,⟨[0,1,2,3],rfl,⟨.inl rfl,rfl,.inl rfl,.inl rfl,trivial⟩,rfl,rfl,rfl,rfl⟩⟩
  ·have h1:¬ n.h>0:=by omega
   rw[if_neg h1] at s3;rw[← s3];exact⟨[0,1],rfl,rfl,⟨.inl rfl,rfl,trivial⟩,rfl,rfl,rfl,rfl⟩
 ·cases hx
def gatP (K:Nat):Prim Rs:=fun args hh=>match args,hh with
 |[.pointer (some ⟨0,0,none⟩),.int .i64 i_],[some (.inl (92,[.pointer (some ⟨1,0,none⟩),.int .i64 ti,.int .i64 tg])),some (.inr (.inr (.inr (.pool m))))]=>some ⟨PP m/\Gv.AtD Wv.O8 K m (⟨ti,tg⟩:Gv.Ref) i_,.tuple #[.agg ⟨elL (Gv.atF Wv.O8 K m (⟨ti,tg⟩:Gv.Ref) i_).1.1⟩,.bool (Gv.atF Wv.O8 K m (⟨ti,tg⟩:Gv.Ref) i_).1.2],none,[some (.inl (92,[.pointer (some ⟨1,0,none⟩),.int .i64 ti,.int .i64 tg])),some (.inr (.inr (.inr (.pool (Gv.atF Wv.O8 K m (⟨ti,tg⟩:Gv.Ref) i_).2))))],[],[(0,0)]⟩
 |_,_=>none
def TGAt (K:Nat):Tab Rs:=[(1000000000,wrapCon),(64,liftC zN 2 (con1 lookP))]
theorem gat_ok (K:Nat):ConOk D Tryz.prog 109 (con1 (gatP K)):=by
 refine prK Tryz.f109 fun args hh x hx=>?_
 unfold gatP at hx;split at hx
 ·rename_i i_ ti tg m;injection hx with hx
  subst hx;refine q4 fun _ hv=>?_
  obtain⟨hp,hd⟩:=hv;generalize hG:Rx.Ends (R:=Rs) _ _=G;refine rx_ok (T:=(TGAt K)) (show TabOk D Tryz.prog (TGAt K) from⟨wrapCon_ok,liftC_ok _ _ look_ok,trivial⟩) mixed 200 ?_
  refine as_text (q:=let Z4:=Value.int IntKind.i64;let Z1:=(i_≥Gv.Part.n (Gv.Node.all (Gv.lk Wv.O8 m (Gv.Ref.mk ti tg))));let Z2:=(elL (Wv.Mk.mk 0 false (Wv.It.mk 0 0) false false (Wv.It.mk 0 0)));let Z3:=(Value.pointer (some (Addr.mk 0 0 none)));Vc (PP m)/\(decide (i_<(0:Int))=false->(decide Z1=true->Post (G (Value.tuple (Array.mk [Value.agg (Array.mk Z2),Value.bool false])) [trB 1 ti tg,oP (Gv.see m (Gv.Ref.mk ti tg)),some (.inl (49,Z2)),some (.inl (49,Z2)),some (.inl (119,(ndL (Gv.lk Wv.O8 m (Gv.Ref.mk ti tg)))))]))/\(decide Z1=false->At D Tryz.prog (codeOf Tryz.f109) 2 (retK Tryz.prog (Array.toList (Func.results Tryz.f109)) G) [.inl [1,1,1,1,0],.inr (.inl 0)] (SS.mk [some Z3,some (Z4 i_),none,none,some (Value.pointer (some (Addr.mk 2 0 none))),some (Value.bool false),some (Value.pointer (some (Addr.mk 3 0 none))),some (Value.pointer (some (Addr.mk 4 0 none))),none,some Z3,some Z3,some Z3,some (Value.pointer (some (Addr.mk 0 1 none))),some (Value.agg (Array.mk [Z4 ti,Z4 tg])),some (Value.agg (Array.mk (ndL (Gv.lk Wv.O8 m (Gv.Ref.mk ti tg))))),some (Z4 i_),some (Value.bool (decide (i_<(0:Int)))),some (Value.bool false),some (Z4 i_),some (Value.pointer (some (Addr.mk 4 12 none))),some (Value.pointer (some (Addr.mk 4 12 none))),some (Z4 (Gv.Part.n (Gv.Node.all (Gv.lk Wv.O8 m (Gv.Ref.mk ti tg))))),some (Value.bool (decide Z1)),some (Value.bool false),none,none,none,none,none,none,none,none,none,none,none,none,none,none,none,none,none,none,none,none,none,none,none,none,none,none,none,none] [(23,false),(17,false),(5,false)] [trB 1 ti tg,oP (Gv.see m (Gv.Ref.mk ti tg)),some (.inl (49,Z2)),some (.inl (49,Z2)),some (.inl (119,(ndL (Gv.lk Wv.O8 m (Gv.Ref.mk ti tg)))))])))/\(decide (i_<(0:Int))=true->Post (G (Value.tuple (Array.mk [Value.agg (Array.mk Z2),Value.bool false])) [trB 1 ti tg,oP (Gv.see m (Gv.Ref.mk ti tg)),some (.inl (49,Z2)),some (.inl (49,Z2)),some (.inl (119,(ndL (Gv.lk Wv.O8 m (Gv.Ref.mk ti tg)))))]))) ?_ (by kernel_rfl)
  intro Z4 Z1 Z2 Z3;subst Z3 Z2 Z1 Z4;have n1:i_<0∨i_≥(Gv.lk Wv.O8 m (⟨ti,tg⟩:Gv.Ref)).all.n->G (.tuple #[.agg ⟨[.int .i64 0,.bool false,.int .i64 0,.int .i64 0,.bool false,.bool false,.int .i64 0,.int .i64 0]⟩,.bool false])=G (.tuple #[.agg ⟨[.int .i64 0,.bool false,.int .i64 0,.int .i64 0,.bool false,.bool false,.int .i64 0,.int .i64 0]⟩,.bool false]):=fun _=>rfl
  have en:∀ rest,i_<0∨i_≥(Gv.lk Wv.O8 m (⟨ti,tg⟩:Gv.Ref)).all.n->G (.tuple #[.agg ⟨[.int .i64 0,.bool false,.int .i64 0,.int .i64 0,.bool false,.bool false,.int .i64 0,.int .i64 0]⟩,.bool false]) ([some (.inl (92,[.pointer (some ⟨1,0,none⟩),.int .i64 ti,.int .i64 tg])),some (.inr (.inr (.inr (.pool (Gv.see m (⟨ti,tg⟩:Gv.Ref))))))]++rest):=by
   intro rest h;have e:Gv.atF Wv.O8 K m (⟨ti,tg⟩:Gv.Ref) i_=((Wv.O8.e0,false),Gv.see m (⟨ti,tg⟩:Gv.Ref)):=by rw[Gv.atF,if_pos h]
   subst hG;rw[e];exact⟨[0,1],rfl,rfl,⟨.inl rfl,rfl,trivial⟩,rfl,rfl,rfl,rfl⟩
  refine⟨⟨hp⟩,fun h=>⟨fun h2=>⟨en _ (.inr (by simpa using h2))⟩,fun h2=>?_⟩,fun h=>⟨en _ (.inl (by simpa using h))⟩⟩
  have h3:¬ i_<0:=by simpa using h
  have h4:¬ i_≥(Gv.lk Wv.O8 m (⟨ti,tg⟩:Gv.Ref)).all.n:=by simpa using h2
  have ee:Gv.atF Wv.O8 K m (⟨ti,tg⟩:Gv.Ref) i_=(((Gv.nthF Wv.O8 K (Gv.see m (⟨ti,tg⟩:Gv.Ref)) (Gv.lk Wv.O8 m (⟨ti,tg⟩:Gv.Ref)) i_).1,true),(Gv.nthF Wv.O8 K (Gv.see m (⟨ti,tg⟩:Gv.Ref)) (Gv.lk Wv.O8 m (⟨ti,tg⟩:Gv.Ref)) i_).2):=by rw[Gv.atF,if_neg (by omega)]
  have hd2:=hd h3 h4;refine loop_atM (by kernel_rfl) (ι:=Nat×Nd×Pl×Int) (fun s=>PP s.2.2.1/\Gv.NthE Wv.O8 s.1 s.2.2.1 s.2.1 s.2.2.2/\Gv.nthF Wv.O8 s.1 s.2.2.1 s.2.1 s.2.2.2=Gv.nthF Wv.O8 K (Gv.see m (⟨ti,tg⟩:Gv.Ref)) (Gv.lk Wv.O8 m (⟨ti,tg⟩:Gv.Ref)) i_) [0,1,4,7] (fun s=>[.pointer (some ⟨0,0,none⟩),.int .i64 s.2.2.2,.pointer (some ⟨2,0,none⟩),.pointer (some ⟨3,0,none⟩)]) (fun s=>[some (.inl (92,[.pointer (some ⟨1,0,none⟩),.int .i64 ti,.int .i64 tg])),some (.inr (.inr (.inr (.pool s.2.2.1)))),some (.inl (49,[.int .i64 0,.bool false,.int .i64 0,.int .i64 0,.bool false,.bool false,.int .i64 0,.int .i64 0])),some (.inl (119,ndL s.2.1))]) (fun s=>s.1) (Tryz.f109).ntmps (fun s hs=>⟨rfl,rfl,Nat.le_add_left _ _⟩) ⟨(K,Gv.lk Wv.O8 m (⟨ti,tg⟩:Gv.Ref),Gv.see m (⟨ti,tg⟩:Gv.Ref),i_),⟨Gv.see_ok.2 hp,hd2,rfl⟩,⟨[0,1,2,4],rfl,⟨.inl rfl,rfl,.inl rfl,.inl rfl,trivial⟩,rfl,rfl,rfl,rfl⟩⟩ fun s hs=>?_
  obtain⟨k,n,m2,c⟩:=s;obtain⟨s1,s2,s3⟩:=hs;simp only at s1 s2 s3;rcases k with _|k
  ·exact s2.elim
  refine rx_ok (T:=TGAt K) (show TabOk D Tryz.prog (TGAt K) from⟨wrapCon_ok,liftC_ok _ _ look_ok,trivial⟩) mixed 200 ?_
  refine as_text (q:=let Z5:=Value.pointer (some (Addr.mk 2 0 none));let Z6:=Value.pointer (some (Addr.mk 3 0 none));let Z7:=Value.pointer (some (Addr.mk 0 0 none));let Z1:=(Prod.snd (n,m2,c));let Z2:=(Gv.lk Wv.O8 (Prod.fst Z1) (Gv.Node.l (Prod.fst (n,m2,c))));let Z3:=(Gv.see (Prod.fst Z1) (Gv.Node.l (Prod.fst (n,m2,c))));let Z4:=(elL (Wv.Mk.mk 0 false (Wv.It.mk 0 0) false false (Wv.It.mk 0 0)));Vc (PP (Prod.fst Z1))/\((Prod.snd Z1==Gv.Part.n (Gv.Node.all Z2))=true->Post (G (Value.tuple (Array.mk [Value.agg (Array.mk (elL (Gv.Node.e (Prod.fst (n,m2,c))))),Value.bool true])) [trB 1 ti tg,oP Z3,some (.inl (49,(elL (Gv.Node.e (Prod.fst (n,m2,c)))))),some (.inl (119,(ndL (Prod.fst (n,m2,c))))),some (.inl (119,(ndL Z2)))]))/\((Prod.snd Z1==Gv.Part.n (Gv.Node.all Z2))=false->(decide (Prod.snd Z1<Gv.Part.n (Gv.Node.all Z2))=true->Post (∃ j,(PP (Prod.fst (Prod.snd (Prod.snd j)))/\Gv.NthE Wv.O8 (Prod.fst j) (Prod.fst (Prod.snd (Prod.snd j))) (Prod.fst (Prod.snd j)) (Prod.snd (Prod.snd (Prod.snd j)))/\Gv.nthF Wv.O8 (Prod.fst j) (Prod.fst (Prod.snd (Prod.snd j))) (Prod.fst (Prod.snd j)) (Prod.snd (Prod.snd (Prod.snd j)))=Gv.nthF Wv.O8 K (Gv.see m (Gv.Ref.mk ti tg)) (Gv.lk Wv.O8 m (Gv.Ref.mk ti tg)) i_)/\Prod.fst j<k+1/\FitsM Rs 2 (Func.ntmps Tryz.f109) [0,1,4,7] [Z7,Value.int IntKind.i64 (Prod.snd (Prod.snd (Prod.snd j))),Z5,Z6] [trB 1 ti tg,oP (Prod.fst (Prod.snd (Prod.snd j))),some (.inl ((49:TypeId),Z4)),some (.inl ((119:TypeId),ndL (Prod.fst (Prod.snd j))))] [some (Z7),some (Value.int IntKind.i64 (Prod.snd Z1)),some (Z5),some (Z6)] [trB 1 ti tg,oP Z3,some (.inl (49,Z4)),some (.inl (119,(ndL Z2))),some (.inl (119,(ndL Z2)))] 52))/\(decide (Prod.snd Z1<Gv.Part.n (Gv.Node.all Z2))=false->Vc True/\Vc True/\Vc (PP Z3)/\Post (∃ j,(PP (Prod.fst (Prod.snd (Prod.snd j)))/\Gv.NthE Wv.O8 (Prod.fst j) (Prod.fst (Prod.snd (Prod.snd j))) (Prod.fst (Prod.snd j)) (Prod.snd (Prod.snd (Prod.snd j)))/\Gv.nthF Wv.O8 (Prod.fst j) (Prod.fst (Prod.snd (Prod.snd j))) (Prod.fst (Prod.snd j)) (Prod.snd (Prod.snd (Prod.snd j)))=Gv.nthF Wv.O8 K (Gv.see m (Gv.Ref.mk ti tg)) (Gv.lk Wv.O8 m (Gv.Ref.mk ti tg)) i_)/\Prod.fst j<k+1/\FitsM Rs 2 (Func.ntmps Tryz.f109) [0,1,4,7] [Z7,Value.int IntKind.i64 (Prod.snd (Prod.snd (Prod.snd j))),Z5,Z6] [trB 1 ti tg,oP (Prod.fst (Prod.snd (Prod.snd j))),some (.inl ((49:TypeId),Z4)),some (.inl ((119:TypeId),ndL (Prod.fst (Prod.snd j))))] [some (Z7),some (Value.int IntKind.i64 (IntKind.wrap IntKind.i64 (Prod.snd Z1-IntKind.wrap IntKind.i64 (Gv.Part.n (Gv.Node.all Z2)+(1:Int))))),some (Z5),some (Z6)] [trB 1 ti tg,oP (Gv.see Z3 (Gv.Node.r (Prod.fst (n,m2,c)))),some (.inl (49,Z4)),some (.inl (119,(ndL (Gv.lk Wv.O8 Z3 (Gv.Node.r (Prod.fst (n,m2,c))))))),some (.inl (119,(ndL Z2)))] 52)))) ?_ (by kernel_rfl)
  intro Z5 Z6 Z7 Z1 Z2 Z3 Z4;subst Z4 Z3 Z2 Z1 Z7 Z6 Z5;rw[Gv.NthE] at s2;rw[Gv.nthF] at s3;subst hG
  repeat' (first|apply And.intro|apply Vc.mk|apply fits.mk|intro h|apply Post.mk)
  all_goals (try simp only[sB] at *)
  all_goals first|contradiction|omega|exact vb1 ‹_›|exact vb2 ‹_›|exact vb3 ‹_›|exact⟨rfl,by omega⟩|exact rfl|(simp[*,-List.getD_eq_getElem?_getD];done)|skip
  all_goals first|assumption|exact Gv.see_ok.2 s1|skip
  ·have h1:c=(Gv.lk Wv.O8 m2 n.l).all.n:=by assumption
   rw[if_pos h1] at s3;rw[ee,← s3];exact⟨[0,1],rfl,rfl,⟨.inl rfl,rfl,trivial⟩,rfl,rfl,rfl,rfl⟩
  ·have h1:c≠(Gv.lk Wv.O8 m2 n.l).all.n:=by assumption
   have h2:c<(Gv.lk Wv.O8 m2 n.l).all.n:=by assumption
   rw[if_neg h1,if_pos h2] at s3;exact⟨(k,Gv.lk Wv.O8 m2 n.l,Gv.see m2 n.l,c),⟨Gv.see_ok.2 s1,(s2 h1).1 (by omega),s3⟩,Nat.lt_succ_self _,⟨[0,1,2,3],rfl,⟨.inl rfl,rfl,.inl rfl,.inl rfl,trivial⟩,rfl,rfl,rfl,rfl⟩⟩
  ·have h1:c≠(Gv.lk Wv.O8 m2 n.l).all.n:=by assumption
   have h2:¬ c<(Gv.lk Wv.O8 m2 n.l).all.n:=by omega
   rw[if_neg h1,if_neg h2] at s3;exact⟨(k,Gv.lk Wv.O8 (Gv.see m2 n.l) n.r,Gv.see (Gv.see m2 n.l) n.r,Gv.W (c-Gv.W ((Gv.lk Wv.O8 m2 n.l).all.n+1))),⟨Gv.see_ok.2 (Gv.see_ok.2 s1),(s2 h1).2 (by omega),s3⟩,Nat.lt_succ_self _,⟨[0,1,2,3],rfl,⟨.inl rfl,rfl,.inl rfl,.inl rfl,trivial⟩,rfl,rfl,rfl,rfl⟩⟩
 ·cases hx
end G8
namespace Sh
open Rx Wv
structure Sl where
 it:It
 eaten:Bool
 time:Int
structure Sz where
 n:Int
def slz:Sl:=⟨⟨0,0⟩,false,0⟩
def O9:Gv.Ops Sl Sz:=⟨slz,⟨0⟩,fun a b=>icmp a.it b.it,fun _=>⟨1⟩,fun a b=>⟨Gv.W (a.n+b.n)⟩⟩
def S9 (l:List Sl):Sz:=⟨l.length⟩
def good9 (l:List Sl):Prop:=l.length≤1000
theorem icmp_zero (a b:It):icmp a b=0↔a=b:=by
 constructor
 ·intro h;refine It.ext_ ?_ ?_<;>(unfold icmp at h;repeat' split at h)<;>omega
 ·rintro rfl;unfold icmp;repeat' split
  all_goals omega
theorem icmp_lt (a b:It):icmp a b<0↔ah a b:=by unfold icmp ah;repeat' split;all_goals omega
theorem ah_trans {a b c:It} (h:ah a b) (h':ah b c):ah a c:=by unfold ah at *;omega
theorem laws9:Gv.Laws O9 S9 good9 where
 nil:=rfl
 one e:=rfl
 plus x y h _ _:=by
  unfold good9 at h;unfold S9;rw[List.length_append] at *
  show(⟨Gv.W ((x.length:Int)+(y.length:Int))⟩:Sz)=⟨((x.length+y.length:Nat):Int)⟩
  rw[Gv.W_of (by omega)];push_cast;rfl
 left x y h:=by unfold good9 at *;rw[List.length_append] at h;omega
 right x y h:=by unfold good9 at *;rw[List.length_append] at h;omega
 len x h:=Nat.le_trans h (by decide)
 swap a b:=by show icmp a.it b.it<0↔icmp b.it a.it>0;rw[icmp_lt,icmp_pos]
 trans a b c h h':=by
  have h:icmp a.it b.it<0:=h;have h':icmp b.it c.it<0:=h';rw[icmp_lt] at h h';show icmp a.it c.it<0
  rw[icmp_lt];exact ah_trans h h'
 eqv a b c h h':=by
  have h:icmp a.it b.it=0:=h;rw[icmp_zero] at h;have h':icmp b.it c.it<0:=h';show icmp a.it c.it<0
  rw[h];exact h'
 eqv' a b c h h':=by
  have h:icmp a.it b.it=0:=h;rw[icmp_zero] at h;have h':icmp c.it b.it<0:=h';show icmp c.it a.it<0
  rw[h];exact h'
set_option maxRecDepth 100000
def sofP {R:Type}:Prim R:=fun args hh=>match args,hh with
 |[.agg ⟨[.int .i64 a,.int .i64 b]⟩],[]=>some ⟨True,.agg ⟨[.int .i64 a,.int .i64 b,.bool false,.int .i64 0]⟩,none,hh,[],[]⟩
 |_,_=>none
theorem sof_ok {R:Type} {D:Res R}:ConOk D Tryz.prog 53 (con1 sofP):=by
 refine prK Tryz.f53 fun args hh x hx=>?_
 unfold sofP at hx;split at hx
 ·rename_i a b;injection hx with hx
  subst hx;refine q4 fun _ hv=>?_
  generalize hG:Rx.Ends (R:=R) _ _=G;refine rx_okQ (T:=[]) trivial mixed 200 (q:=let Z1:=Value.int IntKind.i64;Post (G (Value.agg (Array.mk [Z1 a,Z1 b,Value.bool false,Z1 0])) [some (Sum.inl (31,[Z1 a,Z1 b])),some (Sum.inl (75,[Z1 a,Z1 b,Value.bool false,Z1 0]))])) ?_ (by kernel_rfl)
  intro Z1;subst Z1;subst hG
  repeat' (first|apply And.intro|apply Vc.mk|apply fits.mk|intro h|apply Post.mk)
  all_goals (try simp only[sB] at *)
  all_goals first|contradiction|omega|exact vb1 ‹_›|exact vb2 ‹_›|exact vb3 ‹_›|exact⟨rfl,by omega⟩|exact rfl|(simp[*,-List.getD_eq_getElem?_getD];done)|skip
  exact⟨[],rfl,rfl,trivial,rfl,rfl,rfl,rfl⟩
 ·cases hx
def TCi {R:Type}:Tab R:=[(108,liftC zN 2 (con1 icmP))]
theorem TCi_ok {R:Type} {D:Res R}:TabOk D Tryz.prog (TCi:Tab R):=⟨liftC_ok _ _ icm_ok,trivial⟩
def scmpP {R:Type}:Prim R:=fun args hh=>match args,hh with
 |[.agg ⟨[.int .i64 a,.int .i64 b,.bool c,.int .i64 d]⟩,.agg ⟨[.int .i64 a',.int .i64 b',.bool c',.int .i64 d']⟩],[]=>some ⟨True,.int .i64 (O9.cmp ⟨⟨a,b⟩,c,d⟩ ⟨⟨a',b'⟩,c',d'⟩),none,hh,[],[]⟩
 |_,_=>none
theorem scmp_ok {R:Type} {D:Res R}:ConOk D Tryz.prog 82 (con1 scmpP):=by
 refine prK Tryz.f82 fun args hh x hx=>?_
 unfold scmpP at hx;split at hx
 ·rename_i a b c d a' b' c' d';injection hx with hx
  subst hx;refine q4 fun _ hv=>?_
  generalize hG:Rx.Ends (R:=R) _ _=G;refine rx_okQ (T:=TCi) TCi_ok mixed 200 (q:=let Z1:=Value.int IntKind.i64;Vc True/\Post (G (Z1 (icmp (It.mk a b) (It.mk a' b'))) [some (Sum.inl (75,[Z1 a,Z1 b,Value.bool c,Z1 d])),some (Sum.inl (75,[Z1 a',Z1 b',Value.bool c',Z1 d']))])) ?_ (by kernel_rfl)
  intro Z1;subst Z1;subst hG
  repeat' (first|apply And.intro|apply Vc.mk|apply fits.mk|intro h|apply Post.mk)
  all_goals (try simp only[sB] at *)
  all_goals first|contradiction|omega|exact vb1 ‹_›|exact vb2 ‹_›|exact vb3 ‹_›|exact⟨rfl,by omega⟩|exact rfl|(simp[*,-List.getD_eq_getElem?_getD];done)|skip
  exact⟨[],rfl,rfl,trivial,rfl,rfl,rfl,rfl⟩
 ·cases hx
def ssumP {R:Type}:Prim R:=fun args hh=>match args,hh with
 |[.agg ⟨[.int .i64 a,.int .i64 b,.bool c,.int .i64 d]⟩],[]=>some ⟨True,.int .i64 (O9.sum ⟨⟨a,b⟩,c,d⟩).n,none,hh,[],[]⟩
 |_,_=>none
theorem ssum_ok {R:Type} {D:Res R}:ConOk D Tryz.prog 171 (con1 ssumP):=by
 refine prK Tryz.f171 fun args hh x hx=>?_
 unfold ssumP at hx;split at hx
 ·rename_i a b c d;injection hx with hx
  subst hx;refine q4 fun _ hv=>?_
  generalize hG:Rx.Ends (R:=R) _ _=G;refine rx_okQ (T:=[]) trivial mixed 200 (q:=Post (G (Value.int IntKind.i64 1) [some (Sum.inl (75,[Value.int IntKind.i64 a,Value.int IntKind.i64 b,Value.bool c,Value.int IntKind.i64 d]))])) ?_ (by kernel_rfl)
  subst hG
  repeat' (first|apply And.intro|apply Vc.mk|apply fits.mk|intro h|apply Post.mk)
  all_goals (try simp only[sB] at *)
  all_goals first|contradiction|omega|exact vb1 ‹_›|exact vb2 ‹_›|exact vb3 ‹_›|exact⟨rfl,by omega⟩|exact rfl|(simp[*,-List.getD_eq_getElem?_getD];done)|skip
  exact⟨[],rfl,rfl,trivial,rfl,rfl,rfl,rfl⟩
 ·cases hx
def TWr9 {R:Type}:Tab R:=[(1000000000,wrapCon)]
theorem TWr9_ok {R:Type} {D:Res R}:TabOk D Tryz.prog (TWr9:Tab R):=⟨wrapCon_ok,trivial⟩
def nplusP {R:Type}:Prim R:=fun args hh=>match args,hh with
 |[.int .i64 a,.int .i64 b],[]=>some ⟨True,.int .i64 (O9.plus ⟨a⟩ ⟨b⟩).n,none,hh,[],[]⟩
 |_,_=>none
theorem nplus_ok {R:Type} {D:Res R}:ConOk D Tryz.prog 172 (con1 nplusP):=by
 refine prK Tryz.f172 fun args hh x hx=>?_
 unfold nplusP at hx;split at hx
 ·rename_i a b;injection hx with hx
  subst hx;refine q4 fun _ hv=>?_
  generalize hG:Rx.Ends (R:=R) _ _=G;refine rx_okQ (T:=TWr9) TWr9_ok mixed 200 (q:=Vc True/\Post (G (Value.int IntKind.i64 (IntKind.wrap IntKind.i64 (a+b))) [])) ?_ (by kernel_rfl)
  subst hG
  repeat' (first|apply And.intro|apply Vc.mk|apply fits.mk|intro h|apply Post.mk)
  all_goals (try simp only[sB] at *)
  all_goals first|contradiction|omega|exact vb1 ‹_›|exact vb2 ‹_›|exact vb3 ‹_›|exact⟨rfl,by omega⟩|exact rfl|(simp[*,-List.getD_eq_getElem?_getD];done)|skip
  exact⟨[],rfl,rfl,trivial,rfl,rfl,rfl,rfl⟩
 ·cases hx
end Sh
namespace Pa
open Rx Wv
def Ord (l:List It):Prop:=l.Pairwise ah
theorem ah_irr (a:It):¬ ah a a:=fun h=>ah_asymm h h
theorem ah_tr {a b c:It} (h:ah a b) (h':ah b c):ah a c:=by unfold ah at *;omega
theorem ah_ne {a b:It} (h:ah a b):a≠b:=fun e=>by subst e;exact ah_irr _ h
theorem ah_or {a b:It} (h:a≠b):ah a b∨ah b a:=by
 by_cases c:ah a b
 ·exact .inl c
 ·by_cases c':ah b a
  ·exact .inr c'
  ·exact absurd (ah_tri c c') h
def insI (x:It):List It->List It
 |[]=>[x]
 |y::l=>if ah x y then x::y::l else y::insI x l
theorem mem_ins {x z:It}:∀ {l:List It},z∈insI x l↔z=x∨z∈l
 |[]=>by simp[insI]
 |y::l=>by
  rw[insI];split
  ·simp
  ·simp only[List.mem_cons,mem_ins (l:=l)]
   constructor
   ·rintro (h|h|h)
    ·exact .inr (.inl h)
    ·exact .inl h
    ·exact .inr (.inr h)
   ·rintro (h|h|h)
    ·exact .inr (.inl h)
    ·exact .inl h
    ·exact .inr (.inr h)
theorem ord_ins {x:It}:∀ {l:List It},Ord l->x∉l->Ord (insI x l)
 |[],_,_=>List.pairwise_singleton _ _
 |y::l,h,hx=>by
  have h1:=List.pairwise_cons.1 h;have hne:x≠y:=fun e=>hx (e▸List.mem_cons_self)
  rw[insI];split
  ·rename_i c;exact List.pairwise_cons.2 ⟨fun z hz=>by
    rcases List.mem_cons.1 hz with e|e
    ·rw[e];exact c
    ·exact ah_tr c (h1.1 z e),h⟩
  ·rename_i c;refine List.pairwise_cons.2 ⟨fun z hz=>?_,ord_ins h1.2 (fun e=>hx (List.mem_cons_of_mem _ e))⟩
   rcases mem_ins.1 hz with e|e
   ·rw[e];rcases ah_or hne with c'|c'
    ·exact absurd c' c
    ·exact c'
   ·exact h1.1 z e
theorem ord_ext:∀ {a b:List It},Ord a->Ord b->(∀ x,x∈a↔x∈b)->a=b
 |[],[],_,_,_=>rfl
 |[],y::b,_,_,h=>by have:=(h y).2 List.mem_cons_self;cases this
 |x::a,[],_,_,h=>by have:=(h x).1 List.mem_cons_self;cases this
 |x::a,y::b,ha,hb,h=>by
  have ha':=List.pairwise_cons.1 ha;have hb':=List.pairwise_cons.1 hb;have e:x=y:=by
   rcases List.mem_cons.1 ((h x).1 List.mem_cons_self) with e|e
   ·exact e
   ·rcases List.mem_cons.1 ((h y).2 List.mem_cons_self) with e'|e'
    ·exact e'.symm
    ·exact absurd (ha'.1 y e') (ah_asymm (hb'.1 x e))
  subst e;have:a=b:=ord_ext ha'.2 hb'.2 fun z=>by
   have hz:=h z;simp only[List.mem_cons] at hz
   constructor
   ·intro m;rcases hz.1 (.inr m) with e|e
    ·subst e;exact absurd (ha'.1 _ m) (ah_irr _)
    ·exact e
   ·intro m;rcases hz.2 (.inr m) with e|e
    ·subst e;exact absurd (hb'.1 _ m) (ah_irr _)
    ·exact e
  rw[this]
theorem ins_comm {x y:It} {l:List It} (h:Ord l) (hx:x∉l) (hy:y∉l) (hne:x≠y):insI x (insI y l)=insI y (insI x l):=by
 refine ord_ext (ord_ins (ord_ins h hy) ?_) (ord_ins (ord_ins h hx) ?_) fun z=>?_
 ·rw[mem_ins];rintro (e|e);exact hne e;exact hx e
 ·rw[mem_ins];rintro (e|e);exact hne e.symm;exact hy e
 ·simp only[mem_ins]
  constructor<;>rintro (e|e|e)
  ·exact .inr (.inl e)
  ·exact .inl e
  ·exact .inr (.inr e)
  ·exact .inr (.inl e)
  ·exact .inl e
  ·exact .inr (.inr e)
def rmv (z:It) (l:List It):List It:=l.filter fun y=>!decide (y=z)
theorem mem_rmv {x z:It} {l:List It}:x∈rmv z l↔x∈l/\x≠z:=by
 unfold rmv;rw[List.mem_filter]
 constructor
 ·rintro ⟨h1,h2⟩;exact⟨h1,fun e=>by rw[decide_eq_true e] at h2;cases h2⟩
 ·rintro ⟨h1,h2⟩;exact⟨h1,by rw[decide_eq_false h2];rfl⟩
theorem ord_rmv {z:It} {l:List It} (h:Ord l):Ord (rmv z l):=List.Pairwise.filter _ h
theorem ord_tail {y:It} {l:List It} (h:Ord (y::l)):Ord l:=(List.pairwise_cons.1 h).2
theorem ord_lt {y z:It} {l:List It} (h:Ord (y::l)) (hz:z∈l):ah y z:=(List.pairwise_cons.1 h).1 z hz
theorem ord_nh {y:It} {l:List It} (h:Ord (y::l)):y∉l:=fun m=>ah_irr _ (ord_lt h m)
def mx (x y:It):It:=if ah x y then y else x
def mn (x y:It):It:=if ah x y then x else y
theorem ins_cons {x y:It} {l:List It} (h:Ord (y::l)) (hx:x∉y::l):insI x (y::l)=mn x y::insI (mx x y) l:=by
 unfold mn mx;rw[insI];split
 ·rename_i c
  congr 1
  cases l with
  |nil=>rfl
  |cons w l=>rw[insI,if_pos (ord_lt h List.mem_cons_self)]
 ·rfl
structure Op where
 t:Int
 ins:Bool
 it:It
def itm (r:List Op):List It:=(r.filter Op.ins).map Op.it
theorem itm_ins {o:Op} {r:List Op} (h:o.ins=true):itm (o::r)=o.it::itm r:=by unfold itm;rw[List.filter_cons,if_pos h];rfl
theorem itm_del {o:Op} {r:List Op} (h:o.ins=false):itm (o::r)=itm r:=by unfold itm;rw[List.filter_cons,if_neg (by rw[h];decide)]
def stp (h:List It) (o:Op):List It:=if o.ins=true then insI o.it h else h.tail
def fin (h:List It):List Op->List It
 |[]=>h
 |o::r=>fin (stp h o) r
def tk (h:List It):List Op->List It
 |[]=>[]
 |o::r=>if o.ins=true then tk (insI o.it h) r else h.take 1++tk h.tail r
def fre (h:List It):List Op->Nat
 |[]=>0
 |o::r=>if o.ins=true then fre (insI o.it h) r else(if h=[] then 1 else 0)+fre h.tail r
theorem fin_ins {h:List It} {o:Op} {r:List Op} (e:o.ins=true):fin h (o::r)=fin (insI o.it h) r:=by rw[fin,stp,if_pos e]
theorem fin_del {h:List It} {o:Op} {r:List Op} (e:o.ins=false):fin h (o::r)=fin h.tail r:=by rw[fin,stp,if_neg (by rw[e];decide)]
theorem tk_ins {h:List It} {o:Op} {r:List Op} (e:o.ins=true):tk h (o::r)=tk (insI o.it h) r:=by rw[tk,if_pos e]
theorem tk_del {h:List It} {o:Op} {r:List Op} (e:o.ins=false):tk h (o::r)=h.take 1++tk h.tail r:=by rw[tk,if_neg (by rw[e];decide)]
theorem fre_ins {h:List It} {o:Op} {r:List Op} (e:o.ins=true):fre h (o::r)=fre (insI o.it h) r:=by rw[fre,if_pos e]
theorem fre_del {h:List It} {o:Op} {r:List Op} (e:o.ins=false):fre h (o::r)=(if h=[] then 1 else 0)+fre h.tail r:=by rw[fre,if_neg (by rw[e];decide)]
theorem fre_del0 {o:Op} {r:List Op} (e:o.ins=false):fre [] (o::r)=1+fre [] r:=by rw[fre_del e,if_pos rfl];rfl
theorem fre_delc {y:It} {h:List It} {o:Op} {r:List Op} (e:o.ins=false):fre (y::h) (o::r)=fre h r:=by rw[fre_del e,if_neg (by simp),Nat.zero_add];rfl
theorem tk_del0 {o:Op} {r:List Op} (e:o.ins=false):tk [] (o::r)=tk [] r:=by rw[tk_del e];rfl
theorem tk_delc {y:It} {h:List It} {o:Op} {r:List Op} (e:o.ins=false):tk (y::h) (o::r)=y::tk h r:=by rw[tk_del e];rfl
theorem ins_cases (o:Op):o.ins=true∨o.ins=false:=by cases o.ins<;>simp
structure Ap (h:List It) (r:List Op):Prop where
 ord:Ord h
 nd:(itm r).Nodup
 ap:∀ x,x∈h->x∉itm r
theorem Ap.ins {h:List It} {o:Op} {r:List Op} (a:Ap h (o::r)) (e:o.ins=true):Ap (insI o.it h) r/\o.it∉h/\o.it∉itm r:=by
 have h1:=a.nd;have h2:=a.ap;rw[itm_ins e] at h1 h2;have n1:o.it∉h:=fun m=>h2 _ m List.mem_cons_self
 have n2:=(List.nodup_cons.1 h1).1;refine⟨⟨ord_ins a.ord n1,(List.nodup_cons.1 h1).2,fun x hx=>?_⟩,n1,n2⟩
 rcases mem_ins.1 hx with e'|e'
 ·rw[e'];exact n2
 ·exact fun m=>h2 x e' (List.mem_cons_of_mem _ m)
theorem Ap.del {h:List It} {o:Op} {r:List Op} (a:Ap h (o::r)) (e:o.ins=false):Ap h.tail r:=by
 have h1:=a.nd;have h2:=a.ap;rw[itm_del e] at h1 h2;refine⟨?_,h1,fun x hx=>h2 x (List.mem_of_mem_tail hx)⟩
 cases h with
 |nil=>exact a.ord
 |cons y h=>exact ord_tail a.ord
theorem Ap.stp {h:List It} {o:Op} {r:List Op} (a:Ap h (o::r)):Ap (stp h o) r:=by
 unfold Pa.stp;rcases ins_cases o with e|e
 ·rw[if_pos e];exact(a.ins e).1
 ·rw[if_neg (by rw[e];decide)];exact a.del e
theorem tk_from:∀ {r:List Op} {h:List It},Ap h r->∀ z,z∈tk h r->z∈h∨z∈itm r
 |[],h,a,z,hz=>by cases hz
 |o::r,h,a,z,hz=>by
  rcases ins_cases o with e|e
  ·rw[tk_ins e] at hz;rw[itm_ins e];rcases tk_from (a.ins e).1 z hz with m|m
   ·rcases mem_ins.1 m with m|m
    ·exact .inr (m▸List.mem_cons_self)
    ·exact .inl m
   ·exact .inr (List.mem_cons_of_mem _ m)
  ·rw[tk_del e] at hz;rw[itm_del e];rcases List.mem_append.1 hz with m|m
   ·exact .inl (List.mem_of_mem_take m)
   ·rcases tk_from (a.del e) z m with m|m
    ·exact .inl (List.mem_of_mem_tail m)
    ·exact .inr m
theorem mem_fin:∀ {r:List Op} {h:List It},Ap h r->∀ z,z∈fin h r↔(z∈h∨z∈itm r)/\z∉tk h r
 |[],h,a,z=>by simp[fin,tk,itm]
 |o::r,h,a,z=>by
  rcases ins_cases o with e|e
  ·rw[fin_ins e,tk_ins e,itm_ins e,mem_fin (a.ins e).1,mem_ins,List.mem_cons]
   constructor
   ·rintro ⟨(m|m)|m,n⟩
    ·exact⟨.inr (.inl m),n⟩
    ·exact⟨.inl m,n⟩
    ·exact⟨.inr (.inr m),n⟩
   ·rintro ⟨m|m|m,n⟩
    ·exact⟨.inl (.inr m),n⟩
    ·exact⟨.inl (.inl m),n⟩
    ·exact⟨.inr m,n⟩
  ·rw[fin_del e,tk_del e,itm_del e,mem_fin (a.del e)];cases h with
   |nil=>simp
   |cons y h =>
    have hy:=ord_nh a.ord;have hy2:y∉itm r:=by have:=a.ap y List.mem_cons_self;rwa [itm_del e] at this
    have hy3:y∉tk h r:=fun m=>by
     rcases tk_from (a.del e) y m with m|m
     ·exact hy m
     ·exact hy2 m
    simp only[List.tail_cons,List.mem_cons,List.take_succ_cons,List.take_zero,List.mem_append,List.not_mem_nil,or_false]
    constructor
    ·rintro ⟨m|m,n⟩
     ·exact⟨.inl (.inr m),fun c=>by rcases c with c|c;exact hy (c▸m);exact n c⟩
     ·exact⟨.inr m,fun c=>by rcases c with c|c;exact hy2 (c▸m);exact n c⟩
    ·rintro ⟨(m|m)|m,n⟩
     ·exact absurd (.inl m) n
     ·exact⟨.inl m,fun c=>n (.inr c)⟩
     ·exact⟨.inr m,fun c=>n (.inr c)⟩
theorem ord_fin:∀ {r:List Op} {h:List It},Ap h r->Ord (fin h r)
 |[],h,a=>a.ord
 |o::r,h,a=>by rw[fin];exact ord_fin a.stp
def addO (x:It) (h:List It):List Op->Option It
 |[]=>some x
 |o::r=>if o.ins=true then addO x (insI o.it h) r else if h=[] then none else addO (mx x (h.headD iz)) h.tail r
theorem add_ins {x:It} {h:List It} {o:Op} {r:List Op} (e:o.ins=true):addO x h (o::r)=addO x (insI o.it h) r:=by rw[addO,if_pos e]
theorem add_del0 {x:It} {o:Op} {r:List Op} (e:o.ins=false):addO x [] (o::r)=none:=by rw[addO,if_neg (by rw[e];decide),if_pos rfl]
theorem add_del {x y:It} {h:List It} {o:Op} {r:List Op} (e:o.ins=false):addO x (y::h) (o::r)=addO (mx x y) h r:=by rw[addO,if_neg (by rw[e];decide),if_neg (by simp)];rfl
theorem mx_or (x y:It):mx x y=x∨mx x y=y:=by unfold mx;split<;>simp
theorem mxmn (x y z:It):(z=mn x y∨z=mx x y)↔(z=x∨z=y):=by
 unfold mx mn;split
 ·rfl
 ·exact Or.comm
theorem add_out:∀ {r:List Op} {h:List It} {x:It},Ap h r->x∉h->x∉itm r ->
  fin (insI x h) r=(match addO x h r with|none=>fin h r|some z=>insI z (fin h r)) /\
  fre h r=fre (insI x h) r+(if addO x h r=none then 1 else 0) /\
  (∀ w,w∈tk (insI x h) r↔(w∈tk h r∨w=x)/\addO x h r≠some w)/\(∀ z,addO x h r=some z->z∉fin h r/\(z=x∨z∈tk h r))
 |[],h,x,a,hx,hi=>by
  refine⟨rfl,rfl,fun w=>?_,fun z hz=>?_⟩
  ·show w∈([]:List It)↔(w∈([]:List It)∨w=x)/\some x≠some w
   constructor
   ·intro m;cases m
   ·rintro ⟨m|m,n⟩
    ·exact m
    ·exact absurd (by rw[m]) n
  ·cases hz;exact⟨hx,.inl rfl⟩
 |o::r,h,x,a,hx,hi=>by
  rcases ins_cases o with e|e
  ·obtain⟨a',n1,n2⟩:=a.ins e;rw[itm_ins e] at hi;have hne:x≠o.it:=fun c=>hi (c▸List.mem_cons_self)
   have ih:=add_out (r:=r) (h:=insI o.it h) (x:=x) a' (fun m=>by rcases mem_ins.1 m with m|m;exact hne m;exact hx m) (fun m=>hi (List.mem_cons_of_mem _ m))
   rw[fin_ins e,fin_ins e,fre_ins e,fre_ins e,tk_ins e,tk_ins e,add_ins e,ins_comm a.ord n1 hx hne.symm];exact ih
  ·rw[itm_del e] at hi;have a':=a.del e;cases h with
   |nil =>
    rw[add_del0 e,fin_del e,fin_del e,fre_del e,fre_del e,tk_del e,tk_del e];refine⟨rfl,?_,fun w=>?_,fun z hz=>by cases hz⟩
    ·show(if([]:List It)=[] then 1 else 0)+fre [] r=(if[x]=[] then 1 else 0)+fre [] r+1
     rw[if_pos rfl,if_neg (by simp)];omega
    ·show w∈[x]++tk [] r↔(w∈[]++tk [] r∨w=x)/\_
     simp only[List.nil_append,List.singleton_append,List.mem_cons]
     constructor
     ·rintro (m|m)
      ·exact⟨.inr m,by simp⟩
      ·exact⟨.inl m,by simp⟩
     ·rintro ⟨m|m,_⟩
      ·exact .inr m
      ·exact .inl m
   |cons y h =>
    have hne:x≠y:=fun c=>hx (c▸List.mem_cons_self)
    have hxh:x∉h:=fun m=>hx (List.mem_cons_of_mem _ m)
    have hyh:=ord_nh a.ord;have hyi:y∉itm r:=by have:=a.ap y List.mem_cons_self;rwa [itm_del e] at this
    have hm1:mx x y∉h:=by rcases mx_or x y with c|c<;>rw[c]<;>assumption
    have hm2:mx x y∉itm r:=by rcases mx_or x y with c|c<;>rw[c]<;>assumption
    obtain⟨i1,i2,i3,i4⟩:=add_out (r:=r) (h:=h) (x:=mx x y) a' hm1 hm2;have ytk:y∉tk h r:=fun m=>by
     rcases tk_from a' y m with m|m
     ·exact hyh m
     ·exact hyi m
    rw[add_del e,fin_del e,fin_del e,fre_del e,fre_del e,tk_del e,tk_del e,ins_cons a.ord hx];simp only[List.tail_cons,List.take_succ_cons,List.take_zero,List.singleton_append];rw[if_neg (by simp),if_neg (by simp),Nat.zero_add,Nat.zero_add]
    refine⟨i1,i2,fun w=>?_,fun z hz=>?_⟩
    ·rw[List.mem_cons,i3,List.mem_cons];have k:=mxmn x y w;have nmn:addO (mx x y) h r≠some (mn x y):=fun c=>by
      rcases(i4 _ c).2 with c2|c2
      ·unfold mx mn at c2;split at c2
       ·exact hne c2
       ·exact hne c2.symm
      ·have:mn x y=x∨mn x y=y:=by unfold mn;split<;>simp
       rcases this with c3|c3
       ·rw[c3] at c2;rcases tk_from a' x c2 with m|m
        ·exact hxh m
        ·exact hi m
       ·rw[c3] at c2;exact ytk c2
     constructor
     ·rintro (m|⟨m,n⟩)
      ·have:=k.1 (.inl m);refine⟨?_,m▸nmn⟩;rcases this with c|c
       ·exact .inr c
       ·exact .inl (.inl c)
      ·refine⟨?_,n⟩;rcases m with m|m
       ·exact .inl (.inr m)
       ·rcases k.1 (.inr m) with c|c
        ·exact .inr c
        ·exact .inl (.inl c)
     ·rintro ⟨(m|m)|m,n⟩
      ·rcases k.2 (.inr m) with c|c
       ·exact .inl c
       ·exact .inr ⟨.inr c,n⟩
      ·exact .inr ⟨.inl m,n⟩
      ·rcases k.2 (.inl m) with c|c
       ·exact .inl c
       ·exact .inr ⟨.inr c,n⟩
    ·obtain⟨z1,z2⟩:=i4 z hz;refine⟨z1,?_⟩;rcases z2 with c|c
     ·rcases mx_or x y with c2|c2
      ·exact .inl (c.trans c2)
      ·exact .inr (c.trans c2▸List.mem_cons_self)
     ·exact .inr (List.mem_cons_of_mem _ c)
def tp (h:List It) (r:List Op):Option (Option It):=if fre h r=0 then some (hi (tk h r)) else none
def upO (x:It):Option (Option It)->Option It
 |none=>none
 |some m=>up (some x) m
theorem up_mx (x y:It):up (some x) (some y)=some (mx x y):=by
 show(if ah x y then some y else some x)=some (mx x y)
 unfold mx;split<;>rfl
theorem add_tp:∀ {r:List Op} {h:List It} {x:It},addO x h r=upO x (tp h r)
 |[],h,x=>rfl
 |o::r,h,x=>by
  rcases ins_cases o with e|e
  ·rw[add_ins e,add_tp];unfold tp;rw[fre_ins e,tk_ins e]
  ·cases h with
   |nil =>
    rw[add_del0 e];unfold tp;rw[fre_del0 e,if_neg (by omega)]
    rfl
   |cons y h =>
    rw[add_del e,add_tp];unfold tp;rw[fre_delc e,tk_delc e];split
    ·show up (some (mx x y)) (hi (tk h r))=up (some x) (up (some y) (hi (tk h r)))
     rw[← up_assoc,up_mx]
    ·rfl
def hgN (g:It->Bool) (h:List It) (r:List Op):Nat:=fre h r+h.countP g
def wt (g:It->Bool) (o:Op):Int:=if o.ins=true then if g o.it=true then 1 else 0 else -1
def Con (g:It->Bool) (h:List It) (r:List Op):Prop:=∀ z,z∈h∨z∈itm r->(g z=true↔z∈tk h r)
theorem Con.stp {g:It->Bool} {h:List It} {o:Op} {r:List Op} (c:Con g h (o::r)) (a:Ap h (o::r)):Con g (stp h o) r:=by
 intro z hz;unfold Pa.stp at *
 rcases ins_cases o with e|e
 ·rw[if_pos e] at *
  have := c z (by rw [itm_ins e]; rcases hz with m | m
                  · rcases mem_ins.1 m with m|m
                    · exact .inr (m▸List.mem_cons_self)
                    · exact .inl m
                  · exact .inr (List.mem_cons_of_mem _ m))
  rw[tk_ins e] at this;exact this
 ·rw[if_neg (by rw[e];decide)] at *
  have := c z (by rw [itm_del e]; rcases hz with m | m
                  · exact .inl (List.mem_of_mem_tail m)
                  · exact .inr m)
  rw[tk_del e] at this;rw[this];cases h with
  |nil=>simp
  |cons y h =>
   have hne:z≠y:=by
    rintro rfl
    rcases hz with m|m
    ·exact ord_nh a.ord m
    ·have:=a.ap z List.mem_cons_self;rw[itm_del e] at this;exact this m
   simp[hne]
theorem countP_ins (g:It->Bool) (x:It):∀ l:List It,(insI x l).countP g=l.countP g+if g x=true then 1 else 0
 |[]=>by simp[insI,List.countP_cons]
 |y::l=>by
  rw[insI];split
  ·rw[List.countP_cons]
  ·rw[List.countP_cons,countP_ins g x l,List.countP_cons];omega
theorem hg_step {g:It->Bool} {h:List It} {o:Op} {r:List Op} (c:Con g h (o::r)) (a:Ap h (o::r)):(hgN g (stp h o) r:Int)=hgN g h (o::r)+wt g o:=by
 unfold hgN wt stp;rcases ins_cases o with e|e
 ·rw[if_pos e,if_pos e,fre_ins e,countP_ins];split<;>omega
 ·rw[if_neg (by rw[e];decide),if_neg (by rw[e];decide)]
  cases h with
  |nil =>
   rw[fre_del0 e];show((fre [] r+0:Nat):Int)=((1+fre [] r+0:Nat):Int) + -1
   omega
  |cons y h =>
   have hg:g y=true:=(c y (.inl List.mem_cons_self)).2 (by rw[tk_del e];simp)
   rw[fre_delc e,List.countP_cons,if_pos hg];show((fre h r+h.countP g:Nat):Int)=_
   omega
theorem hg_pos {g:It->Bool} {h:List It} {r:List Op} (hp:0<hgN g h r):0<fre h r∨∃ z,z∈h/\g z=true:=by
 unfold hgN at hp;rcases Nat.eq_zero_or_pos (fre h r) with e|e
 ·rw[e,Nat.zero_add] at hp;obtain⟨z,h1,h2⟩:=List.countP_pos_iff.1 hp;exact .inr ⟨z,h1,h2⟩
 ·exact .inl e
theorem hg_zero {g:It->Bool} {h:List It} {r:List Op} (hp:hgN g h r=0):fre h r=0/\∀ z,z∈h->g z=false:=by
 unfold hgN at hp;refine⟨by omega,fun z hz=>?_⟩
 have:=List.countP_eq_zero.1 (show h.countP g=0 by omega) z hz
 simpa using this
theorem hi_ge:∀ {l:List It} {z:It},z∈l->∃ m,hi l=some m/\(m=z∨ah z m)
 |a::l,z,hz=>by
  rcases List.mem_cons.1 hz with e|e
  ·subst e;show ∃ m,up (some z) (hi l)=some m/\_
   cases hi l with
   |none=>exact⟨z,rfl,.inl rfl⟩
   |some b =>
    rw[up_mx];refine⟨_,rfl,?_⟩;unfold mx;split
    ·rename_i c;exact .inr c
    ·exact .inl rfl
  ·obtain⟨m,h1,h2⟩:=hi_ge e;show ∃ m,up (some a) (hi l)=some m/\_
   rw[h1,up_mx];refine⟨_,rfl,?_⟩;unfold mx;split
   ·exact h2
   ·rename_i c;rcases h2 with h2|h2
    ·subst h2
     by_cases c2:m=a
     ·exact .inl c2.symm
     ·rcases ah_or c2 with c3|c3
      ·exact .inr c3
      ·exact absurd c3 c
    ·by_cases c2:m=a
     ·subst c2;exact .inr h2
     ·rcases ah_or c2 with c3|c3
      ·exact .inr (ah_tr h2 c3)
      ·exact absurd c3 c
theorem tp_step {g:It->Bool} {h:List It} {o:Op} {r:List Op} (c:Con g h (o::r)) (a:Ap h (o::r)) (hp:0<hgN g (stp h o) r):tp h (o::r)=tp (stp h o) r:=by
 have c':=c.stp a;have a':=a.stp;unfold tp;rcases ins_cases o with e|e
 ·rw[fre_ins e,tk_ins e];unfold stp;rw[if_pos e]
 ·have es:stp h o=h.tail:=by unfold stp;rw[if_neg (by rw[e];decide)]
  rw[es] at hp c' a' ⊢;cases h with
  |nil =>
   have:0<fre [] r:=by
    rcases hg_pos hp with h1|⟨z,h1,_⟩
    ·exact h1
    ·cases h1
   rw[fre_del0 e,if_neg (by omega)]
   show none=if fre [] r=0 then _ else none
   rw[if_neg (by omega)]
  |cons y h =>
   rw[fre_delc e,tk_delc e];show(if fre h r=0 then some (up (some y) (hi (tk h r))) else none)=(if fre h r=0 then some (hi (tk h r)) else none)
   split
   ·rename_i h0;rcases hg_pos hp with h1|⟨z,h1,h2⟩
    ·rw[List.tail_cons] at h1;omega
    ·have h3:=(c' z (.inl h1)).1 h2;obtain⟨m,m1,m2⟩:=hi_ge h3;have hyz:ah y z:=ord_lt a.ord h1;rw[List.tail_cons] at m1;rw[m1,up_mx];unfold mx;rw[if_pos (by rcases m2 with m2|m2;exact m2▸hyz;exact ah_tr hyz m2)]
   ·rfl
def lackO (z:It) (h:List It):List Op->Option It
 |[]=>some z
 |o::r=>if o.ins=true then lackO z (insI o.it h) r else if h.headD iz=z then(if h.tail=[] then none else lackO (h.tail.headD iz) h.tail r) else lackO z h.tail r
theorem lack_ins {z:It} {h:List It} {o:Op} {r:List Op} (e:o.ins=true):lackO z h (o::r)=lackO z (insI o.it h) r:=by rw[lackO,if_pos e]
theorem lack_del {z y:It} {h:List It} {o:Op} {r:List Op} (e:o.ins=false) (hne:y≠z):lackO z (y::h) (o::r)=lackO z h r:=by rw[lackO,if_neg (by rw[e];decide),if_neg (show ¬ (y::h).headD iz=z from hne)];rfl
theorem lack_one {z:It} {o:Op} {r:List Op} (e:o.ins=false):lackO z [z] (o::r)=none:=by rw[lackO,if_neg (by rw[e];decide),if_pos (show[z].headD iz=z from rfl),if_pos (show[z].tail=[] from rfl)]
theorem lack_two {z w:It} {h:List It} {o:Op} {r:List Op} (e:o.ins=false):lackO z (z::w::h) (o::r)=lackO w (w::h) r:=by rw[lackO,if_neg (by rw[e];decide),if_pos (show(z::w::h).headD iz=z from rfl),if_neg (show ¬ (z::w::h).tail=[] by simp)];rfl
theorem lack_self:∀ {r:List Op} {h:List It} {z:It},z∈h->z∉tk h r->lackO z h r=some z
 |[],h,z,_,_=>rfl
 |o::r,h,z,hz,hn=>by
  rcases ins_cases o with e|e
  ·rw[tk_ins e] at hn;rw[lack_ins e];exact lack_self (mem_ins.2 (.inr hz)) hn
  ·cases h with
   |nil=>cases hz
   |cons y h =>
    rw[tk_delc e,List.mem_cons,not_or] at hn;rw[lack_del e (Ne.symm hn.1)];rcases List.mem_cons.1 hz with m|m
    ·exact absurd m hn.1
    ·exact lack_self m hn.2
theorem rmv_head {y:It} {h:List It} (a:Ord (y::h)):rmv y (y::h)=h:=by
 refine ord_ext (ord_rmv a) (ord_tail a) fun z=>?_
 rw[mem_rmv,List.mem_cons]
 constructor
 ·rintro ⟨m|m,n⟩
  ·exact absurd m n
  ·exact m
 ·intro m;exact⟨.inr m,fun e=>ord_nh a (e▸m)⟩
theorem rmv_cons {y z:It} {h:List It} (hne:y≠z):rmv z (y::h)=y::rmv z h:=by
 unfold rmv;rw[List.filter_cons,decide_eq_false hne];rfl
theorem rmv_ins {y z:It} {h:List It} (a:Ord h) (hy:y∉h) (hne:y≠z):rmv z (insI y h)=insI y (rmv z h):=by
 refine ord_ext (ord_rmv (ord_ins a hy)) (ord_ins (ord_rmv a) fun m=>hy (mem_rmv.1 m).1) fun w=>?_
 rw[mem_rmv,mem_ins,mem_ins,mem_rmv]
 constructor
 ·rintro ⟨m|m,n⟩
  ·exact .inl m
  ·exact .inr ⟨m,n⟩
 ·rintro (m|⟨m,n⟩)
  ·exact⟨.inl m,m▸hne⟩
  ·exact⟨.inr m,n⟩
theorem lack_out:∀ {r:List Op} {h:List It} {z:It},Ap h r->z∈h ->
  fin (rmv z h) r=(match lackO z h r with|none=>fin h r|some w=>rmv w (fin h r)) /\
  fre (rmv z h) r=fre h r+(if lackO z h r=none then 1 else 0) /\
  (∀ w,w∈tk (rmv z h) r↔w≠z/\(w∈tk h r∨lackO z h r=some w))/\(∀ w,lackO z h r=some w->w∈fin h r)
 |[],h,z,a,hz=>by
  refine⟨rfl,rfl,fun w=>?_,fun w hw=>by cases hw;exact hz⟩
  show w∈([]:List It)↔w≠z/\(w∈([]:List It)∨some z=some w)
  constructor
  ·intro m;cases m
  ·rintro ⟨n,m|m⟩
   ·exact m
   ·cases m;exact absurd rfl n
 |o::r,h,z,a,hz=>by
  rcases ins_cases o with e|e
  ·obtain⟨a',n1,n2⟩:=a.ins e;have hne:o.it≠z:=fun c=>n1 (c▸hz)
   have ih:=lack_out a' (mem_ins.2 (.inr hz));rw[rmv_ins a.ord n1 hne] at ih;rw[fin_ins e,fin_ins e,fre_ins e,fre_ins e,tk_ins e,tk_ins e,lack_ins e];exact ih
  ·have a':=a.del e;cases h with
   |nil=>cases hz
   |cons y h =>
    have hyi:y∉itm r:=by have:=a.ap y List.mem_cons_self;rwa [itm_del e] at this
    have ytk:y∉tk h r:=fun m=>by
     rcases tk_from a' y m with m|m
     ·exact ord_nh a.ord m
     ·exact hyi m
    have yfin:y∉fin h r:=fun m=>by
     rcases((mem_fin a' y).1 m).1 with m|m
     ·exact ord_nh a.ord m
     ·exact hyi m
    by_cases hne:y=z
    ·subst hne;rw[rmv_head a.ord];cases h with
     |nil =>
      rw[fin_del e,fin_del e,fre_del0 e,fre_delc e,tk_del0 e,tk_delc e,lack_one e];refine⟨rfl,?_,fun w=>?_,fun w hw=>by cases hw⟩
      ·rw[if_pos rfl];omega
      ·rw[List.mem_cons]
       constructor
       ·intro m;exact⟨fun c=>ytk (c▸m),.inl (.inr m)⟩
       ·rintro ⟨n,(m|m)|m⟩
        ·exact absurd m n
        ·exact m
        ·cases m
     |cons w h =>
      obtain⟨i1,i2,i3,i4⟩:=lack_out a' List.mem_cons_self;rw[List.tail_cons] at i1 i2 i3 i4;rw[rmv_head (ord_tail a.ord)] at i1 i2 i3;rw[fin_del e,fin_del e,fre_delc e,fre_delc e,tk_delc e,tk_delc e,lack_two e];refine⟨i1,i2,fun v=>?_,i4⟩
      have wy:w≠y:=fun c=>ord_nh a.ord (c▸List.mem_cons_self)
      rw[List.mem_cons,List.mem_cons,i3]
      constructor
      ·rintro (m|⟨n,m|m⟩)
       ·subst m;refine⟨wy,?_⟩
        by_cases c:v∈tk (v::h) r
        ·exact .inl (.inr c)
        ·exact .inr (lack_self List.mem_cons_self c)
       ·exact⟨fun c=>ytk (c▸m),.inl (.inr m)⟩
       ·exact⟨fun c=>yfin (c▸i4 _ m),.inr m⟩
      ·rintro ⟨n,(m|m)|m⟩
       ·exact absurd m n
       ·by_cases c:v=w
        ·exact .inl c
        ·exact .inr ⟨c,.inl m⟩
       ·by_cases c:v=w
        ·exact .inl c
        ·exact .inr ⟨c,.inr m⟩
    ·have hz':z∈h:=by
      rcases List.mem_cons.1 hz with m|m
      ·exact absurd m.symm hne
      ·exact m
     obtain⟨i1,i2,i3,i4⟩:=lack_out a' hz';rw[List.tail_cons] at i1 i2 i3 i4;rw[rmv_cons hne,fin_del e,fin_del e,fre_delc e,fre_delc e,tk_delc e,tk_delc e,lack_del e hne];refine⟨i1,i2,fun v=>?_,i4⟩
     rw[List.mem_cons,List.mem_cons,i3]
     constructor
     ·rintro (m|⟨n,m|m⟩)
      ·exact⟨m▸hne,.inl (.inl m)⟩
      ·exact⟨n,.inl (.inr m)⟩
      ·exact⟨n,.inr m⟩
     ·rintro ⟨n,(m|m)|m⟩
      ·exact .inl m
      ·exact .inr ⟨n,.inl m⟩
      ·exact .inr ⟨n,.inr m⟩
theorem all_tk:∀ {r:List Op} {h:List It},0<fre h r->∀ z,z∈h->z∈tk h r
 |[],h,hp,z,hz=>by simp[fre] at hp
 |o::r,h,hp,z,hz=>by
  rcases ins_cases o with e|e
  ·rw[fre_ins e] at hp;rw[tk_ins e];exact all_tk hp z (mem_ins.2 (.inr hz))
  ·cases h with
   |nil=>cases hz
   |cons y h =>
    rw[fre_delc e] at hp;rw[tk_delc e];rcases List.mem_cons.1 hz with m|m
    ·exact m▸List.mem_cons_self
    ·exact List.mem_cons_of_mem _ (all_tk hp z m)
theorem tk_lo:∀ {r:List Op} {h:List It},Ap h r->∀ {y z:It},z∈tk h r->y∈h->ah y z->y∈tk h r
 |[],h,a,y,z,hz,hy,c=>by cases hz
 |o::r,h,a,y,z,hz,hy,c=>by
  rcases ins_cases o with e|e
  ·rw[tk_ins e] at *
   exact tk_lo (a.ins e).1 hz (mem_ins.2 (.inr hy)) c
  ·cases h with
   |nil=>cases hy
   |cons w h =>
    rw[tk_delc e] at *
    rcases List.mem_cons.1 hy with m|m
    ·exact m▸List.mem_cons_self
    ·rcases List.mem_cons.1 hz with m'|m'
     ·subst m';exact absurd (ord_lt a.ord m) (ah_asymm c)
     ·exact List.mem_cons_of_mem _ (tk_lo (a.del e) m' m c)
def brs (g:It->Bool) (h:List It):List Op->List It
 |[]=>h
 |o::r=>if hgN g h (o::r)=0 then h else brs g (stp h o) r
theorem brs_zero {g:It->Bool} {h:List It} {r:List Op} (hz:hgN g h r=0):brs g h r=h:=by
 cases r with
 |nil=>rfl
 |cons o r=>rw[brs,if_pos hz]
theorem stp_ins {h:List It} {o:Op} (e:o.ins=true):stp h o=insI o.it h:=by unfold stp;rw[if_pos e]
theorem stp_del {h:List It} {o:Op} (e:o.ins=false):stp h o=h.tail:=by unfold stp;rw[if_neg (by rw[e];decide)]
theorem brs_free {g:It->Bool}:∀ {r:List Op} {h:List It},0<fre h r->brs g h r=[]
 |[],h,hp=>by simp[fre] at hp
 |o::r,h,hp=>by
  rw[brs,if_neg (by unfold hgN;omega)]
  rcases ins_cases o with e|e
  ·rw[stp_ins e];rw[fre_ins e] at hp;exact brs_free hp
  ·rw[stp_del e];cases h with
   |nil =>
    rcases Nat.eq_zero_or_pos (fre [] r) with c|c
    ·exact brs_zero (h:=[]) (by unfold hgN;rw[c];rfl)
    ·exact brs_free (h:=[]) c
   |cons y h =>
    rw[fre_delc e] at hp;exact brs_free hp
theorem lack_br {g:It->Bool}:∀ {r:List Op} {h:List It} {z:It},Ap h r->Con g h r->z∈h->g z=true->lackO z h r=(brs g h r).head?
 |[],h,z,a,c,hz,hg=>by have:=(c z (.inl hz)).1 hg;cases this
 |o::r,h,z,a,c,hz,hg=>by
  have hp:hgN g h (o::r)≠0:=by
   have:0<h.countP g:=List.countP_pos_iff.2 ⟨z,hz,hg⟩;unfold hgN;omega
  have a':=a.stp;have c':=c.stp a;rw[brs,if_neg hp];rcases ins_cases o with e|e
  ·rw[stp_ins e] at *
   rw[lack_ins e];exact lack_br a' c' (mem_ins.2 (.inr hz)) hg
  ·rw[stp_del e] at *
   cases h with
   |nil=>cases hz
   |cons y h =>
    rw[List.tail_cons] at *
    by_cases hne:y=z
    ·subst hne;cases h with
     |nil =>
      rw[lack_one e];rcases Nat.eq_zero_or_pos (fre [] r) with k|k
      ·rw[brs_zero (by unfold hgN;rw[k];rfl)];rfl
      ·rw[brs_free k];rfl
     |cons w h =>
      rw[lack_two e];rcases Nat.eq_zero_or_pos (hgN g (w::h) r) with k|k
      ·rw[brs_zero k];have hw:w∉tk (w::h) r:=fun m=>by
        have:=(c' w (.inl List.mem_cons_self)).2 m;rw[(hg_zero k).2 w List.mem_cons_self] at this;cases this
       exact lack_self List.mem_cons_self hw
      ·refine lack_br a' c' List.mem_cons_self ?_;refine(c' w (.inl List.mem_cons_self)).2 ?_;rcases hg_pos k with k1|⟨v,k1,k2⟩
       ·exact all_tk k1 w List.mem_cons_self
       ·have k3:=(c' v (.inl k1)).1 k2;rcases List.mem_cons.1 k1 with m|m
        ·exact m▸k3
        ·exact tk_lo a' k3 List.mem_cons_self (ord_lt a'.ord m)
    ·rw[lack_del e hne];have hz':z∈h:=by
      rcases List.mem_cons.1 hz with m|m
      ·exact absurd m.symm hne
      ·exact m
     exact lack_br a' c' hz' hg
theorem del_br {g:It->Bool} {r:List Op} {y:It} {h:List It} (a:Ap (y::h) r) (c:Con g (y::h) r):lackO y (y::h) r=(brs g (y::h) r).head?:=by
 rcases Nat.eq_zero_or_pos (hgN g (y::h) r) with k|k
 ·rw[brs_zero k];refine lack_self List.mem_cons_self fun m=>?_
  have:=(c y (.inl List.mem_cons_self)).2 m;rw[(hg_zero k).2 y List.mem_cons_self] at this;cases this
 ·refine lack_br a c List.mem_cons_self ?_;refine(c y (.inl List.mem_cons_self)).2 ?_;rcases hg_pos k with k1|⟨v,k1,k2⟩
  ·exact all_tk k1 y List.mem_cons_self
  ·have k3:=(c v (.inl k1)).1 k2;rcases List.mem_cons.1 k1 with m|m
   ·exact m▸k3
   ·exact tk_lo a k3 List.mem_cons_self (ord_lt a.ord m)
theorem fin_app:∀ (a b:List Op) (h:List It),fin h (a++b)=fin (fin h a) b
 |[],b,h=>rfl
 |o::a,b,h=>by show fin (stp h o) (a++b)=fin (fin (stp h o) a) b;exact fin_app a b _
theorem tk_app:∀ (a b:List Op) (h:List It),tk h (a++b)=tk h a++tk (fin h a) b
 |[],b,h=>rfl
 |o::a,b,h=>by
  rcases ins_cases o with e|e
  ·rw[List.cons_append,tk_ins e,tk_ins e,fin_ins e];exact tk_app a b _
  ·rw[List.cons_append,tk_del e,tk_del e,fin_del e,tk_app a b,List.append_assoc]
theorem fre_app:∀ (a b:List Op) (h:List It),fre h (a++b)=fre h a+fre (fin h a) b
 |[],b,h=>by show _=0+_;rw[Nat.zero_add];rfl
 |o::a,b,h=>by
  rcases ins_cases o with e|e
  ·rw[List.cons_append,fre_ins e,fre_ins e,fin_ins e];exact fre_app a b _
  ·rw[List.cons_append,fre_del e,fre_del e,fin_del e,fre_app a b];omega
theorem ap_fin:∀ {a b:List Op} {h:List It},Ap h (a++b)->Ap (fin h a) b
 |[],b,h,k=>k
 |o::a,b,h,k=>ap_fin (a:=a) k.stp
theorem con_fin {g:It->Bool}:∀ {a b:List Op} {h:List It},Ap h (a++b)->Con g h (a++b)->Con g (fin h a) b
 |[],b,h,k,c=>c
 |o::a,b,h,k,c=>con_fin (a:=a) k.stp (c.stp k)
def wts (g:It->Bool):List Op->Int
 |[]=>0
 |o::r=>wt g o+wts g r
theorem hg_at {g:It->Bool}:∀ {a b:List Op} {h:List It},Ap h (a++b)->Con g h (a++b)->(hgN g (fin h a) b:Int)=hgN g h (a++b)+wts g a
 |[],b,h,k,c=>by show(hgN g h b:Int)=hgN g h b+0;omega
 |o::a,b,h,k,c=>by
  have h1:=hg_at (a:=a) (b:=b) k.stp (c.stp k);have h2:=hg_step (r:=a++b) c k;show(hgN g (fin (stp h o) a) b:Int)=hgN g h (o::(a++b))+(wt g o+wts g a)
  omega
theorem tp_back {g:It->Bool}:∀ {m b:List Op} {h:List It},Ap h (m++b)->Con g h (m++b)->(∀ a c,m=a++c->a≠[]->0<hgN g (fin h a) (c++b))->tp h (m++b)=tp (fin h m) b
 |[],b,h,k,c,hp=>rfl
 |o::m,b,h,k,c,hp=>by
  have h1:tp h (o::(m++b))=tp (stp h o) (m++b):=tp_step c k (hp [o] m rfl (by simp))
  rw[List.cons_append,h1];exact tp_back (m:=m) k.stp (c.stp k) fun a c' e hne=>hp (o::a) c' (by rw[e];rfl) (by simp)
theorem brs_at {g:It->Bool}:∀ {r:List Op} {h:List It},Ap h r->Con g h r->∃ a b,r=a++b/\brs g h r=fin h a/\hgN g (fin h a) b=0/\∀ c d,r=c++d->c.length<a.length->0<hgN g (fin h c) d
 |[],h,k,c=>⟨[],[],rfl,rfl,by
   unfold hgN;have:h.countP g=0:=List.countP_eq_zero.2 fun z hz hg=>by have:=(c z (.inl hz)).1 hg;cases this
   show 0+h.countP g=0
   omega,fun c d e hl=>by simp at hl⟩
 |o::r,h,k,c=>by
  rw[brs];split
  ·rename_i h0;exact⟨[],o::r,rfl,rfl,h0,fun c d e hl=>by simp at hl⟩
  ·rename_i h0;obtain⟨a,b,e1,e2,e3,e4⟩:=brs_at k.stp (c.stp k);refine⟨o::a,b,by rw[e1];rfl,e2,e3,fun c' d e hl=>?_⟩
   cases c' with
   |nil=>rw[List.nil_append] at e;subst e;exact Nat.pos_of_ne_zero h0
   |cons o' c' =>
    rw[List.cons_append,List.cons.injEq] at e;obtain⟨rfl,e⟩:=e;exact e4 c' d e (by simpa using hl)
end Pa
namespace Gv
open Rx
section
variable {E A:Type} {O:Ops E A}
def rkE (O:Ops E A) (e:E) (l:List E):Nat:=(loE O e l).length
theorem rkE_nil (e:E):rkE O e []=0:=rfl
theorem rkE_gt {e y:E} {l:List E} (h:0<O.cmp e y):rkE O e (y::l)=rkE O e l+1:=by
 unfold rkE;rw[(cons_gt h).1];rfl
theorem rkE_ngt {e y:E} {l:List E} (h:¬ 0<O.cmp e y):rkE O e (y::l)=0:=by
 unfold rkE;rw[(cons_ngt h).1];rfl
theorem rkE_le (e:E) (l:List E):rkE O e l≤l.length:=by
 have:=congrArg List.length (loE_hiE (O:=O) e l);rw[List.length_append] at this;unfold rkE;omega
theorem rkE_lt {e:E}:∀ {l:List E} {j:Nat},j<rkE O e l->0<O.cmp e (l.getD j O.e0)
 |[],j,h=>by rw[rkE_nil] at h;omega
 |y::l,j,h=>by
  by_cases c:0<O.cmp e y
  ·rw[rkE_gt c] at h;cases j with
   |zero=>simpa using c
   |succ j=>rw[List.getD_cons_succ];exact rkE_lt (by omega)
  ·rw[rkE_ngt c] at h;omega
theorem rkE_ge {e:E}:∀ {l:List E},rkE O e l<l.length->¬ 0<O.cmp e (l.getD (rkE O e l) O.e0)
 |[],h=>by simp at h
 |y::l,h=>by
  by_cases c:0<O.cmp e y
  ·rw[rkE_gt c] at h ⊢;rw[List.getD_cons_succ];exact rkE_ge (by simpa using h)
  ·rw[rkE_ngt c];simpa using c
theorem lo_rk (e:E) (l:List E):loE O e l=l.take (rkE O e l):=by
 have h:=List.take_left' (l₁:=loE O e l) (l₂:=hiE O e l) rfl;rw[loE_hiE] at h;exact h.symm
theorem hi_rk (e:E) (l:List E):hiE O e l=l.drop (rkE O e l):=by
 have h:=List.drop_left' (l₁:=loE O e l) (l₂:=hiE O e l) rfl;rw[loE_hiE] at h;exact h.symm
theorem hit_rk (e:E) (l:List E):(hitE O e l).isSome=(decide (rkE O e l<l.length)&&decide (O.cmp e (l.getD (rkE O e l) O.e0)=0)):=by
 unfold hitE;rw[hi_rk]
 by_cases h:rkE O e l<l.length
 ·rw[List.drop_eq_getElem_cons h,List.getD_eq_getElem?_getD,List.getElem?_eq_getElem h,decide_eq_true h];simp only[Option.getD_some,Bool.true_and];split
  ·rename_i c;rw[decide_eq_true c];rfl
  ·rename_i c;rw[decide_eq_false c];rfl
 ·rw[List.drop_eq_nil_of_le (by omega),decide_eq_false h];rfl
theorem put_rk (e:E) (l:List E):putE O e l=l.take (rkE O e l)++e::l.drop (if(hitE O e l).isSome then rkE O e l+1 else rkE O e l):=by
 unfold putE;rw[lo_rk,hi_rk];cases h:hitE O e l with
 |none=>rfl
 |some x=>simp[List.tail_drop]
variable {S:List E->A} {good:List E->Prop} (Z:Laws O S good)
include Z
theorem srt_rk {e:E} {l:List E} {i:Nat} (hs:SrtE O l) (hi:i<l.length) (he:O.cmp e (l.getD i O.e0)=0):rkE O e l=i:=by
 have gi:l.getD i O.e0=l[i]:=by rw[List.getD_eq_getElem?_getD,List.getElem?_eq_getElem hi];rfl
 rcases Nat.lt_trichotomy (rkE O e l) i with h|h|h
 ·have h1:=rkE_ge (O:=O) (e:=e) (l:=l) (by omega)
  have g:l.getD (rkE O e l) O.e0=l[rkE O e l]'(by omega):=by rw[List.getD_eq_getElem?_getD,List.getElem?_eq_getElem (by omega)];rfl
  rw[gi] at he;have h2:=(List.pairwise_iff_getElem.1 hs) (rkE O e l) i (by omega) hi h
  have h3:=Z.eqv' _ _ _ he h2;rw[g] at h1;exact absurd ((Z.swap _ _).1 h3) h1
 ·exact h
 ·have:=rkE_lt (O:=O) (e:=e) (l:=l) h;omega
theorem srt_fnd {e:E} {l:List E} {i:Nat} (hs:SrtE O l) (hi:i<l.length) (he:O.cmp e (l.getD i O.e0)=0):fndE O e l=(l.getD i O.e0,true):=by
 have hr:=srt_rk Z hs hi he;have gi:l.getD i O.e0=l[i]:=by rw[List.getD_eq_getElem?_getD,List.getElem?_eq_getElem hi];rfl
 have hh:hitE O e l=some (l.getD i O.e0):=by
  unfold hitE;rw[hi_rk,hr,List.drop_eq_getElem_cons hi];simp only;rw[gi] at he ⊢;rw[if_pos he]
 unfold fndE;rw[hh];rfl
end
end Gv
namespace Gv
open Rx
set_option linter.unusedSectionVars false
section
variable {E A:Type} {O:Ops E A} {S:List E->A} {good:List E->Prop} (Z:Laws O S good)
structure AsksX (O:Ops E A) (S:List E->A) (may:A->A->Bool) (P:Nat->Bool) (L:List E):Prop extends Asks O S may P L where
 ex:∀ p l q,p++(l++q)=L->l≠[]->may (S p) (S l)=true->∃ i,p.length≤i/\i<p.length+l.length/\P i=true
def CostF (h a b:Nat) (f r:Int) (kk:Nat):Prop:=kk≤4*h/\(f≤a->kk≤2*h)/\(r<0->kk≤2*h)/\(f≤a->r<0->kk=0)/\((b:Int)≤f->kk=0)
def CostL (h a b:Nat) (u r:Int) (kk:Nat):Prop:=kk≤4*h/\((b:Int)≤u->kk≤2*h)/\(r<0->kk≤2*h)/\((b:Int)≤u->r<0->kk=0)/\(u≤a->kk=0)
theorem costF_left {hl hq a ll b:Nat} {f r:Int} {kk:Nat} (x:CostF hl a (a+ll) f r kk) (h3:0≤r) (hc:¬ ((b:Nat):Int)≤f):CostF (1+max hl hq) a b f r (1+kk):=by
 obtain⟨x1,x2,x3,x4,x5⟩:=x;exact⟨by omega,fun w=>by have:=x2 w;omega,fun w=>by omega,fun w w'=>by omega,fun w=>absurd w hc⟩
theorem costF_mid {hl hq a ll b:Nat} {f r rl:Int} {kk:Nat} (x:CostF hl a (a+ll) f rl kk) (h3:rl<0) (h0:0≤r) (hc:¬ ((b:Nat):Int)≤f):CostF (1+max hl hq) a b f r (1+kk):=by
 obtain⟨x1,x2,x3,x4,x5⟩:=x;have z3:=x3 h3;exact⟨by omega,fun w=>by have:=x2 w;omega,fun w=>by omega,fun w w'=>by omega,fun w=>absurd w hc⟩
theorem costF_right {hl hq a ll lq am:Nat} {f rl rq:Int} {kk kk2:Nat} (x:CostF hl a (a+ll) f rl kk) (y:CostF hq am (am+lq) f rq kk2) (hm:am=a+ll+1) (h3:rl<0) (h0:f≤a->¬ rq<0) (hc:¬ ((a+(ll+(lq+1)):Nat):Int)≤f) :
  CostF (1+max hl hq) a (a+(ll+(lq+1))) f rq (1+kk+1+kk2):=by
 subst hm;obtain⟨x1,x2,x3,x4,x5⟩:=x;obtain⟨y1,y2,y3,y4,y5⟩:=y;have z3:=x3 h3;refine⟨?_,fun w=>?_,fun w=>?_,fun w w'=>absurd w' (h0 w),fun w=>absurd w hc⟩
 ·by_cases w2:f≤((a+ll+1:Nat):Int)
  ·have:=y2 w2;omega
  ·have:=x5 (by omega);omega
 ·have:=y2 (by omega);have:=x4 w h3;omega
 ·have:=y3 w
  by_cases w2:f≤((a+ll+1:Nat):Int)
  ·have:=y4 w2 w;omega
  ·have:=x5 (by omega);omega
theorem costL_right {hl hq a ll lq b am:Nat} {u r:Int} {kk:Nat} (x:CostL hq am (am+lq) u r kk) (hm:am=a+ll+1) (h3:0≤r) (hb:b=a+(ll+(lq+1))) (hc:¬ u≤((a:Nat):Int)):CostL (1+max hl hq) a b u r (2+kk):=by
 subst hm;obtain⟨x1,x2,x3,x4,x5⟩:=x;exact⟨by omega,fun w=>by have:=x2 (by omega);omega,fun w=>by omega,fun w w'=>by omega,fun w=>absurd w hc⟩
theorem costL_mid {hl hq a ll lq b am:Nat} {u r rl:Int} {kk:Nat} (x:CostL hq am (am+lq) u rl kk) (hm:am=a+ll+1) (h3:rl<0) (h0:0≤r) (hb:b=a+(ll+(lq+1))) (hc:¬ u≤((a:Nat):Int)):CostL (1+max hl hq) a b u r (2+kk):=by
 subst hm;obtain⟨x1,x2,x3,x4,x5⟩:=x;have z3:=x3 h3;exact⟨by omega,fun w=>by have:=x2 (by omega);omega,fun w=>by omega,fun w w'=>by omega,fun w=>absurd w hc⟩
theorem costL_left {hl hq a ll lq am:Nat} {u rl rq:Int} {kk kk2:Nat} (x:CostL hq am (am+lq) u rq kk) (hm:am=a+ll+1) (y:CostL hl a (a+ll) u rl kk2) (h3:rq<0) (h0:((a+(ll+(lq+1)):Nat):Int)≤u->¬ rl<0) (hc:¬ u≤((a:Nat):Int)) :
  CostL (1+max hl hq) a (a+(ll+(lq+1))) u rl (2+kk+kk2):=by
 subst hm;obtain⟨x1,x2,x3,x4,x5⟩:=x;obtain⟨y1,y2,y3,y4,y5⟩:=y;have z3:=x3 h3;refine⟨?_,fun w=>?_,fun w=>?_,fun w w'=>absurd w' (h0 w),fun w=>absurd w hc⟩
 ·by_cases w2:((a+ll:Nat):Int)≤u
  ·have:=y2 w2;omega
  ·have:=x5 (by omega);omega
 ·have:=y2 (by omega);have:=x4 (by omega) h3;omega
 ·have:=y3 w
  by_cases w2:((a+ll:Nat):Int)≤u
  ·have:=y4 w2 w;omega
  ·have:=x5 (by omega);omega
include Z
theorem first_cost {n:Nat} {may:A->A->Bool} {P:Nat->Bool} {L:List E} {f:Int} (hA:AsksX O S may P L) (hg:good L):∀ (t:Tr E) {k:Nat} {m:Po E A} {p s:List E},POk n m->Rp O S m t->p++(t.elems++s)=L->t.h<k ->
  ∃ kk,CostF t.h p.length (p.length+t.elems.length) f (first O may k m (nd O S t) ⟨p.length,S p⟩ f).1 kk/\Upd [] kk (zn O) m (first O may k m (nd O S t) ⟨p.length,S p⟩ f).2
 |t,0,m,p,s,_,_,_,hk=>by omega
 |.nil,k+1,m,p,s,ho,hr,hL,hk=>by
  rw[first,if_pos (.inl (by rw[nd_h];rfl))]
  exact⟨0,⟨Nat.zero_le _,fun _=>Nat.zero_le _,fun _=>Nat.zero_le _,fun _ _=>rfl,fun _=>rfl⟩,Upd.refl _ _ _ _⟩
 |.node r l x q,k+1,m,p,s,ho,⟨hr1,hr2,hr3,hr4⟩,hL,hk=>by
  have whole:=(first_tr Z (f:=f) hA.toAsks hg (.node r l x q) (k:=k+1) (m:=m) (p:=p) (s:=s) ho ⟨hr1,hr2,hr3,hr4⟩ hL hk).1;simp only[Tr.h] at hk;have hlen:=Z.len _ hg;have hall:=nd_all (O:=O) (S:=S) Z.nil (.node r l x q);rw[← Tr.elems_length] at hall;have kl:lk O m l.root=nd O S l:=hr3.root ho;have kq:lk O m q.root=nd O S q:=hr4.root ho;have e1:(nd O S (Tr.node r l x q)).l=l.root:=rfl;have e2:(nd O S (Tr.node r l x q)).r=q.root:=rfl;have e3:(nd O S (Tr.node r l x q)).e=x:=rfl;have e5:¬ (nd O S (Tr.node r l x q)).h=0:=by rw[nd_h];simp only[Tr.h];omega
  have hLl:=congrArg List.length hL;rw[Tr.elems_node] at hL;have hL1:p++(l.elems++(x::q.elems++s))=L:=by simpa using hL
  have hL2:(p++l.elems)++x::(q.elems++s)=L:=by simpa using hL
  have hL3:(p++l.elems++[x])++(q.elems++s)=L:=by simpa using hL
  have hex:=hA.ex p (Tr.node r l x q).elems s (by rw[Tr.elems_node];exact hL) (by rw[Tr.elems_node];simp)
  have hsl:(Tr.node r l x q).elems.length=l.elems.length+(q.elems.length+1):=by rw[Tr.elems_node];simp
  have hkl:l.h<k:=by omega
  have hkq:q.h<k:=by omega
  have hhh:(Tr.node r l x q).h=1+max l.h q.h:=rfl;rw[first,e1,e2,e3,hall] at whole ⊢
  simp only[kl,lk_first,lk_see,kq,nd_all Z.nil,← Tr.elems_length] at whole ⊢;simp only[List.length_append] at hLl;have w1:W ((p.length:Int)+((Tr.node r l x q).elems.length:Int))=(p.length:Int)+(Tr.node r l x q).elems.length:=W_of (by omega)
  rw[w1] at whole ⊢
  by_cases c1:(nd O S (Tr.node r l x q)).h=0∨(p.length:Int)+(Tr.node r l x q).elems.length≤f
  ·rw[if_pos c1];exact⟨0,⟨Nat.zero_le _,fun _=>Nat.zero_le _,fun _=>Nat.zero_le _,fun _ _=>rfl,fun _=>rfl⟩,Upd.refl _ _ _ _⟩
  ·rw[if_neg c1] at whole ⊢;have hc:¬ ((p.length+(Tr.node r l x q).elems.length:Nat):Int)≤f:=fun h=>c1 (.inr (by omega))
   by_cases c2:(p.length:Int)≥f/\may (S p) (S (Tr.node r l x q).elems)=false
   ·rw[if_pos c2];exact⟨0,⟨Nat.zero_le _,fun _=>Nat.zero_le _,fun _=>Nat.zero_le _,fun _ _=>rfl,fun _=>rfl⟩,Upd.refl _ _ _ _⟩
   ·rw[if_neg c2] at whole ⊢;have hyes:f≤p.length->∃ i:Nat,p.length≤i/\i<p.length+(Tr.node r l x q).elems.length/\P i=true:=fun hf=>by
     cases hm:may (S p) (S (Tr.node r l x q).elems) with
     |false=>exact absurd ⟨hf,hm⟩ c2
     |true=>exact hex hm
    obtain⟨kk,x0,i2⟩:=first_cost hA hg l (k:=k) (m:=see m l.root) (p:=p) (s:=x::q.elems++s) (see_ok.2 ho) (hr3.see _) hL1 hkl;have hu:=(see_upd (zn O) m l.root).to i2 (S:=[]) (fun s hs=>by simp at hs) (Nat.le_refl _)
    rw[hhh]
    by_cases c3:(first O may k (see m l.root) (nd O S l) ⟨p.length,S p⟩ f).1≥0
    ·rw[if_pos c3];exact⟨_,costF_left x0 c3 hc,hu⟩
    ·rw[if_neg c3] at whole ⊢;have hgl:good (p++l.elems):=Z.left _ (x::(q.elems++s)) (by rw[hL2];exact hg)
     have hgx:good ((p++l.elems)++[x]):=Z.left _ (q.elems++s) (by rw[hL3];exact hg)
     rw[part_plus Z hgl,one_part Z,part_plus Z hgx] at whole ⊢
     by_cases c4:((p++l.elems).length:Int)≥f/\may (S (p++l.elems)) (O.sum x)=true
     ·rw[if_pos c4];exact⟨_,costF_mid x0 (Int.not_le.mp c3) (Int.natCast_nonneg _) hc,hu⟩
     ·rw[if_neg c4] at whole ⊢;obtain⟨kk2,y0,j2⟩:=first_cost hA hg q (k:=k) (m:=see (first O may k (see m l.root) (nd O S l) ⟨p.length,S p⟩ f).2 q.root) (p:=p++l.elems++[x]) (s:=s) (see_ok.2 (first_ok.2 (see_ok.2 ho)))
       ((Rp.frame hu (fun s _ hs=>by cases hs) hr4).see _) hL3 hkq
      refine⟨_,?_,(hu.to (see_upd _ _ q.root) (S:=[]) (fun s hs=>by simp at hs) (Nat.le_refl _)).to j2 (fun s hs=>by simp at hs) (Nat.le_refl _)⟩
      have hxl:(p++l.elems++[x]).length=p.length+l.elems.length+1:=by simp;omega
      rw[hsl] at hc ⊢;refine costF_right x0 y0 hxl (Int.not_le.mp c3) (fun hf hr=>?_) hc
      obtain⟨i,g1,g2,g3⟩:=hyes hf;clear hyes hex;rcases whole with⟨h1,h2⟩|⟨j,h1,_⟩
      ·rw[h2 i g1 g2 (by omega)] at g3;cases g3
      ·rw[h1] at hr;exact absurd hr (Int.not_lt.mpr (Int.natCast_nonneg j))
theorem last_cost {n:Nat} {may:A->A->Bool} {P:Nat->Bool} {L:List E} {u:Int} (hA:AsksX O S may P L) (hg:good L):∀ (t:Tr E) {k:Nat} {m:Po E A} {p s:List E},POk n m->Rp O S m t->p++(t.elems++s)=L->t.h<k ->
  ∃ kk,CostL t.h p.length (p.length+t.elems.length) u (last O may k m (nd O S t) ⟨p.length,S p⟩ u).1 kk/\Upd [] kk (zn O) m (last O may k m (nd O S t) ⟨p.length,S p⟩ u).2
 |t,0,m,p,s,_,_,_,hk=>by omega
 |.nil,k+1,m,p,s,ho,hr,hL,hk=>by
  rw[last,if_pos (.inl (by rw[nd_h];rfl))]
  exact⟨0,⟨Nat.zero_le _,fun _=>Nat.zero_le _,fun _=>Nat.zero_le _,fun _ _=>rfl,fun _=>rfl⟩,Upd.refl _ _ _ _⟩
 |.node r l x q,k+1,m,p,s,ho,⟨hr1,hr2,hr3,hr4⟩,hL,hk=>by
  have whole:=(last_tr Z (u:=u) hA.toAsks hg (.node r l x q) (k:=k+1) (m:=m) (p:=p) (s:=s) ho ⟨hr1,hr2,hr3,hr4⟩ hL hk).1;simp only[Tr.h] at hk;have hlen:=Z.len _ hg;have hall:=nd_all (O:=O) (S:=S) Z.nil (.node r l x q);rw[← Tr.elems_length] at hall;have kl:lk O m l.root=nd O S l:=hr3.root ho;have kq:lk O m q.root=nd O S q:=hr4.root ho;have e1:(nd O S (Tr.node r l x q)).l=l.root:=rfl;have e2:(nd O S (Tr.node r l x q)).r=q.root:=rfl;have e3:(nd O S (Tr.node r l x q)).e=x:=rfl;have e5:¬ (nd O S (Tr.node r l x q)).h=0:=by rw[nd_h];simp only[Tr.h];omega
  have hLl:=congrArg List.length hL;rw[Tr.elems_node] at hL;have hL1:p++(l.elems++(x::q.elems++s))=L:=by simpa using hL
  have hL2:(p++l.elems)++x::(q.elems++s)=L:=by simpa using hL
  have hL3:(p++l.elems++[x])++(q.elems++s)=L:=by simpa using hL
  have hex:=hA.ex p (Tr.node r l x q).elems s (by rw[Tr.elems_node];exact hL) (by rw[Tr.elems_node];simp)
  have hsl:(Tr.node r l x q).elems.length=l.elems.length+(q.elems.length+1):=by rw[Tr.elems_node];simp
  have hkl:l.h<k:=by omega
  have hkq:q.h<k:=by omega
  have hhh:(Tr.node r l x q).h=1+max l.h q.h:=rfl;rw[last,e1,e2,e3,hall] at whole ⊢;simp only[kl,lk_last,lk_see,kq,nd_all Z.nil,← Tr.elems_length] at whole ⊢;simp only[List.length_append] at hLl;have w1:W ((p.length:Int)+((Tr.node r l x q).elems.length:Int))=(p.length:Int)+(Tr.node r l x q).elems.length:=W_of (by omega)
  rw[w1] at whole ⊢
  by_cases c1:(nd O S (Tr.node r l x q)).h=0∨(p.length:Int)≥u
  ·rw[if_pos c1];exact⟨0,⟨Nat.zero_le _,fun _=>Nat.zero_le _,fun _=>Nat.zero_le _,fun _ _=>rfl,fun _=>rfl⟩,Upd.refl _ _ _ _⟩
  ·rw[if_neg c1] at whole ⊢;have hc:¬ u≤((p.length:Nat):Int):=fun h=>c1 (.inr h)
   by_cases c2:(p.length:Int)+(Tr.node r l x q).elems.length≤u/\may (S p) (S (Tr.node r l x q).elems)=false
   ·rw[if_pos c2];exact⟨0,⟨Nat.zero_le _,fun _=>Nat.zero_le _,fun _=>Nat.zero_le _,fun _ _=>rfl,fun _=>rfl⟩,Upd.refl _ _ _ _⟩
   ·rw[if_neg c2] at whole ⊢;have hyes:((p.length+(Tr.node r l x q).elems.length:Nat):Int)≤u->∃ i:Nat,p.length≤i/\i<p.length+(Tr.node r l x q).elems.length/\P i=true:=fun hf=>by
     cases hm:may (S p) (S (Tr.node r l x q).elems) with
     |false=>exact absurd ⟨by omega,hm⟩ c2
     |true=>exact hex hm
    have hgl:good (p++l.elems):=Z.left _ (x::(q.elems++s)) (by rw[hL2];exact hg)
    have hgx:good ((p++l.elems)++[x]):=Z.left _ (q.elems++s) (by rw[hL3];exact hg)
    rw[part_plus Z hgl,one_part Z,part_plus Z hgx] at whole ⊢;obtain⟨kk,x0,i2⟩:=last_cost hA hg q (k:=k) (m:=see (see m l.root) q.root) (p:=p++l.elems++[x]) (s:=s) (see_ok.2 (see_ok.2 ho)) ((hr4.see _).see _) hL3 hkq;have hu:=(see2_upd (O:=O) m l.root q.root).to i2 (S:=[]) (fun s hs=>by simp at hs) (Nat.le_refl _)
    have hxl:(p++l.elems++[x]).length=p.length+l.elems.length+1:=by simp;omega
    rw[hhh]
    by_cases c3:(last O may k (see (see m l.root) q.root) (nd O S q) ⟨(p++l.elems++[x]).length,S (p++l.elems++[x])⟩ u).1≥0
    ·rw[if_pos c3];exact⟨_,costL_right x0 hxl c3 (by rw[hsl]) hc,hu⟩
    ·rw[if_neg c3] at whole ⊢
     by_cases c4:((p++l.elems).length:Int)<u/\may (S (p++l.elems)) (O.sum x)=true
     ·rw[if_pos c4];exact⟨_,costL_mid x0 hxl (Int.not_le.mp c3) (Int.natCast_nonneg _) (by rw[hsl]) hc,hu⟩
     ·rw[if_neg c4] at whole ⊢;obtain⟨kk2,y0,j2⟩:=last_cost hA hg l (k:=k) (m:=(last O may k (see (see m l.root) q.root) (nd O S q) ⟨(p++l.elems++[x]).length,S (p++l.elems++[x])⟩ u).2) (p:=p) (s:=x::q.elems++s) (last_ok.2 (see_ok.2 (see_ok.2 ho)))
       (Rp.frame hu (fun s _ hs=>by cases hs) hr3) hL1 hkl
      refine⟨_,?_,hu.to j2 (S:=[]) (fun s hs=>by simp at hs) (Nat.le_refl _)⟩
      rw[hsl] at hyes whole ⊢;refine costL_left x0 hxl y0 (Int.not_le.mp c3) (fun hf hr=>?_) hc
      obtain⟨i,g1,g2,g3⟩:=hyes hf;clear hyes hex;rcases whole with⟨h1,h2⟩|⟨j,h1,_⟩
      ·rw[h2 i g1 g2 (by omega)] at g3;cases g3
      ·rw[h1] at hr;exact absurd hr (Int.not_lt.mpr (Int.natCast_nonneg j))
theorem first_few {n K:Nat} {f:Int} {may:A->A->Bool} {P:Nat->Bool} {m:Po E A} {a b:Tr E} (h:St O S good n m a b) (hA:AsksX O S may P a.elems) (hk:a.h<K) :
  Vis (4*a.h+1) m (first O may K (see m a.root) (lk O m a.root) ⟨0,O.a0⟩ f).2:=by
 have h2:=h.see a.root;obtain⟨kk,r1,r2⟩:=first_cost Z (f:=f) hA h.ga a (k:=K) (p:=[]) (s:=[]) h2.ok h2.ra (by simp) hk
 have e0:(([]:List E).length:Int)=0:=rfl;rw[e0,Z.nil] at r2;rw[h.lk];exact(h.up (r:=a.root) r2).vis.mono (by have:=r1.1;omega)
theorem last_few {n K:Nat} {f:Int} {may:A->A->Bool} {P:Nat->Bool} {m:Po E A} {a b:Tr E} (h:St O S good n m a b) (hA:AsksX O S may P a.elems) (hk:a.h<K) :
  Vis (4*a.h+1) m (last O may K (see m a.root) (lk O m a.root) ⟨0,O.a0⟩ f).2:=by
 have h2:=h.see a.root;obtain⟨kk,r1,r2⟩:=last_cost Z (u:=f) hA h.ga a (k:=K) (p:=[]) (s:=[]) h2.ok h2.ra (by simp) hk
 have e0:(([]:List E).length:Int)=0:=rfl;rw[e0,Z.nil] at r2;rw[h.lk];exact(h.up (r:=a.root) r2).vis.mono (by have:=r1.1;omega)
end
theorem TS.first_vis {E A:Type} {k:Kd E A} {may:A->A->Bool} {P:Nat->Bool} {s:TS k} {f:Int} (h:AsksX k.O k.S may P s.l):Vis (4*hgt s.l.length+1) s.m (s.first may f).m:=by
 obtain⟨a,b,h1,h2,h3,h4,h5,h6⟩:=s.ok;have hk:=s.k1;show Vis _ s.m (Gv.first k.O may KK (see s.m s.r) (lk k.O s.m s.r) ⟨0,k.O.a0⟩ f).2
 rw[← h4] at h hk;rw[← h4,← h1];have hb:=a.h_hgt h3.ba;rw[← Tr.elems_length] at hb;exact(first_few k.Z h3 h (Nat.lt_of_le_of_lt (h_elems a) hk)).mono (by omega)
theorem TS.last_vis {E A:Type} {k:Kd E A} {may:A->A->Bool} {P:Nat->Bool} {s:TS k} {f:Int} (h:AsksX k.O k.S may P s.l):Vis (4*hgt s.l.length+1) s.m (s.last may f).m:=by
 obtain⟨a,b,h1,h2,h3,h4,h5,h6⟩:=s.ok;have hk:=s.k1;show Vis _ s.m (Gv.last k.O may KK (see s.m s.r) (lk k.O s.m s.r) ⟨0,k.O.a0⟩ f).2
 rw[← h4] at h hk;rw[← h4,← h1];have hb:=a.h_hgt h3.ba;rw[← Tr.elems_length] at hb;exact(last_few k.Z h3 h (Nat.lt_of_le_of_lt (h_elems a) hk)).mono (by omega)
end Gv
namespace Br
open Rx Wv
def clp (n:Nat) (p:Int):Nat:=min p.toNat n
theorem clp_le (n:Nat) (p:Int):clp n p≤n:=Nat.min_le_right _ _
theorem clp_nat {n i:Nat} (h:i≤n):clp n (i:Int)=i:=by unfold clp;omega
def hgh (l:List Mk) (base:Int) (i:Nat):Int:=base+Ti.psum (l.map wgt) i
theorem hgh_zero (l:List Mk) (base:Int):hgh l base 0=base:=by simp[hgh,Ti.psum]
def nxt (l:List Mk) (base:Int):Nat->Nat->Int
 |_,0=>-1
 |i,j+1=>if hgh l base i≤0 then i else nxt l base (i+1) j
def prv (l:List Mk) (base:Int):Nat->Int
 |0=>if hgh l base 0≤0 then 0 else -1
 |i+1=>if hgh l base (i+1)≤0 then((i+1:Nat):Int) else prv l base i
def nxI (l:List Mk) (p base:Int):Int:=nxt l base (clp l.length p) (l.length+1-clp l.length p)
def prI (l:List Mk) (p base:Int):Int:=prv l base (clp l.length p)
def IsN (l:List Mk) (base:Int) (a b:Nat) (r:Int):Prop:=(r = -1/\∀ i,a≤i->i≤b->¬ hgh l base i≤0)∨∃ j:Nat,r=j/\a≤j/\j≤b/\hgh l base j≤0/\∀ i,a≤i->i<j->¬ hgh l base i≤0
def IsP (l:List Mk) (base:Int) (b:Nat) (r:Int):Prop:=(r = -1/\∀ i,i≤b->¬ hgh l base i≤0)∨∃ j:Nat,r=j/\j≤b/\hgh l base j≤0/\∀ i,j<i->i≤b->¬ hgh l base i≤0
theorem isN_eq {l:List Mk} {base:Int} {a b:Nat} {r r':Int} (h:IsN l base a b r) (h':IsN l base a b r'):r=r':=by
 rcases h with⟨rfl,h⟩|⟨j,rfl,h1,h2,h3,h4⟩<;>rcases h' with⟨rfl,h'⟩|⟨j',rfl,h1',h2',h3',h4'⟩
 ·rfl
 ·exact absurd h3' (h j' h1' h2')
 ·exact absurd h3 (h' j h1 h2)
 ·rcases Nat.lt_trichotomy j j' with c|c|c
  ·exact absurd h3 (h4' j h1 c)
  ·rw[c]
  ·exact absurd h3' (h4 j' h1' c)
theorem isP_eq {l:List Mk} {base:Int} {b:Nat} {r r':Int} (h:IsP l base b r) (h':IsP l base b r'):r=r':=by
 rcases h with⟨rfl,h⟩|⟨j,rfl,h1,h3,h4⟩<;>rcases h' with⟨rfl,h'⟩|⟨j',rfl,h1',h3',h4'⟩
 ·rfl
 ·exact absurd h3' (h j' h1')
 ·exact absurd h3 (h' j h1)
 ·rcases Nat.lt_trichotomy j j' with c|c|c
  ·exact absurd h3' (h4 j' c h1')
  ·rw[c]
  ·exact absurd h3 (h4' j c h1)
theorem nxt_is (l:List Mk) (base:Int):∀ (j i:Nat),IsN l base i (i+j) (nxt l base i (j+1))
 |0,i=>by
  rw[nxt];split
  ·exact .inr ⟨i,rfl,Nat.le_refl _,by omega,by assumption,fun k h1 h2=>by omega⟩
  ·refine .inl ⟨rfl,fun k h1 h2=>?_⟩
   obtain rfl:k=i:=by omega
   assumption
 |j+1,i=>by
  rw[nxt];split
  ·exact .inr ⟨i,rfl,Nat.le_refl _,by omega,by assumption,fun k h1 h2=>by omega⟩
  ·rename_i h0;rcases nxt_is l base j (i+1) with⟨h1,h2⟩|⟨k,h1,h2,h3,h4,h5⟩
   ·refine .inl ⟨h1,fun k g1 g2=>?_⟩
    rcases Nat.lt_or_ge i k with c|c
    ·exact h2 k c (by omega)
    ·obtain rfl:k=i:=by omega
     exact h0
   ·refine .inr ⟨k,h1,by omega,by omega,h4,fun m g1 g2=>?_⟩
    rcases Nat.lt_or_ge i m with c|c
    ·exact h5 m c g2
    ·obtain rfl:m=i:=by omega
     exact h0
theorem prv_is (l:List Mk) (base:Int):∀ b,IsP l base b (prv l base b)
 |0=>by
  rw[prv];split
  ·exact .inr ⟨0,rfl,Nat.le_refl _,by assumption,fun k h1 h2=>by omega⟩
  ·refine .inl ⟨rfl,fun k h1=>?_⟩
   obtain rfl:k=0:=by omega
   assumption
 |b+1=>by
  rw[prv];split
  ·exact .inr ⟨b+1,rfl,Nat.le_refl _,by assumption,fun k h1 h2=>by omega⟩
  ·rename_i h0;rcases prv_is l base b with⟨h1,h2⟩|⟨k,h1,h2,h3,h4⟩
   ·refine .inl ⟨h1,fun k g1=>?_⟩
    rcases Nat.lt_or_ge b k with c|c
    ·obtain rfl:k=b+1:=by omega
     exact h0
    ·exact h2 k c
   ·refine .inr ⟨k,h1,by omega,h3,fun m g1 g2=>?_⟩
    rcases Nat.lt_or_ge b m with c|c
    ·obtain rfl:m=b+1:=by omega
     exact h0
    ·exact h4 m g1 c
theorem nxI_is (l:List Mk) (p base:Int):IsN l base (clp l.length p) l.length (nxI l p base):=by
 have h:=nxt_is l base (l.length-clp l.length p) (clp l.length p);have hc:=clp_le l.length p;rw[show clp l.length p+(l.length-clp l.length p)=l.length by omega,show l.length-clp l.length p+1=l.length+1-clp l.length p by omega] at h
 exact h
theorem prI_is (l:List Mk) (p base:Int):IsP l base (clp l.length p) (prI l p base):=prv_is _ _ _
def bstI (l:List Mk) (p:Int):Option It:=hi (itms false (l.drop (clp l.length p)))
def lstI (l:List Mk) (p:Int):Option It:=lo (itms true (l.take (clp l.length p)))
theorem low_le {x:List Int} {c:Int}:∀ {k:Nat},0<k->(Ti.lowTo x k≤c↔∃ j,j<k/\Ti.psum x (j+1)≤c)
 |0,h=>by omega
 |1,_=>by
  refine⟨fun h=>⟨0,by omega,h⟩,fun⟨j,h1,h2⟩=>?_⟩
  obtain rfl:j=0:=by omega
  exact h2
 |k+2,_=>by
  have ih:=low_le (x:=x) (c:=c) (k:=k+1) (by omega)
  show min (Ti.lowTo x (k+1)) (Ti.psum x (k+2))≤c↔_
  constructor
  ·intro h
   by_cases c1:Ti.lowTo x (k+1)≤c
   ·obtain⟨j,h1,h2⟩:=ih.1 c1;exact⟨j,by omega,h2⟩
   ·refine⟨k+1,by omega,?_⟩
    rw[show k+1+1=k+2 from rfl];omega
  ·rintro ⟨j,h1,h2⟩
   by_cases c1:j<k+1
   ·have:=ih.2 ⟨j,c1,h2⟩;omega
   ·obtain rfl:j=k+1:=by omega
    rw[show k+1+1=k+2 from rfl] at h2
    omega
theorem hgh_at {p l q:List Mk} {base:Int} {j:Nat} (h:j≤l.length):hgh (p++(l++q)) base (p.length+j)=hgh (p++(l++q)) base p.length+Ti.psum (l.map wgt) j:=by
 unfold hgh;rw[List.map_append,show p.length=(p.map wgt).length by simp,Ti.psum_append,show(p.map wgt).length=(p.map wgt).length+0 by rfl,Ti.psum_append,List.map_append,Ti.psum_left (y:=l.map wgt) (by simpa using h)]
 simp only[Nat.add_zero];have:Ti.psum (l.map wgt++q.map wgt) 0=0:=by simp[Ti.psum]
 omega
theorem hgh_pre {p q:List Mk} {base:Int}:hgh (p++q) base p.length=base+(S8 p).w.s:=by
 show base+_=base+Ti.psum (p.map wgt) (p.map wgt).length
 rw[List.map_append,Ti.psum_left (by simp),List.length_map]
theorem asks_low {L:List Mk} {base:Int} {may:Sw->Sw->Bool} (h:∀ p l q,p++(l++q)=L->l≠[]->(may (S8 p) (S8 l)=true↔base+(S8 p).w.s+(S8 l).w.l≤0)) :
  Gv.AsksX O8 S8 may (fun i=>decide (hgh L base (i+1)≤0)) L:=by
 have key:∀ p l q,p++(l++q)=L->l≠[]->(may (S8 p) (S8 l)=true↔∃ j,j<l.length/\hgh L base (p.length+j+1)≤0):=fun p l q hL hl=>by
  rw[h p l q hL hl];have hp:=hgh_pre (p:=p) (q:=l++q) (base:=base);have e:(S8 l).w.l=Ti.lowTo (l.map wgt) l.length:=by show Ti.lowTo _ (l.map wgt).length=_;rw[List.length_map]
  have hlow:=low_le (x:=l.map wgt) (c:=-(base+(S8 p).w.s)) (k:=l.length) (List.length_pos_iff.2 hl);rw[← e] at hlow;have e1:base+(S8 p).w.s+(S8 l).w.l≤0↔(S8 l).w.l ≤ -(base+(S8 p).w.s):=by omega
  rw[e1,hlow]
  constructor
  ·rintro ⟨j,h1,h2⟩
   refine⟨j,h1,?_⟩;rw[← hL,show p.length+j+1=p.length+(j+1) by omega,hgh_at (by omega),hp]
   omega
  ·rintro ⟨j,h1,h2⟩
   refine⟨j,h1,?_⟩;rw[← hL,show p.length+j+1=p.length+(j+1) by omega,hgh_at (by omega),hp] at h2
   omega
 refine⟨⟨fun p x q hL=>?_,fun p l q hL i h1 h2 h3=>?_⟩,fun p l q hL hl hm=>?_⟩
 ·have k:=key p [x] q (by simpa using hL) (by simp)
  rw[show O8.sum x=S8 [x] from(S8_one x).symm,Bool.eq_iff_iff,k,decide_eq_true_eq]
  constructor
  ·intro h;exact⟨0,by simp,h⟩
  ·rintro ⟨j,h1,h2⟩
   obtain rfl:j=0:=by simpa using h1
   exact h2
 ·have hl:l≠[]:=fun h=>by rw[h] at h2;simp at h2;omega
  rw[key p l q hL hl];exact⟨i-p.length,by omega,by rw[show p.length+(i-p.length)+1=i+1 by omega];exact of_decide_eq_true h3⟩
 ·obtain⟨j,h1,h2⟩:=(key p l q hL hl).1 hm;exact⟨p.length+j,by omega,by omega,decide_eq_true h2⟩
theorem isN_first' {L:List Mk} {base:Int} {a:Nat} {r:Int} (ha:a≤L.length) (h0:a=0->¬ base≤0) (h:Gv.FirstIs (fun i=>decide (hgh L base (i+1)≤0)) 0 L.length ((a:Int)-1) r):IsN L base a L.length (if r<0 then -1 else r+1):=by
 rcases h with⟨h1,h2⟩|⟨j,h1,h2,h3,h4,h5,h6⟩
 ·rw[if_pos (by omega)]
  refine .inl ⟨rfl,fun i g1 g2=>?_⟩
  rcases Nat.eq_zero_or_pos i with c|c
  ·rw[c,hgh_zero];exact h0 (by omega)
  ·have:=of_decide_eq_false (h2 (i-1) (by omega) (by omega) (by omega))
   rwa [show i-1+1=i by omega] at this
 ·rw[if_neg (by omega)]
  refine .inr ⟨j+1,by omega,by omega,by omega,of_decide_eq_true h5,fun i g1 g2=>?_⟩
  rcases Nat.eq_zero_or_pos i with c|c
  ·rw[c,hgh_zero];exact h0 (by omega)
  ·have:=of_decide_eq_false (h6 (i-1) (by omega) (by omega) (by omega))
   rwa [show i-1+1=i by omega] at this
theorem isP_last {L:List Mk} {base:Int} {b:Nat} {r:Int} (hb:b≤L.length) (h:Gv.LastIs (fun i=>decide (hgh L base (i+1)≤0)) 0 L.length b r):IsP L base b (if r≥0 then r+1 else if base≤0 then 0 else -1):=by
 rcases h with⟨h1,h2⟩|⟨j,h1,h2,h3,h4,h5,h6⟩
 ·rw[if_neg (by omega)]
  have hno:∀ i,0<i->i≤b->¬ hgh L base i≤0:=fun i g1 g2=>by
   have:=of_decide_eq_false (h2 (i-1) (by omega) (by omega) (by omega))
   rwa [show i-1+1=i by omega] at this
  by_cases c:base≤0
  ·rw[if_pos c];exact .inr ⟨0,rfl,Nat.zero_le _,by rw[hgh_zero];exact c,fun i g1 g2=>hno i g1 g2⟩
  ·rw[if_neg c];refine .inl ⟨rfl,fun i g2=>?_⟩
   rcases Nat.eq_zero_or_pos i with g|g
   ·rw[g,hgh_zero];exact c
   ·exact hno i g g2
 ·rw[if_pos (by omega)]
  refine .inr ⟨j+1,by omega,by omega,of_decide_eq_true h5,fun i g1 g2=>?_⟩
  have:=of_decide_eq_false (h6 (i-1) (by omega) (by omega) (by omega))
  rwa [show i-1+1=i by omega] at this
end Br
namespace Pa
open Rx Wv Br
def gO (l:List Op):It->Bool:=fun z=>decide (z∈tk [] l)
def mkM (l:List Op) (o:Op):Mk:=⟨o.t,o.ins,o.it,o.ins&&decide (o.it∈fin [] l),false,iz⟩
def mkL (l:List Op):List Mk:=l.map (mkM l)
theorem mkL_len (l:List Op):(mkL l).length=l.length:=List.length_map ..
abbrev exc (l:List Op):Int:=(fre [] l:Int)
theorem ap_nil {l:List Op} (h:(itm l).Nodup):Ap [] l:=⟨List.Pairwise.nil,h,fun x hx=>by cases hx⟩
theorem con_nil (l:List Op):Con (gO l) [] l:=fun z _=>by unfold gO;rw[decide_eq_true_eq]
theorem mem_itm {l:List Op} {z:It}:z∈itm l↔∃ o,o∈l/\o.ins=true/\o.it=z:=by
 unfold itm;rw[List.mem_map]
 constructor
 ·rintro ⟨o,h1,h2⟩;exact⟨o,(List.mem_filter.1 h1).1,(List.mem_filter.1 h1).2,h2⟩
 ·rintro ⟨o,h1,h2,h3⟩;exact⟨o,List.mem_filter.2 ⟨h1,h2⟩,h3⟩
theorem here_g {l:List Op} (h:(itm l).Nodup) {o:Op} (ho:o∈l) (hi:o.ins=true):o.it∈fin [] l↔gO l o.it=false:=by
 rw[mem_fin (ap_nil h)];unfold gO;rw[decide_eq_false_iff_not];exact⟨fun h=>h.2,fun h=>⟨.inr (mem_itm.2 ⟨o,ho,hi,rfl⟩),h⟩⟩
theorem wgt_wt {l:List Op} (h:(itm l).Nodup) {o:Op} (ho:o∈l):wgt (mkM l o)=wt (gO l) o:=by
 unfold wgt wt cnt mkM;rcases ins_cases o with e|e
 ·simp only[e,if_true,Bool.true_and,true_and,decide_eq_true_eq];have hh:=here_g h ho e
  by_cases c:o.it∈fin [] l
  ·rw[if_pos c,hh.1 c];rfl
  ·rw[if_neg c];cases k:gO l o.it
   ·exact absurd (hh.2 k) c
   ·rfl
 ·simp only[e,Bool.false_and,Bool.false_eq_true,if_false,false_and]
theorem wts_sum (g:It->Bool):∀ a:List Op,wts g a=(a.map (wt g)).sum
 |[]=>rfl
 |o::a=>by show wt g o+wts g a=_;rw[wts_sum g a,List.map_cons,List.sum_cons]
theorem hgh_eq {l:List Op} (h:(itm l).Nodup) {i:Nat} (hi:i≤l.length):hgh (mkL l) (exc l) i=(hgN (gO l) (fin [] (l.take i)) (l.drop i):Int):=by
 have h1:=hg_at (g:=gO l) (a:=l.take i) (b:=l.drop i) (h:=[]) (by rw[List.take_append_drop];exact ap_nil h) (by rw[List.take_append_drop];exact con_nil l)
 rw[List.take_append_drop] at h1;rw[h1];have h2:hgN (gO l) [] l=fre [] l:=by unfold hgN;rw[List.countP_nil];rfl
 rw[h2];unfold hgh Ti.psum;have h3:(mkL l).map wgt=l.map (wt (gO l)):=by
  unfold mkL;rw[List.map_map];exact List.map_congr_left fun o ho=>wgt_wt h ho
 rw[h3,wts_sum,List.map_take]
theorem hi_mem:∀ {l:List It} {m:It},hi l=some m->m∈l
 |a::l,m,h=>by
  have h:up (some a) (hi l)=some m:=h;cases e:hi l with
  |none=>rw[e] at h;cases h;exact List.mem_cons_self
  |some b =>
   rw[e,up_mx] at h;cases h;rcases mx_or a b with c|c
   ·rw[c];exact List.mem_cons_self
   ·rw[c];exact List.mem_cons_of_mem _ (hi_mem e)
theorem hi_ext {a b:List It} (h:∀ z,z∈a↔z∈b):hi a=hi b:=by
 cases ea:hi a with
 |none =>
  cases eb:hi b with
  |none=>rfl
  |some m =>
   obtain⟨m',h1,_⟩:=hi_ge ((h m).2 (hi_mem eb));rw[ea] at h1;cases h1
 |some m =>
  obtain⟨m',h1,h2⟩:=hi_ge ((h m).1 (hi_mem ea));obtain⟨m2,h3,h4⟩:=hi_ge ((h m').2 (hi_mem h1));rw[ea] at h3;cases h3;rw[h1];rcases h2 with h2|h2
  ·rw[h2]
  ·rcases h4 with h4|h4
   ·rw[h4]
   ·exact absurd h2 (ah_asymm h4)
theorem lo_ord:∀ {l:List It},Ord l->lo l=l.head?
 |[],_=>rfl
 |y::l,h=>by
  show dn (some y) (lo l)=some y
  rw[lo_ord (ord_tail h)];cases l with
  |nil=>rfl
  |cons w l =>
   show(if ah w y then some w else some y)=some y
   rw[if_neg (ah_asymm (ord_lt h List.mem_cons_self))]
theorem lo_le:∀ {l:List It} {z:It},z∈l->∃ m,lo l=some m/\(m=z∨ah m z)
 |l,z,hz=>by
  cases e:lo l with
  |none =>
   have:=(lo_none l).2 (List.ne_nil_of_mem hz);rw[e] at this;cases this
  |some m =>
   refine⟨m,rfl,?_⟩;have:=lo_min l m e z hz
   by_cases c:m=z
   ·exact .inl c
   ·rcases ah_or c with c|c
    ·exact .inr c
    ·exact absurd c this
theorem lo_mem:∀ {l:List It} {m:It},lo l=some m->m∈l
 |a::l,m,h=>by
  have h:dn (some a) (lo l)=some m:=h;cases e:lo l with
  |none=>rw[e] at h;cases h;exact List.mem_cons_self
  |some b =>
   rw[e] at h;have h:(if ah b a then some b else some a)=some m:=h
   split at h
   ·cases h;exact List.mem_cons_of_mem _ (lo_mem e)
   ·cases h;exact List.mem_cons_self
theorem lo_ext {a b:List It} (h:∀ z,z∈a↔z∈b):lo a=lo b:=by
 cases ea:lo a with
 |none =>
  cases eb:lo b with
  |none=>rfl
  |some m =>
   obtain⟨m',h1,_⟩:=lo_le ((h m).2 (lo_mem eb));rw[ea] at h1;cases h1
 |some m =>
  obtain⟨m',h1,h2⟩:=lo_le ((h m).1 (lo_mem ea));obtain⟨m2,h3,h4⟩:=lo_le ((h m').2 (lo_mem h1));rw[ea] at h3;cases h3;rw[h1];rcases h2 with h2|h2
  ·rw[h2]
  ·rcases h4 with h4|h4
   ·rw[h4]
   ·exact absurd h2 (ah_asymm h4)
theorem mem_itms {b:Bool} {L:List Mk} {z:It}:z∈itms b L↔∃ m,m∈L/\m.ins=true/\m.here=b/\m.it=z:=by
 unfold itms;rw[List.mem_map]
 constructor
 ·rintro ⟨m,h1,h2⟩
  obtain⟨h1,h3⟩:=List.mem_filter.1 h1;rw[Bool.and_eq_true,beq_iff_eq] at h3;exact⟨m,h1,h3.1,h3.2,h2⟩
 ·rintro ⟨m,h1,h2,h3,h4⟩
  exact⟨m,List.mem_filter.2 ⟨h1,by rw[Bool.and_eq_true,beq_iff_eq];exact⟨h2,h3⟩⟩,h4⟩
theorem mem_part {l a:List Op} (h:(itm l).Nodup) (ha:∀ o,o∈a->o∈l) {b:Bool} {z:It}:z∈itms b (a.map (mkM l))↔z∈itm a/\gO l z = !b:=by
 rw[mem_itms,mem_itm];have key:∀ o,o∈a->o.ins=true->((mkM l o).here=b↔gO l o.it = !b):=fun o h1 h2=>by
  have h3:=here_g h (ha o h1) h2;show(o.ins&&decide (o.it∈fin [] l))=b↔_
  rw[h2,Bool.true_and];cases c:gO l o.it
  ·rw[c] at h3;rw[decide_eq_true (h3.2 rfl)];cases b<;>simp
  ·rw[c] at h3;rw[decide_eq_false (fun m=>by have:=h3.1 m;cases this)]
   cases b<;>simp
 constructor
 ·rintro ⟨m,h1,h2,h3,h4⟩
  obtain⟨o,g1,rfl⟩:=List.mem_map.1 h1;have h4:o.it=z:=h4;subst h4;exact⟨⟨o,g1,h2,rfl⟩,(key o g1 h2).1 h3⟩
 ·rintro ⟨⟨o,h1,h2,rfl⟩,h3⟩
  exact⟨mkM l o,List.mem_map.2 ⟨o,h1,rfl⟩,h2,(key o h1 h2).2 h3,rfl⟩
theorem bridge_fin {l a b:List Op} (h:(itm l).Nodup) (e:l=a++b) (hz:hgN (gO l) (fin [] a) b=0):∀ z,z∈fin [] a↔z∈itm a/\gO l z=false:=by
 intro z;subst e;have k:=ap_nil h;have h1:=hg_zero hz;have ka:Ap [] a:=⟨List.Pairwise.nil,by
  have:=h;unfold itm at this ⊢;rw[List.filter_append,List.map_append] at this;exact(List.nodup_append.1 this).1,fun x hx=>by cases hx⟩
 constructor
 ·intro m;have h2:=((mem_fin ka z).1 m).1;refine⟨?_,h1.2 z m⟩;rcases h2 with h2|h2
  ·cases h2
  ·exact h2
 ·rintro ⟨m,hg⟩
  refine(mem_fin ka z).2 ⟨.inr m,fun c=>?_⟩
  unfold gO at hg;rw[decide_eq_false_iff_not,tk_app] at hg;exact hg (List.mem_append_left _ c)
theorem bridge_tk {l a b:List Op} (h:(itm l).Nodup) (e:l=a++b) (hz:hgN (gO l) (fin [] a) b=0):∀ z,z∈tk (fin [] a) b↔z∈itm b/\gO l z=true:=by
 intro z;subst e;have h1:=hg_zero hz;have ab:Ap (fin [] a) b:=ap_fin (ap_nil h);have cb:Con (gO (a++b)) (fin [] a) b:=con_fin (ap_nil h) (con_nil _)
 constructor
 ·intro m;have h2:=tk_from ab z m;have h3:=(cb z h2).2 m;rcases h2 with h2|h2
  ·rw[h1.2 z h2] at h3;cases h3
  ·exact⟨h2,h3⟩
 ·rintro ⟨m,hg⟩
  exact(cb z (.inr m)).1 hg
theorem tp_pr {l:List Op} (h:(itm l).Nodup) {p:Nat} (hp:p≤l.length) :
  tp (fin [] (l.take p)) (l.drop p)=if prI (mkL l) p (exc l)<0 then none else some (hi (itms false ((mkL l).drop (prI (mkL l) p (exc l)).toNat))):=by
 have hP:=prI_is (mkL l) p (exc l);rw[mkL_len,clp_nat hp] at hP;have hpos:∀ i,i≤l.length->¬ hgh (mkL l) (exc l) i≤0->0<hgN (gO l) (fin [] (l.take i)) (l.drop i):=fun i hi hn=>by
  rw[hgh_eq h hi] at hn;omega
 have back:∀ j,j≤p->(∀ i,j<i->i≤p->¬ hgh (mkL l) (exc l) i≤0)->tp (fin [] (l.take j)) (l.drop j)=tp (fin [] (l.take p)) (l.drop p):=fun j hj hno=>by
  have e1:l.drop j=(l.drop j).take (p-j)++l.drop p:=by
   have:=(List.take_append_drop (p-j) (l.drop j)).symm;rw[List.drop_drop,show j+(p-j)=p by omega] at this
   exact this
  have e2:l.take p=l.take j++(l.drop j).take (p-j):=by
   have:l.take (j+(p-j))=l.take j++(l.drop j).take (p-j):=List.take_add
   rwa [show j+(p-j)=p by omega] at this
  have k:Ap (fin [] (l.take j)) (l.drop j):=ap_fin (by rw[List.take_append_drop];exact ap_nil h)
  have c:Con (gO l) (fin [] (l.take j)) (l.drop j):=con_fin (by rw[List.take_append_drop];exact ap_nil h) (by rw[List.take_append_drop];exact con_nil l)
  have:=tp_back (g:=gO l) (m:=(l.drop j).take (p-j)) (b:=l.drop p) (h:=fin [] (l.take j)) (by rw[← e1];exact k) (by rw[← e1];exact c) fun a c' ea hne=>by
   have hla:(a++c').length=p-j:=by rw[← ea,List.length_take,List.length_drop];omega
   rw[List.length_append] at hla;have h0:0<a.length:=List.length_pos_iff.2 hne;have f1:l.take (j+a.length)=l.take j++a:=by
    have:l.take (j+a.length)=l.take j++(l.drop j).take a.length:=List.take_add;rw[this,e1,ea,List.append_assoc,List.take_left']
    rfl
   have f2:l.drop (j+a.length)=c'++l.drop p:=by
    rw[← List.drop_drop,e1,ea,List.append_assoc,List.drop_left']
    rfl
   have:=hpos (j+a.length) (by omega) (hno _ (by omega) (by omega))
   rw[f1,f2,fin_app] at this;exact this
  rw[← e1] at this;rw[this,e2,fin_app]
 rcases hP with⟨h1,h2⟩|⟨j,h1,h2,h3,h4⟩
 ·rw[h1,if_pos (by omega),← back 0 (Nat.zero_le _) fun i _ hi=>h2 i hi]
  have h0:=hpos 0 (Nat.zero_le _) (h2 0 (Nat.zero_le _));rw[List.take_zero,List.drop_zero] at h0 ⊢;have h0:0<hgN (gO l) [] l:=h0;unfold hgN at h0;rw[List.countP_nil] at h0;show tp [] l=none
  unfold tp;rw[if_neg (by omega)]
 ·rw[h1,if_neg (by omega),← back j h2 h4]
  have hz:hgN (gO l) (fin [] (l.take j)) (l.drop j)=0:=by
   rw[hgh_eq h (by omega)] at h3;omega
  have e:l=l.take j++l.drop j:=(List.take_append_drop _ _).symm;unfold tp;rw[if_pos (hg_zero hz).1];have e3:((j:Nat):Int).toNat=j:=Int.toNat_natCast j;rw[e3];have e4:(mkL l).drop j=(l.drop j).map (mkM l):=by unfold mkL;rw[List.map_drop]
  rw[e4,hi_ext fun z=>?_]
  rw[bridge_tk h e hz,mem_part h fun o ho=>List.mem_of_mem_drop ho]
  rfl
theorem br_nx {l:List Op} (h:(itm l).Nodup) {p:Nat} (hp:p≤l.length) :
  ∃ b:Nat,nxI (mkL l) p (exc l)=b/\p≤b/\b≤l.length/\(brs (gO l) (fin [] (l.take p)) (l.drop p)).head?=lo (itms true ((mkL l).take b)):=by
 have k:Ap (fin [] (l.take p)) (l.drop p):=ap_fin (by rw[List.take_append_drop];exact ap_nil h)
 have c:Con (gO l) (fin [] (l.take p)) (l.drop p):=con_fin (by rw[List.take_append_drop];exact ap_nil h) (by rw[List.take_append_drop];exact con_nil l)
 obtain⟨a,b,e1,e2,e3,e4⟩:=brs_at k c;have hab:a.length+b.length=l.length-p:=by
  have:=congrArg List.length e1;rw[List.length_drop,List.length_append] at this;omega
 have f1:l.take (p+a.length)=l.take p++a:=by
  have:l.take (p+a.length)=l.take p++(l.drop p).take a.length:=List.take_add;rw[this,e1,List.take_left']
  rfl
 have f2:l.drop (p+a.length)=b:=by
  rw[← List.drop_drop,e1,List.drop_left']
  rfl
 have hz:hgN (gO l) (fin [] (l.take (p+a.length))) (l.drop (p+a.length))=0:=by rw[f1,f2,fin_app];exact e3
 have hN:=nxI_is (mkL l) p (exc l);rw[mkL_len,clp_nat hp] at hN;have hI:IsN (mkL l) (exc l) p l.length ((p+a.length:Nat):Int):=.inr ⟨p+a.length,rfl,by omega,by omega,by rw[hgh_eq h (by omega),hz];exact Int.le_refl _,fun i h1 h2=>by
  rw[hgh_eq h (by omega)]
  have s1:l.drop p=(l.drop p).take (i-p)++l.drop i:=by
   have:=(List.take_append_drop (i-p) (l.drop p)).symm;rw[List.drop_drop,show p+(i-p)=i by omega] at this
   exact this
  have s2:l.take i=l.take p++(l.drop p).take (i-p):=by
   have:l.take (p+(i-p))=l.take p++(l.drop p).take (i-p):=List.take_add
   rwa [show p+(i-p)=i by omega] at this
  have:=e4 _ _ s1 (by rw[List.length_take,List.length_drop];omega)
  rw[s2,fin_app];omega⟩
 refine⟨p+a.length,isN_eq hN hI,by omega,by omega,?_⟩
 have e:l=l.take (p+a.length)++l.drop (p+a.length):=(List.take_append_drop _ _).symm;have e5:fin (fin [] (l.take p)) a=fin [] (l.take (p+a.length)):=by rw[f1,fin_app]
 have o5:Ord (fin [] (l.take (p+a.length))):=(ap_fin (a:=l.take (p+a.length)) (b:=l.drop (p+a.length)) (h:=[]) (by rw[List.take_append_drop];exact ap_nil h)).ord
 rw[e2,e5,← lo_ord o5];have e6:(mkL l).take (p+a.length)=(l.take (p+a.length)).map (mkM l):=by unfold mkL;rw[List.map_take]
 rw[e6];refine lo_ext fun z=>?_
 rw[bridge_fin h e hz,mem_part h fun o ho=>List.mem_of_mem_take ho]
 rfl
def adA (l:List Op) (p:Nat) (o:Op):List Op:=l.take p++o::l.drop p
def woA (l:List Op) (p:Nat):List Op:=l.take p++l.drop (p+1)
abbrev og (l:List Op) (k:Nat):Op:=l.getD k ⟨0,false,⟨0,0⟩⟩
theorem itm_app (a b:List Op):itm (a++b)=itm a++itm b:=by unfold itm;rw[List.filter_append,List.map_append]
theorem cut_at {l:List Op} {k:Nat} (h:k<l.length):l.drop k=og l k::l.drop (k+1):=by
 rw[List.drop_eq_getElem_cons h,og,List.getD_eq_getElem?_getD,List.getElem?_eq_getElem h];rfl
theorem parts {l:List Op} {k:Nat} (h:k<l.length):l=l.take k++og l k::l.drop (k+1):=by
 rw[← cut_at h,List.take_append_drop]
theorem nd_parts {a b:List Op} (h:(itm (a++b)).Nodup):(itm a).Nodup/\(itm b).Nodup/\∀ z,z∈itm a->z∉itm b:=by
 rw[itm_app] at h;have:=List.nodup_append.1 h;exact⟨this.1,this.2.1,fun z hz hb=>this.2.2 z hz z hb rfl⟩
theorem nd_ad {l:List Op} {p:Nat} {o:Op} (h:(itm l).Nodup) (ho:o.ins=true->o.it∉itm l):(itm (adA l p o)).Nodup:=by
 unfold adA;rw[itm_app];have e:itm l=itm (l.take p)++itm (l.drop p):=by rw[← itm_app,List.take_append_drop]
 rw[e] at h ho;rcases ins_cases o with c|c
 ·rw[itm_ins c];have h':=List.nodup_append.1 h;have ho:=ho c;rw[List.mem_append,not_or] at ho;refine List.nodup_append.2 ⟨h'.1,List.nodup_cons.2 ⟨ho.2,h'.2.1⟩,fun a ha b hb hab=>?_⟩
  rcases List.mem_cons.1 hb with m|m
  ·exact ho.1 (by rw[← m,← hab];exact ha)
  ·exact h'.2.2 a ha b m hab
 ·rw[itm_del c];exact h
theorem nd_wo {l:List Op} {k:Nat} (h:(itm l).Nodup) (hk:k<l.length):(itm (woA l k)).Nodup/\∀ z,z∈itm (woA l k)↔z∈itm l/\¬ ((og l k).ins=true/\z=(og l k).it):=by
 have e:=congrArg itm (parts hk);rw[itm_app] at e;unfold woA;rw[itm_app,e];rw[e] at h;rcases ins_cases (og l k) with c|c
 ·rw[itm_ins c] at h ⊢;have h':=List.nodup_append.1 h;have h2:=List.nodup_cons.1 h'.2.1;refine⟨List.nodup_append.2 ⟨h'.1,h2.2,fun a ha b hb=>h'.2.2 a ha b (List.mem_cons_of_mem _ hb)⟩,fun z=>?_⟩
  simp only[List.mem_append,List.mem_cons,c,true_and]
  constructor
  ·rintro (m|m)
   ·exact⟨.inl m,fun e=>h'.2.2 z m _ List.mem_cons_self e⟩
   ·exact⟨.inr (.inr m),fun e=>h2.1 (e▸m)⟩
  ·rintro ⟨m|m|m,n⟩
   ·exact .inl m
   ·exact absurd m n
   ·exact .inr m
 ·rw[itm_del c] at h ⊢;refine⟨h,fun z=>?_⟩
  rw[c];simp
theorem fin_at (l:List Op) (p:Nat):fin [] l=fin (fin [] (l.take p)) (l.drop p):=by rw[← fin_app,List.take_append_drop]
theorem tk_at (l:List Op) (p:Nat):tk [] l=tk [] (l.take p)++tk (fin [] (l.take p)) (l.drop p):=by rw[← tk_app,List.take_append_drop]
theorem fre_at (l:List Op) (p:Nat):fre [] l=fre [] (l.take p)+fre (fin [] (l.take p)) (l.drop p):=by rw[← fre_app,List.take_append_drop]
theorem ap_at {l:List Op} (h:(itm l).Nodup) (p:Nat):Ap (fin [] (l.take p)) (l.drop p):=ap_fin (by rw[List.take_append_drop];exact ap_nil h)
theorem con_at {l:List Op} (h:(itm l).Nodup) (p:Nat):Con (gO l) (fin [] (l.take p)) (l.drop p):=con_fin (by rw[List.take_append_drop];exact ap_nil h) (by rw[List.take_append_drop];exact con_nil l)
theorem from_at {l:List Op} (h:(itm l).Nodup) (p:Nat) {z:It} (hz:z∈fin [] (l.take p)):z∈itm (l.take p):=by
 have h':(itm (l.take p++l.drop p)).Nodup:=by rw[List.take_append_drop];exact h
 have:=((mem_fin (ap_nil (nd_parts h').1) z).1 hz).1;exact this.elim (fun h=>by cases h) id
theorem tk_ahead {l:List Op} (h:(itm l).Nodup) (p:Nat) {z:It} (hz:z∈tk [] (l.take p)):z∉fin [] (l.take p)/\z∉itm (l.drop p):=by
 have h':(itm (l.take p++l.drop p)).Nodup:=by rw[List.take_append_drop];exact h
 have k:=nd_parts h';refine⟨fun c=>((mem_fin (ap_nil k.1) z).1 c).2 hz,fun c=>?_⟩
 exact k.2.2 z ((tk_from (ap_nil k.1) z hz).elim (fun h=>by cases h) id) c
abbrev prB (l:List Op) (p:Nat):Int:=prI (mkL l) p (exc l)
abbrev nxB (l:List Op) (p:Nat):Int:=nxI (mkL l) p (exc l)
theorem bst_eq {l:List Op} {p:Nat} (hp:p≤l.length) (hb:¬ prB l p<0):bstI (mkL l) (prB l p)=hi (itms false ((mkL l).drop (prB l p).toNat)):=by
 unfold bstI;have hP:=prI_is (mkL l) p (exc l);rw[mkL_len,clp_nat hp] at hP;rcases hP with⟨h1,_⟩|⟨j,h1,h2,_⟩
 ·exact absurd (show prB l p<0 by show prI (mkL l) p (exc l)<0;rw[h1];omega) hb
 ·have h1:prB l p=j:=h1;rw[h1,mkL_len,clp_nat (by omega)]
  rfl
theorem ins_ed {l:List Op} {p:Nat} {x:It} {t:Int} (h:(itm l).Nodup) (hx:x∉itm l) (hp:p≤l.length) :
  (prB l p<0->fin [] (adA l p ⟨t,true,x⟩)=fin [] l/\fre [] l=fre [] (adA l p ⟨t,true,x⟩)+1/\∀ w,w∈tk [] (adA l p ⟨t,true,x⟩)↔w∈tk [] l∨w=x) /\
  (¬ prB l p<0->∃ z,up (some x) (bstI (mkL l) (prB l p))=some z/\z∉fin [] l/\(z=x∨z∈tk [] l)/\fin [] (adA l p ⟨t,true,x⟩)=insI z (fin [] l)/\fre [] (adA l p ⟨t,true,x⟩)=fre [] l/\∀ w,w∈tk [] (adA l p ⟨t,true,x⟩)↔(w∈tk [] l∨w=x)/\w≠z):=by
 have k:=ap_at h p;have e:itm l=itm (l.take p)++itm (l.drop p):=by rw[← itm_app,List.take_append_drop]
 have hx':=hx;rw[e,List.mem_append,not_or] at hx';have hxh:x∉fin [] (l.take p):=fun c=>hx'.1 (from_at h p c)
 obtain⟨a1,a2,a3,a4⟩:=add_out k hxh hx'.2;have hT:=tp_pr h hp;have ea:addO x (fin [] (l.take p)) (l.drop p)=upO x (tp (fin [] (l.take p)) (l.drop p)):=add_tp;have f1:fin [] (adA l p ⟨t,true,x⟩)=fin (insI x (fin [] (l.take p))) (l.drop p):=by unfold adA;rw[fin_app,fin_ins rfl]
 have f2:fre [] (adA l p ⟨t,true,x⟩)=fre [] (l.take p)+fre (insI x (fin [] (l.take p))) (l.drop p):=by unfold adA;rw[fre_app,fre_ins rfl]
 have f3:tk [] (adA l p ⟨t,true,x⟩)=tk [] (l.take p)++tk (insI x (fin [] (l.take p))) (l.drop p):=by unfold adA;rw[tk_app,tk_ins rfl]
 rw[f1,f2,f3,fre_at l p,fin_at l p,tk_at l p];have hxt:x∉tk [] (l.take p):=fun c=>by
  have h':(itm (l.take p++l.drop p)).Nodup:=by rw[List.take_append_drop];exact h
  exact hx'.1 ((tk_from (ap_nil (nd_parts h').1) x c).elim (fun h=>by cases h) id)
 constructor
 ·intro hb;have hb:prI (mkL l) p (exc l)<0:=hb;rw[if_pos hb] at hT;rw[hT] at ea;have ea:addO x (fin [] (l.take p)) (l.drop p)=none:=ea;rw[ea] at a1 a2 a3;refine⟨a1,by rw[if_pos rfl] at a2;omega,fun w=>?_⟩
  rw[List.mem_append,List.mem_append,a3 w]
  constructor
  ·rintro (m|⟨m|m,_⟩)
   ·exact .inl (.inl m)
   ·exact .inl (.inr m)
   ·exact .inr m
  ·rintro ((m|m)|m)
   ·exact .inl m
   ·exact .inr ⟨.inl m,fun c=>by cases c⟩
   ·exact .inr ⟨.inr m,fun c=>by cases c⟩
 ·intro hb;have hbe:=bst_eq hp hb;have hb:¬ prI (mkL l) p (exc l)<0:=hb;rw[if_neg hb] at hT;rw[hT] at ea;have ea:addO x (fin [] (l.take p)) (l.drop p)=up (some x) (bstI (mkL l) (prB l p)):=by rw[hbe];exact ea
  have hs:=up_some x (bstI (mkL l) (prB l p));cases hz:up (some x) (bstI (mkL l) (prB l p)) with
  |none=>rw[hz] at hs;cases hs
  |some z =>
   rw[ea,hz] at a1 a2 a3 a4;have a4:=a4 z rfl;rw[if_neg (by simp)] at a2
   refine⟨z,rfl,a4.1,?_,a1,by omega,fun w=>?_⟩
   ·rcases a4.2 with c|c
    ·exact .inl c
    ·exact .inr (List.mem_append_right _ c)
   ·rw[List.mem_append,List.mem_append,a3 w];have ne:∀ w,(some z≠some w)↔w≠z:=fun w=>⟨fun c e=>c (by rw[e]),fun c e=>c (by injection e with e;exact e.symm)⟩
    rw[ne w]
    constructor
    ·rintro (m|⟨m|m,n⟩)
     ·refine⟨.inl (.inl m),fun c=>?_⟩
      subst c;rcases a4.2 with c|c
      ·exact hxt (c▸m)
      ·have t:=tk_ahead h p m;exact(tk_from k w c).elim t.1 t.2
     ·exact⟨.inl (.inr m),n⟩
     ·exact⟨.inr m,n⟩
    ·rintro ⟨(m|m)|m,n⟩
     ·exact .inl m
     ·exact .inr ⟨.inl m,n⟩
     ·exact .inr ⟨.inr m,n⟩
theorem del_ed {l:List Op} {p:Nat} {x:It} {t:Int} (h:(itm l).Nodup) (hp:p≤l.length) :
  (lstI (mkL l) (nxB l p)=none->fin [] (adA l p ⟨t,false,x⟩)=fin [] l/\fre [] (adA l p ⟨t,false,x⟩)=fre [] l+1/\∀ w,w∈tk [] (adA l p ⟨t,false,x⟩)↔w∈tk [] l) /\
  (∀ z,lstI (mkL l) (nxB l p)=some z->z∈fin [] l/\fin [] (adA l p ⟨t,false,x⟩)=rmv z (fin [] l)/\fre [] (adA l p ⟨t,false,x⟩)=fre [] l/\∀ w,w∈tk [] (adA l p ⟨t,false,x⟩)↔w∈tk [] l∨w=z):=by
 have k:=ap_at h p;have c:=con_at h p;obtain⟨b,b1,b2,b3,b4⟩:=br_nx h hp;have hl:lstI (mkL l) (nxB l p)=lo (itms true ((mkL l).take b)):=by
  show lo (itms true ((mkL l).take (clp (mkL l).length (nxI (mkL l) p (exc l)))))=_
  rw[b1,mkL_len,clp_nat b3]
 rw[← b4] at hl;rw[hl];have f1:fin [] (adA l p ⟨t,false,x⟩)=fin (fin [] (l.take p)).tail (l.drop p):=by unfold adA;rw[fin_app,fin_del rfl]
 have f2:fre [] (adA l p ⟨t,false,x⟩)=fre [] (l.take p)+fre (fin [] (l.take p)) (⟨t,false,x⟩::l.drop p):=by unfold adA;rw[fre_app]
 have f3:tk [] (adA l p ⟨t,false,x⟩)=tk [] (l.take p)++tk (fin [] (l.take p)) (⟨t,false,x⟩::l.drop p):=by unfold adA;rw[tk_app]
 rw[f1,f2,f3,fre_at l p,fin_at l p,tk_at l p];generalize tk [] (l.take p)=T at *
 generalize fre [] (l.take p)=F at *
 generalize fin [] (l.take p)=H at *
 generalize l.drop p=r at *
 cases H with
 |nil =>
  rw[tk_del0 rfl,fre_del0 rfl];have hn:(brs (gO l) [] r).head?=none:=by
   rcases Nat.eq_zero_or_pos (fre [] r) with q|q
   ·rw[brs_zero (by unfold hgN;rw[q];rfl)];rfl
   ·rw[brs_free q];rfl
  rw[hn];exact⟨fun _=>⟨rfl,by omega,fun w=>Iff.rfl⟩,fun z hz=>by cases hz⟩
 |cons y H =>
  have hb:=del_br k c;rw[← hb];obtain⟨a1,a2,a3,a4⟩:=lack_out k (List.mem_cons_self (a:=y) (l:=H));rw[rmv_head k.ord] at a1 a2 a3;have hy:y∈tk (y::H) r∨lackO y (y::H) r=some y:=by
   by_cases m:y∈tk (y::H) r
   ·exact .inl m
   ·exact .inr (lack_self List.mem_cons_self m)
  rw[fre_delc rfl,tk_delc rfl,List.tail_cons]
  constructor
  ·intro e;rw[e] at a1 a2 a3 hy;rw[if_pos rfl] at a2;refine⟨a1,by omega,fun w=>?_⟩
   rw[List.mem_append,List.mem_append,List.mem_cons,a3 w];have hy:y∈tk (y::H) r:=hy.elim id fun c=>by cases c
   constructor
   ·rintro (m|m|⟨_,m|m⟩)
    ·exact .inl m
    ·exact .inr (m▸hy)
    ·exact .inr m
    ·cases m
   ·rintro (m|m)
    ·exact .inl m
    ·by_cases e:w=y
     ·exact .inr (.inl e)
     ·exact .inr (.inr ⟨e,.inl m⟩)
  ·intro z e;rw[e] at a1 a2 a3 hy;rw[if_neg (by simp)] at a2
   refine⟨a4 z e,a1,by omega,fun w=>?_⟩
   rw[List.mem_append,List.mem_append,List.mem_cons,a3 w]
   constructor
   ·rintro (m|m|⟨_,m|m⟩)
    ·exact .inl (.inl m)
    ·rcases hy with q|q
     ·exact .inl (.inr (m▸q))
     ·injection q with q;exact .inr (m.trans q.symm)
    ·exact .inl (.inr m)
    ·injection m with m;exact .inr m.symm
   ·rintro ((m|m)|m)
    ·exact .inl m
    ·by_cases e:w=y
     ·exact .inr (.inl e)
     ·exact .inr (.inr ⟨e,.inl m⟩)
    ·by_cases e:w=y
     ·exact .inr (.inl e)
     ·exact .inr (.inr ⟨e,.inr (by rw[m])⟩)
theorem ins_head {y:It} {h:List It} (a:Ord (y::h)):insI y h=y::h:=by
 cases h with
 |nil=>rfl
 |cons w h=>rw[insI,if_pos (ord_lt a List.mem_cons_self)]
theorem rdel_ed {l:List Op} {k:Nat} (h:(itm l).Nodup) (hk:k<l.length) (hd:(og l k).ins=false) :
  (prB l k<0->fin [] (woA l k)=fin [] l/\fre [] l=fre [] (woA l k)+1/\∀ w,w∈tk [] (woA l k)↔w∈tk [] l) /\
  (¬ prB l k<0->∃ z,bstI (mkL l) (prB l k)=some z/\z∉fin [] l/\z∈tk [] l/\fin [] (woA l k)=insI z (fin [] l)/\fre [] (woA l k)=fre [] l/\∀ w,w∈tk [] (woA l k)↔w∈tk [] l/\w≠z):=by
 have hp:k≤l.length:=Nat.le_of_lt hk;have a:=ap_at h k;have hT:=tp_pr h hp;have hbe:=bst_eq (l:=l) hp;have hta:=fun z=>tk_ahead (z:=z) h k
 have f1:fin [] (woA l k)=fin (fin [] (l.take k)) (l.drop (k+1)):=by unfold woA;rw[fin_app]
 have f2:fre [] (woA l k)=fre [] (l.take k)+fre (fin [] (l.take k)) (l.drop (k+1)):=by unfold woA;rw[fre_app]
 have f3:tk [] (woA l k)=tk [] (l.take k)++tk (fin [] (l.take k)) (l.drop (k+1)):=by unfold woA;rw[tk_app]
 rw[f1,f2,f3,fre_at l k,fin_at l k,tk_at l k];rw[cut_at hk] at a hT hta ⊢;generalize tk [] (l.take k)=T at *
 generalize fre [] (l.take k)=F at *
 generalize fin [] (l.take k)=H at *
 generalize l.drop (k+1)=r at *
 generalize og l k=o at *
 cases H with
 |nil =>
  rw[tk_del0 hd,fre_del0 hd,fin_del hd,List.tail_nil];have e:tp [] (o::r)=none:=by unfold tp;rw[fre_del0 hd,if_neg (by omega)]
  rw[e] at hT;have hb:prB l k<0:=by
   by_cases c:prB l k<0
   ·exact c
   ·have c':¬ prI (mkL l) k (exc l)<0:=c;rw[if_neg c'] at hT;cases hT
  exact⟨fun _=>⟨rfl,by omega,fun w=>Iff.rfl⟩,fun n=>absurd hb n⟩
 |cons y H =>
  have a':Ap H r:=by have:=a.del hd;exact this
  have hyH:y∉H:=ord_nh a.ord;have hyr:y∉itm r:=by have:=a.ap y List.mem_cons_self;rwa [itm_del hd] at this
  obtain⟨a1,a2,a3,a4⟩:=add_out a' hyH hyr;have ea:addO y H r=upO y (tp H r):=add_tp;have e:tp (y::H) (o::r)=if fre H r=0 then some (hi (y::tk H r)) else none:=by unfold tp;rw[fre_delc hd,tk_delc hd]
  rw[e] at hT;rw[fre_delc hd,tk_delc hd,fin_del hd,List.tail_cons];rw[ins_head a.ord] at a1 a2 a3
  constructor
  ·intro hb;have hb':prI (mkL l) k (exc l)<0:=hb;rw[if_pos hb'] at hT;have hf:¬ fre H r=0:=fun c=>by rw[if_pos c] at hT;cases hT
   have ea:addO y H r=none:=by rw[ea];unfold tp;rw[if_neg hf];rfl
   rw[ea] at a1 a2 a3;rw[if_pos rfl] at a2;refine⟨a1,by omega,fun w=>?_⟩
   rw[List.mem_append,List.mem_append,List.mem_cons,a3 w]
   constructor
   ·rintro (m|⟨m|m,_⟩)
    ·exact .inl m
    ·exact .inr (.inr m)
    ·exact .inr (.inl m)
   ·rintro (m|m|m)
    ·exact .inl m
    ·exact .inr ⟨.inr m,fun c=>by cases c⟩
    ·exact .inr ⟨.inl m,fun c=>by cases c⟩
  ·intro hb;have hbe:=hbe hb;have hb':¬ prI (mkL l) k (exc l)<0:=hb;rw[if_neg hb'] at hT;have hf:fre H r=0:=by
    by_cases c:fre H r=0
    ·exact c
    ·rw[if_neg c] at hT;cases hT
   rw[if_pos hf] at hT;have hT:some (hi (y::tk H r))=some (hi (itms false ((mkL l).drop (prB l k).toNat))):=hT;injection hT with hT
   rw[← hT] at hbe;have ea:addO y H r=hi (y::tk H r):=by rw[ea];unfold tp;rw[if_pos hf];rfl
   have hs:(hi (y::tk H r)).isSome=true:=(hi_none _).2 (by simp)
   cases hz:hi (y::tk H r) with
   |none=>rw[hz] at hs;cases hs
   |some z =>
    rw[ea,hz] at a1 a2 a3 a4;have a4:=a4 z rfl;rw[if_neg (by simp)] at a2
    have hzm:z∈y::tk H r:=hi_mem hz;refine⟨z,hbe.trans hz,a4.1,List.mem_append_right _ hzm,a1,by omega,fun w=>?_⟩
    rw[List.mem_append,List.mem_append,List.mem_cons,a3 w];have ne:∀ w,(some z≠some w)↔w≠z:=fun w=>⟨fun c e=>c (by rw[e]),fun c e=>c (by injection e with e;exact e.symm)⟩
    rw[ne w]
    constructor
    ·rintro (m|⟨m|m,n⟩)
     ·refine⟨.inl m,fun c=>?_⟩
      subst c;have t:=hta w m;rw[itm_del hd] at t;rcases List.mem_cons.1 hzm with c|c
      ·exact t.1 (by rw[c];exact List.mem_cons_self)
      ·exact(tk_from a' w c).elim (fun c=>t.1 (List.mem_cons_of_mem _ c)) t.2
     ·exact⟨.inr (.inr m),n⟩
     ·exact⟨.inr (.inl m),n⟩
    ·rintro ⟨m|m|m,n⟩
     ·exact .inl m
     ·exact .inr ⟨.inr m,n⟩
     ·exact .inr ⟨.inl m,n⟩
theorem rmv_new {x:It} {h:List It} (a:Ord h) (hx:x∉h):rmv x (insI x h)=h:=by
 refine ord_ext (ord_rmv (ord_ins a hx)) a fun z=>?_
 rw[mem_rmv,mem_ins]
 constructor
 ·rintro ⟨m|m,n⟩
  ·exact absurd m n
  ·exact m
 ·exact fun m=>⟨.inr m,fun c=>hx (c▸m)⟩
theorem rins {l:List Op} {k:Nat} (h:(itm l).Nodup) (hk:k<l.length) (hi':(og l k).ins=true) :
  Ap (fin [] (l.take (k+1))) (l.drop (k+1))/\(og l k).it∈fin [] (l.take (k+1))/\rmv (og l k).it (fin [] (l.take (k+1)))=fin [] (l.take k)/\tk [] (l.take (k+1))=tk [] (l.take k)/\fre [] (l.take (k+1))=fre [] (l.take k):=by
 have a:=ap_at h k;rw[cut_at hk] at a;have e:l.take (k+1)=l.take k++[og l k]:=by rw[List.take_succ_eq_append_getElem hk,og,List.getD_eq_getElem?_getD,List.getElem?_eq_getElem hk];rfl
 have e1:fin [] (l.take (k+1))=insI (og l k).it (fin [] (l.take k)):=by rw[e,fin_app,fin_ins hi'];rfl
 have e2:tk [] (l.take (k+1))=tk [] (l.take k):=by rw[e,tk_app,tk_ins hi',tk,List.append_nil]
 have e3:fre [] (l.take (k+1))=fre [] (l.take k):=by rw[e,fre_app,fre_ins hi',fre];rfl
 obtain⟨a1,a2,a3⟩:=a.ins hi';refine⟨ap_at h (k+1),by rw[e1];exact mem_ins.2 (.inl rfl),by rw[e1];exact rmv_new a.ord a2,e2,e3⟩
theorem rins_ed {l:List Op} {k:Nat} (h:(itm l).Nodup) (hk:k<l.length) (hi':(og l k).ins=true) :
  ((og l k).it∈fin [] l->fin [] (woA l k)=rmv (og l k).it (fin [] l)/\fre [] (woA l k)=fre [] l/\∀ w,w∈tk [] (woA l k)↔w∈tk [] l) /\
  ((og l k).it∉fin [] l->(og l k).it∈tk [] l/\(lstI (mkL l) (nxB l (k+1))=none->fin [] (woA l k)=fin [] l/\fre [] (woA l k)=fre [] l+1/\∀ w,w∈tk [] (woA l k)↔w∈tk [] l/\w≠(og l k).it) /\
   (∀ z,lstI (mkL l) (nxB l (k+1))=some z->z∈fin [] l/\fin [] (woA l k)=rmv z (fin [] l)/\fre [] (woA l k)=fre [] l/\∀ w,w∈tk [] (woA l k)↔(w∈tk [] l∨w=z)/\w≠(og l k).it)):=by
 obtain⟨a,m1,m2,m3,m4⟩:=rins h hk hi';have c:=con_at h (k+1);have hp:k+1≤l.length:=hk;obtain⟨b,b1,b2,b3,b4⟩:=br_nx h hp;have hl:lstI (mkL l) (nxB l (k+1))=lo (itms true ((mkL l).take b)):=by
  show lo (itms true ((mkL l).take (clp (mkL l).length (nxI (mkL l) ((k+1:Nat):Int) (exc l)))))=_
  rw[b1,mkL_len,clp_nat b3]
 rw[← b4] at hl;rw[hl];have hgo:gO l (og l k).it=decide ((og l k).it∈tk [] l):=rfl;have hx:(og l k).it∈itm l:=by
  have:=congrArg itm (parts hk);rw[itm_app,itm_ins hi'] at this;rw[this];exact List.mem_append_right _ List.mem_cons_self
 have hft:=mem_fin (ap_nil h) (og l k).it;have hta:=tk_ahead (z:=(og l k).it) h (k+1);have f1:fin [] (woA l k)=fin (rmv (og l k).it (fin [] (l.take (k+1)))) (l.drop (k+1)):=by unfold woA;rw[fin_app,m2]
 have f2:fre [] (woA l k)=fre [] (l.take (k+1))+fre (rmv (og l k).it (fin [] (l.take (k+1)))) (l.drop (k+1)):=by unfold woA;rw[fre_app,m2,m4]
 have f3:tk [] (woA l k)=tk [] (l.take (k+1))++tk (rmv (og l k).it (fin [] (l.take (k+1)))) (l.drop (k+1)):=by unfold woA;rw[tk_app,m2,m3]
 rw[f1,f2,f3];rw[fre_at l (k+1),fin_at l (k+1),tk_at l (k+1)] at *
 obtain⟨a1,a2,a3,a4⟩:=lack_out a m1;have hbr:=fun hg=>lack_br (z:=(og l k).it) a c m1 hg
 generalize tk [] (l.take (k+1))=T at *
 generalize fre [] (l.take (k+1))=F at *
 generalize fin [] (l.take (k+1))=H at *
 generalize l.drop (k+1)=r at *
 generalize(og l k).it=x at *
 have hxT:x∉T:=fun c=>(hta c).1 m1
 constructor
 ·intro hin;have hn:x∉tk H r:=fun c=>(hft.1 hin).2 (List.mem_append_right _ c)
  have e:=lack_self m1 hn;rw[e] at a1 a2 a3;rw[if_neg (by simp)] at a2
  refine⟨a1,by omega,fun w=>?_⟩
  rw[List.mem_append,List.mem_append,a3 w]
  constructor
  ·rintro (m|⟨n,m|m⟩)
   ·exact .inl m
   ·exact .inr m
   ·injection m with m;exact absurd m.symm n
  ·rintro (m|m)
   ·exact .inl m
   ·exact .inr ⟨fun c=>hn (c▸m),.inl m⟩
 ·intro hno;have htk:x∈T++tk H r:=by
   by_cases q:x∈T++tk H r
   ·exact q
   ·exact absurd (hft.2 ⟨.inr hx,q⟩) hno
  have hbr:=hbr (by rw[hgo];exact decide_eq_true htk)
  rw[← hbr];refine⟨htk,fun e=>?_,fun z e=>?_⟩
  ·rw[e] at a1 a2 a3;rw[if_pos rfl] at a2;refine⟨a1,by omega,fun w=>?_⟩
   rw[List.mem_append,List.mem_append,a3 w]
   constructor
   ·rintro (m|⟨n,m|m⟩)
    ·exact⟨.inl m,fun c=>hxT (c▸m)⟩
    ·exact⟨.inr m,n⟩
    ·cases m
   ·rintro ⟨m|m,n⟩
    ·exact .inl m
    ·exact .inr ⟨n,.inl m⟩
  ·rw[e] at a1 a2 a3;rw[if_neg (by simp)] at a2
   refine⟨a4 z e,a1,by omega,fun w=>?_⟩
   rw[List.mem_append,List.mem_append,a3 w]
   constructor
   ·rintro (m|⟨n,m|m⟩)
    ·exact⟨.inl (.inl m),fun c=>hxT (c▸m)⟩
    ·exact⟨.inl (.inr m),n⟩
    ·injection m with m;exact⟨.inr m.symm,n⟩
   ·rintro ⟨(m|m)|m,n⟩
    ·exact .inl m
    ·exact .inr ⟨n,.inl m⟩
    ·exact .inr ⟨n,.inr (by rw[m])⟩
end Pa
namespace Sh
open Rx Wv
def k9:Gv.Kd Sl Sz:=⟨O9,S9,good9,(fun l=>inferInstanceAs (Decidable (l.length≤1000))),laws9,(fun x h=>h),Nat.zero_le _,(fun x y h=>by
 unfold good9 at *
 rw[List.length_append] at *
 rw[List.length_tail];omega)⟩
def sl (x:It):Sl:=⟨x,false,0⟩
abbrev sls (l:List It):List Sl:=l.map sl
def Ord (l:List It):Prop:=l.Pairwise ah
theorem ord_srt {l:List It}:Gv.SrtE O9 (sls l)↔Ord l:=by
 unfold Gv.SrtE Ord sls;rw[List.pairwise_map]
 constructor<;>intro h<;>refine h.imp ?_
 ·intro a b h;exact(icmp_lt _ _).1 h
 ·intro a b h;exact(icmp_lt _ _).2 h
def rkI (x:It):List It->Nat
 |[]=>0
 |y::l=>if ah y x then rkI x l+1 else 0
instance (a b:It):Decidable (ah a b):=inferInstanceAs (Decidable (_∨_))
theorem rk_sl (x:It):∀ l:List It,Gv.rkE O9 (sl x) (sls l)=rkI x l
 |[]=>rfl
 |y::l=>by
  by_cases h:ah y x
  ·have h':0<O9.cmp (sl x) (sl y):=(icmp_pos _ _).2 h;show Gv.rkE O9 (sl x) (sl y::sls l)=_
   rw[Gv.rkE_gt h',rk_sl x l,rkI,if_pos h]
  ·have h':¬ 0<O9.cmp (sl x) (sl y):=fun c=>h ((icmp_pos _ _).1 c)
   show Gv.rkE O9 (sl x) (sl y::sls l)=_
   rw[Gv.rkE_ngt h',rkI,if_neg h]
theorem rkI_le (x:It) (l:List It):rkI x l≤l.length:=by
 rw[← rk_sl];have:=Gv.rkE_le (O:=O9) (sl x) (sls l);simpa using this
theorem getD_sls (l:List It) (j:Nat):(sls l).getD j slz=sl (l.getD j iz):=by
 unfold sls;simp only[List.getD_eq_getElem?_getD,List.getElem?_map];cases l[j]?<;>rfl
def ixI (x:It):List It->Nat
 |[]=>0
 |y::l=>if y=x then 0 else ixI x l+1
theorem ixI_le (x:It):∀ l:List It,ixI x l≤l.length
 |[]=>Nat.le_refl _
 |y::l=>by
  have:=ixI_le x l;rw[ixI];split<;>simp<;>omega
theorem ixI_lt {x:It}:∀ {l:List It} {j:Nat},j<ixI x l->l.getD j iz≠x
 |[],j,h=>by simp[ixI] at h
 |y::l,j,h=>by
  rw[ixI] at h;split at h
  ·omega
  ·cases j with
   |zero=>simpa using by assumption
   |succ j=>rw[List.getD_cons_succ];exact ixI_lt (by omega)
theorem ixI_at {x:It}:∀ {l:List It},ixI x l<l.length->l.getD (ixI x l) iz=x
 |[],h=>by simp at h
 |y::l,h=>by
  rw[ixI] at h ⊢;split at h
  ·rw[if_pos (by assumption)];simpa using by assumption
  ·rw[if_neg (by assumption),List.getD_cons_succ];exact ixI_at (by simpa using h)
theorem ah_irr (a:It):¬ ah a a:=fun h=>ah_asymm h h
theorem cmp_sl (x y:It):O9.cmp (sl x) (sl y)=0↔x=y:=icmp_zero x y
theorem rk_ix {x:It} {l:List It} (ho:Ord l) (h:ixI x l<l.length):rkI x l=ixI x l:=by
 rw[← rk_sl];refine Gv.srt_rk laws9 (ord_srt.2 ho) (by simpa using h) ?_
 have e:(sls l).getD (ixI x l) O9.e0=sl x:=by
  show(sls l).getD (ixI x l) slz=sl x
  rw[getD_sls,ixI_at h]
 rw[e,cmp_sl]
def inI (x:It) (l:List It):Bool:=decide (ixI x l<l.length)
theorem hit_sl (x:It) {l:List It} (ho:Ord l):(Gv.hitE O9 (sl x) (sls l)).isSome=inI x l:=by
 rw[Gv.hit_rk,rk_sl];unfold inI;have e:(sls l).getD (rkI x l) O9.e0=sl (l.getD (rkI x l) iz):=getD_sls l _;rw[e];simp only[cmp_sl,List.length_map]
 by_cases h:ixI x l<l.length
 ·have hr:=rk_ix ho h;rw[hr,decide_eq_true h,decide_eq_true (ixI_at h).symm];rfl
 ·rw[decide_eq_false h]
  by_cases h2:rkI x l<l.length
  ·have:¬ x=l.getD (rkI x l) iz:=fun c=>h (by
    have:=ixI_lt (x:=x) (l:=l) (j:=rkI x l);rcases Nat.lt_or_ge (rkI x l) (ixI x l) with c2|c2
    ·exact absurd c.symm (this c2)
    ·omega)
   rw[decide_eq_false this,Bool.and_false]
  ·rw[decide_eq_false h2];rfl
def putI (x:It) (l:List It):List It:=if inI x l=true then l else l.take (rkI x l)++x::l.drop (rkI x l)
def dropI (x:It) (l:List It):List It:=if inI x l=true then l.take (ixI x l)++l.drop (ixI x l+1) else l
theorem put_sl {x:It} {l:List It} (ho:Ord l):Gv.putE O9 (sl x) (sls l)=sls (putI x l):=by
 rw[Gv.put_rk,hit_sl x ho,rk_sl];unfold putI;cases h:inI x l with
 |true =>
  have h':ixI x l<l.length:=of_decide_eq_true h;have hr:=rk_ix ho h';simp only[if_true];rw[hr];have e:l=l.take (ixI x l)++x::l.drop (ixI x l+1):=by
   have hx:=ixI_at h';rw[List.getD_eq_getElem?_getD,List.getElem?_eq_getElem h'] at hx
   conv=>lhs;rw[← List.take_append_drop (ixI x l) l,List.drop_eq_getElem_cons h']
   rw[show l[ixI x l]=x from hx]
  conv=>rhs;rw[e]
  simp[sls,List.map_take,List.map_drop]
 |false=>simp[sls,List.map_take,List.map_drop]
theorem drop_sl {x:It} {l:List It} (ho:Ord l):Gv.dropE O9 (sl x) (sls l)=sls (dropI x l):=by
 have hh:=hit_sl x ho;unfold Gv.dropE dropI;rw[Gv.lo_rk,Gv.hi_rk,rk_sl];cases h:inI x l with
 |true =>
  have h':ixI x l<l.length:=of_decide_eq_true h;have hr:=rk_ix ho h';rw[h] at hh;cases hc:Gv.hitE O9 (sl x) (sls l) with
  |none=>rw[hc] at hh;cases hh
  |some y=>simp[sls,List.tail_drop,hr,List.map_take,List.map_drop]
 |false =>
  rw[h] at hh;cases hc:Gv.hitE O9 (sl x) (sls l) with
  |none=>rfl
  |some y=>rw[hc] at hh;cases hh
theorem rkI_lt {x:It} {l:List It} {j:Nat} (h:j<rkI x l):ah (l.getD j iz) x:=by
 rw[← rk_sl] at h;have:=Gv.rkE_lt (O:=O9) h;rw[show(sls l).getD j O9.e0=sl (l.getD j iz) from getD_sls l j] at this
 exact(icmp_pos _ _).1 this
theorem rkI_ge {x:It} {l:List It} (ho:Ord l) (hn:inI x l=false) {j:Nat} (h:rkI x l≤j) (hj:j<l.length):ah x (l.getD j iz):=by
 have h0:¬ ah (l.getD (rkI x l) iz) x:=fun c=>by
  have:=Gv.rkE_ge (O:=O9) (e:=sl x) (l:=sls l) (by rw[rk_sl];simp;omega)
  rw[rk_sl,show(sls l).getD (rkI x l) O9.e0=sl (l.getD (rkI x l) iz) from getD_sls l _] at this
  exact this ((icmp_pos _ _).2 c)
 have hne:∀ k,k<l.length->l.getD k iz≠x:=fun k hk c=>by
  have hn':¬ ixI x l<l.length:=of_decide_eq_false hn;exact ixI_lt (x:=x) (l:=l) (j:=k) (by have:=ixI_le x l;omega) c
 have h1:ah x (l.getD (rkI x l) iz):=by
  rcases Classical.em (ah x (l.getD (rkI x l) iz)) with c|c
  ·exact c
  ·exact absurd (ah_tri c h0).symm (hne _ (by omega))
 rcases Nat.lt_or_ge (rkI x l) j with c|c
 ·have g:∀ k (hk:k<l.length),l.getD k iz=l[k]:=fun k hk=>by rw[List.getD_eq_getElem?_getD,List.getElem?_eq_getElem hk];rfl
  have:=(List.pairwise_iff_getElem.1 ho) (rkI x l) j (by omega) hj c
  rw[g _ hj];rw[g _ (by omega)] at h1
  exact ah_trans h1 this
 ·rwa [show j=rkI x l by omega]
theorem pos_rk {x:It} {l:List It} (ho:Ord l) (hn:inI x l=false):∀ n,rkI x l≤n->n≤l.length->posAt x l n=rkI x l
 |0,h,_=>by rw[posAt];omega
 |n+1,h,hl=>by
  rw[posAt];rcases Nat.lt_or_ge (rkI x l) (n+1) with c|c
  ·rw[if_pos (rkI_ge ho hn (by omega) (by omega))]
   exact pos_rk ho hn n (by omega) (by omega)
  ·rw[if_neg (fun h2=>ah_asymm h2 (rkI_lt (by omega)))]
   omega
theorem ins_ord {x:It} {l:List It} (ho:Ord l) (hn:inI x l=false):Wv.ins x l=putI x l:=by
 unfold Wv.ins putI;rw[pos_rk ho hn _ (rkI_le x l) (Nat.le_refl _),if_neg (by rw[hn];decide)]
theorem put_ord {x:It} {l:List It} (ho:Ord l):Ord (putI x l):=by
 rw[← ord_srt,← put_sl ho];exact Gv.put_srt laws9 (ord_srt.2 ho)
theorem putI_len (x:It) (l:List It):(putI x l).length≤l.length+1:=by
 unfold putI;split
 ·omega
 ·simp;have:=rkI_le x l;omega
end Sh
namespace Pa
open Rx Wv Br
open Sh (putI dropI sls sl inI ixI ixI_at ixI_lt)
def mkO (H:List It) (o:Op):Mk:=⟨o.t,o.ins,o.it,o.ins&&decide (o.it∈H),false,iz⟩
def mkH (H:List It) (l:List Op):List Mk:=l.map (mkO H)
theorem mkL_H (l:List Op):mkL l=mkH (fin [] l) l:=rfl
theorem mkH_len (H:List It) (l:List Op):(mkH H l).length=l.length:=List.length_map ..
theorem mkO_congr {H H':List It} {o:Op} (h:o.ins=true->(o.it∈H↔o.it∈H')):mkO H o=mkO H' o:=by
 unfold mkO;rcases ins_cases o with c|c
 ·rw[decide_eq_decide.2 (h c)]
 ·rw[c];rfl
theorem mkH_congr {H H':List It} {l:List Op} (h:∀ z,z∈itm l->(z∈H↔z∈H')):mkH H l=mkH H' l :=
 List.map_congr_left fun o ho=>mkO_congr fun c=>h _ (mem_itm.2 ⟨o,ho,c,rfl⟩)
theorem mkH_get (H:List It) {l:List Op} {k:Nat} (h:k<l.length):(mkH H l).getD k mz=mkO H (og l k):=by
 unfold mkH og;rw[List.getD_eq_getElem?_getD,List.getD_eq_getElem?_getD,List.getElem?_map,List.getElem?_eq_getElem h];rfl
def Tm (l:List Op):Prop:=l.Pairwise fun a b=>a.t<b.t
theorem tm_srt {H:List It} {l:List Op} (h:Tm l):Gv.SrtE O8 (mkH H l):=by
 unfold Gv.SrtE mkH;rw[List.pairwise_map];exact List.Pairwise.imp (fun c=>(cmp_neg _ _).2 c) h
def rkT (t:Int) (l:List Op):Nat:=l.findIdx fun o=>!decide (o.t<t)
theorem rkT_le (t:Int) (l:List Op):rkT t l≤l.length:=List.findIdx_le_length
theorem rk_mk {H:List It} {e:Mk}:∀ l:List Op,Gv.rkE O8 e (mkH H l)=rkT e.t l
 |[]=>rfl
 |o::l=>by
  unfold rkT;rw[List.findIdx_cons];show Gv.rkE O8 e (mkO H o::mkH H l)=_
  by_cases c:o.t<e.t
  ·rw[Gv.rkE_gt ((cmp_pos e (mkO H o)).2 c),rk_mk l,decide_eq_true c];rfl
  ·rw[Gv.rkE_ngt fun k=>c ((cmp_pos e (mkO H o)).1 k),decide_eq_false c];rfl
theorem rkT_at {t:Int} {l:List Op} (h:Tm l) {k:Nat} (hk:k<l.length) (ht:(og l k).t=t):rkT t l=k:=by
 have:=Gv.srt_rk (O:=O8) laws8 (e:=⟨t,false,iz,false,false,iz⟩) (l:=mkH [] l) (i:=k) (tm_srt h) (by rw[mkH_len];exact hk) (by
  show O8.cmp _ ((mkH [] l).getD k mz)=0
  rw[mkH_get [] hk,cmp_zero];exact ht.symm)
 rwa [rk_mk] at this
theorem mem_og {l:List Op} {k:Nat} (h:k<l.length):og l k∈l:=by
 rw[og,List.getD_eq_getElem?_getD,List.getElem?_eq_getElem h];exact List.getElem_mem h
def Free (l:List Op) (t:Int):Prop:=∀ o,o∈l->o.t≠t
theorem free_or (l:List Op) (t:Int):Free l t∨∃ k,k<l.length/\(og l k).t=t:=by
 by_cases h:∃ k,k<l.length/\(og l k).t=t
 ·exact .inr h
 ·refine .inl fun o ho e=>h ?_
  obtain⟨k,hk,rfl⟩:=List.getElem_of_mem ho;exact⟨k,hk,by rw[og,List.getD_eq_getElem?_getD,List.getElem?_eq_getElem hk];exact e⟩
theorem hit_free {H:List It} {e:Mk} {l:List Op} (h:Free l e.t):(Gv.hitE O8 e (mkH H l)).isSome=false:=by
 rw[Gv.hit_rk]
 by_cases c:Gv.rkE O8 e (mkH H l)<(mkH H l).length
 ·have c':=c;rw[rk_mk,mkH_len] at c';have:¬ O8.cmp e ((mkH H l).getD (Gv.rkE O8 e (mkH H l)) O8.e0)=0:=by
   show ¬ O8.cmp e ((mkH H l).getD (Gv.rkE O8 e (mkH H l)) mz)=0
   rw[rk_mk,mkH_get H c',cmp_zero];exact fun q=>h _ (mem_og c') q.symm
  rw[decide_eq_false this,Bool.and_false]
 ·rw[decide_eq_false c,Bool.false_and]
theorem hit_at {H:List It} {e:Mk} {l:List Op} (h:Tm l) {k:Nat} (hk:k<l.length) (ht:(og l k).t=e.t):(Gv.hitE O8 e (mkH H l)).isSome=true/\Gv.rkE O8 e (mkH H l)=k:=by
 have r:Gv.rkE O8 e (mkH H l)=k:=by rw[rk_mk];exact rkT_at h hk ht
 refine⟨?_,r⟩;rw[Gv.hit_rk,r,mkH_len,decide_eq_true hk,Bool.true_and,decide_eq_true_eq];show O8.cmp e ((mkH H l).getD k mz)=0
 rw[mkH_get H hk,cmp_zero];exact ht.symm
theorem put_new {H:List It} {l:List Op} {o:Op} {m:Mk} (h:Free l o.t) (hm:m=mkO H o):Gv.putE O8 m (mkH H l)=mkH H (adA l (rkT o.t l) o):=by
 subst hm;rw[Gv.put_rk,if_neg (by rw[hit_free (e:=mkO H o) h];decide),rk_mk]
 unfold adA mkH;rw[List.map_append,List.map_cons,List.map_take,List.map_drop]
 rfl
theorem put_old {H:List It} {l:List Op} {m:Mk} {k:Nat} (h:Tm l) (hk:k<l.length) (ht:(og l k).t=m.t):Gv.putE O8 m (mkH H l)=(mkH H l).take k++m::(mkH H l).drop (k+1):=by
 have q:=hit_at (H:=H) h hk ht;rw[Gv.put_rk,if_pos q.1,q.2]
theorem drop_old {H:List It} {l:List Op} {m:Mk} {k:Nat} (h:Tm l) (hk:k<l.length) (ht:(og l k).t=m.t):Gv.dropE O8 m (mkH H l)=mkH H (woA l k):=by
 have q:=hit_at (H:=H) h hk ht;unfold Gv.dropE;cases c:Gv.hitE O8 m (mkH H l) with
 |none=>rw[c] at q;cases q.1
 |some y =>
  simp only;rw[Gv.lo_rk,Gv.hi_rk,q.2,List.tail_drop];unfold woA mkH;rw[List.map_append,List.map_take,List.map_drop]
theorem apart {l:List Op} {k:Nat} (h:(itm l).Nodup) (hk:k<l.length) (hi':(og l k).ins=true):(og l k).it∉itm (l.take k)/\(og l k).it∉itm (l.drop (k+1)):=by
 have e:=congrArg itm (parts hk);rw[itm_app,itm_ins hi'] at e;rw[e] at h;have h':=List.nodup_append.1 h;exact⟨fun m=>h'.2.2 _ m _ List.mem_cons_self rfl,(List.nodup_cons.1 h'.2.1).1⟩
theorem flip {H H':List It} {l:List Op} {k:Nat} (h:(itm l).Nodup) (hk:k<l.length) (hi':(og l k).ins=true) (hH:∀ z,z≠(og l k).it->(z∈H↔z∈H')):(mkH H l).take k++mkO H' (og l k)::(mkH H l).drop (k+1)=mkH H' l:=by
 obtain⟨n1,n2⟩:=apart h hk hi'
 conv=>rhs;rw[parts hk]
 unfold mkH;rw[List.map_append,List.map_cons,← List.map_take,← List.map_drop];have e1:(l.take k).map (mkO H)=(l.take k).map (mkO H'):=mkH_congr fun z hz=>hH z fun c=>n1 (c▸hz)
 have e2:(l.drop (k+1)).map (mkO H)=(l.drop (k+1)).map (mkO H'):=mkH_congr fun z hz=>hH z fun c=>n2 (c▸hz)
 rw[e1,e2]
theorem one_item {l:List Op} {i k:Nat} (h:(itm l).Nodup) (hk:k<l.length) (hi:i<l.length) (h1:(og l k).ins=true) (h2:(og l i).ins=true) (he:(og l i).it=(og l k).it):i=k:=by
 obtain⟨n1,n2⟩:=apart h hk h1;rcases Nat.lt_trichotomy i k with c|c|c
 ·refine absurd (mem_itm.2 ⟨og l i,?_,h2,he⟩) n1;rw[List.mem_iff_getElem];exact⟨i,by rw[List.length_take];omega,by rw[List.getElem_take,og,List.getD_eq_getElem?_getD,List.getElem?_eq_getElem hi];rfl⟩
 ·exact c
 ·refine absurd (mem_itm.2 ⟨og l i,?_,h2,he⟩) n2;rw[List.mem_iff_getElem];exact⟨i-(k+1),by rw[List.length_drop];omega,by rw[List.getElem_drop,og,List.getD_eq_getElem?_getD];simp only[show k+1+(i-(k+1))=i by omega];rw[List.getElem?_eq_getElem hi];rfl⟩
theorem tm_ad {l:List Op} {o:Op} (h:Tm l) (hf:Free l o.t):Tm (adA l (rkT o.t l) o):=by
 have:=Gv.put_srt (O:=O8) laws8 (e:=mkO [] o) (tm_srt (H:=[]) h);rw[put_new (H:=[]) hf rfl] at this;unfold Gv.SrtE mkH at this;rw[List.pairwise_map] at this;exact List.Pairwise.imp (fun c=>(cmp_neg _ _).1 c) this
theorem tm_wo {l:List Op} (h:Tm l) (k:Nat):Tm (woA l k):=by
 have e:(woA l k).Sublist l:=by
  have:(l.take k++l.drop (k+1)).Sublist (l.take k++l.drop k):=(List.Sublist.refl _).append (List.drop_sublist_drop_left l (Nat.le_succ k))
  rwa [List.take_append_drop] at this
 exact List.Pairwise.sublist e h
theorem mem_inI {x:It} {l:List It}:inI x l=true↔x∈l:=by
 unfold inI;rw[decide_eq_true_eq]
 constructor
 ·intro c;have:=ixI_at c;rw[← this,List.getD_eq_getElem?_getD,List.getElem?_eq_getElem c];exact List.getElem_mem c
 ·intro m;obtain⟨k,hk,e⟩:=List.getElem_of_mem m
  by_cases c:ixI x l<l.length
  ·exact c
  ·exact absurd (show l.getD k iz=x by rw[List.getD_eq_getElem?_getD,List.getElem?_eq_getElem hk];exact e) (ixI_lt (by omega))
theorem putI_eq {x:It} {l:List It} (h:Ord l) (hx:x∉l):putI x l=insI x l:=by
 refine ord_ext (Sh.put_ord h) (ord_ins h hx) fun z=>?_
 unfold putI;rw[if_neg fun c=>hx (mem_inI.1 c),mem_ins,List.mem_append,List.mem_cons]
 have:=List.take_append_drop (Sh.rkI x l) l
 constructor
 ·rintro (m|m|m)
  ·exact .inr (List.mem_of_mem_take m)
  ·exact .inl m
  ·exact .inr (List.mem_of_mem_drop m)
 ·rintro (m|m)
  ·exact .inr (.inl m)
  ·rw[← this] at m;rcases List.mem_append.1 m with m|m
   ·exact .inl m
   ·exact .inr (.inr m)
theorem dropI_eq {x:It} {l:List It} (h:Ord l):dropI x l=rmv x l:=by
 unfold dropI;split
 ·rename_i c;have hlt:ixI x l<l.length:=of_decide_eq_true c;have e:l=l.take (ixI x l)++x::l.drop (ixI x l+1):=by
   have hx:=ixI_at hlt;rw[List.getD_eq_getElem?_getD,List.getElem?_eq_getElem hlt] at hx
   conv=>lhs;rw[← List.take_append_drop (ixI x l) l,List.drop_eq_getElem_cons hlt]
   rw[show l[ixI x l]=x from hx]
  have hn:l.Nodup:=h.imp fun c=>ah_ne c
  have hn':=hn;rw[e] at hn';have h1:=List.nodup_append.1 hn';have h2:=List.nodup_cons.1 h1.2.1
  conv=>rhs;rw[e]
  unfold rmv;rw[List.filter_append,List.filter_cons,if_neg (by simp)]
  rw[List.filter_eq_self.2,List.filter_eq_self.2]
  ·intro z hz;have:z≠x:=fun c=>h2.1 (c▸hz)
   simp[this]
  ·intro z hz;have:z≠x:=fun c=>h1.2.2 z hz x List.mem_cons_self c
   simp[this]
 ·rename_i c;have hx:x∉l:=fun m=>c (mem_inI.2 m)
  unfold rmv;rw[List.filter_eq_self.2];intro z hz;have:z≠x:=fun c=>hx (c▸hz)
  simp[this]
def gn (l:List Op):List It:=srt (tk [] l)
theorem tk_nd:∀ {r:List Op} {h:List It},Ap h r->(tk h r).Nodup
 |[],h,a=>List.nodup_nil
 |o::r,h,a=>by
  rcases ins_cases o with e|e
  ·rw[tk_ins e];exact tk_nd (a.ins e).1
  ·cases h with
   |nil=>rw[tk_del0 e];exact tk_nd (a.del e)
   |cons y h =>
    rw[tk_delc e];have a':Ap h r:=a.del e;refine List.nodup_cons.2 ⟨fun m=>?_,tk_nd a'⟩
    rcases tk_from a' y m with c|c
    ·exact ord_nh a.ord c
    ·have:=a.ap y List.mem_cons_self;rw[itm_del e] at this;exact this c
theorem srt_ok:∀ l:List It,l.Nodup->Ord (srt l)/\∀ z,z∈srt l↔z∈l :=
 snoc_ind (P:=fun l=>l.Nodup->Ord (srt l)/\∀ z,z∈srt l↔z∈l) (fun _=>⟨List.Pairwise.nil,fun z=>Iff.rfl⟩) fun l x ih h=>by
  have h':=List.nodup_append.1 h;obtain⟨i1,i2⟩:=ih h'.1;have hx:x∉srt l:=fun m=>h'.2.2 x ((i2 x).1 m) x List.mem_cons_self rfl
  have e:srt (l++[x])=insI x (srt l):=by
   rw[srt_snoc,Sh.ins_ord i1 (by cases c:inI x (srt l);rfl;exact absurd (mem_inI.1 c) hx),putI_eq i1 hx]
  rw[e];refine⟨ord_ins i1 hx,fun z=>?_⟩
  rw[mem_ins,List.mem_append,i2 z];simp only[List.mem_cons,List.not_mem_nil,or_false];exact⟨fun c=>c.symm,fun c=>c.symm⟩
theorem gn_ord {l:List Op} (h:(itm l).Nodup):Ord (gn l):=(srt_ok _ (tk_nd (ap_nil h))).1
theorem mem_gn {l:List Op} (h:(itm l).Nodup) {z:It}:z∈gn l↔z∈tk [] l:=(srt_ok _ (tk_nd (ap_nil h))).2 z
theorem fin_ord {l:List Op} (h:(itm l).Nodup):Ord (fin [] l):=ord_fin (ap_nil h)
theorem gn_len (l:List Op):(gn l).length=(tk [] l).length:=srt_len _
end Pa
namespace Gv
section
variable {E A:Type} {O:Ops E A} {S:List E->A} {good:List E->Prop}
theorem gather_cost {n:Nat}:∀ (t:Tr E) {k:Nat} {m:Po E A},POk n m->Rp O S m t->t.h<k->∃ kk,kk≤2*t.elems.length+1/\Upd [] kk (zn O) m (gather O k m t.root).2
 |t,0,m,_,_,hk=>by omega
 |.nil,k+1,m,ho,hr,hk=>by
  have h0:(lk O m (Tr.nil (E:=E)).root).h=0:=by rw[(show Rp O S m .nil from trivial).root ho];rfl
  rw[gather,if_pos h0];exact⟨1,by omega,see_upd _ _ _⟩
 |.node r l x q,k+1,m,ho,⟨hr1,hr2,hr3,hr4⟩,hk=>by
  have h0:¬ (lk O m r).h=0:=by rw[hr2,nd_h];simp only[Tr.h];omega
  simp only[Tr.root_node];simp only[Tr.h] at hk;rw[gather,if_neg h0,hr2,nd_node];obtain⟨k1,c1,i2⟩:=gather_cost l (k:=k) (m:=see m r) (see_ok.2 ho) (hr3.see _) (by omega)
  have hu:=(see_upd (zn O) m r).to i2 (S:=[]) (fun s hs=>by simp at hs) (Nat.le_refl _)
  obtain⟨k2,c2,j2⟩:=gather_cost q (k:=k) (m:=(gather O k (see m r) l.root).2) (gather_ok.2 (see_ok.2 ho)) (Rp.frame hu (fun s _ hs=>by cases hs) hr4) (by omega)
  refine⟨_,?_,hu.to j2 (fun s hs=>by simp at hs) (Nat.le_refl _)⟩
  rw[Tr.elems_node,List.length_append,List.length_cons];omega
end
namespace TS
variable {E A:Type} {k:Kd E A}
theorem all_vis (s:TS k):Vis (2*s.l.length+2) s.m s.all.m:=by
 obtain⟨a,b,h1,h2,h3,h4,h5,h6⟩:=s.ok;obtain⟨kk,c1,c2⟩:=gather_cost (O:=k.O) (S:=k.S) a (k:=KK) (m:=see s.m s.r) (see_ok.2 h3.ok) (h3.ra.see _) (by have:=s.k1;have:=h_elems a;rw[h4] at this;omega)
 have:=(see_upd (zn k.O) s.m s.r).to c2 (S:=[]) (fun s hs=>by simp at hs) (Nat.le_refl _)
 show Vis _ s.m (gather k.O KK (see s.m s.r) s.r).2
 have hv:=this.v;rw[h1] at hv;exact hv.mono (by rw[h4] at c1;omega)
theorem at_vis (s:TS k) (i:Int):Vis (2*hgt s.l.length+1) s.m (s.at_ i).m:=by
 obtain⟨d,m',e1,e2⟩:=s.ok.at_ (K:=KK) (i:=i) s.k1;show Vis _ s.m (atF k.O KK s.m s.r i).2
 rw[e1];exact e2.vis
theorem vis_le {N:Type} {k:Nat} {a b:PM N} {v:Int} (h:Vis k a b) (h0:0≤a.visits) (h1:a.visits≤v) (h2:v+k≤4000000000000000000):0≤b.visits/\b.visits≤v+k:=by
 obtain⟨j,hj,e⟩:=h;rcases e with⟨e,rfl⟩|e
 ·rw[e];omega
 ·rw[e,W_of (by omega)];omega
theorem hgt30 (s:TS k):hgt s.l.length≤29:=by
 have:=hgt_mono s.len_le;have e:hgt 1000=29:=by decide
 omega
end TS
end Gv
namespace Pa
open Rx Wv Br
theorem asks_any {L:List Mk} {may:Sw->Sw->Bool} {g:Mk->Bool} (h0:g mz=false) (hm:∀ a l,may a (S8 l)=true↔∃ m,m∈l/\g m=true):Gv.AsksX O8 S8 may (fun i=>g (L.getD i mz)) L:=by
 have key:∀ p l q a,p++(l++q)=L->(may a (S8 l)=true↔∃ i,p.length≤i/\i<p.length+l.length/\g (L.getD i mz)=true):=fun p l q a hL=>by
  rw[hm]
  constructor
  ·rintro ⟨m,h1,h2⟩
   obtain⟨j,hj,rfl⟩:=List.getElem_of_mem h1;refine⟨p.length+j,by omega,by omega,?_⟩
   rw[← hL,List.getD_eq_getElem?_getD,List.getElem?_append_right (by omega),show p.length+j-p.length=j by omega,List.getElem?_append_left hj,List.getElem?_eq_getElem hj]
   exact h2
  ·rintro ⟨i,h1,h2,h3⟩
   have hj:i-p.length<l.length:=by omega
   refine⟨l[i-p.length],List.getElem_mem hj,?_⟩;rw[← hL,List.getD_eq_getElem?_getD,List.getElem?_append_right h1,List.getElem?_append_left hj,List.getElem?_eq_getElem hj] at h3;exact h3
 refine⟨⟨fun p x q hL=>?_,fun p l q hL i h1 h2 h3=>(key p l q _ hL).2 ⟨i,h1,h2,h3⟩⟩,fun p l q hL hl hm=>(key p l q _ hL).1 hm⟩
 have k:=key p [x] q (S8 p) (by simpa using hL)
 rw[show O8.sum x=S8 [x] from(S8_one x).symm,Bool.eq_iff_iff,k]
 simp only[List.length_singleton];exact⟨fun h=>⟨p.length,Nat.le_refl _,by omega,h⟩,fun⟨i,h1,h2,h3⟩=>by rwa [show i=p.length by omega] at h3⟩
def mayB (x:Int) (a o:Sw):Bool:=decide (Gv.W (Gv.W (x+a.w.s)+o.w.l)≤0)
def mayG (x:It) (a o:Sw):Bool:=o.gf&&decide (icmp o.g x≥0)
def mayL (x:It) (a o:Sw):Bool:=o.lf&&decide (icmp o.l x≤0)
theorem icmp_ge (a b:It):icmp a b≥0↔a=b∨ah b a:=by
 rw[← icmp_pos a b,← Sh.icmp_zero a b];omega
theorem icmp_le (a b:It):icmp a b≤0↔a=b∨ah a b:=by
 rw[← Sh.icmp_lt a b,← Sh.icmp_zero a b];omega
abbrev isG (x:It):Mk->Bool:=fun m=>m.ins&&((m.here==false)&&decide (icmp m.it x≥0))
abbrev isL (x:It):Mk->Bool:=fun m=>m.ins&&((m.here==true)&&decide (icmp m.it x≤0))
theorem asksG (x:It) (L:List Mk):Gv.AsksX O8 S8 (mayG x) (fun i=>isG x (L.getD i mz)) L:=asks_any rfl fun a l=>by
 show((hi (itms false l)).isSome&&decide (icmp ((hi (itms false l)).getD iz) x≥0))=true↔_
 rw[Bool.and_eq_true,decide_eq_true_eq]
 constructor
 ·rintro ⟨h1,h2⟩
  obtain⟨y,hy⟩:=Option.isSome_iff_exists.1 h1;rw[hy,Option.getD_some] at h2;obtain⟨m,g1,g2,g3,g4⟩:=mem_itms.1 (hi_mem hy);refine⟨m,g1,?_⟩;show(m.ins&&((m.here==false)&&decide (icmp m.it x≥0)))=true
  rw[g2,g3,g4,decide_eq_true h2];rfl
 ·rintro ⟨m,g1,g2⟩
  simp only[isG,Bool.and_eq_true,beq_iff_eq,decide_eq_true_eq] at g2;obtain⟨y,hy,h3⟩:=hi_ge (l:=itms false l) (mem_itms.2 ⟨m,g1,g2.1,g2.2.1,rfl⟩);refine⟨by rw[hy];rfl,?_⟩
  rw[hy,Option.getD_some,icmp_ge];have h4:=(icmp_ge _ _).1 g2.2.2;rcases h3 with h3|h3
  ·rw[h3];exact h4
  ·rcases h4 with h4|h4
   ·rw[← h4];exact .inr h3
   ·exact .inr (ah_tr h4 h3)
theorem asksL (x:It) (L:List Mk):Gv.AsksX O8 S8 (mayL x) (fun i=>isL x (L.getD i mz)) L:=asks_any rfl fun a l=>by
 show((lo (itms true l)).isSome&&decide (icmp ((lo (itms true l)).getD iz) x≤0))=true↔_
 rw[Bool.and_eq_true,decide_eq_true_eq]
 constructor
 ·rintro ⟨h1,h2⟩
  obtain⟨y,hy⟩:=Option.isSome_iff_exists.1 h1;rw[hy,Option.getD_some] at h2;obtain⟨m,g1,g2,g3,g4⟩:=mem_itms.1 (lo_mem hy);refine⟨m,g1,?_⟩;show(m.ins&&((m.here==true)&&decide (icmp m.it x≤0)))=true
  rw[g2,g3,g4,decide_eq_true h2];rfl
 ·rintro ⟨m,g1,g2⟩
  simp only[isL,Bool.and_eq_true,beq_iff_eq,decide_eq_true_eq] at g2;obtain⟨y,hy,h3⟩:=lo_le (l:=itms true l) (mem_itms.2 ⟨m,g1,g2.1,g2.2.1,rfl⟩);refine⟨by rw[hy];rfl,?_⟩
  rw[hy,Option.getD_some,icmp_le];have h4:=(icmp_le _ _).1 g2.2.2;rcases h3 with h3|h3
  ·rw[h3];exact h4
  ·rcases h4 with h4|h4
   ·rw[← h4];exact .inr h3
   ·exact .inr (ah_tr h3 h4)
theorem first_g {H:List It} {l:List Op} {f k:Nat} {r:Int} {z:It} (hn:(itm l).Nodup) (hk:k<l.length) (hi':(og l k).ins=true) (hz:(og l k).it=z) (hH:z∉H) (hf:f≤k)
  (hb:hi (itms false ((mkH H l).drop f))=some z) (hr:Gv.FirstIs (fun i=>isG z ((mkH H l).getD i mz)) 0 (mkH H l).length f r):r=k:=by
 have hP:isG z ((mkH H l).getD k mz)=true:=by
  rw[mkH_get H hk];show((og l k).ins&&((((og l k).ins&&decide ((og l k).it∈H))==false)&&decide (icmp (og l k).it z≥0)))=true
  rw[hi',hz,decide_eq_false hH,decide_eq_true ((icmp_ge z z).2 (.inl rfl))];rfl
 have hk':k<(mkH H l).length:=by rw[mkH_len];exact hk
 rcases hr with⟨h1,h2⟩|⟨j,h1,h2,h3,h4,h5,h6⟩
 ·have c:=h2 k (Nat.zero_le _) hk' (by omega)
  exact absurd (hP.symm.trans c) (by decide)
 ·have hj:j<l.length:=by rw[mkH_len] at h3;exact h3
  have hj':=h5;simp only[mkH_get H hj] at h5;have h5:((og l j).ins&&((((og l j).ins&&decide ((og l j).it∈H))==false)&&decide (icmp (og l j).it z≥0)))=true:=h5;rw[Bool.and_eq_true,Bool.and_eq_true,beq_iff_eq,decide_eq_true_eq] at h5;obtain⟨a1,a2,a3⟩:=h5;have hm:(og l j).it∈itms false ((mkH H l).drop f):=by
   refine mem_itms.2 ⟨(mkH H l).getD j mz,?_,by rw[mkH_get H hj];exact a1,by rw[mkH_get H hj];exact a2,by rw[mkH_get H hj];rfl⟩
   rw[List.mem_iff_getElem];refine⟨j-f,by rw[List.length_drop];omega,?_⟩
   rw[List.getElem_drop,List.getD_eq_getElem?_getD,List.getElem?_eq_getElem h3];simp only[show f+(j-f)=j by omega,Option.getD_some]
  obtain⟨y,b1,b2⟩:=hi_ge hm;rw[hb] at b1;injection b1 with b1
  subst b1;have e:(og l j).it=(og l k).it:=by
   rw[hz];rcases(icmp_ge _ _).1 a3 with c|c
   ·exact c
   ·rcases b2 with d|d
    ·exact d.symm
    ·exact absurd d (ah_asymm c)
  rw[h1,one_item hn hk hj hi' a1 e]
theorem last_l {H:List It} {l:List Op} {u k:Nat} {r:Int} {z:It} (hn:(itm l).Nodup) (hk:k<l.length) (hi':(og l k).ins=true) (hz:(og l k).it=z) (hH:z∈H) (hf:k<u)
  (hb:lo (itms true ((mkH H l).take u))=some z) (hr:Gv.LastIs (fun i=>isL z ((mkH H l).getD i mz)) 0 (mkH H l).length u r):r=k:=by
 have hP:isL z ((mkH H l).getD k mz)=true:=by
  rw[mkH_get H hk];show((og l k).ins&&((((og l k).ins&&decide ((og l k).it∈H))==true)&&decide (icmp (og l k).it z≤0)))=true
  rw[hi',hz,decide_eq_true hH,decide_eq_true ((icmp_le z z).2 (.inl rfl))];rfl
 have hk':k<(mkH H l).length:=by rw[mkH_len];exact hk
 rcases hr with⟨h1,h2⟩|⟨j,h1,h2,h3,h4,h5,h6⟩
 ·have c:=h2 k (Nat.zero_le _) hk' (by omega)
  exact absurd (hP.symm.trans c) (by decide)
 ·have hj:j<l.length:=by rw[mkH_len] at h3;exact h3
  simp only[mkH_get H hj] at h5;have h5:((og l j).ins&&((((og l j).ins&&decide ((og l j).it∈H))==true)&&decide (icmp (og l j).it z≤0)))=true:=h5;rw[Bool.and_eq_true,Bool.and_eq_true,beq_iff_eq,decide_eq_true_eq] at h5;obtain⟨a1,a2,a3⟩:=h5;have hm:(og l j).it∈itms true ((mkH H l).take u):=by
   refine mem_itms.2 ⟨(mkH H l).getD j mz,?_,by rw[mkH_get H hj];exact a1,by rw[mkH_get H hj];exact a2,by rw[mkH_get H hj];rfl⟩
   rw[List.mem_iff_getElem];have hl:j<((mkH H l).take u).length:=by rw[List.length_take];omega
   refine⟨j,hl,?_⟩;rw[List.getElem_take,List.getD_eq_getElem?_getD,List.getElem?_eq_getElem h3]
   rfl
  obtain⟨y,b1,b2⟩:=lo_le hm;rw[hb] at b1;injection b1 with b1
  subst b1;have e:(og l j).it=(og l k).it:=by
   rw[hz];rcases(icmp_le _ _).1 a3 with c|c
   ·exact c
   ·rcases b2 with d|d
    ·exact d.symm
    ·exact absurd d (ah_asymm c)
  rw[h1,one_item hn hk hj hi' a1 e]
end Pa
namespace G8
open Rx
set_option maxRecDepth 100000
def TWg {R:Type}:Tab R:=[(1000000000,wrapCon)]
theorem TWg_ok {R:Type} {D:Res R}:TabOk D Tryz.prog (TWg:Tab R):=⟨wrapCon_ok,trivial⟩
def mayBP {R:Type}:Prim R:=fun args hh=>match args,hh with
 |[.agg ⟨aS⟩,.agg ⟨oS⟩,.pointer (some ⟨0,0,none⟩)],[some (.inl (3,[.int .i64 x]))]=>some ⟨aS=smL (smOf aS)/\oS=smL (smOf oS),.bool (Pa.mayB x (smOf aS) (smOf oS)),none,hh,[],[]⟩
 |_,_=>none
theorem mayB_ok {R:Type} {D:Res R}:ConOk D Tryz.prog 117 (con1 mayBP):=by
 refine prK Tryz.f117 fun args hh x hx=>?_
 unfold mayBP at hx;split at hx
 ·rename_i aS oS x;injection hx with hx
  subst hx;refine q4 fun _ hv=>?_
  obtain⟨hq0,hq1⟩:=hv;generalize smOf aS=a at *;subst hq0;generalize smOf oS=o at *;subst hq1
  generalize hG:Rx.Ends (R:=R) _ _=G;refine rx_ok (T:=TWg) TWg_ok mixed 200 ?_;refine as_text (q:=Vc True/\Vc True/\Post (G (Value.bool (decide (IntKind.wrap IntKind.i64 (IntKind.wrap IntKind.i64 (x+Ti.Td.s (Wv.Sw.w a))+Ti.Td.l (Wv.Sw.w o))≤(0:Int)))) [some (.inl (3,[Value.int IntKind.i64 x])),some (.inl (53,(smL a))),some (.inl (53,(smL o)))])) ?_ (by kernel_rfl)
  subst hG
  repeat' (first|apply And.intro|apply Vc.mk|apply fits.mk|intro h|apply Post.mk)
  all_goals (try simp only[sB] at *)
  all_goals first|contradiction|omega|exact vb1 ‹_›|exact vb2 ‹_›|exact vb3 ‹_›|exact⟨rfl,by omega⟩|exact rfl|(simp[*,-List.getD_eq_getElem?_getD];done)|skip
  exact⟨[0],rfl,rfl,⟨.inl rfl,trivial⟩,rfl,rfl,rfl,rfl⟩
 ·cases hx
def TSc {R:Type}:Tab R:=[(53,liftC zN 2 (con1 Sh.sofP)),(82,liftC zN 2 (con1 Sh.scmpP))]
theorem TSc_ok {R:Type} {D:Res R}:TabOk D Tryz.prog (TSc:Tab R):=⟨liftC_ok _ _ Sh.sof_ok,liftC_ok _ _ Sh.scmp_ok,trivial⟩
def mayGP {R:Type}:Prim R:=fun args hh=>match args,hh with
 |[.agg ⟨aS⟩,.agg ⟨oS⟩,.pointer (some ⟨0,0,none⟩)],[some (.inl (75,[.int .i64 k,.int .i64 i,.bool e,.int .i64 tt]))]=>some ⟨aS=smL (smOf aS)/\oS=smL (smOf oS),.bool (Pa.mayG ⟨k,i⟩ (smOf aS) (smOf oS)),none,hh,[],[]⟩
 |_,_=>none
theorem mayG_ok {R:Type} {D:Res R}:ConOk D Tryz.prog 81 (con1 mayGP):=by
 refine prK Tryz.f81 fun args hh x hx=>?_
 unfold mayGP at hx;split at hx
 ·rename_i aS oS k i e tt;injection hx with hx
  subst hx;refine q4 fun _ hv=>?_
  obtain⟨hq0,hq1⟩:=hv;generalize smOf aS=a at *;subst hq0;generalize smOf oS=o at *;subst hq1
  generalize hG:Rx.Ends (R:=R) _ _=G;refine rx_ok (T:=TSc) TSc_ok mixed 200 ?_;refine as_text (q:=let Z1:=Value.int IntKind.i64;(Wv.Sw.gf o=true->Vc (Value.bool (Wv.Sw.gf o)=Value.bool true)/\Vc True/\Vc True/\Post (G (Value.bool (decide (Gv.Ops.cmp Sh.O9 (Sh.Sl.mk (Wv.Sw.g o) false (0:Int)) (Sh.Sl.mk (Wv.It.mk k i) e tt)≥(0:Int)))) [some (.inl (75,[Z1 k,Z1 i,Value.bool e,Z1 tt])),some (.inl (53,(smL a))),some (.inl (53,(smL o)))]))/\(Wv.Sw.gf o=false->Vc (Value.bool (Wv.Sw.gf o)=Value.bool false)/\Post (G (Value.bool false) [some (.inl (75,[Z1 k,Z1 i,Value.bool e,Z1 tt])),some (.inl (53,(smL a))),some (.inl (53,(smL o)))]))) ?_ (by kernel_rfl)
  intro Z1;subst Z1;have done:∀ (x:Bool) (rest:Hp R),x=Pa.mayG ⟨k,i⟩ a o->G (.bool x) (some (.inl (75,[.int .i64 k,.int .i64 i,.bool e,.int .i64 tt]))::rest):=by
   intro x rest h;subst h;subst hG;exact⟨[0],rfl,rfl,⟨.inl rfl,trivial⟩,rfl,rfl,rfl,rfl⟩
  clear hG;exact⟨fun h=>⟨⟨congrArg Value.bool h⟩,⟨trivial⟩,⟨trivial⟩,⟨done _ _ (by unfold Pa.mayG;rw[h];rfl)⟩⟩,fun h=>⟨⟨congrArg Value.bool h⟩,⟨done _ _ (by unfold Pa.mayG;rw[h];rfl)⟩⟩⟩
 ·cases hx
def mayLP {R:Type}:Prim R:=fun args hh=>match args,hh with
 |[.agg ⟨aS⟩,.agg ⟨oS⟩,.pointer (some ⟨0,0,none⟩)],[some (.inl (75,[.int .i64 k,.int .i64 i,.bool e,.int .i64 tt]))]=>some ⟨aS=smL (smOf aS)/\oS=smL (smOf oS),.bool (Pa.mayL ⟨k,i⟩ (smOf aS) (smOf oS)),none,hh,[],[]⟩
 |_,_=>none
theorem mayL_ok {R:Type} {D:Res R}:ConOk D Tryz.prog 86 (con1 mayLP):=by
 refine prK Tryz.f86 fun args hh x hx=>?_
 unfold mayLP at hx;split at hx
 ·rename_i aS oS k i e tt;injection hx with hx
  subst hx;refine q4 fun _ hv=>?_
  obtain⟨hq0,hq1⟩:=hv;generalize smOf aS=a at *;subst hq0;generalize smOf oS=o at *;subst hq1
  generalize hG:Rx.Ends (R:=R) _ _=G;refine rx_ok (T:=TSc) TSc_ok mixed 200 ?_;refine as_text (q:=let Z1:=Value.int IntKind.i64;(Wv.Sw.lf o=true->Vc (Value.bool (Wv.Sw.lf o)=Value.bool true)/\Vc True/\Vc True/\Post (G (Value.bool (decide (Gv.Ops.cmp Sh.O9 (Sh.Sl.mk (Wv.Sw.l o) false (0:Int)) (Sh.Sl.mk (Wv.It.mk k i) e tt)≤(0:Int)))) [some (.inl (75,[Z1 k,Z1 i,Value.bool e,Z1 tt])),some (.inl (53,(smL a))),some (.inl (53,(smL o)))]))/\(Wv.Sw.lf o=false->Vc (Value.bool (Wv.Sw.lf o)=Value.bool false)/\Post (G (Value.bool false) [some (.inl (75,[Z1 k,Z1 i,Value.bool e,Z1 tt])),some (.inl (53,(smL a))),some (.inl (53,(smL o)))]))) ?_ (by kernel_rfl)
  intro Z1;subst Z1;have done:∀ (x:Bool) (rest:Hp R),x=Pa.mayL ⟨k,i⟩ a o->G (.bool x) (some (.inl (75,[.int .i64 k,.int .i64 i,.bool e,.int .i64 tt]))::rest):=by
   intro x rest h;subst h;subst hG;exact⟨[0],rfl,rfl,⟨.inl rfl,trivial⟩,rfl,rfl,rfl,rfl⟩
  clear hG;exact⟨fun h=>⟨⟨congrArg Value.bool h⟩,⟨trivial⟩,⟨trivial⟩,⟨done _ _ (by unfold Pa.mayL;rw[h];rfl)⟩⟩,fun h=>⟨⟨congrArg Value.bool h⟩,⟨done _ _ (by unfold Pa.mayL;rw[h];rfl)⟩⟩⟩
 ·cases hx
set_option maxHeartbeats 16000000
def firstBP  (k:Nat):Prim Rs:=fun args hh=>match args,hh with
 |[.pointer (some ⟨0,0,none⟩),.agg ⟨xN⟩,.agg ⟨pP⟩,.int .i64 f_,.func (.func 117) ⟨[]⟩ ⟨[.pointer (some ⟨1,0,none⟩)]⟩],[some (.inl (92,[.pointer (some ⟨2,0,none⟩),.int .i64 ti,.int .i64 tg])),some (.inl (3,[.int .i64 xx])),some (.inr (.inr (.inr (.pool m))))]=>some ⟨xN=ndL (ndOf xN)/\pP=ptL (ptOf pP)/\(PP m/\Gv.DeepN Wv.O8 k m (ndOf xN)),.int .i64 (Gv.first Wv.O8 (Pa.mayB xx) k m (ndOf xN) (ptOf pP) f_).1,none,[some (.inl (92,[.pointer (some ⟨2,0,none⟩),.int .i64 ti,.int .i64 tg])),some (.inl (3,[.int .i64 xx])),some (.inr (.inr (.inr (.pool (Gv.first Wv.O8 (Pa.mayB xx) k m (ndOf xN) (ptOf pP) f_).2))))],[],[(0,0)]⟩
 |_,_=>none
def TFirstB (k:Nat):Tab Rs:=[(1000000000,wrapCon),(117,liftC zN 2 (con1 mayBP)),(64,liftC zN 2 (con1 lookP)),(74,liftC zN 2 (con1 oneP)),(116,liftC zN 2 (con1 plusP)),(110,liftC zN 2 (con1 (firstBP k)))]
theorem firstB_ok:∀ k:Nat,ConOk D Tryz.prog 110 (con1 (firstBP k))
 |0=>by
  refine prK Tryz.f110 fun args hh x hx=>?_
  unfold firstBP at hx;split at hx
  ·rename_i xN pP f_ ti tg xx m;injection hx with hx
   subst hx;refine q4 fun _ hv=>?_
   exact False.elim (And.right (And.right (And.right hv)))
  ·cases hx
 |k+1=>by
  have ih:=firstB_ok k;refine prK Tryz.f110 fun args hh x hx=>?_
  unfold firstBP at hx;split at hx
  ·rename_i xN pP f_ ti tg xx m;injection hx with hx
   subst hx;refine q4 fun _ hv=>?_
   obtain⟨hq0,hq1,hv⟩:=hv;generalize ndOf xN=xn at *;subst hq0;generalize ptOf pP=pp at *;subst hq1;obtain⟨hp,hd⟩:=hv
   generalize hG:Rx.Ends (R:=Rs) _ _=G;refine rx_ok (T:=(TFirstB k)) (show TabOk D Tryz.prog (TFirstB k) from⟨wrapCon_ok,liftC_ok _ _ mayB_ok,liftC_ok _ _ look_ok,liftC_ok _ _ one_ok,liftC_ok _ _ plus_ok,liftC_ok _ _ ih,trivial⟩) mixed 200 ?_
   refine as_text (q:=let Z9:=Value.int IntKind.i64;let Z1:=(IntKind.wrap IntKind.i64 (Gv.Part.n pp+Gv.Part.n (Gv.Node.all xn))≤f_);let Z2:=(Gv.lk Wv.O8 m (Gv.Node.l xn));let Z3:=(Gv.first Wv.O8 (Pa.mayB xx) k (Gv.see m (Gv.Node.l xn)) Z2 pp f_);let Z4:=(Gv.plusP Wv.O8 pp (Gv.Node.all Z2));let Z5:=(Gv.one Wv.O8 (Gv.Node.e xn));let Z6:=(Gv.lk Wv.O8 (Prod.snd Z3) (Gv.Node.r xn));let Z7:=(Gv.see (Prod.snd Z3) (Gv.Node.r xn));let Z8:=(Gv.first Wv.O8 (Pa.mayB xx) k Z7 Z6 (Gv.plusP Wv.O8 Z4 Z5) f_);((Gv.Node.h xn==(0:Int))=false->Vc True/\(decide Z1=true->Post (G (Z9 (-1:Int)) [trB 2 ti tg,some (.inl (3,[Z9 xx])),oP m,some (.inl (119,(ndL xn))),some (.inl (117,(ptL pp)))]))/\(decide Z1=false->(decide (Gv.Part.n pp≥f_)=true->Vc ((smL (Gv.Part.sum pp))=smL (Gv.Part.sum pp)/\(smL (Gv.Part.sum (Gv.Node.all xn)))=smL (Gv.Part.sum (Gv.Node.all xn)))/\((!Pa.mayB xx (Gv.Part.sum pp) (Gv.Part.sum (Gv.Node.all xn)))=true->Post (G (Z9 (-1:Int)) [trB 2 ti tg,some (.inl (3,[Z9 xx])),oP m,some (.inl (119,(ndL xn))),some (.inl (117,(ptL pp)))]))/\((!Pa.mayB xx (Gv.Part.sum pp) (Gv.Part.sum (Gv.Node.all xn)))=false->Vc (PP m)/\Vc ((ndL Z2)=ndL Z2/\(ptL pp)=ptL pp/\PP (Gv.see m (Gv.Node.l xn))/\Gv.DeepN Wv.O8 k (Gv.see m (Gv.Node.l xn)) Z2)/\(decide (Prod.fst Z3≥(0:Int))=true->Post (G (Z9 (Prod.fst Z3)) [trB 2 ti tg,some (.inl (3,[Z9 xx])),oP (Prod.snd Z3),some (.inl (119,(ndL xn))),some (.inl (117,(ptL pp))),some (.inl (119,(ndL Z2)))]))/\(decide (Prod.fst Z3≥(0:Int))=false->Vc ((ptL pp)=ptL pp/\(ptL (Gv.Node.all Z2))=ptL (Gv.Node.all Z2)/\True)/\Vc ((elL (Gv.Node.e xn))=elL (Gv.Node.e xn)/\True)/\(decide (Gv.Part.n Z4≥f_)=true->Vc ((smL (Gv.Part.sum Z4))=smL (Gv.Part.sum Z4)/\(smL (Gv.Part.sum Z5))=smL (Gv.Part.sum Z5))/\(Pa.mayB xx (Gv.Part.sum Z4) (Gv.Part.sum Z5)=true->Post (G (Z9 (Gv.Part.n Z4)) [trB 2 ti tg,some (.inl (3,[Z9 xx])),oP (Prod.snd Z3),some (.inl (119,(ndL xn))),some (.inl (117,(ptL Z4))),some (.inl (119,(ndL Z2))),some (.inl (117,(ptL Z5)))]))/\(Pa.mayB xx (Gv.Part.sum Z4) (Gv.Part.sum Z5)=false->Vc (PP (Prod.snd Z3))/\Vc ((ptL Z4)=ptL Z4/\(ptL Z5)=ptL Z5/\True)/\Vc ((ndL Z6)=ndL Z6/\(ptL (Gv.plusP Wv.O8 Z4 Z5))=ptL (Gv.plusP Wv.O8 Z4 Z5)/\PP Z7/\Gv.DeepN Wv.O8 k Z7 Z6)/\Post (G (Z9 (Prod.fst Z8)) [trB 2 ti tg,some (.inl (3,[Z9 xx])),oP (Prod.snd Z8),some (.inl (119,(ndL xn))),some (.inl (117,(ptL Z4))),some (.inl (119,(ndL Z2))),some (.inl (117,(ptL Z5)))])))/\(decide (Gv.Part.n Z4≥f_)=false->Vc (PP (Prod.snd Z3))/\Vc ((ptL Z4)=ptL Z4/\(ptL Z5)=ptL Z5/\True)/\Vc ((ndL Z6)=ndL Z6/\(ptL (Gv.plusP Wv.O8 Z4 Z5))=ptL (Gv.plusP Wv.O8 Z4 Z5)/\PP Z7/\Gv.DeepN Wv.O8 k Z7 Z6)/\Post (G (Z9 (Prod.fst Z8)) [trB 2 ti tg,some (.inl (3,[Z9 xx])),oP (Prod.snd Z8),some (.inl (119,(ndL xn))),some (.inl (117,(ptL Z4))),some (.inl (119,(ndL Z2))),some (.inl (117,(ptL Z5)))])))))/\(decide (Gv.Part.n pp≥f_)=false->Vc (PP m)/\Vc ((ndL Z2)=ndL Z2/\(ptL pp)=ptL pp/\PP (Gv.see m (Gv.Node.l xn))/\Gv.DeepN Wv.O8 k (Gv.see m (Gv.Node.l xn)) Z2)/\(decide (Prod.fst Z3≥(0:Int))=true->Post (G (Z9 (Prod.fst Z3)) [trB 2 ti tg,some (.inl (3,[Z9 xx])),oP (Prod.snd Z3),some (.inl (119,(ndL xn))),some (.inl (117,(ptL pp))),some (.inl (119,(ndL Z2)))]))/\(decide (Prod.fst Z3≥(0:Int))=false->Vc ((ptL pp)=ptL pp/\(ptL (Gv.Node.all Z2))=ptL (Gv.Node.all Z2)/\True)/\Vc ((elL (Gv.Node.e xn))=elL (Gv.Node.e xn)/\True)/\(decide (Gv.Part.n Z4≥f_)=true->Vc ((smL (Gv.Part.sum Z4))=smL (Gv.Part.sum Z4)/\(smL (Gv.Part.sum Z5))=smL (Gv.Part.sum Z5))/\(Pa.mayB xx (Gv.Part.sum Z4) (Gv.Part.sum Z5)=true->Post (G (Z9 (Gv.Part.n Z4)) [trB 2 ti tg,some (.inl (3,[Z9 xx])),oP (Prod.snd Z3),some (.inl (119,(ndL xn))),some (.inl (117,(ptL Z4))),some (.inl (119,(ndL Z2))),some (.inl (117,(ptL Z5)))]))/\(Pa.mayB xx (Gv.Part.sum Z4) (Gv.Part.sum Z5)=false->Vc (PP (Prod.snd Z3))/\Vc ((ptL Z4)=ptL Z4/\(ptL Z5)=ptL Z5/\True)/\Vc ((ndL Z6)=ndL Z6/\(ptL (Gv.plusP Wv.O8 Z4 Z5))=ptL (Gv.plusP Wv.O8 Z4 Z5)/\PP Z7/\Gv.DeepN Wv.O8 k Z7 Z6)/\Post (G (Z9 (Prod.fst Z8)) [trB 2 ti tg,some (.inl (3,[Z9 xx])),oP (Prod.snd Z8),some (.inl (119,(ndL xn))),some (.inl (117,(ptL Z4))),some (.inl (119,(ndL Z2))),some (.inl (117,(ptL Z5)))])))/\(decide (Gv.Part.n Z4≥f_)=false->Vc (PP (Prod.snd Z3))/\Vc ((ptL Z4)=ptL Z4/\(ptL Z5)=ptL Z5/\True)/\Vc ((ndL Z6)=ndL Z6/\(ptL (Gv.plusP Wv.O8 Z4 Z5))=ptL (Gv.plusP Wv.O8 Z4 Z5)/\PP Z7/\Gv.DeepN Wv.O8 k Z7 Z6)/\Post (G (Z9 (Prod.fst Z8)) [trB 2 ti tg,some (.inl (3,[Z9 xx])),oP (Prod.snd Z8),some (.inl (119,(ndL xn))),some (.inl (117,(ptL Z4))),some (.inl (119,(ndL Z2))),some (.inl (117,(ptL Z5)))]))))))/\((Gv.Node.h xn==(0:Int))=true->Post (G (Z9 (-1:Int)) [trB 2 ti tg,some (.inl (3,[Z9 xx])),oP m,some (.inl (119,(ndL xn))),some (.inl (117,(ptL pp)))]))) ?_ (by kernel_rfl)
   intro Z9 Z1 Z2 Z3 Z4 Z5 Z6 Z7 Z8;subst Z8 Z7 Z6 Z5 Z4 Z3 Z2 Z1 Z9;simp only[Gv.DeepN] at hd;have e1:∀ e,(Gv.one Wv.O8 e).sum=Wv.O8.sum e:=fun _=>rfl
   have done:∀ (i:Int) (m':Pl) (rest:Hp Rs),Gv.first Wv.O8 (Pa.mayB xx) (k+1) m xn pp f_=(i,m')->G (.int .i64 i) ([some (.inl (92,[.pointer (some ⟨2,0,none⟩),.int .i64 ti,.int .i64 tg])),some (.inl (3,[.int .i64 xx])),some (.inr (.inr (.inr (.pool m'))))]++rest):=by
    intro i m' rest e;subst hG;refine⟨[0,1,2],?_,rfl,⟨.inl rfl,.inl rfl,?_,trivial⟩,rfl,rfl,rfl,rfl⟩
    ·simp only[e];rfl
    ·simp only[e];rfl
   clear hG;rw[Gv.first] at done
   dsimp only [Gv.W] at done
   simp only[e1]
   repeat' (first|apply And.intro|apply Vc.mk|apply fits.mk|intro h|apply Post.mk)
   all_goals (try simp only[sB] at *)
   all_goals first|contradiction|omega|exact vb1 ‹_›|exact vb2 ‹_›|exact vb3 ‹_›|exact⟨rfl,by omega⟩|exact rfl|(simp[*,-List.getD_eq_getElem?_getD];done)|skip
   all_goals first|assumption|(simp only[Gv.ok_s];assumption)|skip
   all_goals first|exact Gv.DeepN_of (hd.resolve_left (by omega)).1 (fun s=>by simp only[Gv.lk_see,Gv.lk_first,Gv.lk_last])|(simp only[Gv.lk_first,Gv.lk_last,Gv.lk_see];first|exact Gv.DeepN_of (hd.resolve_left (by omega)).2 (fun s=>by simp only[Gv.lk_see,Gv.lk_first,Gv.lk_last])|exact Gv.DeepN_of (hd.resolve_left (by omega)).1 (fun s=>by simp only[Gv.lk_see,Gv.lk_first,Gv.lk_last]))|skip
   all_goals (refine done _ _ _ ?_;repeat' split)
   all_goals first|rfl|(exfalso;omega)|(exfalso;simp_all;done)|(exfalso;simp_all;omega)
  ·cases hx
def lastBP  (k:Nat):Prim Rs:=fun args hh=>match args,hh with
 |[.pointer (some ⟨0,0,none⟩),.agg ⟨xN⟩,.agg ⟨pP⟩,.int .i64 f_,.func (.func 117) ⟨[]⟩ ⟨[.pointer (some ⟨1,0,none⟩)]⟩],[some (.inl (92,[.pointer (some ⟨2,0,none⟩),.int .i64 ti,.int .i64 tg])),some (.inl (3,[.int .i64 xx])),some (.inr (.inr (.inr (.pool m))))]=>some ⟨xN=ndL (ndOf xN)/\pP=ptL (ptOf pP)/\(PP m/\Gv.DeepN Wv.O8 k m (ndOf xN)),.int .i64 (Gv.last Wv.O8 (Pa.mayB xx) k m (ndOf xN) (ptOf pP) f_).1,none,[some (.inl (92,[.pointer (some ⟨2,0,none⟩),.int .i64 ti,.int .i64 tg])),some (.inl (3,[.int .i64 xx])),some (.inr (.inr (.inr (.pool (Gv.last Wv.O8 (Pa.mayB xx) k m (ndOf xN) (ptOf pP) f_).2))))],[],[(0,0)]⟩
 |_,_=>none
def TLastB (k:Nat):Tab Rs:=[(1000000000,wrapCon),(117,liftC zN 2 (con1 mayBP)),(64,liftC zN 2 (con1 lookP)),(74,liftC zN 2 (con1 oneP)),(116,liftC zN 2 (con1 plusP)),(111,liftC zN 2 (con1 (lastBP k)))]
theorem lastB_ok:∀ k:Nat,ConOk D Tryz.prog 111 (con1 (lastBP k))
 |0=>by
  refine prK Tryz.f111 fun args hh x hx=>?_
  unfold lastBP at hx;split at hx
  ·rename_i xN pP f_ ti tg xx m;injection hx with hx
   subst hx;refine q4 fun _ hv=>?_
   exact False.elim (And.right (And.right (And.right hv)))
  ·cases hx
 |k+1=>by
  have ih:=lastB_ok k;refine prK Tryz.f111 fun args hh x hx=>?_
  unfold lastBP at hx;split at hx
  ·rename_i xN pP f_ ti tg xx m;injection hx with hx
   subst hx;refine q4 fun _ hv=>?_
   obtain⟨hq0,hq1,hv⟩:=hv;generalize ndOf xN=xn at *;subst hq0;generalize ptOf pP=pp at *;subst hq1;obtain⟨hp,hd⟩:=hv
   generalize hG:Rx.Ends (R:=Rs) _ _=G;refine rx_ok (T:=(TLastB k)) (show TabOk D Tryz.prog (TLastB k) from⟨wrapCon_ok,liftC_ok _ _ mayB_ok,liftC_ok _ _ look_ok,liftC_ok _ _ one_ok,liftC_ok _ _ plus_ok,liftC_ok _ _ ih,trivial⟩) mixed 200 ?_
   refine as_text (q:=let Z8:=Value.int IntKind.i64;let Z1:=(IntKind.wrap IntKind.i64 (Gv.Part.n pp+Gv.Part.n (Gv.Node.all xn))≤f_);let Z2:=(Gv.lk Wv.O8 m (Gv.Node.l xn));let Z3:=(Gv.plusP Wv.O8 pp (Gv.Node.all Z2));let Z4:=(Gv.one Wv.O8 (Gv.Node.e xn));let Z5:=(Gv.lk Wv.O8 (Gv.see m (Gv.Node.l xn)) (Gv.Node.r xn));let Z6:=(Gv.see (Gv.see m (Gv.Node.l xn)) (Gv.Node.r xn));let Z7:=(Gv.last Wv.O8 (Pa.mayB xx) k Z6 Z5 (Gv.plusP Wv.O8 Z3 Z4) f_);((Gv.Node.h xn==(0:Int))=false->(decide (Gv.Part.n pp≥f_)=true->Post (G (Z8 (-1:Int)) [trB 2 ti tg,some (.inl (3,[Z8 xx])),oP m,some (.inl (119,(ndL xn))),some (.inl (117,(ptL pp)))]))/\(decide (Gv.Part.n pp≥f_)=false->Vc True/\(decide Z1=true->Vc ((smL (Gv.Part.sum pp))=smL (Gv.Part.sum pp)/\(smL (Gv.Part.sum (Gv.Node.all xn)))=smL (Gv.Part.sum (Gv.Node.all xn)))/\((!Pa.mayB xx (Gv.Part.sum pp) (Gv.Part.sum (Gv.Node.all xn)))=true->Post (G (Z8 (-1:Int)) [trB 2 ti tg,some (.inl (3,[Z8 xx])),oP m,some (.inl (119,(ndL xn))),some (.inl (117,(ptL pp)))]))/\((!Pa.mayB xx (Gv.Part.sum pp) (Gv.Part.sum (Gv.Node.all xn)))=false->Vc (PP m)/\Vc ((ptL pp)=ptL pp/\(ptL (Gv.Node.all Z2))=ptL (Gv.Node.all Z2)/\True)/\Vc ((elL (Gv.Node.e xn))=elL (Gv.Node.e xn)/\True)/\Vc (PP (Gv.see m (Gv.Node.l xn)))/\Vc ((ptL Z3)=ptL Z3/\(ptL Z4)=ptL Z4/\True)/\Vc ((ndL Z5)=ndL Z5/\(ptL (Gv.plusP Wv.O8 Z3 Z4))=ptL (Gv.plusP Wv.O8 Z3 Z4)/\PP Z6/\Gv.DeepN Wv.O8 k Z6 Z5)/\(decide (Prod.fst Z7≥(0:Int))=true->Post (G (Z8 (Prod.fst Z7)) [trB 2 ti tg,some (.inl (3,[Z8 xx])),oP (Prod.snd Z7),some (.inl (119,(ndL xn))),some (.inl (117,(ptL pp))),some (.inl (119,(ndL Z2))),some (.inl (117,(ptL Z3))),some (.inl (117,(ptL Z4)))]))/\(decide (Prod.fst Z7≥(0:Int))=false->(decide (Gv.Part.n Z3<f_)=true->Vc ((smL (Gv.Part.sum Z3))=smL (Gv.Part.sum Z3)/\(smL (Gv.Part.sum Z4))=smL (Gv.Part.sum Z4))/\(Pa.mayB xx (Gv.Part.sum Z3) (Gv.Part.sum Z4)=true->Post (G (Z8 (Gv.Part.n Z3)) [trB 2 ti tg,some (.inl (3,[Z8 xx])),oP (Prod.snd Z7),some (.inl (119,(ndL xn))),some (.inl (117,(ptL pp))),some (.inl (119,(ndL Z2))),some (.inl (117,(ptL Z3))),some (.inl (117,(ptL Z4)))]))/\(Pa.mayB xx (Gv.Part.sum Z3) (Gv.Part.sum Z4)=false->Vc ((ndL Z2)=ndL Z2/\(ptL pp)=ptL pp/\PP (Prod.snd Z7)/\Gv.DeepN Wv.O8 k (Prod.snd Z7) Z2)/\Post (G (Z8 (Prod.fst (Gv.last Wv.O8 (Pa.mayB xx) k (Prod.snd Z7) Z2 pp f_))) [trB 2 ti tg,some (.inl (3,[Z8 xx])),oP (Prod.snd (Gv.last Wv.O8 (Pa.mayB xx) k (Prod.snd Z7) Z2 pp f_)),some (.inl (119,(ndL xn))),some (.inl (117,(ptL pp))),some (.inl (119,(ndL Z2))),some (.inl (117,(ptL Z3))),some (.inl (117,(ptL Z4)))])))/\(decide (Gv.Part.n Z3<f_)=false->Vc ((ndL Z2)=ndL Z2/\(ptL pp)=ptL pp/\PP (Prod.snd Z7)/\Gv.DeepN Wv.O8 k (Prod.snd Z7) Z2)/\Post (G (Z8 (Prod.fst (Gv.last Wv.O8 (Pa.mayB xx) k (Prod.snd Z7) Z2 pp f_))) [trB 2 ti tg,some (.inl (3,[Z8 xx])),oP (Prod.snd (Gv.last Wv.O8 (Pa.mayB xx) k (Prod.snd Z7) Z2 pp f_)),some (.inl (119,(ndL xn))),some (.inl (117,(ptL pp))),some (.inl (119,(ndL Z2))),some (.inl (117,(ptL Z3))),some (.inl (117,(ptL Z4)))])))))/\(decide Z1=false->Vc (PP m)/\Vc ((ptL pp)=ptL pp/\(ptL (Gv.Node.all Z2))=ptL (Gv.Node.all Z2)/\True)/\Vc ((elL (Gv.Node.e xn))=elL (Gv.Node.e xn)/\True)/\Vc (PP (Gv.see m (Gv.Node.l xn)))/\Vc ((ptL Z3)=ptL Z3/\(ptL Z4)=ptL Z4/\True)/\Vc ((ndL Z5)=ndL Z5/\(ptL (Gv.plusP Wv.O8 Z3 Z4))=ptL (Gv.plusP Wv.O8 Z3 Z4)/\PP Z6/\Gv.DeepN Wv.O8 k Z6 Z5)/\(decide (Prod.fst Z7≥(0:Int))=true->Post (G (Z8 (Prod.fst Z7)) [trB 2 ti tg,some (.inl (3,[Z8 xx])),oP (Prod.snd Z7),some (.inl (119,(ndL xn))),some (.inl (117,(ptL pp))),some (.inl (119,(ndL Z2))),some (.inl (117,(ptL Z3))),some (.inl (117,(ptL Z4)))]))/\(decide (Prod.fst Z7≥(0:Int))=false->(decide (Gv.Part.n Z3<f_)=true->Vc ((smL (Gv.Part.sum Z3))=smL (Gv.Part.sum Z3)/\(smL (Gv.Part.sum Z4))=smL (Gv.Part.sum Z4))/\(Pa.mayB xx (Gv.Part.sum Z3) (Gv.Part.sum Z4)=true->Post (G (Z8 (Gv.Part.n Z3)) [trB 2 ti tg,some (.inl (3,[Z8 xx])),oP (Prod.snd Z7),some (.inl (119,(ndL xn))),some (.inl (117,(ptL pp))),some (.inl (119,(ndL Z2))),some (.inl (117,(ptL Z3))),some (.inl (117,(ptL Z4)))]))/\(Pa.mayB xx (Gv.Part.sum Z3) (Gv.Part.sum Z4)=false->Vc ((ndL Z2)=ndL Z2/\(ptL pp)=ptL pp/\PP (Prod.snd Z7)/\Gv.DeepN Wv.O8 k (Prod.snd Z7) Z2)/\Post (G (Z8 (Prod.fst (Gv.last Wv.O8 (Pa.mayB xx) k (Prod.snd Z7) Z2 pp f_))) [trB 2 ti tg,some (.inl (3,[Z8 xx])),oP (Prod.snd (Gv.last Wv.O8 (Pa.mayB xx) k (Prod.snd Z7) Z2 pp f_)),some (.inl (119,(ndL xn))),some (.inl (117,(ptL pp))),some (.inl (119,(ndL Z2))),some (.inl (117,(ptL Z3))),some (.inl (117,(ptL Z4)))])))/\(decide (Gv.Part.n Z3<f_)=false->Vc ((ndL Z2)=ndL Z2/\(ptL pp)=ptL pp/\PP (Prod.snd Z7)/\Gv.DeepN Wv.O8 k (Prod.snd Z7) Z2)/\Post (G (Z8 (Prod.fst (Gv.last Wv.O8 (Pa.mayB xx) k (Prod.snd Z7) Z2 pp f_))) [trB 2 ti tg,some (.inl (3,[Z8 xx])),oP (Prod.snd (Gv.last Wv.O8 (Pa.mayB xx) k (Prod.snd Z7) Z2 pp f_)),some (.inl (119,(ndL xn))),some (.inl (117,(ptL pp))),some (.inl (119,(ndL Z2))),some (.inl (117,(ptL Z3))),some (.inl (117,(ptL Z4)))]))))))/\((Gv.Node.h xn==(0:Int))=true->Post (G (Z8 (-1:Int)) [trB 2 ti tg,some (.inl (3,[Z8 xx])),oP m,some (.inl (119,(ndL xn))),some (.inl (117,(ptL pp)))]))) ?_ (by kernel_rfl)
   intro Z8 Z1 Z2 Z3 Z4 Z5 Z6 Z7;subst Z7 Z6 Z5 Z4 Z3 Z2 Z1 Z8;simp only[Gv.DeepN] at hd;have e1:∀ e,(Gv.one Wv.O8 e).sum=Wv.O8.sum e:=fun _=>rfl
   have done:∀ (i:Int) (m':Pl) (rest:Hp Rs),Gv.last Wv.O8 (Pa.mayB xx) (k+1) m xn pp f_=(i,m')->G (.int .i64 i) ([some (.inl (92,[.pointer (some ⟨2,0,none⟩),.int .i64 ti,.int .i64 tg])),some (.inl (3,[.int .i64 xx])),some (.inr (.inr (.inr (.pool m'))))]++rest):=by
    intro i m' rest e;subst hG;refine⟨[0,1,2],?_,rfl,⟨.inl rfl,.inl rfl,?_,trivial⟩,rfl,rfl,rfl,rfl⟩
    ·simp only[e];rfl
    ·simp only[e];rfl
   clear hG;rw[Gv.last] at done
   dsimp only [Gv.W] at done
   simp only[e1]
   repeat' (first|apply And.intro|apply Vc.mk|apply fits.mk|intro h|apply Post.mk)
   all_goals (try simp only[sB] at *)
   all_goals first|contradiction|omega|exact vb1 ‹_›|exact vb2 ‹_›|exact vb3 ‹_›|exact⟨rfl,by omega⟩|exact rfl|(simp[*,-List.getD_eq_getElem?_getD];done)|skip
   all_goals first|assumption|(simp only[Gv.ok_s];assumption)|skip
   all_goals first|exact Gv.DeepN_of (hd.resolve_left (by omega)).1 (fun s=>by simp only[Gv.lk_see,Gv.lk_first,Gv.lk_last])|(simp only[Gv.lk_first,Gv.lk_last,Gv.lk_see];first|exact Gv.DeepN_of (hd.resolve_left (by omega)).2 (fun s=>by simp only[Gv.lk_see,Gv.lk_first,Gv.lk_last])|exact Gv.DeepN_of (hd.resolve_left (by omega)).1 (fun s=>by simp only[Gv.lk_see,Gv.lk_first,Gv.lk_last]))|skip
   all_goals (refine done _ _ _ ?_;repeat' split)
   all_goals first|rfl|(exfalso;omega)|(exfalso;simp_all;done)|(exfalso;simp_all;omega)
  ·cases hx
def gfirstBP (K:Nat):Prim Rs:=fun args hh=>match args,hh with
 |[.pointer (some ⟨0,0,none⟩),.int .i64 f_,.func (.func 117) ⟨[]⟩ ⟨[.pointer (some ⟨1,0,none⟩)]⟩],[some (.inl (92,[.pointer (some ⟨2,0,none⟩),.int .i64 ti,.int .i64 tg])),some (.inl (3,[.int .i64 xx])),some (.inr (.inr (.inr (.pool m))))]=>some ⟨PP m/\Gv.DeepN Wv.O8 K (Gv.see m (⟨ti,tg⟩:Gv.Ref)) (Gv.lk Wv.O8 m (⟨ti,tg⟩:Gv.Ref)),.int .i64 (Gv.first Wv.O8 (Pa.mayB xx) K (Gv.see m (⟨ti,tg⟩:Gv.Ref)) (Gv.lk Wv.O8 m (⟨ti,tg⟩:Gv.Ref)) ⟨0,Wv.O8.a0⟩ f_).1,none,[some (.inl (92,[.pointer (some ⟨2,0,none⟩),.int .i64 ti,.int .i64 tg])),some (.inl (3,[.int .i64 xx])),some (.inr (.inr (.inr (.pool (Gv.first Wv.O8 (Pa.mayB xx) K (Gv.see m (⟨ti,tg⟩:Gv.Ref)) (Gv.lk Wv.O8 m (⟨ti,tg⟩:Gv.Ref)) ⟨0,Wv.O8.a0⟩ f_).2))))],[],[(0,0)]⟩
 |_,_=>none
def TGfirstB (K:Nat):Tab Rs:=[(64,liftC zN 2 (con1 lookP)),(110,liftC zN 2 (con1 (firstBP K)))]
theorem gfirstB_ok (K:Nat):ConOk D Tryz.prog 84 (con1 (gfirstBP K)):=by
 refine prK Tryz.f84 fun args hh x hx=>?_
 unfold gfirstBP at hx;split at hx
 ·rename_i f_ ti tg xx m;injection hx with hx
  subst hx;refine q4 fun _ hv=>?_
  obtain⟨hp,hd⟩:=hv;generalize hG:Rx.Ends (R:=Rs) _ _=G;refine rx_ok (T:=(TGfirstB K)) (show TabOk D Tryz.prog (TGfirstB K) from⟨liftC_ok _ _ look_ok,liftC_ok _ _ (firstB_ok K),trivial⟩) mixed 200 ?_
  refine as_text (q:=let Z1:=(Gv.lk Wv.O8 m (Gv.Ref.mk ti tg));let Z2:=(ptL (Gv.Part.mk 0 (Wv.Sw.mk (Ti.Td.mk 0 0 0) (Ti.Td.mk 0 0 0) 0 0 (Wv.It.mk 0 0) false (Wv.It.mk 0 0) false (Wv.It.mk 0 0))));let Z3:=(Gv.first Wv.O8 (Pa.mayB xx) K (Gv.see m (Gv.Ref.mk ti tg)) Z1 (Gv.Part.mk (0:Int) (Wv.Sw.mk (Ti.Td.mk (0:Int) (0:Int) (0:Int)) (Ti.Td.mk (0:Int) (0:Int) (0:Int)) (0:Int) (0:Int) (Wv.It.mk (0:Int) (0:Int)) false (Wv.It.mk (0:Int) (0:Int)) false (Wv.It.mk (0:Int) (0:Int)))) f_);Vc (PP m)/\Vc ((ndL Z1)=ndL Z1/\Z2=Z2/\PP (Gv.see m (Gv.Ref.mk ti tg))/\Gv.DeepN Wv.O8 K (Gv.see m (Gv.Ref.mk ti tg)) Z1)/\Post (G (Value.int IntKind.i64 (Prod.fst Z3)) [trB 2 ti tg,some (.inl (3,[Value.int IntKind.i64 xx])),oP (Prod.snd Z3)])) ?_ (by kernel_rfl)
  intro Z1 Z2 Z3;subst Z3 Z2 Z1;subst hG
  repeat' (first|apply And.intro|apply Vc.mk|apply fits.mk|intro h|apply Post.mk)
  all_goals (try simp only[sB] at *)
  all_goals first|contradiction|omega|exact vb1 ‹_›|exact vb2 ‹_›|exact vb3 ‹_›|exact⟨rfl,by omega⟩|exact rfl|(simp[*,-List.getD_eq_getElem?_getD];done)|skip
  all_goals first|assumption|(simp only[Gv.ok_s];assumption)|skip
  exact⟨[0,1,2],rfl,rfl,⟨.inl rfl,.inl rfl,rfl,trivial⟩,rfl,rfl,rfl,rfl⟩
 ·cases hx
def glastBP (K:Nat):Prim Rs:=fun args hh=>match args,hh with
 |[.pointer (some ⟨0,0,none⟩),.int .i64 f_,.func (.func 117) ⟨[]⟩ ⟨[.pointer (some ⟨1,0,none⟩)]⟩],[some (.inl (92,[.pointer (some ⟨2,0,none⟩),.int .i64 ti,.int .i64 tg])),some (.inl (3,[.int .i64 xx])),some (.inr (.inr (.inr (.pool m))))]=>some ⟨PP m/\Gv.DeepN Wv.O8 K (Gv.see m (⟨ti,tg⟩:Gv.Ref)) (Gv.lk Wv.O8 m (⟨ti,tg⟩:Gv.Ref)),.int .i64 (Gv.last Wv.O8 (Pa.mayB xx) K (Gv.see m (⟨ti,tg⟩:Gv.Ref)) (Gv.lk Wv.O8 m (⟨ti,tg⟩:Gv.Ref)) ⟨0,Wv.O8.a0⟩ f_).1,none,[some (.inl (92,[.pointer (some ⟨2,0,none⟩),.int .i64 ti,.int .i64 tg])),some (.inl (3,[.int .i64 xx])),some (.inr (.inr (.inr (.pool (Gv.last Wv.O8 (Pa.mayB xx) K (Gv.see m (⟨ti,tg⟩:Gv.Ref)) (Gv.lk Wv.O8 m (⟨ti,tg⟩:Gv.Ref)) ⟨0,Wv.O8.a0⟩ f_).2))))],[],[(0,0)]⟩
 |_,_=>none
def TGlastB (K:Nat):Tab Rs:=[(64,liftC zN 2 (con1 lookP)),(111,liftC zN 2 (con1 (lastBP K)))]
theorem glastB_ok (K:Nat):ConOk D Tryz.prog 87 (con1 (glastBP K)):=by
 refine prK Tryz.f87 fun args hh x hx=>?_
 unfold glastBP at hx;split at hx
 ·rename_i f_ ti tg xx m;injection hx with hx
  subst hx;refine q4 fun _ hv=>?_
  obtain⟨hp,hd⟩:=hv;generalize hG:Rx.Ends (R:=Rs) _ _=G;refine rx_ok (T:=(TGlastB K)) (show TabOk D Tryz.prog (TGlastB K) from⟨liftC_ok _ _ look_ok,liftC_ok _ _ (lastB_ok K),trivial⟩) mixed 200 ?_
  refine as_text (q:=let Z1:=(Gv.lk Wv.O8 m (Gv.Ref.mk ti tg));let Z2:=(ptL (Gv.Part.mk 0 (Wv.Sw.mk (Ti.Td.mk 0 0 0) (Ti.Td.mk 0 0 0) 0 0 (Wv.It.mk 0 0) false (Wv.It.mk 0 0) false (Wv.It.mk 0 0))));let Z3:=(Gv.last Wv.O8 (Pa.mayB xx) K (Gv.see m (Gv.Ref.mk ti tg)) Z1 (Gv.Part.mk (0:Int) (Wv.Sw.mk (Ti.Td.mk (0:Int) (0:Int) (0:Int)) (Ti.Td.mk (0:Int) (0:Int) (0:Int)) (0:Int) (0:Int) (Wv.It.mk (0:Int) (0:Int)) false (Wv.It.mk (0:Int) (0:Int)) false (Wv.It.mk (0:Int) (0:Int)))) f_);Vc (PP m)/\Vc ((ndL Z1)=ndL Z1/\Z2=Z2/\PP (Gv.see m (Gv.Ref.mk ti tg))/\Gv.DeepN Wv.O8 K (Gv.see m (Gv.Ref.mk ti tg)) Z1)/\Post (G (Value.int IntKind.i64 (Prod.fst Z3)) [trB 2 ti tg,some (.inl (3,[Value.int IntKind.i64 xx])),oP (Prod.snd Z3)])) ?_ (by kernel_rfl)
  intro Z1 Z2 Z3;subst Z3 Z2 Z1;subst hG
  repeat' (first|apply And.intro|apply Vc.mk|apply fits.mk|intro h|apply Post.mk)
  all_goals (try simp only[sB] at *)
  all_goals first|contradiction|omega|exact vb1 ‹_›|exact vb2 ‹_›|exact vb3 ‹_›|exact⟨rfl,by omega⟩|exact rfl|(simp[*,-List.getD_eq_getElem?_getD];done)|skip
  all_goals first|assumption|(simp only[Gv.ok_s];assumption)|skip
  exact⟨[0,1,2],rfl,rfl,⟨.inl rfl,.inl rfl,rfl,trivial⟩,rfl,rfl,rfl,rfl⟩
 ·cases hx
def firstGP  (k:Nat):Prim Rs:=fun args hh=>match args,hh with
 |[.pointer (some ⟨0,0,none⟩),.agg ⟨xN⟩,.agg ⟨pP⟩,.int .i64 f_,.func (.func 81) ⟨[]⟩ ⟨[.pointer (some ⟨1,0,none⟩)]⟩],[some (.inl (92,[.pointer (some ⟨2,0,none⟩),.int .i64 ti,.int .i64 tg])),some (.inl (75,[.int .i64 xk,.int .i64 xi,.bool xe,.int .i64 xt])),some (.inr (.inr (.inr (.pool m))))]=>some ⟨xN=ndL (ndOf xN)/\pP=ptL (ptOf pP)/\(PP m/\Gv.DeepN Wv.O8 k m (ndOf xN)),.int .i64 (Gv.first Wv.O8 (Pa.mayG ⟨xk,xi⟩) k m (ndOf xN) (ptOf pP) f_).1,none,[some (.inl (92,[.pointer (some ⟨2,0,none⟩),.int .i64 ti,.int .i64 tg])),some (.inl (75,[.int .i64 xk,.int .i64 xi,.bool xe,.int .i64 xt])),some (.inr (.inr (.inr (.pool (Gv.first Wv.O8 (Pa.mayG ⟨xk,xi⟩) k m (ndOf xN) (ptOf pP) f_).2))))],[],[(0,0)]⟩
 |_,_=>none
def TFirstG (k:Nat):Tab Rs:=[(1000000000,wrapCon),(81,liftC zN 2 (con1 mayGP)),(64,liftC zN 2 (con1 lookP)),(74,liftC zN 2 (con1 oneP)),(116,liftC zN 2 (con1 plusP)),(110,liftC zN 2 (con1 (firstGP k)))]
theorem firstG_ok:∀ k:Nat,ConOk D Tryz.prog 110 (con1 (firstGP k))
 |0=>by
  refine prK Tryz.f110 fun args hh x hx=>?_
  unfold firstGP at hx;split at hx
  ·rename_i xN pP f_ ti tg xk xi xe xt m;injection hx with hx
   subst hx;refine q4 fun _ hv=>?_
   exact False.elim (And.right (And.right (And.right hv)))
  ·cases hx
 |k+1=>by
  have ih:=firstG_ok k;refine prK Tryz.f110 fun args hh x hx=>?_
  unfold firstGP at hx;split at hx
  ·rename_i xN pP f_ ti tg xk xi xe xt m;injection hx with hx
   subst hx;refine q4 fun _ hv=>?_
   obtain⟨hq0,hq1,hv⟩:=hv;generalize ndOf xN=xn at *;subst hq0;generalize ptOf pP=pp at *;subst hq1;obtain⟨hp,hd⟩:=hv
   generalize hG:Rx.Ends (R:=Rs) _ _=G;refine rx_ok (T:=(TFirstG k)) (show TabOk D Tryz.prog (TFirstG k) from⟨wrapCon_ok,liftC_ok _ _ mayG_ok,liftC_ok _ _ look_ok,liftC_ok _ _ one_ok,liftC_ok _ _ plus_ok,liftC_ok _ _ ih,trivial⟩) mixed 200 ?_
   refine as_text (q:=let Z9:=Value.int IntKind.i64;let Z1:=(IntKind.wrap IntKind.i64 (Gv.Part.n pp+Gv.Part.n (Gv.Node.all xn))≤f_);let Z2:=(Gv.lk Wv.O8 m (Gv.Node.l xn));let Z3:=(Gv.first Wv.O8 (Pa.mayG (Wv.It.mk xk xi)) k (Gv.see m (Gv.Node.l xn)) Z2 pp f_);let Z4:=(Gv.plusP Wv.O8 pp (Gv.Node.all Z2));let Z5:=(Gv.one Wv.O8 (Gv.Node.e xn));let Z6:=(Gv.lk Wv.O8 (Prod.snd Z3) (Gv.Node.r xn));let Z7:=(Gv.see (Prod.snd Z3) (Gv.Node.r xn));let Z8:=(Gv.first Wv.O8 (Pa.mayG (Wv.It.mk xk xi)) k Z7 Z6 (Gv.plusP Wv.O8 Z4 Z5) f_);((Gv.Node.h xn==(0:Int))=false->Vc True/\(decide Z1=true->Post (G (Z9 (-1:Int)) [trB 2 ti tg,some (.inl (75,[Z9 xk,Z9 xi,Value.bool xe,Z9 xt])),oP m,some (.inl (119,(ndL xn))),some (.inl (117,(ptL pp)))]))/\(decide Z1=false->(decide (Gv.Part.n pp≥f_)=true->Vc ((smL (Gv.Part.sum pp))=smL (Gv.Part.sum pp)/\(smL (Gv.Part.sum (Gv.Node.all xn)))=smL (Gv.Part.sum (Gv.Node.all xn)))/\((!Pa.mayG (Wv.It.mk xk xi) (Gv.Part.sum pp) (Gv.Part.sum (Gv.Node.all xn)))=true->Post (G (Z9 (-1:Int)) [trB 2 ti tg,some (.inl (75,[Z9 xk,Z9 xi,Value.bool xe,Z9 xt])),oP m,some (.inl (119,(ndL xn))),some (.inl (117,(ptL pp)))]))/\((!Pa.mayG (Wv.It.mk xk xi) (Gv.Part.sum pp) (Gv.Part.sum (Gv.Node.all xn)))=false->Vc (PP m)/\Vc ((ndL Z2)=ndL Z2/\(ptL pp)=ptL pp/\PP (Gv.see m (Gv.Node.l xn))/\Gv.DeepN Wv.O8 k (Gv.see m (Gv.Node.l xn)) Z2)/\(decide (Prod.fst Z3≥(0:Int))=true->Post (G (Z9 (Prod.fst Z3)) [trB 2 ti tg,some (.inl (75,[Z9 xk,Z9 xi,Value.bool xe,Z9 xt])),oP (Prod.snd Z3),some (.inl (119,(ndL xn))),some (.inl (117,(ptL pp))),some (.inl (119,(ndL Z2)))]))/\(decide (Prod.fst Z3≥(0:Int))=false->Vc ((ptL pp)=ptL pp/\(ptL (Gv.Node.all Z2))=ptL (Gv.Node.all Z2)/\True)/\Vc ((elL (Gv.Node.e xn))=elL (Gv.Node.e xn)/\True)/\(decide (Gv.Part.n Z4≥f_)=true->Vc ((smL (Gv.Part.sum Z4))=smL (Gv.Part.sum Z4)/\(smL (Gv.Part.sum Z5))=smL (Gv.Part.sum Z5))/\(Pa.mayG (Wv.It.mk xk xi) (Gv.Part.sum Z4) (Gv.Part.sum Z5)=true->Post (G (Z9 (Gv.Part.n Z4)) [trB 2 ti tg,some (.inl (75,[Z9 xk,Z9 xi,Value.bool xe,Z9 xt])),oP (Prod.snd Z3),some (.inl (119,(ndL xn))),some (.inl (117,(ptL Z4))),some (.inl (119,(ndL Z2))),some (.inl (117,(ptL Z5)))]))/\(Pa.mayG (Wv.It.mk xk xi) (Gv.Part.sum Z4) (Gv.Part.sum Z5)=false->Vc (PP (Prod.snd Z3))/\Vc ((ptL Z4)=ptL Z4/\(ptL Z5)=ptL Z5/\True)/\Vc ((ndL Z6)=ndL Z6/\(ptL (Gv.plusP Wv.O8 Z4 Z5))=ptL (Gv.plusP Wv.O8 Z4 Z5)/\PP Z7/\Gv.DeepN Wv.O8 k Z7 Z6)/\Post (G (Z9 (Prod.fst Z8)) [trB 2 ti tg,some (.inl (75,[Z9 xk,Z9 xi,Value.bool xe,Z9 xt])),oP (Prod.snd Z8),some (.inl (119,(ndL xn))),some (.inl (117,(ptL Z4))),some (.inl (119,(ndL Z2))),some (.inl (117,(ptL Z5)))])))/\(decide (Gv.Part.n Z4≥f_)=false->Vc (PP (Prod.snd Z3))/\Vc ((ptL Z4)=ptL Z4/\(ptL Z5)=ptL Z5/\True)/\Vc ((ndL Z6)=ndL Z6/\(ptL (Gv.plusP Wv.O8 Z4 Z5))=ptL (Gv.plusP Wv.O8 Z4 Z5)/\PP Z7/\Gv.DeepN Wv.O8 k Z7 Z6)/\Post (G (Z9 (Prod.fst Z8)) [trB 2 ti tg,some (.inl (75,[Z9 xk,Z9 xi,Value.bool xe,Z9 xt])),oP (Prod.snd Z8),some (.inl (119,(ndL xn))),some (.inl (117,(ptL Z4))),some (.inl (119,(ndL Z2))),some (.inl (117,(ptL Z5)))])))))/\(decide (Gv.Part.n pp≥f_)=false->Vc (PP m)/\Vc ((ndL Z2)=ndL Z2/\(ptL pp)=ptL pp/\PP (Gv.see m (Gv.Node.l xn))/\Gv.DeepN Wv.O8 k (Gv.see m (Gv.Node.l xn)) Z2)/\(decide (Prod.fst Z3≥(0:Int))=true->Post (G (Z9 (Prod.fst Z3)) [trB 2 ti tg,some (.inl (75,[Z9 xk,Z9 xi,Value.bool xe,Z9 xt])),oP (Prod.snd Z3),some (.inl (119,(ndL xn))),some (.inl (117,(ptL pp))),some (.inl (119,(ndL Z2)))]))/\(decide (Prod.fst Z3≥(0:Int))=false->Vc ((ptL pp)=ptL pp/\(ptL (Gv.Node.all Z2))=ptL (Gv.Node.all Z2)/\True)/\Vc ((elL (Gv.Node.e xn))=elL (Gv.Node.e xn)/\True)/\(decide (Gv.Part.n Z4≥f_)=true->Vc ((smL (Gv.Part.sum Z4))=smL (Gv.Part.sum Z4)/\(smL (Gv.Part.sum Z5))=smL (Gv.Part.sum Z5))/\(Pa.mayG (Wv.It.mk xk xi) (Gv.Part.sum Z4) (Gv.Part.sum Z5)=true->Post (G (Z9 (Gv.Part.n Z4)) [trB 2 ti tg,some (.inl (75,[Z9 xk,Z9 xi,Value.bool xe,Z9 xt])),oP (Prod.snd Z3),some (.inl (119,(ndL xn))),some (.inl (117,(ptL Z4))),some (.inl (119,(ndL Z2))),some (.inl (117,(ptL Z5)))]))/\(Pa.mayG (Wv.It.mk xk xi) (Gv.Part.sum Z4) (Gv.Part.sum Z5)=false->Vc (PP (Prod.snd Z3))/\Vc ((ptL Z4)=ptL Z4/\(ptL Z5)=ptL Z5/\True)/\Vc ((ndL Z6)=ndL Z6/\(ptL (Gv.plusP Wv.O8 Z4 Z5))=ptL (Gv.plusP Wv.O8 Z4 Z5)/\PP Z7/\Gv.DeepN Wv.O8 k Z7 Z6)/\Post (G (Z9 (Prod.fst Z8)) [trB 2 ti tg,some (.inl (75,[Z9 xk,Z9 xi,Value.bool xe,Z9 xt])),oP (Prod.snd Z8),some (.inl (119,(ndL xn))),some (.inl (117,(ptL Z4))),some (.inl (119,(ndL Z2))),some (.inl (117,(ptL Z5)))])))/\(decide (Gv.Part.n Z4≥f_)=false->Vc (PP (Prod.snd Z3))/\Vc ((ptL Z4)=ptL Z4/\(ptL Z5)=ptL Z5/\True)/\Vc ((ndL Z6)=ndL Z6/\(ptL (Gv.plusP Wv.O8 Z4 Z5))=ptL (Gv.plusP Wv.O8 Z4 Z5)/\PP Z7/\Gv.DeepN Wv.O8 k Z7 Z6)/\Post (G (Z9 (Prod.fst Z8)) [trB 2 ti tg,some (.inl (75,[Z9 xk,Z9 xi,Value.bool xe,Z9 xt])),oP (Prod.snd Z8),some (.inl (119,(ndL xn))),some (.inl (117,(ptL Z4))),some (.inl (119,(ndL Z2))),some (.inl (117,(ptL Z5)))]))))))/\((Gv.Node.h xn==(0:Int))=true->Post (G (Z9 (-1:Int)) [trB 2 ti tg,some (.inl (75,[Z9 xk,Z9 xi,Value.bool xe,Z9 xt])),oP m,some (.inl (119,(ndL xn))),some (.inl (117,(ptL pp)))]))) ?_ (by kernel_rfl)
   intro Z9 Z1 Z2 Z3 Z4 Z5 Z6 Z7 Z8;subst Z8 Z7 Z6 Z5 Z4 Z3 Z2 Z1 Z9;simp only[Gv.DeepN] at hd;have e1:∀ e,(Gv.one Wv.O8 e).sum=Wv.O8.sum e:=fun _=>rfl
   have done:∀ (i:Int) (m':Pl) (rest:Hp Rs),Gv.first Wv.O8 (Pa.mayG ⟨xk,xi⟩) (k+1) m xn pp f_=(i,m')->G (.int .i64 i) ([some (.inl (92,[.pointer (some ⟨2,0,none⟩),.int .i64 ti,.int .i64 tg])),some (.inl (75,[.int .i64 xk,.int .i64 xi,.bool xe,.int .i64 xt])),some (.inr (.inr (.inr (.pool m'))))]++rest):=by
    intro i m' rest e;subst hG;refine⟨[0,1,2],?_,rfl,⟨.inl rfl,.inl rfl,?_,trivial⟩,rfl,rfl,rfl,rfl⟩
    ·simp only[e];rfl
    ·simp only[e];rfl
   clear hG;rw[Gv.first] at done
   dsimp only [Gv.W] at done
   simp only[e1]
   repeat' (first|apply And.intro|apply Vc.mk|apply fits.mk|intro h|apply Post.mk)
   all_goals (try simp only[sB] at *)
   all_goals first|contradiction|omega|exact vb1 ‹_›|exact vb2 ‹_›|exact vb3 ‹_›|exact⟨rfl,by omega⟩|exact rfl|(simp[*,-List.getD_eq_getElem?_getD];done)|skip
   all_goals first|assumption|(simp only[Gv.ok_s];assumption)|skip
   all_goals first|exact Gv.DeepN_of (hd.resolve_left (by omega)).1 (fun s=>by simp only[Gv.lk_see,Gv.lk_first,Gv.lk_last])|(simp only[Gv.lk_first,Gv.lk_last,Gv.lk_see];first|exact Gv.DeepN_of (hd.resolve_left (by omega)).2 (fun s=>by simp only[Gv.lk_see,Gv.lk_first,Gv.lk_last])|exact Gv.DeepN_of (hd.resolve_left (by omega)).1 (fun s=>by simp only[Gv.lk_see,Gv.lk_first,Gv.lk_last]))|skip
   all_goals (refine done _ _ _ ?_;repeat' split)
   all_goals first|rfl|(exfalso;omega)|(exfalso;simp_all;done)|(exfalso;simp_all;omega)
  ·cases hx
end G8
end Go.Proofs.YtpjdphiopolanaaGreat
