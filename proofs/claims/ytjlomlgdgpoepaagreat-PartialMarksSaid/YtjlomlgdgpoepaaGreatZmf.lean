import Derived.Test.YtjlomlgdgpoepaaGreatZme
import Derived.Test.YtjlomlgdgpoepaaGreatZmd
import Derived.Test.YtjlomlgdgpoepaaGreatZmb
set_option linter.unusedVariables false
set_option linter.unusedSimpArgs false
namespace Go.Proofs.YtjlomlgdgpoepaaGreat
open G8 renaming H5→W4,Rt→TC
open G8.Rt renaming tree→DE
open G9 renaming HF→W5,Rt→TD
open G9.Rt renaming tree→rP
open Gv renaming iv→fv,nk→uR,oD→yB,sub→mS
open Gv.TS renaming at_→KR,drop→xT,find→oj,gE→fE,kS→tP,kv→Qg,l→gu,new→qN,put→C3,seen→fb
open Rx renaming Ends→ct,je→Qf
open Rx.je renaming go→acJ
open Sh renaming O9→aM,PI→Su,Q6→Ys
open Sh.Sl renaming it→lI,lS→o4,mk→jr,time→qx
open Wv renaming vI→IZ
open _root_.Array renaming mk→aO,toList→dF
open _root_.Bool renaming and_eq_true→aL,false_eq_true→fu,false→ao,true→aq
open _root_.Go.Func renaming results→dG
open _root_.Go.IntKind renaming i64→av
open _root_.Go.Value renaming agg→bE,bool→aD,int→bs,pointer→aE,slice→bK,tuple→cv
open _root_.Int renaming le_refl→nq,lt_tmod_of_pos→KQ,tmod_lt_of_pos→C2,tmod→Wk,toNat_natCast→iF,toNat→aI
open _root_.List renaming Nodup→I0,any_eq_true→N_,append_nil→A_,cons_append→mo,drop_zero→sf,eq_nil_of_length_eq_zero→iQ,filter_cons→kd,filter_eq_nil_iff→tO,findIdx_getElem→IY,findIdx_le_length→Gy,getD_eq_getElem?_getD→ax,getD→ay,getElem?_eq_getElem→bj,getElem?_map→gh,length_append→bJ,length_cons→cI,length_drop→jq,length_map→gX,length_nil→ky,length_tail→N9,length_take→eu,length→ae,map_append→dT,map_map→Wl,map→au,mem_append→b9,mem_cons→bR,mem_of_mem_take→rO,mem_singleton→ib,ne_nil_of_length_pos→DD,nil_append→pb,not_mem_nil→vy,not_of_lt_findIdx→Gz,range→oi,replicate→ld,take_append_drop→cT,take_length→kC,take_of_length_le→jl,take_succ_eq_append_getElem→za,take→gF
open _root_.List.Pairwise renaming nil→rF
open _root_.Nat renaming le_add_right→zb,le_refl→bc,le_succ→mH,le_trans→iY,lt_or_ge→cx,zero_add→b5,zero_le→dx,zero_lt_succ→iG
open _root_.Option renaming getD→gH,isSome→g9,none→aj,some→aa
open _root_.Prod renaming fst→aB,snd→aw
namespace Pa
open Rx Wv Br
open Sh (rG wz mJ sl nL)
theorem akq {q:QS} {l:List Op} {c:Int} {n:Nat} {t:Int} (h:HQ q l c n) (wV:l.length≤59) (hn:n≤90000) (hc:(l.length:Int)≠c) (hf:Ej l t) :
  Tc q t/\HQ (kp q t) (kZ l (ni t l) ⟨t,ao,iz⟩) c (n+10)/\(kp q t).mt.m.cY≤q.mt.m.cY+20000/\(kp q t).pr.m.cY≤q.pr.m.cY+20000/\(kp q t).gn.m.cY≤q.gn.m.cY+20000 /\
   ((C7 q t=[]/\fin [] (kZ l (ni t l) ⟨t,ao,iz⟩)=fin [] l)∨∃ z,z∈fin [] l/\C7 q t=[z]/\fin [] (kZ l (ni t l) ⟨t,ao,iz⟩)=pN z (fin [] l)):=by
 have hB:=h.Yn (by omega)
 have r0:=(h.ref t).2.2 hc hf;have hp:=UI t l;have m1:=h.mq.Zp hB (by omega) t
 have m2:=m1.adS hB (by omega) (kH t)
 have eR:BM (nP q t) (kH t)=(ni t l:Int):=Ux (H:=fin [] l) m1 (kH t);have eU:Ov q t=Mj l (ni t l):=by
  have e1:rh (de1 q t)=pR l:=MQ.pR (H:=fin [] l) m2;have e2:(de1 q t).mt.l=bY l:=m2.m0;unfold Ov JN;rw[eR,e1,e2]
 have m3:=m2.bf_ hB (by omega) (BM (nP q t) (kH t))
 have m3:MQ (Yl q t) (gm (fin [] l) l) (fin [] l) (gn l) c n q 600:=MQ.up m3 (bc _) (by omega)
 have al:=aa_ l (ni t l) ⟨t,ao,iz⟩ hp;have gl:=YN l;have fl:=BI l;have lc:=h.len;have fq:=h.mq.lV (by omega)
 have Pv:=afi (o:=⟨t,ao,iz⟩) h.tm hf;have Bl:=aex (p:=ni t l) (o:=⟨t,ao,iz⟩) h.nd (fun c=>by cases c)
 have U2:∀ o,o∈kZ l (ni t l) ⟨t,ao,iz⟩->o.ins=ao->o.it=iz:=fun o ho lR=>by
  rcases W_.1 ho with rfl|ho
  ·rfl
  ·exact h.dl o ho lR
 have pe:∀ H,Gv.lh O8 (kH t) (gm H l)=gm H (kZ l (ni t l) ⟨t,ao,iz⟩):=fun H=>Rd (H:=H) (l:=l) (o:=⟨t,ao,iz⟩) (m:=kH t) hf rfl
 have pg:∀ H,(Gv.lh O8 (kH t) (gm H l)).length≤60:=fun H=>by rw[pe,mG,al];omega
 have eQ:kp q t=⟨(uH q t).mt.put (kH t),(uH q t).pr,(uH q t).gn,(uH q t).cap⟩:=by unfold kp;rw[if_pos r0]
 have eI:C7 q t=Cv (Yl q t) (Ov q t):=by unfold C7;rw[if_pos r0]
 obtain⟨E1,E2⟩:=aiw (x:=iz) (t:=t) h.nd hp;rw[eQ,eI];cases hz:pU (bY l) (Mj l (ni t l)) with
 |none =>
  have GK:pU (gm (fin [] l) l) (Ov q t)=aj:=by rw[eU];exact hz
  obtain⟨a1,a2,a3⟩:=E1 hz;obtain⟨g1,g2,g3⟩:=m3.aeZ hB (by omega) (by omega) GK
  have g4:=MQ.adi (q:=uH q t) g1 hB (by omega) (by omega) (m:=kH t) (pg _) (.inr (by rw[mG];exact hc))
  have mq:MQ ⟨(uH q t).mt.put (kH t),(uH q t).pr,(uH q t).gn,(uH q t).cap⟩ (bY (kZ l (ni t l) ⟨t,ao,iz⟩)) (fin [] (kZ l (ni t l) ⟨t,ao,iz⟩)) (gn (kZ l (ni t l) ⟨t,ao,iz⟩)) c (n+5) q 9500:=by
   rw[tX,a1,← AF Bl (qG h.nd) fun w=>by rw[a3,tq h.nd],← pe]
   exact g4.up (by omega) (by omega)
  have v1:=mq.v1;have v2:=mq.v2;have v3:=mq.v3;refine⟨⟨fq,fun _=>⟨g2,Hh (MQ.lV (q:=uH q t) g1 (by omega)).1 ?_⟩⟩,HQ.mk' (mq.up (n':=n+10) (k':=90000) (by omega) (by omega)) h.vb (by omega) (by omega) Pv Bl U2 ⟨by rw[al];omega,h.len.2⟩ (by rw[al];omega),by omega,by omega,by omega,.inl ⟨g3,a1⟩⟩
  rw[show(uH q t).mt.l=gm (fin [] l) l from g1.m0];exact pg _
 |some z =>
  have GK:pU (gm (fin [] l) l) (Ov q t)=aa z:=by rw[eU];exact hz
  obtain⟨a0,a1,a2,a3⟩:=E2 z hz;have zg:z∉gn l:=fun k=>((qT (lP h.nd) z).1 a0).2 ((tq h.nd).1 k)
  obtain⟨g1,g2,g3⟩:=m3.ta_ hB (by omega) (by omega) h.tm h.nd GK (zR h.nd) (qG h.nd) zg (by omega) (by omega)
  have g4:=MQ.adi (q:=uH q t) g1 hB (by omega) (by omega) (m:=kH t) (pg _) (.inr (by rw[mG];exact hc))
  have mq:MQ ⟨(uH q t).mt.put (kH t),(uH q t).pr,(uH q t).gn,(uH q t).cap⟩ (bY (kZ l (ni t l) ⟨t,ao,iz⟩)) (fin [] (kZ l (ni t l) ⟨t,ao,iz⟩)) (gn (kZ l (ni t l) ⟨t,ao,iz⟩)) c (n+5) q 9500:=by
   rw[tX,a1,← AF Bl (pf (x:=z) (qG h.nd) zg) fun w=>by rw[jW,a3,tq h.nd,or_comm],← pe]
   exact g4.up (by omega) (by omega)
  have v1:=mq.v1;have v2:=mq.v2;have v3:=mq.v3;refine⟨⟨fq,fun _=>⟨g2,Hh (MQ.lV (q:=uH q t) g1 (by omega)).1 ?_⟩⟩,HQ.mk' (mq.up (n':=n+10) (k':=90000) (by omega) (by omega)) h.vb (by omega) (by omega) Pv Bl U2 ⟨by rw[al];omega,h.len.2⟩ (by rw[al];omega),by omega,by omega,by omega,.inr ⟨z,a0,g3,a1⟩⟩
  rw[show(uH q t).mt.l=gm (pN z (fin [] l)) l from g1.m0];exact pg _
theorem akS {q:QS} {l:List Op} {c:Int} {n:Nat} {t:Int} {k:Nat} (h:HQ q l c n) (hk:k<l.length) (ht:(og l k).t=t):FR q t=aq/\mL q t=tQ (fin [] l) (og l k):=by
 have hh:=J_ (H:=fin [] l) (e:=kH t) h.tm hk ht;have e:(gm (fin [] l) l).getD k mz=tQ (fin [] l) (og l k):=nX _ hk;have s:=Gv.afJ SY (e:=kH t) (TV (H:=fin [] l) h.tm) (i:=k) (by rw[mG];exact hk) (by
  show O8.cmp (kH t) ((gm (fin [] l) l).getD k mz)=0
  rw[e,BP];exact ht.symm)
 unfold FR mL;rw[h.m0,tX,s];exact⟨rfl,e⟩
theorem aic {q:QS} {l:List Op} {c:Int} {n:Nat} {t:Int} {k:Nat} (h:HQ q l c n) (hn:n≤90000) (hk:k<l.length) (ht:(og l k).t=t) :
  ZD q t/\KD q t=0/\HQ (jR q t) (j9 l k) c (n+10)/\(jR q t).mt.m.cY≤q.mt.m.cY+20000/\(jR q t).pr.m.cY≤q.pr.m.cY+20000/\(jR q t).gn.m.cY≤q.gn.m.cY+20000 /\
   ((wE q t=[]/\wH q t=[]/\fin [] (j9 l k)=fin [] l)∨(∃ z,z∉fin [] l/\wE q t=[z]/\wH q t=[]/\fin [] (j9 l k)=hO z (fin [] l))∨(∃ z,z∈fin [] l/\wE q t=[]/\wH q t=[z]/\fin [] (j9 l k)=pN z (fin [] l))):=by
 have hB:=h.Yn (by omega)
 obtain⟨hb,hm⟩:=akS h hk ht;have c0:KD q t=0:=by unfold KD;rw[if_pos hb]
 have Gb:=h.Gb;have m1:=h.mq.ajP hB (by omega) (kH t)
 have m1:MQ (Bh q t) (gm (fin [] l) l) (fin [] l) (gn l) c n q 40:=m1;have m2:=m1.adS hB (by omega) (mL q t)
 have m2:MQ (Mg q t) (gm (fin [] l) l) (fin [] l) (gn l) c n q 110:=m2;have eR:Eb q t=(k:Int):=by
  unfold Eb;rw[Ux (H:=fin [] l) m1 (mL q t),hm];show(ni (og l k).t l:Int)=k
  rw[acw h.tm hk rfl]
 have eX:rh (Mg q t)=pR l:=MQ.pR (H:=fin [] l) m2;have eL:(Mg q t).mt.l=bY l:=m2.m0;have wl:=ajE hk;have gl:=YN l;have fl:=BI l;have lc:=h.len;have fq:=h.mq.lV (by omega)
 have Pv:=akD h.tm k;obtain⟨Bl,nm⟩:=ak8 h.nd hk;have U2:∀ o,o∈j9 l k->o.ins=ao->o.it=iz:=fun o ho lR=>h.dl o (ahi ho) lR
 have de:∀ H,Gv.m9 O8 (mL q t) (gm H l)=gm H (j9 l k):=fun H=>aeg h.tm hk (by rw[hm];rfl)
 have AZ:(mL q t).ins=(og l k).ins:=by rw[hm];rfl
 have eit:(mL q t).it=(og l k).it:=by rw[hm];rfl
 have afc:(mL q t).here=((og l k).ins&&decide ((og l k).it∈fin [] l)):=by rw[hm];rfl
 have VK:∀ {q':QS} {d:Nat} {e:Int},MQ q' (bY (j9 l k)) (fin [] (j9 l k)) (gn (j9 l k)) c (n+d) q e->d≤10->e≤15000->HQ q' (j9 l k) c (n+10)/\q'.mt.m.cY≤q.mt.m.cY+20000/\q'.pr.m.cY≤q.pr.m.cY+20000/\q'.gn.m.cY≤q.gn.m.cY+20000:=fun mq hd he=>by
  have v1:=mq.v1;have v2:=mq.v2;have v3:=mq.v3;exact⟨HQ.mk' (mq.up (n':=n+10) (k':=90000) (by omega) (by omega)) h.vb (by omega) (by omega) Pv Bl U2 ⟨by rw[wl];omega,h.len.2⟩ (by rw[wl];omega),by omega,by omega,by omega⟩
 rcases iX (og l k) with ei|ei
 ·obtain⟨E1,E2⟩:=ahh h.nd hk ei;have AZ:(mL q t).ins=aq:=AZ.trans ei
  by_cases j5:(og l k).it∈fin [] l
  ·have eh:(mL q t).here=aq:=by rw[afc,ei,decide_eq_true j5];rfl
   obtain⟨a1,a2,a3⟩:=E1 j5;have m3:=m1.Tb hB (by omega) (mL q t)
   have m4:=m3.Cb hB (by omega) (x:=(og l k).it) (zR h.nd)
   have eQ:jR q t=⟨(Bh q t).mt.drop (mL q t),(Bh q t).pr.drop (sl (og l k).it),(Bh q t).gn,(Bh q t).cap⟩:=by unfold jR;rw[if_pos hb,if_pos AZ,if_pos eh,eit]
   have mq:MQ (jR q t) (bY (j9 l k)) (fin [] (j9 l k)) (gn (j9 l k)) c (n+2) q 9000:=by
    rw[eQ,tX,a1,← AF Bl (qG h.nd) fun w=>by rw[a3,tq h.nd],CP (H:=pN (og l k).it (fin [] l)) (H':=fin [] l) fun w hw=>by
     rw[ph];exact⟨fun c=>c.1,fun c=>⟨c,fun e=>((nm w).1 hw).2 ⟨ei,e⟩⟩⟩,← de]
    exact m4.up (by omega) (by omega)
   obtain⟨f1,f2,f3,f4⟩:=VK mq (by omega) (by omega)
   refine⟨⟨fq,fun _=>⟨fun c=>absurd (AZ.symm.trans c) (by decide),fun _ c=>absurd (eh.symm.trans c) (by decide)⟩⟩,c0,f1,f2,f3,f4,.inr (.inr ⟨_,j5,?_,?_,a1⟩)⟩
   ·unfold wE;rw[if_pos hb,if_pos AZ]
   ·unfold wH;rw[if_pos hb,if_pos AZ,if_pos eh,eit]
  ·have eh:(mL q t).here=ao:=by rw[afc,ei,decide_eq_false j5];rfl
   obtain⟨a0,A1,A2⟩:=E2 j5;have m3:=m2.bf_ hB (by omega) (Eb q t+1)
   have m3:MQ (XI q t) (gm (fin [] l) l) (fin [] l) (gn l) c n q 600:=MQ.up m3 (bc _) (by omega)
   have eU:Pn q t=Mj l (k+1):=by
    unfold Pn JN;rw[eX,eL,eR]
    rfl
   have eQ:jR q t=⟨(zY q t).mt.drop (mL q t),(zY q t).pr,(zY q t).gn.drop (sl (og l k).it),(zY q t).cap⟩:=by unfold jR;rw[if_pos hb,if_pos AZ,if_neg (by rw[eh];decide),eit]
   have eI:wE q t=[]:=by unfold wE;rw[if_pos hb,if_pos AZ]
   have eO:wH q t=Cv (XI q t) (Pn q t):=by unfold wH;rw[if_pos hb,if_pos AZ,if_neg (by rw[eh];decide)]
   cases hz:pU (bY l) (Mj l (k+1)) with
   |none =>
    have GK:pU (gm (fin [] l) l) (Pn q t)=aj:=by rw[eU];exact hz
    obtain⟨a1,a2,a3⟩:=A1 hz;obtain⟨g1,g2,g3⟩:=m3.aeZ hB (by omega) (by omega) GK
    have g4:=MQ.Tb (q:=zY q t) g1 hB (by omega) (mL q t)
    have g5:=g4.ZK hB (by omega) (x:=(og l k).it) (qG h.nd)
    have mq:MQ (jR q t) (bY (j9 l k)) (fin [] (j9 l k)) (gn (j9 l k)) c (n+2) q 15000:=by
     rw[eQ,tX,a1,← AF Bl (zU (z:=(og l k).it) (qG h.nd)) fun w=>by rw[ph,a3,tq h.nd],← de]
     exact g5.up (by omega) (by omega)
    obtain⟨f1,f2,f3,f4⟩:=VK mq (by omega) (by omega)
    exact⟨⟨fq,fun _=>⟨fun c=>absurd (AZ.symm.trans c) (by decide),fun _ _=>⟨g2,(MQ.lV (q:=zY q t) g1 (by omega)).1,(MQ.lV (q:=zY q t) g1 (by omega)).2.2⟩⟩⟩,c0,f1,f2,f3,f4,.inl ⟨eI,eO.trans g3,a1⟩⟩
   |some z =>
    have GK:pU (gm (fin [] l) l) (Pn q t)=aa z:=by rw[eU];exact hz
    obtain⟨b0,a1,a2,a3⟩:=A2 z hz;have zg:z∉gn l:=fun k=>((qT (lP h.nd) z).1 b0).2 ((tq h.nd).1 k)
    have gi:(gn l).length≤l.length-1∨(gn l).length=l.length:=by omega
    obtain⟨g1,g2,g3⟩:=m3.ta_ hB (by omega) (by omega) h.tm h.nd GK (zR h.nd) (qG h.nd) zg (by
     have e1:=HT l [];have e2:(l.filter fun o=>!o.ins).length<l.length:=by
      rw[List.length_filter_lt_length_iff_exists];exact⟨_,OI hk,by rw[ei];decide⟩
     rw[Uk];omega) (by omega)
    have g4:=MQ.Tb (q:=zY q t) g1 hB (by omega) (mL q t)
    have g5:=g4.ZK hB (by omega) (x:=(og l k).it) (pf (x:=z) (qG h.nd) zg)
    have mq:MQ (jR q t) (bY (j9 l k)) (fin [] (j9 l k)) (gn (j9 l k)) c (n+5) q 15000:=by
     rw[eQ,tX,a1,← AF Bl (zU (z:=(og l k).it) (pf (x:=z) (qG h.nd) zg)) fun w=>by rw[ph,jW,a3,tq h.nd,or_comm (a:=w=z)],← de]
     exact g5.up (by omega) (by omega)
    obtain⟨f1,f2,f3,f4⟩:=VK mq (by omega) (by omega)
    exact⟨⟨fq,fun _=>⟨fun c=>absurd (AZ.symm.trans c) (by decide),fun _ _=>⟨g2,(MQ.lV (q:=zY q t) g1 (by omega)).1,(MQ.lV (q:=zY q t) g1 (by omega)).2.2⟩⟩⟩,c0,f1,f2,f3,f4,.inr (.inr ⟨z,b0,eI,eO.trans g3,a1⟩)⟩
 ·have AZ:(mL q t).ins=ao:=AZ.trans ei;have nt:¬ (mL q t).ins=aq:=by rw[AZ];decide
  obtain⟨E1,E2⟩:=af3 h.nd hk ei;have m3:=m2.bu_ hB (by omega) (Eb q t)
  have m4:=m3.Tb hB (by omega) (mL q t)
  have m4:MQ (Sf q t) (gm (fin [] l) (j9 l k)) (fin [] l) (gn l) c (n+1) q 5000:=(m4.lst (de _)).up (bc _) (by omega)
  have eF:Kt q t=qy l k:=by
   unfold Kt FZ;rw[eX,eL,eR]
  have eQ:jR q t=vG (Sf q t) (Kt q t):=by unfold jR;rw[if_pos hb,if_neg nt]
  have eI:wE q t=yy (Sf q t) (Kt q t):=by unfold wE;rw[if_pos hb,if_neg nt]
  have eO:wH q t=[]:=by unfold wH;rw[if_pos hb,if_neg nt]
  have nm':∀ w,w∈gw (j9 l k)↔w∈gw l:=fun w=>by rw[nm,ei];simp
  by_cases qf:qy l k<0
  ·obtain⟨g1,g2,g3⟩:=m4.ae_ (by omega) (f:=Kt q t) (by rw[eF];exact qf)
   obtain⟨a1,a2,a3⟩:=E1 qf;have mq:MQ (jR q t) (bY (j9 l k)) (fin [] (j9 l k)) (gn (j9 l k)) c (n+1) q 5000:=by
    rw[eQ,g1,tX,a1,← AF Bl (qG h.nd) fun w=>by rw[a3,tq h.nd]]
    exact m4
   obtain⟨f1,f2,f3,f4⟩:=VK mq (by omega) (by omega)
   exact⟨⟨fq,fun _=>⟨fun _=>g2,fun c=>absurd c nt⟩⟩,c0,f1,f2,f3,f4,.inl ⟨eI.trans g3,eO,a1⟩⟩
  ·obtain⟨z,a0,b1,b2,a3,a4,a5⟩:=E2 qf;have hz:=(ajO hk ei qf).trans a0;obtain⟨g1,g2,g3⟩:=m4.gb_ hB (by omega) (by omega) (f:=Kt q t) Pv Bl (by rw[eF];exact qf) (by rw[eF];exact hz) (zR h.nd) (qG h.nd) b1 (by
    have e0:∀ (a:List Op) (h:List It),(fin h a).length+(a.filter fun o=>!o.ins).length≤h.length+a.length+gI h a-0:=fun a=>by
     intro h;have il:∀ (x:It) (m:List It),(hO x m).length=m.length+1:=fun x m=>by
      induction m with
      |nil=>rfl
      |cons y m ih=>unfold hO;split<;>simp[ih]
     induction a generalizing h with
     |nil=>rw[fin,gI];simp
     |cons o r ih =>
      rcases iX o with e|e
      ·rw[s9 e,oB e,kd,e];have:=ih (hO o.it h);rw[il] at this;simp only[Bool.not_true,fu,if_false,cI];omega
      ·rw[ny e,kd,e];have:=ih h.tail;simp only[Bool.not_false,if_true,cI];cases h with
       |nil=>rw[so e];simp only[List.tail_nil,ky] at this ⊢;omega
       |cons y h=>rw[ng e];simp only[List.tail_cons,cI] at this ⊢;omega
    have e1:=HT l [];have e2:=e0 l [];have e3:0<(tk [] l).length:=List.length_pos_of_mem b2;simp only[ky] at e2;omega) (by omega)
   have mq:MQ (jR q t) (bY (j9 l k)) (fin [] (j9 l k)) (gn (j9 l k)) c (n+5) q 12000:=by
    rw[eQ,tX,a3,← AF Bl (zU (z:=z) (qG h.nd)) fun w=>by rw[ph,a5,tq h.nd],
     ← CP (H:=z::fin [] l) fun w _=>by rw[bR,jW]]
    exact g1.up (by omega) (by omega)
   obtain⟨f1,f2,f3,f4⟩:=VK mq (by omega) (by omega)
   exact⟨⟨fq,fun _=>⟨fun _=>g2,fun c=>absurd c nt⟩⟩,c0,f1,f2,f3,f4,.inr (.inl ⟨z,b1,eI.trans g3,eO,a3⟩)⟩
end Pa
namespace Pa
open Rx Wv Sh
set_option maxRecDepth 100000
set_option maxHeartbeats 8000000
abbrev oz:Op:=⟨0,ao,⟨0,0⟩⟩
abbrev oR (l:List Op):Row:=⟨[.int .i64 0,.bool ao,.int .i64 0,.int .i64 0],l.length,[⟨l.map Op.t,[],[]⟩,⟨[],l.map Op.ins,[]⟩,⟨l.map fun o=>o.it.k,[],[]⟩,⟨l.map fun o=>o.it.i,[],[]⟩]⟩
def wu (l:List Op) (a n:Nat):Row:=⟨[.int .i64 0,.bool ao,.int .i64 0,.int .i64 0],n,[⟨cut (l.map Op.t) a n,[],[]⟩,⟨[],cut (l.map Op.ins) a n,[]⟩,⟨cut (l.map fun o=>o.it.k) a n,[],[]⟩,⟨cut (l.map fun o=>o.it.i) a n,[],[]⟩]⟩
theorem zr (l:List Op):wu l 0 l.length=oR l:=by unfold wu;simp only[cm]
theorem JZ (l:List Op):(⟨[.int .i64 0,.bool ao,.int .i64 0,.int .i64 0],l.length,[⟨cut (l.map Op.t) 0 l.length,[],[]⟩,⟨[],cut (l.map Op.ins) 0 l.length,[]⟩,⟨cut (l.map fun o=>o.it.k) 0 l.length,[],[]⟩,⟨cut (l.map fun o=>o.it.i) 0 l.length,[],[]⟩]⟩:Row)=oR l:=by simp only[cm]
def uO (r:Row):List Op:=match r.ez with
 |[a,b,c,d]=>(oi r.n).map fun i=>⟨a.i.getD i 0,b.b.getD i ao,⟨c.i.getD i 0,d.i.getD i 0⟩⟩
 |_=>[]
theorem H2 (l:List Op):uO (oR l)=l:=by
 unfold uO;refine FU fun i hi=>?_
 simp only[Ii _ _ hi]
theorem GV {β:Type} {l:List Op} {i:Nat} (f:Op->β) (d:β) (h:f oz=d):(l.map f).getD i d=f (l.getD i oz):=by
 subst h;rw[ax,ax,gh];cases l[i]?<;>rfl
abbrev vO {R:Type} (l:List Op):Option (SB R):=aa (.inr (.inr (.inl (oR l))))
abbrev oO {R:Type} (l:List Op):Option (SB R):=aa (.inr (.inl (45,oR l)))
abbrev oK {R:Type} (x:Op):Option (SB R):=aa (.inl (45,[.int .i64 x.t,.bool x.ins,.int .i64 x.it.k,.int .i64 x.it.i]))
theorem XO (i:Nat):0+(i:Int).toNat=i:=by omega
theorem acQ {α:Type} (l:List α) (k:Nat):cut l k (l.length-k)=l.drop k:=by unfold cut;rw[jl (by rw[jq];exact bc _)]
theorem aaf {α:Type} (l:List α) (k:Nat):cut l 0 k=l.take k:=by unfold cut;rw[sf]
def kY (l:List Op) (t:Int):Int:=if l.findIdx (fun o=>o.t==t)<l.length then(l.findIdx (fun o=>o.t==t):Int) else -1
def Dg (t:Int) (l:List Op):Nat:=l.findIdx (fun o=>!decide (o.t<t))
def rL (l:List Op) (o:Op):List Op:=l.take (Dg o.t l)++o::l.drop (Dg o.t l)
def I3 (l:List Op) (i:Nat):List Op:=l.take i++l.drop (i+1)
theorem P3 (t:Int) (l:List Op):Dg t l≤l.length:=Gy
theorem ajN {t:Int} {l:List Op} {j:Nat} (h:j<Dg t l):(l.getD j oz).t<t:=by
 have hl:=P3 t l;have h3:=Gz (p:=fun o:Op=>!decide (o.t<t)) h
 rw[ax,bj (by omega)]
 simpa using h3
theorem aiE {t:Int} {l:List Op} (h:Dg t l<l.length):¬ (l.getD (Dg t l) oz).t<t:=by
 have h3:=IY (p:=fun o:Op=>!decide (o.t<t)) (xs:=l) (w:=h)
 have e:l.getD (Dg t l) oz=l[l.findIdx (fun o:Op=>!decide (o.t<t))]'h:=by rw[ax,bj h];rfl
 rw[e]
 simpa using h3
theorem M' (l:List Op) (o:Op):(rL l o).length=l.length+1:=by
 have:=P3 o.t l;unfold rL;rw[bJ,cI,eu,jq];omega
theorem ahf {l:List Op} {i:Nat} (h:i<l.length):(I3 l i).length=l.length-1:=by
 unfold I3;rw[bJ,eu,jq];omega
def adV {R:Type}:Prim R:=fun args hh=>match args,hh with
 |[.slice (aa ⟨0,0,aa 4000⟩) n c,.int .i64 p],[aa (.inr (.inr (.inl r)))]=>aa ⟨r=oR (uO r)/\n=(uO r).length/\(uO r).length≤100,.int .i64 (kY (uO r) p),aj,hh,[],[]⟩
 |_,_=>aj
theorem ajn {R:Type} {D:fK R}:ck D Tryz.prog 54 (a9 adV):=by
 refine fw Tryz.f54 fun args hh x hx=>?_
 unfold adV at hx;split at hx
 ·rename_i n c p r;cases hx;refine q4 fun _ hv=>?_
  obtain⟨hr,rfl,hb⟩:=hv;generalize uO r=l at *;subst hr
  generalize hG:ct (R:=R) _ _=G;refine cW (T:=[]) trivial mixed 200 ?_;refine bN (q:=At D Tryz.prog (dM Tryz.f54) 1 (iD Tryz.prog (dF (dG Tryz.f54)) G) [.inl [1,0,1,0],.inr (.inl 0),.inl [1,1]] (SS.mk (aa (bK (aa ⟨0,0,aa 4000⟩) l.length c)::aa (bs av p)::aj::aj::aa (bs av 0)::aa (bs av 0)::n4 (n4 (n4 (aj::aj::[])))) [] [aa (.inr (.inr (.inl (oR l))))])) ?_ (by kernel_rfl)
  refine lC (by kernel_rfl) (ι:=Nat) (fun i=>i≤l.findIdx (fun m=>m.t==p)) [0,1,5] (fun i=>[.slice (aa ⟨0,0,aa 4000⟩) l.length c,.int .i64 p,.int .i64 i]) (fun i=>[vO l]) (fun i=>l.length-i) 20 (fun i hi=>⟨rfl,rfl,by simp⟩) ⟨0,dx _,⟨[0],rfl,⟨rfl,trivial⟩,rfl,rfl,rfl,rfl⟩⟩ fun i hi=>?_
  refine cW (T:=[]) trivial mixed 200 ?_;refine bN (q:=let Z2:=bs av;let Z1:=(ay (au Op.t l) (0+(i:Int).toNat) (0:Int)==p);(decide ((↑i:Int)<(↑l.length:Int))=aq->Vc ((0:Int)≤(↑i:Int)/\(↑i:Int)<(↑l.length:Int)/\0+ae l≤ae l)/\Vc (0+(i:Int).toNat<ae l)/\(Z1=aq->aY (G (Z2 (↑i:Int)) [aa (.inr (.inr (.inl (oR l))))]))/\(Z1=ao->Vc (fits ((↑i:Int)+(1:Int)))/\aY (∃ j,j≤List.findIdx (fun m=>Op.t m==p) l/\ae l-j<ae l-i/\j4 R 1 20 [0,1,5] [.slice (aa ⟨0,0,aa 4000⟩) l.length c,Z2 p,Z2 (↑j:Int)] [vO l] [aa (bK (aa ⟨0,0,aa 4000⟩) l.length c),aa (Z2 p),aa (Z2 ((↑i:Int)+(1:Int)))] [aa (.inr (.inr (.inl (oR l))))] 20)))/\(decide ((↑i:Int)<(↑l.length:Int))=ao->aY (G (Z2 (-1:Int)) [aa (.inr (.inr (.inl (oR l))))]))) ?_ (by kernel_rfl)
  intro Z2 Z1;subst Z1 Z2;have hle:l.findIdx (fun m=>m.t==p)≤l.length:=Gy
  refine⟨fun h=>?_,fun h=>⟨?_⟩⟩
  ·have cl:i<l.length:=by have:=of_decide_eq_true h;omega
   have b1:(0:Int)≤(i:Int)/\(i:Int)<(l.length:Int)/\0+l.length≤l.length:=⟨by omega,by omega,by omega⟩
   simp only[XO,GV Op.t 0 rfl];have eg:l.getD i oz=l[i]:=by rw[ax,bj cl];rfl
   refine⟨⟨b1⟩,⟨cl⟩,fun h2=>⟨?_⟩,fun h2=>⟨⟨by omega,by omega⟩,i+1,?_,by omega,⟨[0],rfl,⟨rfl,trivial⟩,rfl,rfl,rfl,rfl⟩⟩⟩
   ·have e:l.findIdx (fun m=>m.t==p)=i:=by
     rcases cx i (l.findIdx (fun m=>m.t==p)) with c|c
     ·rw[eg] at h2;have h3:((l[i]'cl).t==p)=ao:=Gz (p:=fun m:Op=>m.t==p) c;exact Bool.noConfusion (h2.symm.trans h3)
     ·omega
    have e2:kY l p=i:=by unfold kY;rw[e,if_pos cl]
    subst hG;rw[← e2];exact⟨[0],rfl,rfl,⟨rfl,trivial⟩,rfl,rfl,rfl,rfl⟩
   ·rcases cx i (l.findIdx (fun m=>m.t==p)) with c|c
    ·exact c
    ·have e:l.findIdx (fun m=>m.t==p)=i:=by omega
     have h3:((l[l.findIdx (fun m=>m.t==p)]'(by omega)).t==p)=aq:=IY (p:=fun m:Op=>m.t==p) (xs:=l) (w:=by omega)
     have e3:l.getD (l.findIdx (fun m=>m.t==p)) oz=l[l.findIdx (fun m=>m.t==p)]'(by omega):=by rw[ax,bj (by omega)];rfl
     rw[← e3,e] at h3;rw[h3] at h2;cases h2
  ·have e:l.findIdx (fun m=>m.t==p)=l.length:=by have:=of_decide_eq_false h;omega
   have e2:kY l p = -1:=by unfold kY;rw[e,if_neg (Nat.lt_irrefl _)]
   subst hG;rw[← e2];exact⟨[0],rfl,rfl,⟨rfl,trivial⟩,rfl,rfl,rfl,rfl⟩
 ·cases hx
def aeb {R:Type}:Prim R:=fun args hh=>match args,hh with
 |[.slice (aa ⟨0,0,aa 4000⟩) n c,.int .i64 p],[aa (.inr (.inr (.inl r)))]=>aa ⟨r=oR (uO r)/\n=(uO r).length/\(uO r).length≤100/\0≤p/\p<(uO r).length,.slice (aa ⟨1,0,aa 4000⟩) (I3 (uO r) p.toNat).length 0,aj,[aa (.inr (.inr (.inl r))),oO (I3 (uO r) p.toNat)],[],[(0,0)]⟩
 |_,_=>aj
theorem ahH {R:Type} {D:fK R}:ck D Tryz.prog 30 (a9 aeb):=by
 refine fw Tryz.f30 fun args hh x hx=>?_
 unfold aeb at hx;split at hx
 ·rename_i n c p r;cases hx;refine q4 fun _ hv=>?_
  obtain⟨hr,rfl,hb,hp0,hp1⟩:=hv;generalize uO r=l at *;subst hr
  generalize hG:ct (R:=R) _ _=G;refine cW (T:=[]) trivial mixed 200 ?_;refine bN (q:=let Z3:=bs av;let Z1:=(↑l.length:Int);let Z2:=(aI (Z1-(p+(1:Int))));Vc ((0:Int)≤p/\p≤Z1/\0+ae l≤ae l)/\Vc (0≤0/\0+aI p≤ae l/\(0+aI p)*32≤140737488355328/\0+aI p≤140737488355328)/\Vc (fits (p+(1:Int)))/\Vc (0=0/\(0:Int)≤p+(1:Int)/\p+(1:Int)≤Z1/\Z1≤Z1/\0+ae l≤ae l)/\Vc (0+(0+aI p)≤0+aI p/\0+aI (p+(1:Int))+aI (Z1-(p+(1:Int)))≤ae l/\(0+aI p+aI (Z1-(p+(1:Int))))*32≤140737488355328/\0+aI p+aI (Z1-(p+(1:Int)))≤140737488355328)/\aY (G (bK (aa ⟨4,0,aa 4000⟩) (0+aI p+aI (Z1-(p+(1:Int)))) 0) [aa (.inr (.inr (.inl (oR l)))),aa (.inr (.inl (45,Row.mk [Z3 0,.bool ao,Z3 0,Z3 0] 0 [aT.mk [] [] [],aT.mk [] [] [],aT.mk [] [] [],aT.mk [] [] []]))),aj,aj,aa (.inr (.inl (45,Row.mk [Z3 0,.bool ao,Z3 0,Z3 0] (0+aI p+aI (Z1-(p+(1:Int)))) [aT.mk (cut ([]++cut (au Op.t l) 0 (aI p)) 0 (0+aI p)++cut (au Op.t l) (0+aI (p+(1:Int))) Z2) [] [],aT.mk [] (cut ([]++cut (au Op.ins l) 0 (aI p)) 0 (0+aI p)++cut (au Op.ins l) (0+aI (p+(1:Int))) Z2) [],aT.mk (cut ([]++cut (au (fun o=>It.k (Op.it o)) l) 0 (aI p)) 0 (0+aI p)++cut (au (fun o=>It.k (Op.it o)) l) (0+aI (p+(1:Int))) Z2) [] [],aT.mk (cut ([]++cut (au (fun o=>It.i (Op.it o)) l) 0 (aI p)) 0 (0+aI p)++cut (au (fun o=>It.i (Op.it o)) l) (0+aI (p+(1:Int))) Z2) [] []])))])) ?_ (by kernel_rfl)
  intro Z3 Z1 Z2;subst Z2 Z1 Z3;obtain⟨i,rfl⟩:∃ i:Nat,p=i:=⟨p.toNat,by omega⟩
  have cl:i<l.length:=by omega
  have e0:((l.length:Int)-((i:Int)+1)).toNat=l.length-(i+1):=by omega
  have e1:((i:Int)+1).toNat=i+1:=by omega
  have P:∀ {β:Type} (f:Op->β),cut ([]++cut (l.map f) 0 i) 0 i++cut (l.map f) (i+1) (l.length-(i+1))=(I3 l i).map f:=fun {β} f=>by
   have h1:cut (l.map f) 0 i=(l.take i).map f:=by rw[Xl,aaf]
   have h2:cut (l.map f) (i+1) (l.length-(i+1))=(l.drop (i+1)).map f:=by rw[Xl,acQ]
   have h3:cut ((l.take i).map f) 0 i=(l.take i).map f:=fD (by rw[gX,eu];omega)
   rw[h1,h2,pb,h3,I3,dT]
  have N:i+(l.length-(i+1))=(I3 l i).length:=by rw[ahf cl];omega
  simp only[e0,e1,iF,b5,P,N];refine⟨⟨by omega,by omega,by omega⟩,⟨by omega,by omega,by omega,by omega⟩,⟨by omega,by omega⟩,⟨by trivial,by omega,by omega,by omega,by omega⟩,⟨by omega,by omega,by rw[← N];omega,by rw[← N];omega⟩,⟨?_⟩⟩
  subst hG;exact⟨[0,4],rfl,rfl,⟨rfl,⟨_,rfl,.inl rfl⟩,trivial⟩,rfl,rfl,rfl,rfl⟩
 ·cases hx
theorem Vn {R:Type} {D:fK R} {G:Value->Hp R->Prop} {l:List Op} {x:Op} {c r:Nat} {vc:Prop} (hb:l.length≤100) (hr:Dg x.t l=r) (hG:ct [vO (R:=R) l].length ⟨vc,.slice (aa ⟨1,0,aa 4000⟩) (rL l x).length 0,aj,[vO l,oO (rL l x)],[],[(0,0)]⟩=G) :
  At D Tryz.prog (dM Tryz.f56) 1 (iD Tryz.prog Tryz.f56.results.toList G) [.inl [1,1,1]] ⟨frame [0,3,5] [.slice (aa ⟨0,0,aa 4000⟩) l.length c,.pointer (aa ⟨1,0,aj⟩),.int .i64 r] 0 37,[],[vO l,oK x]⟩:=by
 refine cW (T:=[]) trivial mixed 200 ?_;refine bN (q:=let Z3:=bs av;let Z1:=(↑r:Int);let Z2:=(↑l.length:Int);Vc ((0:Int)≤Z1/\Z1≤Z2/\0+ae l≤ae l)/\Vc (0≤0/\0+aI Z1≤ae l/\(0+aI Z1)*32≤140737488355328/\0+aI Z1≤140737488355328)/\Vc (0+(0+aI Z1)≤0+aI Z1/\1≤1/\(0+aI Z1+1)*32≤140737488355328/\0+aI Z1+1≤140737488355328)/\Vc (0=0/\(0:Int)≤Z1/\Z1≤Z2/\Z2≤Z2/\0+ae l≤ae l)/\Vc (0+(0+aI Z1+1)≤0+aI Z1+1/\0+aI Z1+aI (Z2-Z1)≤ae l/\(0+aI Z1+1+aI (Z2-Z1))*32≤140737488355328/\0+aI Z1+1+aI (Z2-Z1)≤140737488355328)/\aY (G (bK (aa ⟨6,0,aa 4000⟩) (0+aI Z1+1+aI (Z2-Z1)) 0) [aa (.inr (.inr (.inl (oR l)))),aa (.inl (45,[Z3 (Op.t x),.bool (Op.ins x),Z3 (It.k (Op.it x)),Z3 (It.i (Op.it x))])),aj,aj,aa (.inr (.inl (45,Row.mk [Z3 0,.bool ao,Z3 0,Z3 0] 1 [aT.mk [Op.t x] [] [],aT.mk [] [Op.ins x] [],aT.mk [It.k (Op.it x)] [] [],aT.mk [It.i (Op.it x)] [] []]))),aj,aa (.inr (.inl (45,Row.mk [Z3 0,.bool ao,Z3 0,Z3 0] (0+aI Z1+1+aI (Z2-Z1)) [aT.mk (cut (cut ([]++cut (au Op.t l) 0 (aI Z1)) 0 (0+aI Z1)++cut [Op.t x] 0 1) 0 (0+aI Z1+1)++cut (au Op.t l) (0+aI Z1) (aI (Z2-Z1))) [] [],aT.mk [] (cut (cut ([]++cut (au Op.ins l) 0 (aI Z1)) 0 (0+aI Z1)++cut [Op.ins x] 0 1) 0 (0+aI Z1+1)++cut (au Op.ins l) (0+aI Z1) (aI (Z2-Z1))) [],aT.mk (cut (cut ([]++cut (au (fun o=>It.k (Op.it o)) l) 0 (aI Z1)) 0 (0+aI Z1)++cut [It.k (Op.it x)] 0 1) 0 (0+aI Z1+1)++cut (au (fun o=>It.k (Op.it o)) l) (0+aI Z1) (aI (Z2-Z1))) [] [],aT.mk (cut (cut ([]++cut (au (fun o=>It.i (Op.it o)) l) 0 (aI Z1)) 0 (0+aI Z1)++cut [It.i (Op.it x)] 0 1) 0 (0+aI Z1+1)++cut (au (fun o=>It.i (Op.it o)) l) (0+aI Z1) (aI (Z2-Z1))) [] []])))])) ?_ (by kernel_rfl)
 intro Z3 Z1 Z2;subst Z2 Z1 Z3;have hle:r≤l.length:=by rw[← hr];exact P3 _ _
 have P:∀ {β:Type} (f:Op->β),(l.map f).take r++f x::(l.map f).drop r=(rL l x).map f:=fun {β} f=>by
  rw[rL,hr];simp[List.map_take,List.map_drop]
 have A0:∀ {β:Type} (f:Op->β) (v:β),cut (cut ([]++cut (l.map f) 0 r) 0 r++cut [v] 0 1) 0 (r+1)++cut (l.map f) r ((l.length:Int)-(r:Int)).toNat=(l.map f).take r++v::(l.map f).drop r:=fun f v=>Ec (gX ..) hle
 have hwl:=M' l x;have N:r+1+((l.length:Int)-(r:Int)).toNat=(rL l x).length:=by omega
 simp only[iF,b5,A0,N,P Op.t,P Op.ins,P (fun o=>o.it.k),P (fun o=>o.it.i)]
 refine⟨⟨by omega,by omega,by omega⟩,⟨by omega,by omega,by omega,by omega⟩,⟨by omega,by omega,by omega,by omega⟩,⟨by trivial,by omega,by omega,by omega,by omega⟩,⟨by omega,by omega,by omega,by omega⟩,⟨?_⟩⟩
 subst hG;exact⟨[0,6],rfl,rfl,⟨rfl,⟨_,rfl,.inl rfl⟩,trivial⟩,rfl,rfl,rfl,rfl⟩
def q9 {R:Type}:Prim R:=fun args hh=>match args,hh with
 |[.slice (aa ⟨0,0,aa 4000⟩) n c,.agg ⟨[.int .i64 k0,.bool k1,.int .i64 k2,.int .i64 k3]⟩],[aa (.inr (.inr (.inl r)))]=>aa ⟨r=oR (uO r)/\n=(uO r).length/\(uO r).length≤100,.slice (aa ⟨1,0,aa 4000⟩) (rL (uO r) (⟨k0,k1,⟨k2,k3⟩⟩:Op)).length 0,aj,[aa (.inr (.inr (.inl r))),oO (rL (uO r) (⟨k0,k1,⟨k2,k3⟩⟩:Op))],[],[(0,0)]⟩
 |_,_=>aj
theorem ajq {R:Type} {D:fK R}:ck D Tryz.prog 56 (a9 q9):=by
 refine fw Tryz.f56 fun args hh x hx=>?_
 unfold q9 at hx;split at hx
 ·rename_i n c k0 k1 k2 k3 r;cases hx;refine q4 fun _ hv=>?_
  obtain⟨hr,rfl,hb⟩:=hv;generalize uO r=l at *;subst hr
  generalize hG:ct (R:=R) _ _=G;refine cW (T:=[]) trivial mixed 200 ?_;refine bN (q:=let Z1:=bs av;At D Tryz.prog (dM Tryz.f56) 1 (iD Tryz.prog (dF (dG Tryz.f56)) G) [.inl [1,1,0,0],.inr (.inl 0),.inl [1,1,1]] (SS.mk (aa (bK (aa ⟨0,0,aa 4000⟩) l.length c)::aa (bE (aO [Z1 k0,.bool k1,Z1 k2,Z1 k3]))::aj::aa (aE (aa ⟨1,0,aj⟩))::aa (bK (aa ⟨2,0,aa 4000⟩) 0 0)::aa (Z1 0)::nH (n4 (n4 (n4 (aj::aj::aj::[]))))) [] [aa (.inr (.inr (.inl (oR l)))),aa (.inl (45,[Z1 k0,.bool k1,Z1 k2,Z1 k3])),aa (.inr (.inl (45,Row.mk [Z1 0,.bool ao,Z1 0,Z1 0] 0 [aT.mk [] [] [],aT.mk [] [] [],aT.mk [] [] [],aT.mk [] [] []])))])) ?_ (by kernel_rfl)
  intro Z1;subst Z1;generalize hx:(⟨k0,k1,⟨k2,k3⟩⟩:Op)=x at *
  refine lC (by kernel_rfl) (ι:=Nat) (fun k=>k≤Dg x.t l) [0,3,5] (fun k=>[.slice (aa ⟨0,0,aa 4000⟩) l.length c,.pointer (aa ⟨1,0,aj⟩),.int .i64 k]) (fun k=>[vO l,oK x]) (fun k=>l.length-k) 37 (fun i hi=>⟨rfl,rfl,by simp⟩) ⟨0,dx _,⟨[0,1],rfl,⟨rfl,.inl (by subst hx;rfl),trivial⟩,rfl,rfl,rfl,rfl⟩⟩ fun k hk=>?_
  refine mB (T:=[]) [[1,1,1]] trivial mixed 200 ?_;refine bN (q:=let Z8:=bs av;let Z1:=(decide ((↑k:Int)<(↑l.length:Int)));let Z2:=(ay (au Op.t l) (0+(k:Int).toNat) (0:Int)<Op.t x);let Z3:=(bK (aa ⟨0,0,aa 4000⟩) l.length c);let Z4:=(aE (aa ⟨1,0,aj⟩));let Z5:=(Z8 (↑k:Int));let Z6:=(aE (aa (Addr.mk 0 (0+(k:Int).toNat) (aa 4000))));let Z7:=(cv (aO []));(decide ((↑k:Int)<(↑l.length:Int))=aq->Vc (aD Z1=aD aq)/\Vc ((0:Int)≤(↑k:Int)/\(↑k:Int)<(↑l.length:Int)/\0+ae l≤ae l)/\Vc (0+(k:Int).toNat<ae l)/\(decide Z2=aq->Vc (fits ((↑k:Int)+(1:Int)))/\aY (∃ j,j≤Dg (Op.t x) l/\ae l-j<ae l-k/\j4 R 1 37 [0,3,5] [.slice (aa ⟨0,0,aa 4000⟩) l.length c,.pointer (aa ⟨1,0,aj⟩),Z8 (↑j:Int)] [vO l,oK x] [aa Z3,aa Z4,aa (Z8 ((↑k:Int)+(1:Int)))] [aa (.inr (.inr (.inl (oR l)))),aa (.inl (45,[Z8 (Op.t x),.bool (Op.ins x),Z8 (It.k (Op.it x)),Z8 (It.i (Op.it x))]))] 37))/\(decide Z2=ao->At D Tryz.prog (dM Tryz.f56) 1 (iD Tryz.prog (dF (dG Tryz.f56)) G) [.inl [1,1,1]] (SS.mk (aa Z3::aj::aj::aa Z4::aj::aa Z5::aj::aa Z5::aa Z3::aa (Z8 (↑l.length:Int))::aa (aD Z1)::aa (aD aq)::aa Z3::aa Z5::aa Z6::aa Z6::aa (Z8 (ay (au Op.t l) (0+(k:Int).toNat) (0:Int)))::aa Z4::aa (Z8 (Op.t x))::aa (aD (decide Z2))::aa (aD ao)::nH ([])) [(20,ao),(11,aq)] [aa (.inr (.inr (.inl (oR l)))),aa (.inl (45,[Z8 (Op.t x),.bool (Op.ins x),Z8 (It.k (Op.it x)),Z8 (It.i (Op.it x))]))])))/\(decide ((↑k:Int)<(↑l.length:Int))=ao->Vc (aD Z1=aD ao)/\At D Tryz.prog (dM Tryz.f56) 1 (iD Tryz.prog (dF (dG Tryz.f56)) G) [.inl [1,1,1]] (SS.mk (aa Z3::aj::aj::aa Z4::aj::aa Z5::aj::aa Z5::aa Z3::aa (Z8 (↑l.length:Int))::aa (aD Z1)::aa (aD ao)::aa Z7::aa Z7::aa Z7::aa Z7::aa Z7::aa Z7::aa Z7::aa Z7::aa (aD ao)::nH ([])) [(11,ao),(20,ao)] [aa (.inr (.inr (.inl (oR l)))),aa (.inl (45,[Z8 (Op.t x),.bool (Op.ins x),Z8 (It.k (Op.it x)),Z8 (It.i (Op.it x))]))]))) ?_ (by kernel_rfl)
  intro Z8 Z1 Z2 Z3 Z4 Z5 Z6 Z7;subst Z7 Z6 Z5 Z4 Z3 Z2 Z1 Z8;have hle:Dg x.t l≤l.length:=P3 _ _;refine⟨fun h=>?_,fun h=>?_⟩
  ·have cl:k<l.length:=by have:=of_decide_eq_true h;omega
   simp only[XO,GV Op.t 0 rfl];refine⟨⟨congrArg aD h⟩,⟨by omega,by omega,by omega⟩,⟨cl⟩,fun h2=>⟨⟨by omega,by omega⟩,⟨k+1,?_,by omega,⟨[0,1],rfl,⟨rfl,.inl rfl,trivial⟩,rfl,rfl,rfl,rfl⟩⟩⟩,fun h2=>?_⟩
   ·have h3:=of_decide_eq_true h2;rcases cx k (Dg x.t l) with c|c
    ·exact c
    ·obtain rfl:k=Dg x.t l:=by omega
     exact absurd h3 (aiE cl)
   ·have h3:=of_decide_eq_false h2;have hr:Dg x.t l=k:=by
     rcases cx k (Dg x.t l) with c|c
     ·exact absurd (ajN c) h3
     ·omega
    exact At.fit [0,3,5] [.slice (aa ⟨0,0,aa 4000⟩) l.length c,.pointer (aa ⟨1,0,aj⟩),.int .i64 k] [vO l,oK x] 37 ⟨rfl,rfl,by simp⟩ ⟨[0,1],rfl,⟨rfl,.inl rfl,trivial⟩,rfl,rfl,rfl,rfl⟩ (Vn hb hr hG)
  ·have h3:=of_decide_eq_false h;have hr:Dg x.t l=k:=by omega
   exact⟨⟨congrArg aD h⟩,At.fit [0,3,5] [.slice (aa ⟨0,0,aa 4000⟩) l.length c,.pointer (aa ⟨1,0,aj⟩),.int .i64 k] [vO l,oK x] 37 ⟨rfl,rfl,by simp⟩ ⟨[0,1],rfl,⟨rfl,.inl rfl,trivial⟩,rfl,rfl,rfl,rfl⟩ (Vn hb hr hG)⟩
 ·cases hx
def jP (h:List It):List Op->List (Option It)
 |[]=>[]
 |o::r=>if o.ins=aq then aj::jP (hO o.it h) r else h.head?::jP h.tail r
theorem GJ:∀ (a b:List Op) (h:List It),jP h (a++b)=jP h a++jP (fin h a) b
 |[],b,h=>rfl
 |o::a,b,h=>by
  rcases iX o with e|e
  ·rw[mo,jP,if_pos e,jP,if_pos e,s9 e,GJ a b];rfl
  ·rw[mo,jP,if_neg (by rw[e];decide),jP,if_neg (by rw[e];decide),ny e,GJ a b];rfl
theorem Xo:∀ (a:List Op) (h:List It),(jP h a).length=a.length
 |[],h=>rfl
 |o::a,h=>by rw[jP];split<;>rw[cI,Xo a,cI]
theorem Qw:∀ (a:List Op) (h:List It),(fin h a).length≤h.length+a.length
 |[],h=>bc _
 |o::a,h=>by
  rcases iX o with e|e
  ·have:=Qw a (hO o.it h);have hi:(hO o.it h).length=h.length+1:=by
    have:∀ (x:It) (l:List It),(hO x l).length=l.length+1:=fun x l=>by
     induction l with
     |nil=>rfl
     |cons y l ih=>rw[hO];split<;>simp[ih]
    exact this _ _
   rw[s9 e,cI];omega
  ·have:=Qw a h.tail;rw[ny e,cI];rw[N9] at this;omega
theorem Oc:∀ (a:List Op) (h:List It),(tk h a).length+gI h a≤a.length
 |[],h=>bc _
 |o::a,h=>by
  rcases iX o with e|e
  ·rw[oE e,oB e];have:=Oc a (hO o.it h);rw[cI];omega
  ·cases h with
   |nil=>rw[BV e,so e,cI];have:=Oc a [];omega
   |cons y h=>rw[oC e,ng e,cI,cI];have:=Oc a h;omega
theorem take_one {l:List Op} {i:Nat} (h:i<l.length):l.take (i+1)=l.take i++[l.getD i oz]:=by
 rw[za h,ax,bj h];rfl
theorem QN (h:List It) (o:Op):fin h [o]=n8 h o:=rfl
theorem aga {l:List Op} {i:Nat} (h:i<l.length) (e:(l.getD i oz).ins=aq):fin [] (l.take (i+1))=hO (l.getD i oz).it (fin [] (l.take i))/\tk [] (l.take (i+1))=tk [] (l.take i)/\gI [] (l.take (i+1))=gI [] (l.take i)/\jP [] (l.take (i+1))=jP [] (l.take i)++[aj]:=by
 rw[take_one h,qa,vM,ud,GJ,QN,Qm e,oE e,oB e];refine⟨rfl,?_,rfl,?_⟩
 ·show _++[]=_;rw[A_]
 ·rw[jP,if_pos e];rfl
theorem acP {l:List Op} {i:Nat} (h:i<l.length) (e:(l.getD i oz).ins=ao) (h0:fin [] (l.take i)=[]):fin [] (l.take (i+1))=[]/\tk [] (l.take (i+1))=tk [] (l.take i)/\gI [] (l.take (i+1))=gI [] (l.take i)+1/\jP [] (l.take (i+1))=jP [] (l.take i)++[aj]:=by
 rw[take_one h,qa,vM,ud,GJ,QN,K8 e,h0,BV e,so e];refine⟨rfl,?_,rfl,?_⟩
 ·show _++[]=_;rw[A_]
 ·rw[jP,if_neg (by rw[e];decide)];rfl
theorem ag2 {l:List Op} {i:Nat} (h:i<l.length) (e:(l.getD i oz).ins=ao) (h0:fin [] (l.take i)≠[]):fin [] (l.take (i+1))=(fin [] (l.take i)).tail/\tk [] (l.take (i+1))=tk [] (l.take i)++[(fin [] (l.take i)).getD 0 iz]/\gI [] (l.take (i+1))=gI [] (l.take i)/\jP [] (l.take (i+1))=jP [] (l.take i)++[aa ((fin [] (l.take i)).getD 0 iz)]:=by
 obtain⟨y,r,hy⟩:∃ y r,fin [] (l.take i)=y::r:=by
  cases hc:fin [] (l.take i) with
  |nil=>exact absurd hc h0
  |cons y r=>exact⟨y,r,rfl⟩
 rw[take_one h,qa,vM,ud,GJ,QN,K8 e,hy,oC e,ng e];refine⟨rfl,rfl,rfl,?_⟩;rw[jP,if_neg (by rw[e];decide)];rfl
abbrev kR (l:List (Option It)):Row:=⟨[.bool ao,.int .i64 0,.int .i64 0],l.length,[⟨[],l.map g9,[]⟩,⟨l.map fun x=>(x.getD ⟨0,0⟩).k,[],[]⟩,⟨l.map fun x=>(x.getD ⟨0,0⟩).i,[],[]⟩]⟩
abbrev oT' {R:Type} (l:List (Option It)):Option (SB R):=aa (.inr (.inl (47,kR l)))
theorem ac8 {x:It} {l:List It} (ho:Ord l) (hn:x∉l):nK (l++[x])=hO x l:=by
 have j5:nL x l=ao:=by
  refine decide_eq_false fun c=>hn ?_
  have:=yK (d:=iz) c
  rwa [w6 c] at this
 rw[agl ho j5];refine zl (Xf ho) (pf ho hn) fun z=>?_
 unfold rG;rw[j5];simp only[fu,if_false];rw[jW,b9,bR];have:=cT (sk x l) l
 constructor
 ·rintro (m|m|m)
  ·exact .inr (rO m)
  ·exact .inl m
  ·exact .inr (List.mem_of_mem_drop m)
 ·rintro (m|m)
  ·exact .inr (.inl m)
  ·rw[← this] at m;rcases b9.1 m with m|m
   ·exact .inl m
   ·exact .inr (.inr m)
theorem Ep {β:Type} (f:It->β) (h:List It) (y:It):cut (cut ([]++cut (h.map f) 0 h.length) 0 (0+h.length)++cut [f y] 0 1) 0 (0+h.length+1)=(h++[y]).map f:=by
 have e1:cut (h.map f) 0 h.length=h.map f:=fD (by simp)
 have e2:cut [f y] 0 1=[f y]:=rfl;rw[pb,e1,b5,e1,e2,fD (by simp),dT]
 rfl
theorem yY {α β:Type} (f:α->β) (k:List α) (y:α) (v:β) (hv:v=f y):cut (k.map f) 0 k.length++[v]=(k++[y]).map f:=by
 subst hv;rw[fD (by simp),dT]
 rfl
theorem aho {β:Type} (f:It->β) (h:List It):[]++cut (h.map f) 1 (h.length-1)=h.tail.map f:=by
 rw[pb];unfold cut;rw[jl (by simp),List.drop_one,List.map_tail]
def TRu {R:Type}:eK R:=[(59,wx z0 2 (a9 YU))]
theorem aci {R:Type} {D:fK R}:cQ D Tryz.prog (TRu:eK R):=⟨p8 _ _ agM,trivial⟩
def Yu {R:Type}:Prim R:=fun args hh=>match args,hh with
 |[.slice (aa ⟨0,0,aa 4000⟩) n c],[aa (.inr (.inr (.inl r)))]=>aa ⟨r=oR (uO r)/\n=(uO r).length/\(uO r).length≤100/\(gw (uO r)).Nodup,.tuple ⟨[.slice (aa ⟨1,0,aa 2000⟩) (fin [] (uO r)).length 0,.slice (aa ⟨2,0,aa 2000⟩) (nK (tk [] (uO r))).length 0,.int .i64 (gI [] (uO r)),.slice (aa ⟨3,0,aa 3000⟩) (jP [] (uO r)).length 0]⟩,aj,[aa (.inr (.inr (.inl r))),oI (fin [] (uO r)),oI (nK (tk [] (uO r))),oT' (jP [] (uO r))],[],[(0,0)]⟩
 |_,_=>aj
theorem abU {R:Type} {D:fK R}:ck D Tryz.prog 19 (a9 Yu):=by
 refine fw Tryz.f19 fun args hh x hx=>?_
 unfold Yu at hx;split at hx
 ·rename_i n c r;cases hx;refine q4 fun _ hv=>?_
  obtain⟨hr,rfl,hb,hnd⟩:=hv;generalize uO r=l at *;subst hr
  generalize hG:ct (R:=R) _ _=G;refine cW (T:=TRu) aci mixed 200 ?_;refine bN (q:=let Z1:=bs av;At D Tryz.prog (dM Tryz.f19) 1 (iD Tryz.prog (dF (dG Tryz.f19)) G) [.inl [1,1,1,1,0,1,0],.inr (.inl 0),.inl [1,1,1,1,1]] (SS.mk (aa (bK (aa ⟨0,0,aa 4000⟩) l.length c)::aj::aa (bK (aa ⟨1,0,aa 2000⟩) 0 0)::aa (bK (aa ⟨2,0,aa 2000⟩) 0 0)::aa (Z1 0)::aa (bK (aa ⟨3,0,aa 3000⟩) 0 0)::aa (bK (aa ⟨4,0,aa 2000⟩) 0 0)::aa (bK (aa ⟨5,0,aa 2000⟩) 0 0)::aa (bK (aa ⟨6,0,aa 3000⟩) 0 0)::aa (Z1 0)::aa (Z1 0)::nH (nH (nH (n4 ([]))))) [] [aa (.inr (.inr (.inl (oR l)))),aa (.inr (.inl (31,Row.mk [Z1 0,Z1 0] 0 [aT.mk [] [] [],aT.mk [] [] []]))),aa (.inr (.inl (31,Row.mk [Z1 0,Z1 0] 0 [aT.mk [] [] [],aT.mk [] [] []]))),aa (.inr (.inl (47,Row.mk [.bool ao,Z1 0,Z1 0] 0 [aT.mk [] [] [],aT.mk [] [] [],aT.mk [] [] []]))),aa (.inr (.inl (31,Row.mk [Z1 0,Z1 0] 0 [aT.mk [] [] [],aT.mk [] [] []]))),aa (.inr (.inl (31,Row.mk [Z1 0,Z1 0] 0 [aT.mk [] [] [],aT.mk [] [] []]))),aa (.inr (.inl (47,Row.mk [.bool ao,Z1 0,Z1 0] 0 [aT.mk [] [] [],aT.mk [] [] [],aT.mk [] [] []])))])) ?_ (by kernel_rfl)
  intro Z1;subst Z1;refine lC (by kernel_rfl) (ι:=Nat) (fun i=>i≤l.length) [0,6,7,8,9,10] (fun i=>[.slice (aa ⟨0,0,aa 4000⟩) l.length c,.slice (aa ⟨1,0,aa 2000⟩) (fin [] (l.take i)).length 0,.slice (aa ⟨2,0,aa 2000⟩) (tk [] (l.take i)).length 0,.slice (aa ⟨3,0,aa 3000⟩) (jP [] (l.take i)).length 0,.int .i64 (gI [] (l.take i)),.int .i64 i]) (fun i=>[vO l,oI (fin [] (l.take i)),oI (tk [] (l.take i)),oT' (jP [] (l.take i))]) (fun i=>l.length-i) 63 (fun i hi=>⟨rfl,rfl,by simp⟩) ⟨0,dx _,⟨[0,4,5,6],rfl,⟨rfl,⟨_,rfl,.inl rfl⟩,⟨_,rfl,.inl rfl⟩,⟨_,rfl,.inl rfl⟩,trivial⟩,rfl,rfl,rfl,rfl⟩⟩ fun i hi=>?_
  generalize hh:fin [] (l.take i)=h at *
  generalize hk:tk [] (l.take i)=k at *
  generalize hs:jP [] (l.take i)=s at *
  generalize hf:gI [] (l.take i)=f at *
  refine cW (T:=TRu) aci mixed 200 ?_;refine bN (q:=let cz:=bs av;let Z1:=(0:Int);let Z2:=(au It.k h);let Z3:=(au It.i h);let Z4:=(ae s+1);let Z5:=(bK (aa ⟨0,0,aa 4000⟩) l.length c);let Z6:=(bK (aa ⟨2,0,aa 2000⟩) k.length 0);let Z7:=(cz ((↑i:Int)+(1:Int)));let Z8:=s.length;let Z9:=(↑h.length:Int);let cP:=(gG (rT k 0 k.length));(decide ((↑i:Int)<(↑l.length:Int))=aq->Vc (Z1≤(↑i:Int)/\(↑i:Int)<(↑l.length:Int)/\0+ae l≤ae l)/\Vc (0+(i:Int).toNat<ae l)/\(ay (au Op.ins l) (0+(i:Int).toNat) ao=aq->Vc (0≤0/\0+ae h≤ae h/\(0+ae h)*16≤140737488355328/\0+ae h≤140737488355328)/\Vc (Z1≤(↑i:Int)/\(↑i:Int)<(↑l.length:Int)/\0+ae l≤ae l)/\Vc (0+(i:Int).toNat<ae l)/\Vc (0+(0+ae h)≤0+ae h/\1≤1/\(0+ae h+1)*16≤140737488355328/\0+ae h+1≤140737488355328)/\Vc ((0+(0+ae h+1)≤0+ae h+1/\True)/\Row.mk [cz 0,cz 0] (0+ae h+1) [aT.mk (cut (cut ([]++cut Z2 0 h.length) 0 (0+ae h)++cut [ay (au (fun o=>It.k (Op.it o)) l) (0+(i:Int).toNat) Z1] 0 1) 0 (0+ae h+1)) [] [],aT.mk (cut (cut ([]++cut Z3 0 h.length) 0 (0+ae h)++cut [ay (au (fun o=>It.i (Op.it o)) l) (0+(i:Int).toNat) Z1] 0 1) 0 (0+ae h+1)) [] []]=iR (gG (Row.mk [cz 0,cz 0] (0+ae h+1) [aT.mk (cut (cut ([]++cut Z2 0 h.length) 0 (0+ae h)++cut [ay (au (fun o=>It.k (Op.it o)) l) (0+(i:Int).toNat) Z1] 0 1) 0 (0+ae h+1)) [] [],aT.mk (cut (cut ([]++cut Z3 0 h.length) 0 (0+ae h)++cut [ay (au (fun o=>It.i (Op.it o)) l) (0+(i:Int).toNat) Z1] 0 1) 0 (0+ae h+1)) [] []]))/\0+ae h+1=ae (gG (Row.mk [cz 0,cz 0] (0+ae h+1) [aT.mk (cut (cut ([]++cut Z2 0 h.length) 0 (0+ae h)++cut [ay (au (fun o=>It.k (Op.it o)) l) (0+(i:Int).toNat) Z1] 0 1) 0 (0+ae h+1)) [] [],aT.mk (cut (cut ([]++cut Z3 0 h.length) 0 (0+ae h)++cut [ay (au (fun o=>It.i (Op.it o)) l) (0+(i:Int).toNat) Z1] 0 1) 0 (0+ae h+1)) [] []]))/\ae (gG (Row.mk [cz 0,cz 0] (0+ae h+1) [aT.mk (cut (cut ([]++cut Z2 0 h.length) 0 (0+ae h)++cut [ay (au (fun o=>It.k (Op.it o)) l) (0+(i:Int).toNat) Z1] 0 1) 0 (0+ae h+1)) [] [],aT.mk (cut (cut ([]++cut Z3 0 h.length) 0 (0+ae h)++cut [ay (au (fun o=>It.i (Op.it o)) l) (0+(i:Int).toNat) Z1] 0 1) 0 (0+ae h+1)) [] []]))≤100000)/\Vc (0+ae s≤ae s/\1≤1/\Z4*24≤140737488355328/\ae s+1≤140737488355328)/\Vc (fits ((↑i:Int)+(1:Int)))/\aY (∃ j,j≤ae l/\ae l-j<ae l-i/\j4 R 1 63 [0,6,7,8,9,10] [.slice (aa ⟨0,0,aa 4000⟩) l.length c,.slice (aa ⟨1,0,aa 2000⟩) (ae (fin [] (gF j l))) 0,.slice (aa ⟨2,0,aa 2000⟩) (ae (tk [] (gF j l))) 0,.slice (aa ⟨3,0,aa 3000⟩) (ae (jP [] (gF j l))) 0,cz (↑(gI [] (gF j l)):Int),cz (↑j:Int)] [vO l,oI (fin [] (gF j l)),oI (tk [] (gF j l)),oT' (jP [] (gF j l))] [aa Z5,aa (bK (aa ⟨10,0,aa 2000⟩) (ae (nK (gG (Row.mk [cz 0,cz 0] (0+ae h+1) [aT.mk (cut (cut ([]++cut Z2 0 h.length) 0 (0+ae h)++cut [ay (au (fun o=>It.k (Op.it o)) l) (0+(i:Int).toNat) Z1] 0 1) 0 (0+ae h+1)) [] [],aT.mk (cut (cut ([]++cut Z3 0 h.length) 0 (0+ae h)++cut [ay (au (fun o=>It.i (Op.it o)) l) (0+(i:Int).toNat) Z1] 0 1) 0 (0+ae h+1)) [] []])))) 0),aa Z6,aa (bK (aa ⟨12,0,aa 3000⟩) Z4 0),aa (cz (↑f:Int)),aa Z7] [aa (.inr (.inr (.inl (oR l)))),aa (.inr (.inl (31,iR h))),aa (.inr (.inl (31,iR k))),aj,aa (.inl (47,[.bool ao,cz 0,cz 0])),aj,aj,aa (.inr (.inl (31,Row.mk [cz 0,cz 0] 1 [aT.mk [ay (au (fun o=>It.k (Op.it o)) l) (0+(i:Int).toNat) Z1] [] [],aT.mk [ay (au (fun o=>It.i (Op.it o)) l) (0+(i:Int).toNat) Z1] [] []]))),aa (.inr (.inl (31,Row.mk [cz 0,cz 0] (0+ae h+1) [aT.mk (cut ([]++cut Z2 0 h.length) 0 (0+ae h)++cut [ay (au (fun o=>It.k (Op.it o)) l) (0+(i:Int).toNat) Z1] 0 1) [] [],aT.mk (cut ([]++cut Z3 0 h.length) 0 (0+ae h)++cut [ay (au (fun o=>It.i (Op.it o)) l) (0+(i:Int).toNat) Z1] 0 1) [] []]))),aj,aa (.inr (.inl (31,iR (nK (gG (Row.mk [cz 0,cz 0] (0+ae h+1) [aT.mk (cut (cut ([]++cut Z2 0 h.length) 0 (0+ae h)++cut [ay (au (fun o=>It.k (Op.it o)) l) (0+(i:Int).toNat) Z1] 0 1) 0 (0+ae h+1)) [] [],aT.mk (cut (cut ([]++cut Z3 0 h.length) 0 (0+ae h)++cut [ay (au (fun o=>It.i (Op.it o)) l) (0+(i:Int).toNat) Z1] 0 1) 0 (0+ae h+1)) [] []])))))),aa (.inr (.inl (47,Row.mk [.bool ao,cz 0,cz 0] 1 [aT.mk [] [ao] [],aT.mk [Z1] [] [],aT.mk [Z1] [] []]))),aa (.inr (.inl (47,Row.mk [.bool ao,cz 0,cz 0] Z4 [aT.mk [] (cut (au g9 s) 0 Z8++[ao]) [],aT.mk (cut (au (fun x=>It.k (gH x (It.mk Z1 Z1))) s) 0 Z8++[Z1]) [] [],aT.mk (cut (au (fun x=>It.i (gH x (It.mk Z1 Z1))) s) 0 Z8++[Z1]) [] []])))] 63))/\(ay (au Op.ins l) (0+(i:Int).toNat) ao=ao->(decide (Z9>Z1)=aq->Vc (Z1≤Z1/\Z1<Z9/\0+ae h≤ae h)/\Vc (0<ae h)/\Vc (Z1≤Z1/\Z1<Z9/\0+ae h≤ae h)/\Vc (0<ae h)/\Vc (0+ae k≤ae k/\1≤1/\(ae k+1)*16≤140737488355328/\ae k+1≤140737488355328)/\Vc (0=0/\Z1≤(1:Int)/\(1:Int)≤Z9/\Z9≤Z9/\0+ae h≤ae h)/\Vc (0≤0/\1+aI (Z9-(1:Int))≤ae h/\(0+aI (Z9-(1:Int)))*16≤140737488355328/\0+aI (Z9-(1:Int))≤140737488355328)/\Vc (0+ae s≤ae s/\1≤1/\Z4*24≤140737488355328/\ae s+1≤140737488355328)/\Vc (fits ((↑i:Int)+(1:Int)))/\aY (∃ j,j≤ae l/\ae l-j<ae l-i/\j4 R 1 63 [0,6,7,8,9,10] [.slice (aa ⟨0,0,aa 4000⟩) l.length c,.slice (aa ⟨1,0,aa 2000⟩) (ae (fin [] (gF j l))) 0,.slice (aa ⟨2,0,aa 2000⟩) (ae (tk [] (gF j l))) 0,.slice (aa ⟨3,0,aa 3000⟩) (ae (jP [] (gF j l))) 0,cz (↑(gI [] (gF j l)):Int),cz (↑j:Int)] [vO l,oI (fin [] (gF j l)),oI (tk [] (gF j l)),oT' (jP [] (gF j l))] [aa Z5,aa (bK (aa ⟨8,0,aa 2000⟩) (0+aI (Z9-(1:Int))) 0),aa (bK (aa ⟨6,0,aa 2000⟩) (ae k+1) 0),aa (bK (aa ⟨10,0,aa 3000⟩) Z4 0),aa (cz (↑f:Int)),aa Z7] [aa (.inr (.inr (.inl (oR l)))),aa (.inr (.inl (31,iR h))),aj,aj,aa (.inl (47,[.bool aq,cz (ay Z2 0 Z1),cz (ay Z3 0 Z1)])),aa (.inr (.inl (31,Row.mk [cz 0,cz 0] 1 [aT.mk [ay Z2 0 Z1] [] [],aT.mk [ay Z3 0 Z1] [] []]))),aa (.inr (.inl (31,Row.mk [cz 0,cz 0] (ae k+1) [aT.mk (cut (au It.k k) 0 k.length++cut [ay Z2 0 Z1] 0 1) [] [],aT.mk (cut (au It.i k) 0 k.length++cut [ay Z3 0 Z1] 0 1) [] []]))),aj,aa (.inr (.inl (31,Row.mk [cz 0,cz 0] (0+aI (Z9-(1:Int))) [aT.mk ([]++cut Z2 1 (aI (Z9-(1:Int)))) [] [],aT.mk ([]++cut Z3 1 (aI (Z9-(1:Int)))) [] []]))),aa (.inr (.inl (47,Row.mk [.bool ao,cz 0,cz 0] 1 [aT.mk [] [aq] [],aT.mk [ay Z2 0 Z1] [] [],aT.mk [ay Z3 0 Z1] [] []]))),aa (.inr (.inl (47,Row.mk [.bool ao,cz 0,cz 0] Z4 [aT.mk [] (cut (au g9 s) 0 Z8++[aq]) [],aT.mk (cut (au (fun x=>It.k (gH x (It.mk Z1 Z1))) s) 0 Z8++cut [ay Z2 0 Z1] 0 1) [] [],aT.mk (cut (au (fun x=>It.i (gH x (It.mk Z1 Z1))) s) 0 Z8++cut [ay Z3 0 Z1] 0 1) [] []])))] 63))/\(decide (Z9>Z1)=ao->Vc (fits ((↑f:Int)+(1:Int)))/\Vc (0+ae s≤ae s/\1≤1/\Z4*24≤140737488355328/\ae s+1≤140737488355328)/\Vc (fits ((↑i:Int)+(1:Int)))/\aY (∃ j,j≤ae l/\ae l-j<ae l-i/\j4 R 1 63 [0,6,7,8,9,10] [.slice (aa ⟨0,0,aa 4000⟩) l.length c,.slice (aa ⟨1,0,aa 2000⟩) (ae (fin [] (gF j l))) 0,.slice (aa ⟨2,0,aa 2000⟩) (ae (tk [] (gF j l))) 0,.slice (aa ⟨3,0,aa 3000⟩) (ae (jP [] (gF j l))) 0,cz (↑(gI [] (gF j l)):Int),cz (↑j:Int)] [vO l,oI (fin [] (gF j l)),oI (tk [] (gF j l)),oT' (jP [] (gF j l))] [aa Z5,aa (bK (aa ⟨1,0,aa 2000⟩) h.length 0),aa Z6,aa (bK (aa ⟨6,0,aa 3000⟩) Z4 0),aa (cz ((↑f:Int)+(1:Int))),aa Z7] [aa (.inr (.inr (.inl (oR l)))),aa (.inr (.inl (31,iR h))),aa (.inr (.inl (31,iR k))),aj,aa (.inl (47,[.bool ao,cz 0,cz 0])),aa (.inr (.inl (47,Row.mk [.bool ao,cz 0,cz 0] 1 [aT.mk [] [ao] [],aT.mk [Z1] [] [],aT.mk [Z1] [] []]))),aa (.inr (.inl (47,Row.mk [.bool ao,cz 0,cz 0] Z4 [aT.mk [] (cut (au g9 s) 0 Z8++[ao]) [],aT.mk (cut (au (fun x=>It.k (gH x (It.mk Z1 Z1))) s) 0 Z8++[Z1]) [] [],aT.mk (cut (au (fun x=>It.i (gH x (It.mk Z1 Z1))) s) 0 Z8++[Z1]) [] []])))] 63))))/\(decide ((↑i:Int)<(↑l.length:Int))=ao->Vc ((0+ae k≤ae k/\True)/\rT k 0 k.length=iR cP/\ae k=ae cP/\ae cP≤100000)/\aY (G (cv (aO [.slice (aa ⟨1,0,aa 2000⟩) h.length 0,.slice (aa ⟨5,0,aa 2000⟩) (ae (nK cP)) 0,cz (↑f:Int),.slice (aa ⟨3,0,aa 3000⟩) Z8 0])) [aa (.inr (.inr (.inl (oR l)))),aa (.inr (.inl (31,iR h))),aa (.inr (.inl (31,iR k))),aa (.inr (.inl (47,Row.mk [.bool ao,cz 0,cz 0] Z8 [aT.mk [] (au g9 s) [],aT.mk (au (fun x=>It.k (gH x (It.mk Z1 Z1))) s) [] [],aT.mk (au (fun x=>It.i (gH x (It.mk Z1 Z1))) s) [] []]))),aj,aa (.inr (.inl (31,iR (nK cP))))]))) ?_ (by kernel_rfl)
  intro cz Z1 Z2 Z3 Z4 Z5 Z6 Z7 Z8 Z9 cP;subst cP Z9 Z8 Z7 Z6 Z5 Z4 Z3 Z2 Z1 cz;have hhl:h.length≤i:=by rw[← hh];have:=Qw (l.take i) [];rw[eu] at this;simp only[ky] at this;omega
  have U':k.length+f≤i:=by rw[← hk,← hf];have:=Oc (l.take i) [];rw[eu] at this;omega
  have F0:s.length≤i:=by rw[← hs,Xo,eu];omega
  simp only[XO,GV Op.ins ao rfl,GV (fun o=>o.it.k) 0 rfl,GV (fun o=>o.it.i) 0 rfl,Ji It.k 0 rfl,Ji It.i 0 rfl,DN,DX]
  refine⟨fun hc=>?_,fun hc=>?_⟩
  ·have cl:i<l.length:=by have:=of_decide_eq_true hc;omega
   have b1:(0:Int)≤(i:Int)/\(i:Int)<(l.length:Int)/\0+l.length≤l.length:=⟨by omega,by omega,by omega⟩
   have hd:l.drop i=l.getD i oz::l.drop (i+1):=by
    rw[List.drop_eq_getElem_cons cl,ax,bj cl];rfl
   have ap:Ap (fin [] (l.take i)) (l.drop i):=EI (by rw[cT];exact lP hnd)
   rw[hh] at ap;have S0:∀ y:Option It,s.length+1=(s++[y]).length:=fun y=>by simp
   refine⟨⟨b1⟩,⟨cl⟩,fun e=>?_,fun e=>⟨fun h0=>?_,fun h0=>?_⟩⟩
   ·obtain⟨r1,r2,r3,r4⟩:=aga cl e;rw[hh] at r1;rw[hk] at r2;rw[hf] at r3;rw[hs] at r4;rw[hd] at ap;have hn:=(ap.ins e).2.1;have hsi:=ac8 ap.ord hn;have N:0+h.length+1=(h++[(l.getD i oz).it]).length:=by simp
    have K1:=yY g9 s aj ao rfl;have K2:=yY (fun x:Option It=>(x.getD ⟨0,0⟩).k) s aj 0 rfl
    have K3:=yY (fun x:Option It=>(x.getD ⟨0,0⟩).i) s aj 0 rfl
    have S1:=S0 aj;simp only[Ep It.k h (l.getD i oz).it,Ep It.i h (l.getD i oz).it,K1,K2,K3,S0 aj];simp only[N,DX,hsi];refine⟨⟨by omega,by omega,by omega,by omega⟩,⟨b1⟩,⟨cl⟩,⟨by omega,by omega,by omega,by omega⟩,⟨⟨Nat.le_of_eq (b5 _),trivial⟩,by trivial,by trivial,by simp;omega⟩,⟨by omega,by omega,by omega,by omega⟩,⟨by omega,by omega⟩,⟨i+1,cl,by omega,?_⟩⟩
    rw[r1,r2,r3,r4];exact⟨[0,10,2,12],rfl,⟨rfl,⟨_,rfl,.inl rfl⟩,⟨_,rfl,.inl rfl⟩,⟨_,rfl,.inl rfl⟩,trivial⟩,rfl,rfl,rfl,rfl⟩
   ·have h1:0<h.length:=by have:=of_decide_eq_true h0;omega
    obtain⟨r1,r2,r3,r4⟩:=ag2 cl e (by rw[hh];exact DD h1)
    rw[hh] at r1 r2 r4;rw[hk] at r2;rw[hf] at r3;rw[hs] at r4;have N:0+(h.length-1)=h.tail.length:=by rw[N9];omega
    have N2:((h.length:Int)-1).toNat=h.length-1:=by omega
    have NK:k.length+1=(k++[h.getD 0 iz]).length:=by simp
    have c1:∀ v:Int,cut [v] 0 1=[v]:=fun _=>rfl
    have G1:=yY It.k k (h.getD 0 iz) _ rfl;have G2:=yY It.i k (h.getD 0 iz) _ rfl;have K1:=yY g9 s (aa (h.getD 0 iz)) aq rfl;have K2:=yY (fun x:Option It=>(x.getD ⟨0,0⟩).k) s (aa (h.getD 0 iz)) (h.getD 0 iz).k rfl
    have K3:=yY (fun x:Option It=>(x.getD ⟨0,0⟩).i) s (aa (h.getD 0 iz)) (h.getD 0 iz).i rfl
    have T1:=aho It.k h;have T2:=aho It.i h;refine⟨⟨by omega,by omega,by omega⟩,⟨h1⟩,⟨by omega,by omega,by omega⟩,⟨h1⟩,⟨by omega,by omega,by omega,by omega⟩,⟨by trivial,by omega,by omega,by omega,by omega⟩,⟨by omega,by omega,by omega,by omega⟩,⟨by omega,by omega,by omega,by omega⟩,⟨by omega,by omega⟩,⟨i+1,cl,by omega,?_⟩⟩
    rw[r1,r2,r3,r4];simp only[N,N2,NK,c1,G1,G2,K1,K2,K3,T1,T2,S0 (aa (h.getD 0 iz))];exact⟨[0,8,6,10],rfl,⟨rfl,⟨_,rfl,.inl rfl⟩,⟨_,rfl,.inl rfl⟩,⟨_,rfl,.inl rfl⟩,trivial⟩,rfl,rfl,rfl,rfl⟩
   ·have h1:h=[]:=iQ (by have:=of_decide_eq_false h0;omega)
    obtain⟨r1,r2,r3,r4⟩:=acP cl e (by rw[hh];exact h1)
    rw[hk] at r2;rw[hf] at r3;rw[hs] at r4;have K1:=yY g9 s aj ao rfl;have K2:=yY (fun x:Option It=>(x.getD ⟨0,0⟩).k) s aj 0 rfl
    have K3:=yY (fun x:Option It=>(x.getD ⟨0,0⟩).i) s aj 0 rfl
    have S1:=S0 aj;simp only[K1,K2,K3,S0 aj];subst h1;refine⟨⟨by omega,by omega⟩,⟨by omega,by omega,by omega,by omega⟩,⟨by omega,by omega⟩,⟨i+1,cl,by omega,?_⟩⟩
    rw[r1,r2,r3,r4];exact⟨[0,1,2,6],rfl,⟨rfl,⟨_,rfl,.inl rfl⟩,⟨_,rfl,.inl rfl⟩,⟨_,rfl,.inl rfl⟩,trivial⟩,rfl,rfl,rfl,rfl⟩
  ·obtain rfl:i=l.length:=by have:=of_decide_eq_false hc;omega
   rw[kC] at hh hk hs hf;refine⟨⟨⟨by omega,trivial⟩,by trivial,by trivial,by omega⟩,⟨?_⟩⟩
   subst hh hk hs hf;subst hG;exact⟨[0,1,5,3],rfl,rfl,⟨rfl,⟨_,rfl,.inl rfl⟩,⟨_,rfl,.inl rfl⟩,⟨_,rfl,.inl rfl⟩,trivial⟩,rfl,rfl,rfl,rfl⟩
 ·cases hx
def hasB (l:List Op) (x:It):Bool:=l.any fun o=>o.ins&&decide (o.it=x)
theorem ag' {l:List Op} {i:Nat} (h:i<l.length) (x:It):hasB (l.take (i+1)) x=(hasB (l.take i) x||((l.getD i oz).ins&&decide ((l.getD i oz).it=x))):=by
 rw[take_one h];unfold hasB;rw[List.any_append];simp
theorem X7 {l:List Op} {x:It}:hasB l x=aq↔x∈gw l:=by
 rw[DO];unfold hasB;rw[N_]
 constructor
 ·rintro ⟨o,h1,h2⟩
  rw[aL,decide_eq_true_eq] at h2;exact⟨o,h1,h2.1,h2.2⟩
 ·rintro ⟨o,h1,h2,h3⟩
  exact⟨o,h1,by rw[h2,decide_eq_true h3];rfl⟩
abbrev bX {R:Type} (x:It):Option (SB R):=aa (.inl (31,[.int .i64 x.k,.int .i64 x.i]))
theorem Op.Q3 {a b:Op} (h:a.t=b.t) (h1:a.ins=b.ins) (h2:a.it=b.it):a=b:=by cases a;cases b;cases h;cases h1;cases h2;rfl
instance:DecidableEq Op:=fun a b=>decidable_of_iff (a.t=b.t/\a.ins=b.ins/\a.it=b.it) ⟨fun h=>Op.Q3 h.1 h.2.1 h.2.2,fun h=>by subst h;exact⟨rfl,rfl,rfl⟩⟩
theorem ak3 {a b:Op}:(a.t==b.t&&(a.ins==b.ins&&(a.it.k==b.it.k&&(a.it.i==b.it.i&&aq)&&aq)))=decide (a=b):=by
 rw[Bool.and_true,O2,Bool.eq_iff_iff];simp only[aL,beq_iff_eq,decide_eq_true_eq];exact⟨fun h=>Op.Q3 h.1 h.2.1 h.2.2,fun h=>by subst h;exact⟨rfl,rfl,rfl⟩⟩
def adC {R:Type}:Prim R:=fun args hh=>match args,hh with
 |[.slice (aa ⟨0,0,aa 4000⟩) n c,.agg ⟨[.int .i64 a,.int .i64 b]⟩],[aa (.inr (.inr (.inl r)))]=>aa ⟨r=oR (uO r)/\n=(uO r).length/\(uO r).length≤100,.bool (hasB (uO r) ⟨a,b⟩),aj,hh,[],[]⟩
 |_,_=>aj
theorem ajA {R:Type} {D:fK R}:ck D Tryz.prog 55 (a9 adC):=by
 refine fw Tryz.f55 fun args hh x hx=>?_
 unfold adC at hx;split at hx
 ·rename_i n c a b r;cases hx;refine q4 fun _ hv=>?_
  obtain⟨hr,rfl,hb⟩:=hv;generalize uO r=l at *;subst hr
  generalize hG:ct (R:=R) _ _=G;refine cW (T:=[]) trivial mixed 200 ?_;refine bN (q:=let Z1:=bs av;At D Tryz.prog (dM Tryz.f55) 1 (iD Tryz.prog (dF (dG Tryz.f55)) G) [.inl [1,0,1,0],.inr (.inl 0),.inl [1,1]] (SS.mk (aa (bK (aa ⟨0,0,aa 4000⟩) l.length c)::aa (bE (aO [Z1 a,Z1 b]))::aj::aa (aE (aa ⟨1,0,aj⟩))::aa (aD ao)::aa (Z1 0)::nH (n4 ([]))) [(4,ao)] [aa (.inr (.inr (.inl (oR l)))),aa (.inl (31,[Z1 a,Z1 b]))])) ?_ (by kernel_rfl)
  intro Z1;subst Z1;refine lC (by kernel_rfl) (ι:=Nat) (fun i=>i≤l.length/\hasB (l.take i) ⟨a,b⟩=ao) [0,3,5] (fun i=>[.slice (aa ⟨0,0,aa 4000⟩) l.length c,.pointer (aa ⟨1,0,aj⟩),.int .i64 i]) (fun i=>[vO l,bX ⟨a,b⟩]) (fun i=>l.length-i) 26 (fun i hi=>⟨rfl,rfl,by simp⟩) ⟨0,⟨dx _,rfl⟩,⟨[0,1],rfl,⟨rfl,.inl rfl,trivial⟩,rfl,rfl,rfl,rfl⟩⟩ fun i hi=>?_
  obtain⟨hi,hn⟩:=hi;refine cW (T:=[]) trivial mixed 200 ?_;refine bN (q:=let Z2:=aE (aa ⟨1,0,aj⟩);let Z3:=bs av;let Z1:=(ay (au Op.ins l) (0+(i:Int).toNat) ao);(decide ((↑i:Int)<(↑l.length:Int))=aq->Vc ((0:Int)≤(↑i:Int)/\(↑i:Int)<(↑l.length:Int)/\0+ae l≤ae l)/\Vc (0+(i:Int).toNat<ae l)/\(ay (au Op.ins l) (0+(i:Int).toNat) ao=aq->Vc ((0:Int)≤(↑i:Int)/\(↑i:Int)<(↑l.length:Int)/\0+ae l≤ae l)/\Vc (0+(i:Int).toNat<ae l)/\Vc (aD Z1=aD aq)/\Vc ((0:Int)≤(↑i:Int)/\(↑i:Int)<(↑l.length:Int)/\0+ae l≤ae l)/\Vc (0+(i:Int).toNat<ae l)/\((if ao=aq then !(ay (au (fun o=>It.k (Op.it o)) l) (0+(i:Int).toNat) (0:Int)==a&&(ay (au (fun o=>It.i (Op.it o)) l) (0+(i:Int).toNat) (0:Int)==b&&aq)) else ay (au (fun o=>It.k (Op.it o)) l) (0+(i:Int).toNat) (0:Int)==a&&(ay (au (fun o=>It.i (Op.it o)) l) (0+(i:Int).toNat) (0:Int)==b&&aq))=aq->aY (G (aD aq) [aa (.inr (.inr (.inl (oR l)))),aa (.inl (31,[Z3 a,Z3 b]))]))/\((if ao=aq then !(ay (au (fun o=>It.k (Op.it o)) l) (0+(i:Int).toNat) (0:Int)==a&&(ay (au (fun o=>It.i (Op.it o)) l) (0+(i:Int).toNat) (0:Int)==b&&aq)) else ay (au (fun o=>It.k (Op.it o)) l) (0+(i:Int).toNat) (0:Int)==a&&(ay (au (fun o=>It.i (Op.it o)) l) (0+(i:Int).toNat) (0:Int)==b&&aq))=ao->Vc (fits ((↑i:Int)+(1:Int)))/\aY (∃ j,(j≤ae l/\hasB (gF j l) (It.mk a b)=ao)/\ae l-j<ae l-i/\j4 R 1 26 [0,3,5] [.slice (aa ⟨0,0,aa 4000⟩) l.length c,Z2,Z3 (↑j:Int)] [vO l,bX (It.mk a b)] [aa (bK (aa ⟨0,0,aa 4000⟩) l.length c),aa (Z2),aa (Z3 ((↑i:Int)+(1:Int)))] [aa (.inr (.inr (.inl (oR l)))),aa (.inl (31,[Z3 a,Z3 b]))] 26)))/\(ay (au Op.ins l) (0+(i:Int).toNat) ao=ao->Vc ((0:Int)≤(↑i:Int)/\(↑i:Int)<(↑l.length:Int)/\0+ae l≤ae l)/\Vc (0+(i:Int).toNat<ae l)/\Vc (aD Z1=aD ao)/\Vc (fits ((↑i:Int)+(1:Int)))/\aY (∃ j,(j≤ae l/\hasB (gF j l) (It.mk a b)=ao)/\ae l-j<ae l-i/\j4 R 1 26 [0,3,5] [.slice (aa ⟨0,0,aa 4000⟩) l.length c,Z2,Z3 (↑j:Int)] [vO l,bX (It.mk a b)] [aa (bK (aa ⟨0,0,aa 4000⟩) l.length c),aa (Z2),aa (Z3 ((↑i:Int)+(1:Int)))] [aa (.inr (.inr (.inl (oR l)))),aa (.inl (31,[Z3 a,Z3 b]))] 26)))/\(decide ((↑i:Int)<(↑l.length:Int))=ao->aY (G (aD ao) [aa (.inr (.inr (.inl (oR l)))),aa (.inl (31,[Z3 a,Z3 b]))]))) ?_ (by kernel_rfl)
  intro Z2 Z3 Z1;subst Z1 Z3 Z2;have hx:=O2 (a:=(l.getD i oz).it) (b:=⟨a,b⟩);simp only at hx;simp only[XO,GV Op.ins ao rfl,GV (fun o=>o.it.k) 0 rfl,GV (fun o=>o.it.i) 0 rfl,fu,if_false,hx]
  refine⟨fun h=>?_,fun h=>⟨?_⟩⟩
  ·have cl:i<l.length:=by have:=of_decide_eq_true h;omega
   have b1:(0:Int)≤(i:Int)/\(i:Int)<(l.length:Int)/\0+l.length≤l.length:=⟨by omega,by omega,by omega⟩
   have h1:=ag' cl ⟨a,b⟩;rw[hn,Bool.false_or] at h1;refine⟨⟨b1⟩,⟨cl⟩,fun h2=>⟨⟨b1⟩,⟨cl⟩,⟨congrArg aD h2⟩,⟨b1⟩,⟨cl⟩,fun h3=>⟨?_⟩,fun h3=>⟨⟨by omega,by omega⟩,⟨i+1,⟨cl,by rw[h1,h2,h3];rfl⟩,by omega,⟨[0,1],rfl,⟨rfl,.inl rfl,trivial⟩,rfl,rfl,rfl,rfl⟩⟩⟩⟩,fun h2=>⟨⟨b1⟩,⟨cl⟩,⟨congrArg aD h2⟩,⟨by omega,by omega⟩,⟨i+1,⟨cl,by rw[h1,h2];rfl⟩,by omega,⟨[0,1],rfl,⟨rfl,.inl rfl,trivial⟩,rfl,rfl,rfl,rfl⟩⟩⟩⟩
   have e:hasB l ⟨a,b⟩=aq:=by
    have:hasB (l.take (i+1)) ⟨a,b⟩=aq:=by rw[h1,h2,h3];rfl
    unfold hasB at this ⊢;rw[N_] at this ⊢;obtain⟨o,g1,g2⟩:=this;exact⟨o,rO g1,g2⟩
   subst hG;rw[e];exact⟨[0],rfl,rfl,⟨rfl,trivial⟩,rfl,rfl,rfl,rfl⟩
  ·obtain rfl:i=l.length:=by have:=of_decide_eq_false h;omega
   rw[kC] at hn;subst hG;rw[hn];exact⟨[0],rfl,rfl,⟨rfl,trivial⟩,rfl,rfl,rfl,rfl⟩
 ·cases hx
def kf (old now:List It) (i:Nat):List It:=(now.take i).filter fun x=>!nL x old
abbrev qh (old now:List It):List It:=kf old now now.length
theorem Oj {old now:List It} {i:Nat} (h:i<now.length):kf old now (i+1)=if nL (now.getD i iz) old=aq then kf old now i else kf old now i++[now.getD i iz]:=by
 unfold kf;rw[za h,List.filter_append,ax,bj h];simp only[Option.getD_some,kd,List.filter_nil];cases nL now[i] old<;>simp
theorem Py (old now:List It) (i:Nat):(kf old now i).length≤now.length:=by
 unfold kf;have h1:=List.length_filter_le (fun x=>!nL x old) (now.take i)
 rw[eu] at h1;omega
theorem Js {l:List It} {x:It}:OK l x<0↔nL x l=ao:=by
 unfold OK;cases nL x l
 ·simp
 ·simp
abbrev bC {R:Type} (a b:Value):Option (SB R):=aa (.inl (59,[a,b]))
def TCh {R:Type}:eK R:=[(50,wx z0 2 (a9 atP))]
theorem Vd {R:Type} {D:fK R}:cQ D Tryz.prog (TCh:eK R):=⟨p8 _ _ akK,trivial⟩
def adw {R:Type}:Prim R:=fun args hh=>match args,hh with
 |[.slice (aa ⟨0,0,aa 2000⟩) n c,.slice (aa ⟨1,0,aa 2000⟩) n' c'],[aa (.inr (.inr (.inl r))),aa (.inr (.inr (.inl r')))]=>aa ⟨r=iR (gG r)/\n=(gG r).length/\r'=iR (gG r')/\n'=(gG r').length/\(gG r).length≤100/\(gG r').length≤100,.agg ⟨[.slice (aa ⟨2,0,aa 2000⟩) (qh (gG r) (gG r')).length 0,.slice (aa ⟨3,0,aa 2000⟩) (qh (gG r') (gG r)).length 0]⟩,aj,[aa (.inr (.inr (.inl r))),aa (.inr (.inr (.inl r'))),oI (qh (gG r) (gG r')),oI (qh (gG r') (gG r))],[],[(0,0)]⟩
 |_,_=>aj
theorem ahK {R:Type} {D:fK R}:ck D Tryz.prog 58 (a9 adw):=by
 refine fw Tryz.f58 fun args hh x hx=>?_
 unfold adw at hx;split at hx
 ·rename_i n c n' c' r r';cases hx;refine q4 fun _ hv=>?_
  obtain⟨hr,rfl,uX,rfl,hb,qf⟩:=hv;generalize gG r=l at *;generalize gG r'=l' at *;subst hr;subst uX
  generalize hG:ct (R:=R) _ _=G;refine cW (T:=TCh) Vd mixed 200 ?_;refine bN (q:=At D Tryz.prog (dM Tryz.f58) 2 (iD Tryz.prog (dF (dG Tryz.f58)) G) [.inl [1,1,0,1,0],.inr (.inl 0),.inl [1,1,1]] (SS.mk (aa (bK (aa ⟨0,0,aa 2000⟩) l.length c)::aa (bK (aa ⟨1,0,aa 2000⟩) (ae l') c')::aj::aj::aa (aE (aa ⟨2,0,aj⟩))::aa (aE (aa ⟨3,0,aj⟩))::aa (bs av 0)::nH (nH (n4 (n4 (n4 (aj::aj::[])))))) [] [aa (.inr (.inr (.inl (iR l)))),aa (.inr (.inr (.inl (iR l')))),aa (.inl (59,[.slice aj 0 0,.slice aj 0 0])),aa (.inl (59,[.slice aj 0 0,.slice aj 0 0]))])) ?_ (by kernel_rfl)
  refine lC (by kernel_rfl) (ι:=Nat) (fun i=>i≤l'.length) [0,1,4,5,6] (fun i=>[.slice (aa ⟨0,0,aa 2000⟩) l.length c,.slice (aa ⟨1,0,aa 2000⟩) l'.length c',.pointer (aa ⟨2,0,aj⟩),.pointer (aa ⟨3,0,aj⟩),.int .i64 i]) (fun i=>[vI l,vI l',bC (.slice aj 0 0) (.slice aj 0 0),bC (.slice (aa ⟨4,0,aa 2000⟩) (kf l l' i).length 0) (.slice aj 0 0),oI (kf l l' i)]) (fun i=>l'.length-i) 53 (fun i hi=>⟨rfl,rfl,by simp⟩) ⟨0,dx _,⟨[0,1,2,3,99],rfl,⟨rfl,rfl,.inl rfl,.inl rfl,⟨rfl,iG _,rfl⟩,trivial⟩,rfl,rfl,rfl,rfl⟩⟩ fun i hi=>?_
  refine cW (T:=TCh) Vd mixed 200 ?_;refine bN (q:=let Z8:=aE (aa ⟨3,0,aj⟩);let Z9:=aE (aa ⟨2,0,aj⟩);let cP:=bs av;let Z1:=(gG (rT l 0 l.length));let Z2:=(OK Z1 (It.mk (ay (au It.k l') (0+(i:Int).toNat) (0:Int)) (ay (au It.i l') (0+(i:Int).toNat) (0:Int)))<(0:Int));let Z3:=(bK aj 0 0);let Z4:=(bK (aa ⟨0,0,aa 2000⟩) l.length c);let Z5:=(bK (aa ⟨1,0,aa 2000⟩) (ae l') c');let Z6:=(Z9);let Z7:=(Z8);(decide ((↑i:Int)<(↑(ae l'):Int))=aq->Vc ((0:Int)≤(↑i:Int)/\(↑i:Int)<(↑(ae l'):Int)/\0+ae l'≤ae l')/\Vc (0+(i:Int).toNat<ae l')/\Vc ((0+ae l≤ae l/\True)/\rT l 0 l.length=iR Z1/\ae l=ae Z1/\ae Z1≤100000)/\(decide Z2=aq->Vc ((0:Int)≤(↑i:Int)/\(↑i:Int)<(↑(ae l'):Int)/\0+ae l'≤ae l')/\Vc (0+(i:Int).toNat<ae l')/\Vc (0+ae (kf l l' i)≤ae (kf l l' i)/\1≤1/\(ae (kf l l' i)+1)*16≤140737488355328/\ae (kf l l' i)+1≤140737488355328)/\Vc (fits ((↑i:Int)+(1:Int)))/\aY (∃ j,j≤ae l'/\ae l'-j<ae l'-i/\j4 R 2 53 [0,1,4,5,6] [.slice (aa ⟨0,0,aa 2000⟩) l.length c,.slice (aa ⟨1,0,aa 2000⟩) (ae l') c',Z9,Z8,cP (↑j:Int)] [IZ l,IZ l',bC Z3 Z3,bC (bK (aa ⟨4,0,aa 2000⟩) (ae (kf l l' j)) 0) Z3,oI (kf l l' j)] [aa Z4,aa Z5,aa Z6,aa Z7,aa (cP ((↑i:Int)+(1:Int)))] [aa (.inr (.inr (.inl (iR l)))),aa (.inr (.inr (.inl (iR l')))),aa (.inl (59,[.slice aj 0 0,.slice aj 0 0])),aa (.inl (59,[.slice (aa ⟨6,0,aa 2000⟩) (ae (kf l l' i)+1) 0,.slice aj 0 0])),aj,aa (.inr (.inl (31,Row.mk [cP 0,cP 0] 1 [aT.mk [ay (au It.k l') (0+(i:Int).toNat) (0:Int)] [] [],aT.mk [ay (au It.i l') (0+(i:Int).toNat) (0:Int)] [] []]))),aa (.inr (.inl (31,Row.mk [cP 0,cP 0] (ae (kf l l' i)+1) [aT.mk (cut (au It.k (kf l l' i)) 0 (ae (kf l l' i))++cut [ay (au It.k l') (0+(i:Int).toNat) (0:Int)] 0 1) [] [],aT.mk (cut (au It.i (kf l l' i)) 0 (ae (kf l l' i))++cut [ay (au It.i l') (0+(i:Int).toNat) (0:Int)] 0 1) [] []])))] 53))/\(decide Z2=ao->Vc (fits ((↑i:Int)+(1:Int)))/\aY (∃ j,j≤ae l'/\ae l'-j<ae l'-i/\j4 R 2 53 [0,1,4,5,6] [.slice (aa ⟨0,0,aa 2000⟩) l.length c,.slice (aa ⟨1,0,aa 2000⟩) (ae l') c',Z9,Z8,cP (↑j:Int)] [IZ l,IZ l',bC Z3 Z3,bC (bK (aa ⟨4,0,aa 2000⟩) (ae (kf l l' j)) 0) Z3,oI (kf l l' j)] [aa Z4,aa Z5,aa Z6,aa Z7,aa (cP ((↑i:Int)+(1:Int)))] [aa (.inr (.inr (.inl (iR l)))),aa (.inr (.inr (.inl (iR l')))),aa (.inl (59,[.slice aj 0 0,.slice aj 0 0])),aa (.inl (59,[.slice (aa ⟨4,0,aa 2000⟩) (ae (kf l l' i)) 0,.slice aj 0 0])),aa (.inr (.inl (31,iR (kf l l' i))))] 53)))/\(decide ((↑i:Int)<(↑(ae l'):Int))=ao->At D Tryz.prog (dM Tryz.f58) 2 (iD Tryz.prog (dF (dG Tryz.f58)) G) [.inl [1,1,1,0,1,0],.inr (.inl 2),.inl [1,1,1,1]] (SS.mk (aa Z4::aa Z5::aj::aj::aa Z6::aa Z7::aa (cP (↑i:Int))::aa (cP 0)::aa (cP (↑i:Int))::aa Z5::aa (cP (↑(ae l'):Int))::aa (aD ao)::nH (nH (n4 (n4 (aj::[]))))) [(11,ao)] [aa (.inr (.inr (.inl (iR l)))),aa (.inr (.inr (.inl (iR l')))),aa (.inl (59,[.slice aj 0 0,.slice aj 0 0])),aa (.inl (59,[.slice (aa ⟨4,0,aa 2000⟩) (ae (kf l l' i)) 0,.slice aj 0 0])),aa (.inr (.inl (31,iR (kf l l' i))))]))) ?_ (by kernel_rfl)
  intro Z8 Z9 cP Z1 Z2 Z3 Z4 Z5 Z6 Z7;subst Z7 Z6 Z5 Z4 Z3 Z2 Z1 cP Z9 Z8;have ce:∀ v:Int,cut [v] 0 1=[v]:=fun _=>rfl
  have RR:=Py l l' i;simp only[Zm,Ji It.k 0 rfl,Ji It.i 0 rfl,afG,DN,DX,ce];refine⟨fun h=>?_,fun h=>?_⟩
  ·skip
   have cl:i<l'.length:=by have:=of_decide_eq_true h;omega
   have b1:(0:Int)≤(i:Int)/\(i:Int)<(l'.length:Int)/\0+l'.length≤l'.length:=⟨by omega,by omega,by omega⟩
   refine⟨⟨b1⟩,⟨cl⟩,⟨⟨by omega,trivial⟩,by trivial,by trivial,by omega⟩,fun h2=>⟨⟨b1⟩,⟨cl⟩,⟨by omega,by omega,by omega,by omega⟩,⟨by omega,by omega⟩,⟨i+1,cl,by omega,?_⟩⟩,fun h2=>⟨⟨by omega,by omega⟩,⟨i+1,cl,by omega,?_⟩⟩⟩
   ·have j5:=Js.1 (of_decide_eq_true h2);have e:kf l l' (i+1)=kf l l' i++[l'.getD i iz]:=by rw[Oj cl,if_neg (by rw[j5];decide)]
    have G1:=yY It.k (kf l l' i) (l'.getD i iz) _ rfl;have G2:=yY It.i (kf l l' i) (l'.getD i iz) _ rfl;have NK:(kf l l' i).length+1=(kf l l' i++[l'.getD i iz]).length:=by simp
    rw[e];simp only[G1,G2,NK];exact⟨[0,1,2,3,6],rfl,⟨rfl,rfl,.inl rfl,.inl rfl,⟨_,rfl,.inl rfl⟩,trivial⟩,rfl,rfl,rfl,rfl⟩
   ·have j5:nL (l'.getD i iz) l=aq:=by
     cases c:nL (l'.getD i iz) l
     ·exact absurd (Js.2 c) (of_decide_eq_false h2)
     ·rfl
    rw[Oj cl,if_pos j5];exact⟨[0,1,2,3,4],rfl,⟨rfl,rfl,.inl rfl,.inl rfl,⟨_,rfl,.inl rfl⟩,trivial⟩,rfl,rfl,rfl,rfl⟩
  obtain rfl:i=l'.length:=by have:=of_decide_eq_false h;omega
  refine lC (by kernel_rfl) (ι:=Nat) (fun i=>i≤l.length) [0,1,4,5,7] (fun i=>[.slice (aa ⟨0,0,aa 2000⟩) l.length c,.slice (aa ⟨1,0,aa 2000⟩) l'.length c',.pointer (aa ⟨2,0,aj⟩),.pointer (aa ⟨3,0,aj⟩),.int .i64 i]) (fun i=>[vI l,vI l',bC (.slice aj 0 0) (.slice aj 0 0),bC (.slice (aa ⟨4,0,aa 2000⟩) (kf l l' l'.length).length 0) (.slice (aa ⟨5,0,aa 2000⟩) (kf l' l i).length 0),oI (kf l l' l'.length),oI (kf l' l i)]) (fun i=>l.length-i) 53 (fun i hi=>⟨rfl,rfl,by simp⟩) ⟨0,dx _,⟨[0,1,2,3,4,99],rfl,⟨rfl,rfl,.inl rfl,.inl rfl,⟨_,rfl,.inl rfl⟩,⟨rfl,iG _,rfl⟩,trivial⟩,rfl,rfl,rfl,rfl⟩⟩ fun i hi=>?_
  refine cW (T:=TCh) Vd mixed 200 ?_;refine bN (q:=let Z6:=aE (aa ⟨3,0,aj⟩);let Z7:=aE (aa ⟨2,0,aj⟩);let Z8:=bs av;let Z1:=(ae l');let Z2:=(OK (gG (rT l' 0 Z1)) (It.mk (ay (au It.k l) (0+(i:Int).toNat) (0:Int)) (ay (au It.i l) (0+(i:Int).toNat) (0:Int)))<(0:Int));let Z3:=(ae (kf l l' Z1));let Z4:=(bK (aa ⟨0,0,aa 2000⟩) l.length c);let Z5:=(ae (kf l' l i));(decide ((↑i:Int)<(↑l.length:Int))=aq->Vc ((0:Int)≤(↑i:Int)/\(↑i:Int)<(↑l.length:Int)/\0+ae l≤ae l)/\Vc (0+(i:Int).toNat<ae l)/\Vc ((0+ae l'≤ae l'/\True)/\rT l' 0 Z1=iR (gG (rT l' 0 Z1))/\ae l'=ae (gG (rT l' 0 Z1))/\ae (gG (rT l' 0 Z1))≤100000)/\(decide Z2=aq->Vc ((0:Int)≤(↑i:Int)/\(↑i:Int)<(↑l.length:Int)/\0+ae l≤ae l)/\Vc (0+(i:Int).toNat<ae l)/\Vc (0+ae (kf l' l i)≤ae (kf l' l i)/\1≤1/\(ae (kf l' l i)+1)*16≤140737488355328/\ae (kf l' l i)+1≤140737488355328)/\Vc (fits ((↑i:Int)+(1:Int)))/\aY (∃ j,j≤ae l/\ae l-j<ae l-i/\j4 R 2 53 [0,1,4,5,7] [.slice (aa ⟨0,0,aa 2000⟩) l.length c,.slice (aa ⟨1,0,aa 2000⟩) Z1 c',Z7,Z6,Z8 (↑j:Int)] [IZ l,IZ l',bC (bK aj 0 0) (bK aj 0 0),bC (bK (aa ⟨4,0,aa 2000⟩) Z3 0) (bK (aa ⟨5,0,aa 2000⟩) (ae (kf l' l j)) 0),oI (kf l l' Z1),oI (kf l' l j)] [aa Z4,aa (bK (aa ⟨1,0,aa 2000⟩) Z1 c'),aa (Z7),aa (Z6),aa (Z8 ((↑i:Int)+(1:Int)))] [aa (.inr (.inr (.inl (iR l)))),aa (.inr (.inr (.inl (iR l')))),aa (.inl (59,[.slice aj 0 0,.slice aj 0 0])),aa (.inl (59,[.slice (aa ⟨4,0,aa 2000⟩) Z3 0,.slice (aa ⟨7,0,aa 2000⟩) (ae (kf l' l i)+1) 0])),aa (.inr (.inl (31,iR (kf l l' Z1)))),aj,aa (.inr (.inl (31,Row.mk [Z8 0,Z8 0] 1 [aT.mk [ay (au It.k l) (0+(i:Int).toNat) (0:Int)] [] [],aT.mk [ay (au It.i l) (0+(i:Int).toNat) (0:Int)] [] []]))),aa (.inr (.inl (31,Row.mk [Z8 0,Z8 0] (ae (kf l' l i)+1) [aT.mk (cut (au It.k (kf l' l i)) 0 Z5++cut [ay (au It.k l) (0+(i:Int).toNat) (0:Int)] 0 1) [] [],aT.mk (cut (au It.i (kf l' l i)) 0 Z5++cut [ay (au It.i l) (0+(i:Int).toNat) (0:Int)] 0 1) [] []])))] 53))/\(decide Z2=ao->Vc (fits ((↑i:Int)+(1:Int)))/\aY (∃ j,j≤ae l/\ae l-j<ae l-i/\j4 R 2 53 [0,1,4,5,7] [.slice (aa ⟨0,0,aa 2000⟩) l.length c,.slice (aa ⟨1,0,aa 2000⟩) Z1 c',Z7,Z6,Z8 (↑j:Int)] [IZ l,IZ l',bC (bK aj 0 0) (bK aj 0 0),bC (bK (aa ⟨4,0,aa 2000⟩) Z3 0) (bK (aa ⟨5,0,aa 2000⟩) (ae (kf l' l j)) 0),oI (kf l l' Z1),oI (kf l' l j)] [aa Z4,aa (bK (aa ⟨1,0,aa 2000⟩) Z1 c'),aa (Z7),aa (Z6),aa (Z8 ((↑i:Int)+(1:Int)))] [aa (.inr (.inr (.inl (iR l)))),aa (.inr (.inr (.inl (iR l')))),aa (.inl (59,[.slice aj 0 0,.slice aj 0 0])),aa (.inl (59,[.slice (aa ⟨4,0,aa 2000⟩) Z3 0,.slice (aa ⟨5,0,aa 2000⟩) Z5 0])),aa (.inr (.inl (31,iR (kf l l' Z1)))),aa (.inr (.inl (31,iR (kf l' l i))))] 53)))/\(decide ((↑i:Int)<(↑l.length:Int))=ao->aY (G (bE (aO [.slice (aa ⟨4,0,aa 2000⟩) Z3 0,.slice (aa ⟨5,0,aa 2000⟩) Z5 0])) [aa (.inr (.inr (.inl (iR l)))),aa (.inr (.inr (.inl (iR l')))),aa (.inl (59,[.slice (aa ⟨4,0,aa 2000⟩) Z3 0,.slice (aa ⟨5,0,aa 2000⟩) Z5 0])),aa (.inl (59,[.slice (aa ⟨4,0,aa 2000⟩) Z3 0,.slice (aa ⟨5,0,aa 2000⟩) Z5 0])),aa (.inr (.inl (31,iR (kf l l' Z1)))),aa (.inr (.inl (31,iR (kf l' l i))))]))) ?_ (by kernel_rfl)
  intro Z6 Z7 Z8 Z1 Z2 Z3 Z4 Z5;subst Z5 Z4 Z3 Z2 Z1 Z8 Z7 Z6;have RR:=Py l' l i;simp only[Zm,Ji It.k 0 rfl,Ji It.i 0 rfl,DN,DX,ce];refine⟨fun h=>?_,fun h=>⟨?_⟩⟩
  ·have cl:i<l.length:=by have:=of_decide_eq_true h;omega
   have b1:(0:Int)≤(i:Int)/\(i:Int)<(l.length:Int)/\0+l.length≤l.length:=⟨by omega,by omega,by omega⟩
   refine⟨⟨b1⟩,⟨cl⟩,⟨⟨by omega,trivial⟩,by trivial,by trivial,by omega⟩,fun h2=>⟨⟨b1⟩,⟨cl⟩,⟨by omega,by omega,by omega,by omega⟩,⟨by omega,by omega⟩,⟨i+1,cl,by omega,?_⟩⟩,fun h2=>⟨⟨by omega,by omega⟩,⟨i+1,cl,by omega,?_⟩⟩⟩
   ·have j5:=Js.1 (of_decide_eq_true h2);have e:kf l' l (i+1)=kf l' l i++[l.getD i iz]:=by rw[Oj cl,if_neg (by rw[j5];decide)]
    have G1:=yY It.k (kf l' l i) (l.getD i iz) _ rfl;have G2:=yY It.i (kf l' l i) (l.getD i iz) _ rfl;have NK:(kf l' l i).length+1=(kf l' l i++[l.getD i iz]).length:=by simp
    rw[e];simp only[G1,G2,NK];exact⟨[0,1,2,3,4,7],rfl,⟨rfl,rfl,.inl rfl,.inl rfl,⟨_,rfl,.inl rfl⟩,⟨_,rfl,.inl rfl⟩,trivial⟩,rfl,rfl,rfl,rfl⟩
   ·have j5:nL (l.getD i iz) l'=aq:=by
     cases c:nL (l.getD i iz) l'
     ·exact absurd (Js.2 c) (of_decide_eq_false h2)
     ·rfl
    rw[Oj cl,if_pos j5];exact⟨[0,1,2,3,4,5],rfl,⟨rfl,rfl,.inl rfl,.inl rfl,⟨_,rfl,.inl rfl⟩,⟨_,rfl,.inl rfl⟩,trivial⟩,rfl,rfl,rfl,rfl⟩
  ·obtain rfl:i=l.length:=by have:=of_decide_eq_false h;omega
   subst hG;exact⟨[0,1,4,5],rfl,rfl,⟨rfl,rfl,⟨_,rfl,.inl rfl⟩,⟨_,rfl,.inl rfl⟩,trivial⟩,rfl,rfl,rfl,rfl⟩
 ·cases hx
end Pa
namespace Rx
set_option maxRecDepth 100000
def wv (a n:Int):Int:=((a.tmod n)+n).tmod n
theorem Mn {a n:Int} (h:0<n):0≤wv a n/\wv a n<n:=by
 have h1:0≤a.tmod n+n:=by have:=C2 a h;have:=KQ a h;omega
 exact⟨Int.tmod_nonneg _ h1,C2 _ h⟩
def Tg {R:Type}:Prim R:=fun args hh=>match args,hh with
 |[.int .i64 a,.int .i64 n],[]=>aa ⟨0<n/\n<1000000,.int .i64 (wv a n),aj,hh,[],[]⟩
 |_,_=>aj
theorem Xe {R:Type} {D:fK R}:ck D Tryz.prog 33 (a9 Tg):=by
 refine fw Tryz.f33 fun args hh x hx=>?_
 unfold Tg at hx;split at hx
 ·rename_i a n;cases hx;refine q4 fun _ hv=>?_
  generalize hG:ct (R:=R) _ _=G;refine cW (T:=[]) trivial mixed 200 ?_;refine bN (q:=Vc (n≠(0:Int))/\Vc (fits (Wk a n+n))/\Vc (n≠(0:Int))/\aY (G (bs av (Wk (Wk a n+n) n)) [])) ?_ (by kernel_rfl)
  subst hG;have h1:=C2 a hv.1;have h2:=KQ a hv.1;refine⟨⟨by omega⟩,⟨⟨by omega,by omega⟩⟩,⟨by omega⟩,⟨⟨[],rfl,rfl,trivial,rfl,rfl,rfl,rfl⟩⟩⟩
 ·cases hx
end Rx
namespace Pa
open Rx Wv Sh
set_option maxRecDepth 100000
set_option maxHeartbeats 8000000
def z01:Nat->Bool:=fun i=>match i with|0=>aq|1=>aq|_=>ao
def TSm {R:Type}:eK R:=[(26,wx z01 2 (a9 YG))]
theorem ahZ {R:Type} {D:fK R}:cQ D Tryz.prog (TSm:eK R):=⟨p8 _ _ agU,trivial⟩
def ZH {R:Type}:Prim R:=fun args hh=>match args,hh with
 |[.agg ⟨[.slice (aa ⟨0,0,aa 2000⟩) a y0,.slice (aa ⟨1,0,aa 2000⟩) b y1]⟩,.agg ⟨[.slice (aa ⟨2,0,aa 2000⟩) c y2,.slice (aa ⟨3,0,aa 2000⟩) d y3]⟩],[aa (.inr (.inl (q0,r0))),aa (.inr (.inl (q1,r1))),aa (.inr (.inl (q2,r2))),aa (.inr (.inl (q3,r3)))]=>aa ⟨(q0=31/\q1=31/\q2=31/\q3=31)/\(r0=iR (gG r0)/\a=(gG r0).length/\(gG r0).length≤1000)/\(r1=iR (gG r1)/\b=(gG r1).length/\(gG r1).length≤1000)/\(r2=iR (gG r2)/\c=(gG r2).length/\(gG r2).length≤1000)/\(r3=iR (gG r3)/\d=(gG r3).length/\(gG r3).length≤1000),.bool (decide (gG r0=gG r2)&&decide (gG r1=gG r3)),aj,hh,[],[]⟩
 |_,_=>aj
theorem agk {R:Type} {D:fK R}:ck D Tryz.prog 57 (a9 ZH):=by
 refine fw Tryz.f57 fun args hh x hx=>?_
 unfold ZH at hx;split at hx
 ·rename_i a y0 b y1 c y2 d y3 q0 r0 q1 r1 q2 r2 q3 r3;cases hx;refine q4 fun _ hv=>?_
  obtain⟨⟨rfl,rfl,rfl,rfl⟩,⟨e0,rfl,h0⟩,⟨e1,rfl,h1⟩,⟨e2,rfl,h2⟩,⟨e3,rfl,h3⟩⟩:=hv;generalize gG r0=w0 at *;subst e0;generalize gG r1=w1 at *;subst e1;generalize gG r2=w2 at *;subst e2;generalize gG r3=w3 at *;subst e3
  generalize hG:ct (R:=R) _ _=G;refine cW (T:=TSm) ahZ mixed 200 ?_;refine bN (q:=let Z1:=(gG (rT w0 0 w0.length));let Z2:=(gG (rT w0 0 w0.length)=gG (rT w2 0 w2.length));let Z3:=(gG (rT w1 0 w1.length));Vc ((0+ae w0≤ae w0/\0+ae w2≤ae w2/\True)/\rT w0 0 w0.length=iR Z1/\ae w0=ae Z1/\rT w2 0 w2.length=iR (gG (rT w2 0 w2.length))/\ae w2=ae (gG (rT w2 0 w2.length))/\ae Z1≤100000)/\(decide Z2=aq->Vc ((0+ae w1≤ae w1/\0+ae w3≤ae w3/\True)/\rT w1 0 w1.length=iR Z3/\ae w1=ae Z3/\rT w3 0 w3.length=iR (gG (rT w3 0 w3.length))/\ae w3=ae (gG (rT w3 0 w3.length))/\ae Z3≤100000)/\aY (G (aD (decide (gG (rT w1 0 w1.length)=gG (rT w3 0 w3.length)))) [aa (.inr (.inl (31,iR w0))),aa (.inr (.inl (31,iR w1))),aa (.inr (.inl (31,iR w2))),aa (.inr (.inl (31,iR w3))),aa (.inl (59,[.slice (aa ⟨0,0,aa 2000⟩) w0.length y0,.slice (aa ⟨1,0,aa 2000⟩) w1.length y1])),aa (.inl (59,[.slice (aa ⟨2,0,aa 2000⟩) w2.length y2,.slice (aa ⟨3,0,aa 2000⟩) w3.length y3]))]))/\(decide Z2=ao->aY (G (aD ao) [aa (.inr (.inl (31,iR w0))),aa (.inr (.inl (31,iR w1))),aa (.inr (.inl (31,iR w2))),aa (.inr (.inl (31,iR w3))),aa (.inl (59,[.slice (aa ⟨0,0,aa 2000⟩) w0.length y0,.slice (aa ⟨1,0,aa 2000⟩) w1.length y1])),aa (.inl (59,[.slice (aa ⟨2,0,aa 2000⟩) w2.length y2,.slice (aa ⟨3,0,aa 2000⟩) w3.length y3]))]))) ?_ (by kernel_rfl)
  intro Z1 Z2 Z3;subst Z3 Z2 Z1;simp only[DN,DX];have done:∀ (v:Bool) (rest:Hp R),v=(decide (w0=w2)&&decide (w1=w3))->G (.bool v) (oI w0::oI w1::oI w2::oI w3::rest):=by
   intro v rest e;subst e;subst hG;exact⟨[0,1,2,3],rfl,rfl,⟨⟨_,rfl,.inl rfl⟩,⟨_,rfl,.inl rfl⟩,⟨_,rfl,.inl rfl⟩,⟨_,rfl,.inl rfl⟩,trivial⟩,rfl,rfl,rfl,rfl⟩
  clear hG;refine⟨⟨⟨by omega,by omega,trivial⟩,by trivial,by trivial,by trivial,by trivial,by omega⟩,fun h=>⟨⟨⟨by omega,by omega,trivial⟩,by trivial,by trivial,by trivial,by trivial,by omega⟩,⟨done _ _ (by rw[h];rfl)⟩⟩,fun h=>⟨done _ _ (by rw[h];rfl)⟩⟩
 ·cases hx
structure Act where
 k:Int
 t:Int
 d:Bool
 x:It
def fm (a:Act) (l:List Op):Int:=if a.d=aq/\l≠[] then(l.getD (wv a.t l.length).toNat oz).t else a.t
def TTm {R:Type}:eK R:=[(33,bM zN 2 (a9 Tg))]
theorem ai' {R:Type} {D:fK R}:cQ D Tryz.prog (TTm:eK R):=⟨aX _ _ Xe,trivial⟩
def ac' {R:Type}:Prim R:=fun args hh=>match args,hh with
 |[.agg ⟨[.int .i64 k0,.int .i64 k1,.bool k2,.int .i64 k3,.int .i64 k4]⟩,.slice (aa ⟨0,0,aa 4000⟩) n c],[aa (.inr (.inr (.inl r)))]=>aa ⟨r=oR (uO r)/\n=(uO r).length/\(uO r).length≤100,.int .i64 (fm ⟨k0,k1,k2,⟨k3,k4⟩⟩ (uO r)),aj,hh,[],[]⟩
 |_,_=>aj
theorem ah_ {R:Type} {D:fK R}:ck D Tryz.prog 32 (a9 ac'):=by
 refine fw Tryz.f32 fun args hh x hx=>?_
 unfold ac' at hx;split at hx
 ·rename_i k0 k1 k2 k3 k4 n c r;cases hx;refine q4 fun _ hv=>?_
  obtain⟨hr,rfl,hb⟩:=hv;generalize uO r=l at *;subst hr
  generalize hG:ct (R:=R) _ _=G;refine cW (T:=TTm) ai' mixed 200 ?_;refine bN (q:=let Z2:=bs av;let Z1:=(↑l.length:Int);((!k2)=ao->((Z1==(0:Int))=aq->aY (G (Z2 k1) [aa (.inr (.inr (.inl (oR l)))),aa (.inl (33,[Z2 k0,Z2 k1,.bool k2,Z2 k3,Z2 k4]))]))/\((Z1==(0:Int))=ao->Vc ((0:Int)<Z1/\Z1<(1000000:Int))/\Vc ((0:Int)≤wv k1 Z1/\wv k1 Z1<Z1/\0+ae l≤ae l)/\Vc (0+aI (wv k1 Z1)<ae l)/\aY (G (Z2 (ay (au Op.t l) (0+aI (wv k1 Z1)) (0:Int))) [aa (.inr (.inr (.inl (oR l)))),aa (.inl (33,[Z2 k0,Z2 k1,.bool k2,Z2 k3,Z2 k4]))])))/\((!k2)=aq->aY (G (Z2 k1) [aa (.inr (.inr (.inl (oR l)))),aa (.inl (33,[Z2 k0,Z2 k1,.bool k2,Z2 k3,Z2 k4]))]))) ?_ (by kernel_rfl)
  intro Z2 Z1;subst Z1 Z2;have done:∀ (v:Int) (rest:Hp R),v=fm ⟨k0,k1,k2,⟨k3,k4⟩⟩ l->G (.int .i64 v) (vO l::rest):=by
   intro v rest e;subst e;subst hG;exact⟨[0],rfl,rfl,⟨rfl,trivial⟩,rfl,rfl,rfl,rfl⟩
  clear hG;refine⟨fun h=>⟨fun h2=>⟨?_⟩,fun h2=>?_⟩,fun h=>⟨?_⟩⟩
  ·have h3:l=[]:=iQ (by have:=eq_of_beq h2;omega)
   exact done _ _ (by unfold fm;rw[if_neg (fun c=>c.2 h3)])
  ·have h3:0<l.length:=by have:=ne_of_beq_false h2;omega
   have hr:=Mn (a:=k1) (n:=l.length) (by omega)
   have hk:k2=aq:=by simpa using h
   refine⟨⟨by omega,by omega⟩,⟨hr.1,hr.2,by omega⟩,⟨by omega⟩,⟨done _ _ ?_⟩⟩
   unfold fm;rw[if_pos ⟨hk,DD h3⟩,GV Op.t 0 rfl,b5]
  ·have hk:k2=ao:=by simpa using h
   exact done _ _ (by unfold fm;rw[if_neg (fun c=>by rw[hk] at c;cases c.1)])
 ·cases hx
end Pa
namespace Pa
open Rx Wv Br
open Sh (rG wz mJ sl nL)
def opM (m:Mk):Op:=⟨m.t,m.ins,m.it⟩
def QS.ops (q:QS):List Op:=q.mt.l.map opM
theorem ai3 (H:List It) (l:List Op):(gm H l).map opM=l:=by
 unfold gm;rw[Wl];exact List.map_id'' (fun o=>rfl) l
theorem HQ.ops {q:QS} {l:List Op} {c:Int} {n:Nat} (h:HQ q l c n):q.ops=l:=by
 unfold QS.ops;rw[h.m0,tX,ai3]
theorem HQ.mono {q:QS} {l:List Op} {c:Int} {n n':Nat} (h:HQ q l c n) (hn:n≤n'):HQ q l c n':=by
 obtain⟨v1,v2,v3⟩:=h.vb;exact⟨h.mq.up hn (nq _),h.tm,h.nd,h.dl,h.len,h.Gb,by omega,by omega,by omega⟩
theorem HQ.cap {q:QS} {l:List Op} {c:Int} {n:Nat} (h:HQ q l c n):q.cap=c:=h.mq.cap
abbrev QS.Ok (q:QS):Prop:=HQ q q.ops q.cap 90000
theorem HQ.ok {q:QS} {l:List Op} {c:Int} (h:HQ q l c 90000):q.Ok:=by
 unfold QS.Ok;rw[h.ops,h.cap];exact h
theorem HQ.lV {q:QS} {l:List Op} {c:Int} {n:Nat} (h:HQ q l c n) (hn:n≤90000):q.gE:=h.mq.lV (by omega)
theorem HQ.pR {q:QS} {l:List Op} {c:Int} {n:Nat} (h:HQ q l c n):rh q=pR l:=MQ.pR (H:=fin [] l) h.mq
def QS.qA (q:QS):Int:=q.mt.m.cY+q.pr.m.cY+q.gn.m.cY
def nQ (l:List Op) (c t:Int) (x:It):Int:=if(l.length:Int)=c then 10 else if 0≤kY l t then 11 else if hasB l x=aq then 2 else 0
def pE (l:List Op) (c t:Int):Int:=if(l.length:Int)=c then 10 else if 0≤kY l t then 11 else 0
def vk (l:List Op) (t:Int):Int:=if kY l t<0 then 14 else 0
def jx (l:List Op) (c t:Int) (x:It):List Op:=if nQ l c t x=0 then rL l ⟨t,aq,x⟩ else l
def jE (l:List Op) (c t:Int):List Op:=if pE l c t=0 then rL l ⟨t,ao,iz⟩ else l
def kW (l:List Op) (t:Int):List Op:=if vk l t=0 then I3 l (kY l t).toNat else l
abbrev dw (l l':List Op):List It:=qh (fin [] l) (fin [] l')
theorem Ll {l:List Op} {t:Int} (h:Ej l t):kY l t = -1:=by
 unfold kY;rw[if_neg];intro k;rw[List.findIdx_lt_length] at k;obtain⟨o,ho,e⟩:=k;exact h o ho (by simpa using e)
theorem YV {l:List Op} {t:Int} {k:Nat} (h:Tm l) (hk:k<l.length) (ht:(og l k).t=t):kY l t=k:=by
 unfold kY;have e:l.findIdx (fun o=>o.t==t)=k:=by
  rw[List.findIdx_eq hk];have eg:∀ j (hj:j<l.length),l[j]=og l j:=fun j hj=>by rw[og,ax,bj hj];rfl
  refine⟨by rw[eg,ht];simp,fun j hj=>?_⟩
  have h2:=List.pairwise_iff_getElem.1 h j k (by omega) hk hj
  rw[eg,eg,ht] at h2;rw[eg];simp only[beq_eq_false_iff_ne];omega
 rw[e,if_pos hk]
theorem p6 (a:List It):qh a a=[]:=by
 unfold qh kf;rw[kC,tO];intro x hx;rw[uw.2 hx];decide
theorem Lj {a b:List It} (h:∀ x,x∈b->x∈a):qh a b=[]:=by
 unfold qh kf;rw[kC,tO];intro x hx;rw[uw.2 (h x hx)];decide
theorem nin {x:It} {a:List It} (h:x∉a):nL x a=ao:=by
 rw[Bool.eq_false_iff];exact fun c=>h (uw.1 c)
theorem aaG {z:It} {a:List It} (h:z∉a):qh a (hO z a)=[z]:=by
 have key:∀ r:List It,(∀ x,x∈r->x∈a)->(hO z r).filter (fun x=>!nL x a)=[z]:=fun r=>by
  induction r with
  |nil=>intro _;unfold hO;rw[kd,nin h];rfl
  |cons y r ih =>
   intro hr;have h0:(y::r).filter (fun x=>!nL x a)=[]:=by
    rw[tO];intro x hx;rw[uw.2 (hr x hx)];decide
   unfold hO;split
   ·rw[kd,nin h,h0];rfl
   ·rw[kd,uw.2 (hr y List.mem_cons_self),ih fun x hx=>hr x (List.mem_cons_of_mem _ hx)];rfl
 unfold qh kf;rw[kC];exact key a fun x hx=>hx
theorem aco {z:It} {a:List It} (ho:Ord a) (h:z∈a):qh (pN z a) a=[z]:=by
 have e:a.filter (fun x=>!nL x (pN z a))=a.filter (fun x=>decide (x=z)):=List.filter_congr fun x hx=>by
  by_cases c:x=z
  ·rw[nin (fun k=>(ph.1 k).2 c),decide_eq_true c];rfl
  ·rw[uw.2 (ph.2 ⟨hx,c⟩),decide_eq_false c];rfl
 have key:∀ r:List It,Ord r->z∈r->r.filter (fun x=>decide (x=z))=[z]:=fun r=>by
  induction r with
  |nil=>intro _ h;cases h
  |cons y r ih =>
   intro ho h;rw[kd]
   by_cases c:y=z
   ·subst c;rw[decide_eq_true rfl,if_pos rfl]
    congr 1
    rw[tO];intro x hx;rw[decide_eq_false];· decide
    intro e;subst e;exact yu ho hx
   ·rw[decide_eq_false c,if_neg (by decide)]
    exact ih (D9 ho) ((bR.1 h).resolve_left fun e=>c e.symm)
 unfold qh kf;rw[kC,e];exact key a ho h
theorem Oa {q q':QS} {k:Int} (h:q'.mt.m.cY≤q.mt.m.cY+k/\q'.pr.m.cY≤q.pr.m.cY+k/\q'.gn.m.cY≤q.gn.m.cY+k) (hk:k≤20000) (l:List Op):q'.qA≤q.qA+10000*(uR l.length+4:Nat):=by
 have:2≤uR l.length:=by unfold uR;omega
 unfold QS.qA;omega
theorem HQ.look {q q':QS} {l:List Op} {c:Int} {n:Nat} {k:Int} (h:HQ q l c n) (m:MQ q' (bY l) (fin [] l) (gn l) c n q k) (hk:k≤20000) :
  HQ q' l c (n+1)/\q'.qA≤q.qA+10000*(uR l.length+4:Nat):=by
 have v1:=m.v1;have v2:=m.v2;have v3:=m.v3;exact⟨HQ.mk' (m.up (n':=n+1) (k':=90000) (by omega) (by omega)) h.vb (by omega) (by omega) h.tm h.nd h.dl h.len h.Gb,Oa ⟨v1.2,v2.2,v3.2⟩ hk l⟩
theorem Hs {q:QS} {l:List Op} {c:Int} {n:Nat} {t:Int} {x:It} (h:HQ q l c n) (wV:l.length≤59) (hn:n≤90000) :
  Ty q t x/\EE q t x=nQ l c t x/\HQ (kI q t x) (jx l c t x) c (n+10)/\(kI q t x).qA≤q.qA+10000*(uR l.length+4:Nat)/\wo q t x=dw l (jx l c t x)/\dw (jx l c t x) l=[]:=by
 have hB:=h.Yn (by omega)
 have fq:=h.lV hn;obtain⟨r1,r2,r3⟩:=h.ref t;have m1:=h.mq.Zp hB (by omega) t
 have no:∀ {e:Int},mU q t=e->e≠0->nQ l c t x=e->Ty q t x/\EE q t x=nQ l c t x/\HQ (kI q t x) (jx l c t x) c (n+10)/\(kI q t x).qA≤q.qA+10000*(uR l.length+4:Nat)/\wo q t x=dw l (jx l c t x)/\dw (jx l c t x) l=[]:=fun {e} h1 h2 h3=>by
  have h0:¬ mU q t=0:=by rw[h1];exact h2
  have eL:jx l c t x=l:=by unfold jx;rw[h3,if_neg h2]
  have eQ:kI q t x=nP q t:=by unfold kI;rw[if_neg h0]
  have L:=h.look m1 (by omega)
  rw[eL,eQ];refine⟨⟨fq,fun c=>absurd c h0⟩,?_,L.1.mono (by omega),L.2,?_,p6 _⟩
  ·unfold EE;rw[if_neg h0,h1,h3]
  ·unfold wo dw;rw[if_neg h0,p6]
 by_cases c1:(l.length:Int)=c
 ·exact no (r1 c1) (by decide) (by unfold nQ;rw[if_pos c1])
 ·rcases KS l t with c2|⟨k,hk,ht⟩
  ·by_cases c3:x∈gw l
   ·have h0:=r3 c1 c2;have lR:AO (nP q t) x=aq:=(h.ind x).2 c3;have eE:nQ l c t x=2:=by unfold nQ;rw[if_neg c1,Ll c2,if_neg (by decide),if_pos (X7.2 c3)]
    have eL:jx l c t x=l:=by unfold jx;rw[eE,if_neg (by decide)]
    have eQ:kI q t x=L1 q t x:=by unfold kI;rw[if_pos h0,if_pos lR]
    have m2:=m1.ahs hB (by omega) x
    have L:=h.look m2 (by omega)
    rw[eL,eQ,eE];refine⟨⟨fq,fun _ k=>absurd (lR.symm.trans k) (by decide)⟩,?_,L.1.mono (by omega),L.2,?_,p6 _⟩
    ·unfold EE;rw[if_pos h0,if_pos lR]
    ·unfold wo dw;rw[if_pos h0,if_pos lR,p6]
   ·obtain⟨g1,g2,g3,v1,v2,v3,g4,g5⟩:=ahA h wV hn c1 c2 c3;have eE:nQ l c t x=0:=by unfold nQ;rw[if_neg c1,Ll c2,if_neg (by decide),if_neg (fun k=>c3 (X7.1 k))]
    have eL:jx l c t x=kZ l (ni t l) ⟨t,aq,x⟩:=by unfold jx;rw[eE,if_pos rfl];rfl
    rw[eL,eE];refine⟨g1,g2,g3,Oa ⟨v1,v2,v3⟩ (by omega) l,?_,?_⟩
    ·unfold dw
     by_cases hb:qy l (ni t l)<0
     ·rw[(g4 hb).1,(g4 hb).2,p6]
     ·obtain⟨z,a1,a2,a3⟩:=g5 hb;rw[a2,a3,aaG a1]
    ·unfold dw
     by_cases hb:qy l (ni t l)<0
     ·rw[(g4 hb).2,p6]
     ·obtain⟨z,a1,a2,a3⟩:=g5 hb;rw[a3];exact Lj fun w hw=>jW.2 (.inr hw)
  ·have nf:¬ Ej l t:=fun f=>f _ (OI hk) ht
   exact no (r2 c1 nf) (by decide) (by unfold nQ;rw[if_neg c1,YV h.tm hk ht,if_pos (by omega)])
theorem GW {q:QS} {l:List Op} {c:Int} {n:Nat} {t:Int} (h:HQ q l c n) (wV:l.length≤59) (hn:n≤90000) :
  Tc q t/\mU q t=pE l c t/\HQ (kp q t) (jE l c t) c (n+10)/\(kp q t).qA≤q.qA+10000*(uR l.length+4:Nat)/\dw l (jE l c t)=[]/\C7 q t=dw (jE l c t) l:=by
 have hB:=h.Yn (by omega)
 have fq:=h.lV hn;obtain⟨r1,r2,r3⟩:=h.ref t;have m1:=h.mq.Zp hB (by omega) t
 have no:∀ {e:Int},mU q t=e->e≠0->pE l c t=e->Tc q t/\mU q t=pE l c t/\HQ (kp q t) (jE l c t) c (n+10)/\(kp q t).qA≤q.qA+10000*(uR l.length+4:Nat)/\dw l (jE l c t)=[]/\C7 q t=dw (jE l c t) l:=fun {e} h1 h2 h3=>by
  have h0:¬ mU q t=0:=by rw[h1];exact h2
  have eL:jE l c t=l:=by unfold jE;rw[h3,if_neg h2]
  have eQ:kp q t=nP q t:=by unfold kp;rw[if_neg h0]
  have L:=h.look m1 (by omega)
  rw[eL,eQ];refine⟨⟨fq,fun c=>absurd c h0⟩,by rw[h1,h3],L.1.mono (by omega),L.2,p6 _,?_⟩
  unfold C7 dw;rw[if_neg h0,p6]
 by_cases c1:(l.length:Int)=c
 ·exact no (r1 c1) (by decide) (by unfold pE;rw[if_pos c1])
 ·rcases KS l t with c2|⟨k,hk,ht⟩
  ·obtain⟨g1,g3,v1,v2,v3,g4⟩:=akq h wV hn c1 c2;have eE:pE l c t=0:=by unfold pE;rw[if_neg c1,Ll c2,if_neg (by decide)]
   have eL:jE l c t=kZ l (ni t l) ⟨t,ao,iz⟩:=by unfold jE;rw[eE,if_pos rfl];rfl
   rw[eL,eE];refine⟨g1,r3 c1 c2,g3,Oa ⟨v1,v2,v3⟩ (by omega) l,?_,?_⟩
   ·unfold dw;rcases g4 with⟨a1,a2⟩|⟨z,a1,a2,a3⟩
    ·rw[a2,p6]
    ·rw[a3];exact Lj fun w hw=>(ph.1 hw).1
   ·unfold dw;rcases g4 with⟨a1,a2⟩|⟨z,a1,a2,a3⟩
    ·rw[a1,a2,p6]
    ·rw[a2,a3,aco (zR h.nd) a1]
  ·have nf:¬ Ej l t:=fun f=>f _ (OI hk) ht
   exact no (r2 c1 nf) (by decide) (by unfold pE;rw[if_neg c1,YV h.tm hk ht,if_pos (by omega)])
theorem Le {q:QS} {l:List Op} {c:Int} {n:Nat} {t:Int} (h:HQ q l c n) (hn:n≤90000) :
  ZD q t/\KD q t=vk l t/\HQ (jR q t) (kW l t) c (n+10)/\(jR q t).qA≤q.qA+10000*(uR l.length+4:Nat)/\wE q t=dw l (kW l t)/\wH q t=dw (kW l t) l:=by
 have hB:=h.Yn (by omega)
 have fq:=h.lV hn;rcases KS l t with c2|⟨k,hk,ht⟩
 ·have hb:FR q t=ao:=by
   unfold FR;rw[h.m0];exact MI (H:=fin [] l) (e:=kH t) c2
  have nb:¬ FR q t=aq:=by rw[hb];decide
  have eE:vk l t=14:=by unfold vk;rw[Ll c2,if_pos (by decide)]
  have eL:kW l t=l:=by unfold kW;rw[eE,if_neg (by decide)]
  have eQ:jR q t=Bh q t:=by unfold jR;rw[if_neg nb]
  have L:=h.look (h.mq.ajP hB (by omega) (kH t)) (by omega)
  rw[eL,eQ,eE];refine⟨⟨fq,fun k=>absurd k nb⟩,?_,L.1.mono (by omega),L.2,?_,?_⟩
  ·unfold KD;rw[if_neg nb]
  ·unfold wE dw;rw[if_neg nb,p6]
  ·unfold wH dw;rw[if_neg nb,p6]
 ·obtain⟨g1,g2,g3,v1,v2,v3,g4⟩:=aic h hn hk ht;have eA:=YV h.tm hk ht;have eE:vk l t=0:=by unfold vk;rw[eA,if_neg (by omega)]
  have eL:kW l t=j9 l k:=by unfold kW;rw[eE,if_pos rfl,eA,iF];rfl
  rw[eL,eE];refine⟨g1,g2,g3,Oa ⟨v1,v2,v3⟩ (by omega) l,?_,?_⟩
  ·unfold dw;rcases g4 with⟨a1,a2,a3⟩|⟨z,a0,a1,a2,a3⟩|⟨z,a0,a1,a2,a3⟩
   ·rw[a1,a3,p6]
   ·rw[a1,a3,aaG a0]
   ·rw[a1,a3];exact(Lj fun w hw=>(ph.1 hw).1).symm
  ·unfold dw;rcases g4 with⟨a1,a2,a3⟩|⟨z,a0,a1,a2,a3⟩|⟨z,a0,a1,a2,a3⟩
   ·rw[a2,a3,p6]
   ·rw[a2,a3];exact(Lj fun w hw=>jW.2 (.inr hw)).symm
   ·rw[a2,a3,aco (zR h.nd) a0]
end Pa
namespace Pa
open Rx Wv Br
open Sh (rG wz mJ sl nL)
set_option maxRecDepth 100000
set_option maxHeartbeats 8000000
abbrev Rt:=TC ⊕ TD
abbrev D2:fK Rt:=UY G8.D2 G9.D2
abbrev E8:GP TC Rt:=aj0 TC TD
abbrev E9:GP TD Rt:=ahp TC TD
abbrev c8 (c:Qf TC):Qf Rt:=eC E8 c
abbrev c9 (c:Qf TD):Qf Rt:=eC E9 c
abbrev oM (s:T8):Option (SB Rt):=aa (.inr (.inr (.inr (.inl (.tree s)))))
abbrev oS (s:T9):Option (SB Rt):=aa (.inr (.inr (.inr (.inr (.tree s)))))
abbrev bQ (q:QS):Option (SB Rt):=aa (.inl (98,[.int .i64 q.cap,.pointer (aa ⟨1,0,aj⟩),.pointer (aa ⟨2,0,aj⟩),.pointer (aa ⟨3,0,aj⟩)]))
theorem Pg {R:Type} {D:fK R} {P:Program} {f:FuncId} {p q:Prim R} (h:ck D P f (a9 p))
  (H:∀ args hh x,q args hh=aa x->∃ y,p args hh=aa y/\hh.length≤x.hp.length/\(∀ b,x.lit=aa b->x.v=.bool b)/\(x.wr=[]->x.hp=hh)/\(x.vc->y.vc/\y.v=x.v/\y.hp=x.hp)):ck D P f (a9 q):=by
 refine pY ⟨(h aq).known,fun args hh x _ hx C ρ ft w hm hv hi=>?_,fun args hh x hx=>?_,fun args hh x hx=>?_,fun args hh x hx=>?_⟩
 ·obtain⟨y,h1,_,_,_,h5⟩:=H args hh x hx;obtain⟨a1,a2,a3⟩:=h5 hv;rw[← a2,← a3];exact(h aq).run args hh y (.inl ⟨rfl,rfl⟩) h1 C ρ ft w hm a1 hi
 ·obtain⟨y,_,h2,_⟩:=H args hh x hx;exact h2
 ·obtain⟨y,_,_,h3,_⟩:=H args hh x hx;exact h3
 ·obtain⟨y,_,_,_,h4,_⟩:=H args hh x hx;exact h4
def TQn:eK Rt:=[(52,bM zN 2 (c8 (a9 MG))),(53,bM zN 2 (c9 (a9 G9.MG)))]
theorem ahE:cQ D2 Tryz.prog TQn:=⟨aX _ _ (nD Vu),aX _ _ (xw G9.Vu),trivial⟩
def AU (c:Int):Int:=min (max c 0) 65536
def wc (c:Int):QS:=⟨qN G8.k8 (AU c),qN G9.k9 (AU c),qN G9.k9 (AU c),AU c⟩
def Tt:Prim Rt:=fun args hh=>match args,hh with
 |[.int .i64 c],[]=>aa ⟨True,.pointer (aa ⟨0,0,aj⟩),aj,[bQ (wc c),oM (wc c).mt,oS (wc c).pr,oS (wc c).gn],[],[(0,0)]⟩
 |_,_=>aj
theorem Xb:ck D2 Tryz.prog 15 (a9 Tt):=by
 refine fw Tryz.f15 fun args hh x hx=>?_
 unfold Tt at hx;split at hx
 ·rename_i c;cases hx;refine q4 fun _ hv=>?_
  generalize hG:ct (R:=Rt) _ _=G;refine cW (T:=TQn) ahE mixed 200 ?_;refine bN (q:=let Z1:=(if(65536:Int)<if(0:Int)>c then(0:Int) else c then(65536:Int) else if(0:Int)>c then(0:Int) else c);Vc True/\Vc True/\Vc True/\aY (G (aE (aa ⟨3,0,aj⟩)) [aa (.inr (.inr (.inr (.inl (DE (qN G8.k8 Z1)))))),aa (.inr (.inr (.inr (.inr (rP (qN G9.k9 Z1)))))),aa (.inr (.inr (.inr (.inr (rP (qN G9.k9 Z1)))))),aa (.inl (98,[.int av Z1,.pointer (aa ⟨0,0,aj⟩),.pointer (aa ⟨1,0,aj⟩),.pointer (aa ⟨2,0,aj⟩)]))])) ?_ (by kernel_rfl)
  intro Z1;subst Z1;have e:(if 65536<if 0>c then 0 else c then(65536:Int) else if 0>c then 0 else c)=AU c:=by unfold AU;split<;>split at *<;>omega
  rw[e];subst hG;exact⟨⟨trivial⟩,⟨trivial⟩,⟨trivial⟩,⟨⟨[3,0,1,2],rfl,rfl,⟨.inl rfl,rfl,rfl,rfl,trivial⟩,rfl,rfl,rfl,rfl⟩⟩⟩
 ·cases hx
def TQm:eK Rt:=[(40,bM zN 2 (c8 (a9 G8.B8))),(78,bM zN 2 (c8 (a9 G8.PR))),(21,bM zN 2 (c8 (a9 G8.Iz))),(76,bM zN 2 (c8 (a9 G8.IB))),(77,bM zN 2 (c9 (a9 G9.IB))),(38,bM zN 2 (c9 (a9 G9.B8)))]
theorem abV:cQ D2 Tryz.prog TQm:=⟨aX _ _ (nD G8.DU),aX _ _ (nD G8.Qp),aX _ _ (nD G8.Ra),aX _ _ (nD G8.Q1),aX _ _ (xw G9.Q1),aX _ _ (xw G9.DU),trivial⟩
def Pz:Prim Rt:=fun args hh=>match args,hh with
 |[.pointer (aa ⟨0,0,aj⟩)],[aa (.inl (98,[.int .i64 c,.pointer (aa ⟨1,0,aj⟩),.pointer (aa ⟨2,0,aj⟩),.pointer (aa ⟨3,0,aj⟩)])),aa (.inr (.inr (.inr (.inl (.tree s))))),aa (.inr (.inr (.inr (.inr (.tree g))))),aa (.inr (.inr (.inr (.inr (.tree h)))))]=>aa ⟨s.gE,.int .i64 s.l.length,aj,[bQ (Q4 (⟨s,g,h,c⟩:QS)),oM (Q4 (⟨s,g,h,c⟩:QS)).mt,oS (Q4 (⟨s,g,h,c⟩:QS)).pr,oS (Q4 (⟨s,g,h,c⟩:QS)).gn],[],[(0,0)]⟩
 |_,_=>aj
theorem agY:ck D2 Tryz.prog 35 (a9 Pz):=by
 refine fw Tryz.f35 fun args hh x hx=>?_
 unfold Pz at hx;split at hx
 ·rename_i c s g h;cases hx;refine q4 fun _ hv=>?_
  generalize hG:ct (R:=Rt) _ _=G;refine cW (T:=TQm) abV mixed 200 ?_;refine bN (q:=Vc (fE s)/\aY (G (bs av (↑(ae (gu s)):Int)) [aa (.inl (98,[.int av c,.pointer (aa ⟨1,0,aj⟩),.pointer (aa ⟨2,0,aj⟩),.pointer (aa ⟨3,0,aj⟩)])),aa (.inr (.inr (.inr (.inl (DE (fb s)))))),aa (.inr (.inr (.inr (.inr (rP g))))),aa (.inr (.inr (.inr (.inr (rP h)))))])) ?_ (by kernel_rfl)
  subst hG;exact⟨⟨hv⟩,⟨⟨[0,1,2,3],rfl,rfl,⟨.inl rfl,rfl,rfl,rfl,trivial⟩,rfl,rfl,rfl,rfl⟩⟩⟩
 ·cases hx
theorem aah:K9 [0,2,3] (a9 Pz):=by
 intro b args h x hx i hi hl;cases b with
 |false=>cases hx
 |true =>
  simp only[a9,je.go,Pz] at hx;split at hx
  ·injection hx with hx
   subst hx;simp only[bR,vy,or_false] at hi;rcases hi with rfl|rfl|rfl<;>rfl
  ·cases hx
def OT:Prim Rt:=fun args hh=>match args,hh with
 |[.pointer (aa ⟨0,0,aj⟩)],[aa (.inl (98,[.int .i64 c,.pointer (aa ⟨1,0,aj⟩),.pointer (aa ⟨2,0,aj⟩),.pointer (aa ⟨3,0,aj⟩)])),aa (.inr (.inr (.inr (.inl (.tree s))))),aa (.inr (.inr (.inr (.inr (.tree g))))),aa (.inr (.inr (.inr (.inr (.tree h)))))]=>aa ⟨s.gE,.int .i64 (HO (⟨s,g,h,c⟩:QS)),aj,[bQ (ND (⟨s,g,h,c⟩:QS)),oM (ND (⟨s,g,h,c⟩:QS)).mt,oS (ND (⟨s,g,h,c⟩:QS)).pr,oS (ND (⟨s,g,h,c⟩:QS)).gn],[],[(0,0)]⟩
 |_,_=>aj
theorem ags:ck D2 Tryz.prog 36 (a9 OT):=by
 refine fw Tryz.f36 fun args hh x hx=>?_
 unfold OT at hx;split at hx
 ·rename_i c s g h;cases hx;refine q4 fun _ hv=>?_
  generalize hG:ct (R:=Rt) _ _=G;refine cW (T:=TQm) abV mixed 200 ?_;refine bN (q:=Vc (fE s)/\Vc (fE (fb s))/\aY (G (bs av (Sw.d (S8 (mS (gu (fb s)) 0 (aI (↑(ae (gu s)):Int)))))) [aa (.inl (98,[.int av c,.pointer (aa ⟨1,0,aj⟩),.pointer (aa ⟨2,0,aj⟩),.pointer (aa ⟨3,0,aj⟩)])),aa (.inr (.inr (.inr (.inl (DE (Gv.TS.F3 (fb s) (0:Int) (↑(ae (gu s)):Int))))))),aa (.inr (.inr (.inr (.inr (rP g))))),aa (.inr (.inr (.inr (.inr (rP h)))))])) ?_ (by kernel_rfl)
  have e:(S8 (mS s.seen.l 0 (s.l.length:Int).toNat)).d=HO (⟨s,g,h,c⟩:QS):=by
   show(S8 (mS s.l 0 (s.l.length:Int).toNat)).d=((wb s.l).length:Int)
   rw[iF];show(S8 ((s.l.drop 0).take (s.l.length-0))).d=_
   rw[sf,Nat.sub_zero,kC]
   rfl
  rw[e];subst hG;exact⟨⟨hv⟩,⟨yT hv⟩,⟨⟨[0,1,2,3],rfl,rfl,⟨.inl rfl,rfl,rfl,rfl,trivial⟩,rfl,rfl,rfl,rfl⟩⟩⟩
 ·cases hx
def Y6:Prim Rt:=fun args hh=>match args,hh with
 |[.pointer (aa ⟨0,0,aj⟩)],[aa (.inl (98,[.int .i64 c,.pointer (aa ⟨1,0,aj⟩),.pointer (aa ⟨2,0,aj⟩),.pointer (aa ⟨3,0,aj⟩)])),aa (.inr (.inr (.inr (.inl (.tree s))))),aa (.inr (.inr (.inr (.inr (.tree g))))),aa (.inr (.inr (.inr (.inr (.tree h)))))]=>aa ⟨True,.pointer (aa ⟨1,0,aj⟩),aj,hh,[],[]⟩
 |_,_=>aj
theorem ag7:ck D2 Tryz.prog 20 (a9 Y6):=by
 refine fw Tryz.f20 fun args hh x hx=>?_
 unfold Y6 at hx;split at hx
 ·rename_i c s g h;cases hx;refine q4 fun _ hv=>?_
  generalize hG:ct (R:=Rt) _ _=G;refine cW (T:=[]) trivial mixed 200 ?_;refine bN (q:=aY (G (aE (aa ⟨1,0,aj⟩)) [aa (.inl (98,[.int av c,.pointer (aa ⟨1,0,aj⟩),.pointer (aa ⟨2,0,aj⟩),.pointer (aa ⟨3,0,aj⟩)])),aa (.inr (.inr (.inr (.inl (DE s))))),aa (.inr (.inr (.inr (.inr (rP g))))),aa (.inr (.inr (.inr (.inr (rP h)))))])) ?_ (by kernel_rfl)
  subst hG;exact⟨⟨[0,1,2,3],rfl,rfl,⟨.inl rfl,rfl,rfl,rfl,trivial⟩,rfl,rfl,rfl,rfl⟩⟩
 ·cases hx
theorem ab9:K9 [0,2,3] (a9 OT):=by
 intro b args h x hx i hi hl;cases b with
 |false=>cases hx
 |true =>
  simp only[a9,je.go,OT] at hx;split at hx
  ·injection hx with hx
   subst hx;simp only[bR,vy,or_false] at hi;rcases hi with rfl|rfl|rfl<;>rfl
  ·cases hx
def TQe:eK Rt:=[(36,Cy [0,2,3] 2 (a9 OT)),(38,bM zN 2 (c9 (a9 G9.B8)))]
theorem ajR:cQ D2 Tryz.prog TQe:=⟨Cu _ _ ags ab9,aX _ _ (xw G9.DU),trivial⟩
def OZ:Prim Rt:=fun args hh=>match args,hh with
 |[.pointer (aa ⟨0,0,aj⟩)],[aa (.inl (98,[.int .i64 c,.pointer (aa ⟨1,0,aj⟩),.pointer (aa ⟨2,0,aj⟩),.pointer (aa ⟨3,0,aj⟩)])),aa (.inr (.inr (.inr (.inl (.tree s))))),aa (.inr (.inr (.inr (.inr (.tree g))))),aa (.inr (.inr (.inr (.inr (.tree h)))))]=>aa ⟨(⟨s,g,h,c⟩:QS).gE,.int .i64 (rh (⟨s,g,h,c⟩:QS)),aj,[bQ (o8 (⟨s,g,h,c⟩:QS)),oM (o8 (⟨s,g,h,c⟩:QS)).mt,oS (o8 (⟨s,g,h,c⟩:QS)).pr,oS (o8 (⟨s,g,h,c⟩:QS)).gn],[],[(0,0)]⟩
 |_,_=>aj
theorem Xn:ck D2 Tryz.prog 39 (a9 OZ):=by
 refine fw Tryz.f39 fun args hh x hx=>?_
 unfold OZ at hx;split at hx
 ·rename_i c s g h;cases hx;refine q4 fun _ hv=>?_
  generalize hG:ct (R:=Rt) _ _=G;refine cW (T:=TQe) ajR mixed 200 ?_;refine bN (q:=Vc (fE s)/\Vc (fE h)/\Vc (fits (HO (QS.mk s g h c)-(↑(ae (gu h)):Int)))/\aY (G (bs av (HO (QS.mk s g h c)-(↑(ae (gu h)):Int))) [aa (.inl (98,[.int av c,.pointer (aa ⟨1,0,aj⟩),.pointer (aa ⟨2,0,aj⟩),.pointer (aa ⟨3,0,aj⟩)])),aa (.inr (.inr (.inr (.inl (DE (QS.mt (ND (QS.mk s g h c)))))))),aa (.inr (.inr (.inr (.inr (rP g))))),aa (.inr (.inr (.inr (.inr (rP (fb h))))))])) ?_ (by kernel_rfl)
  subst hG;obtain⟨f1,f2,f3⟩:=hv;have hb:-1099511627776≤HO (⟨s,g,h,c⟩:QS)-(h.l.length:Int)/\HO (⟨s,g,h,c⟩:QS)-(h.l.length:Int)≤1099511627776:=OJ (⟨s,g,h,c⟩:QS);exact⟨⟨f1⟩,⟨f3⟩,⟨by omega,by omega⟩,⟨⟨[0,1,2,3],rfl,rfl,⟨.inl rfl,rfl,rfl,rfl,trivial⟩,rfl,rfl,rfl,rfl⟩⟩⟩
 ·cases hx
theorem aaE:K9 [0,2] (a9 OZ):=by
 intro b args h x hx i hi hl;cases b with
 |false=>cases hx
 |true =>
  simp only[a9,je.go,OZ] at hx;split at hx
  ·injection hx with hx
   subst hx;simp only[bR,vy,or_false] at hi;rcases hi with rfl|rfl<;>rfl
  ·cases hx
end Pa
namespace Pa
open Rx Wv Br
open Sh (rG wz mJ sl nL)
set_option maxRecDepth 100000
set_option maxHeartbeats 8000000
def TQr:eK Rt:=[(35,Cy [0,2,3] 2 (a9 Pz)),(73,bM zN 2 (c8 (a9 G8.CR))),(66,bM zN 2 (a9 ZE))]
theorem ah4:cQ D2 Tryz.prog TQr:=⟨Cu _ _ agY aah,aX _ _ (nD W4),aX _ _ abF,trivial⟩
def Zj:Prim Rt:=fun args hh=>match args,hh with
 |[.pointer (aa ⟨0,0,aj⟩),.int .i64 t],[aa (.inl (98,[.int .i64 c,.pointer (aa ⟨1,0,aj⟩),.pointer (aa ⟨2,0,aj⟩),.pointer (aa ⟨3,0,aj⟩)])),aa (.inr (.inr (.inr (.inl (.tree s))))),aa (.inr (.inr (.inr (.inr (.tree g))))),aa (.inr (.inr (.inr (.inr (.tree h)))))]=>aa ⟨s.gE,.int .i64 (mU (⟨s,g,h,c⟩:QS) t),aj,[bQ (nP (⟨s,g,h,c⟩:QS) t),oM (nP (⟨s,g,h,c⟩:QS) t).mt,oS (nP (⟨s,g,h,c⟩:QS) t).pr,oS (nP (⟨s,g,h,c⟩:QS) t).gn],[],[(0,0)]⟩
 |_,_=>aj
theorem agS:ck D2 Tryz.prog 62 (a9 Zj):=by
 refine fw Tryz.f62 fun args hh x hx=>?_
 unfold Zj at hx;split at hx
 ·rename_i t c s g h;cases hx;refine q4 fun _ hv=>?_
  generalize hG:ct (R:=Rt) _ _=G;refine cW (T:=TQr) ah4 mixed 200 ?_;refine bN (q:=let Z4:=aE (aa ⟨2,0,aj⟩);let Z5:=aE (aa ⟨1,0,aj⟩);let Z6:=aE (aa ⟨3,0,aj⟩);let Z7:=bs av;let Z1:=(QS.mt (Q4 (QS.mk s g h c)));let Z2:=(Mk.mk t ao (It.mk (0:Int) (0:Int)) ao ao (It.mk (0:Int) (0:Int)));let Z3:=(aB (fv O8 Z2 (gu Z1)));Vc (fE s)/\(((↑(ae (gu s)):Int)==c)=aq->aY (G (Z7 10) [aa (.inl (98,[Z7 c,Z5,Z4,Z6])),oM Z1,oS g,oS h]))/\(((↑(ae (gu s)):Int)==c)=ao->Vc True/\Vc (fE Z1)/\(aw (fv O8 Z2 (gu Z1))=aq->aY (G (Z7 11) [aa (.inl (98,[Z7 c,Z5,Z4,Z6])),oM (oj Z1 Z2),oS g,oS h,aa (.inl (49,[Z7 (Mk.t Z3),.bool (Mk.ins Z3),Z7 (It.k (Mk.it Z3)),Z7 (It.i (Mk.it Z3)),.bool (Mk.here Z3),.bool (Mk.tf Z3),Z7 (It.k (Mk.tk Z3)),Z7 (It.i (Mk.tk Z3))]))]))/\(aw (fv O8 Z2 (gu Z1))=ao->aY (G (Z7 0) [aa (.inl (98,[Z7 c,Z5,Z4,Z6])),oM (oj Z1 Z2),oS g,oS h,aa (.inl (49,[Z7 (Mk.t Z3),.bool (Mk.ins Z3),Z7 (It.k (Mk.it Z3)),Z7 (It.i (Mk.it Z3)),.bool (Mk.here Z3),.bool (Mk.tf Z3),Z7 (It.k (Mk.tk Z3)),Z7 (It.i (Mk.tk Z3))]))])))) ?_ (by kernel_rfl)
  intro Z4 Z5 Z6 Z7 Z1 Z2 Z3;subst Z3 Z2 Z1 Z7 Z6 Z5 Z4;have done:∀ (x:Int) (s':T8) (g' h':T9) (rest:Hp Rt),x=mU (⟨s,g,h,c⟩:QS) t->s'=(nP (⟨s,g,h,c⟩:QS) t).mt->g'=g->h'=h->G (.int .i64 x) (aa (.inl (98,[.int .i64 c,.pointer (aa ⟨1,0,aj⟩),.pointer (aa ⟨2,0,aj⟩),.pointer (aa ⟨3,0,aj⟩)]))::oM s'::oS g'::oS h'::rest):=by
   intro x s' g' h' rest e1 e2 e3 e4;subst e1 e2 e3 e4;subst hG;exact⟨[0,1,2,3],rfl,rfl,⟨.inl rfl,rfl,rfl,rfl,trivial⟩,rfl,rfl,rfl,rfl⟩
  clear hG;refine⟨⟨hv⟩,fun h1=>⟨?_⟩,fun h1=>⟨⟨trivial⟩,⟨hv⟩,fun h2=>⟨?_⟩,fun h2=>⟨?_⟩⟩⟩
  ·have h1:(s.l.length:Int)=c:=eq_of_beq h1;exact done _ _ _ _ _ (by unfold mU;rw[if_pos (show(s.l.length:Int)=c from h1)]) (by unfold nP;exact(if_pos (show(s.l.length:Int)=c from h1)).symm) rfl rfl
  all_goals
   have h1:¬ (s.l.length:Int)=c:=fun e=>by rw[beq_eq_false_iff_ne] at h1;exact h1 e
  ·exact done _ _ _ _ _ (by unfold mU;rw[if_neg (show ¬ (s.l.length:Int)=c from h1),if_pos (show(fv O8 (kH t) s.l).2=aq from h2)]) (by unfold nP;exact(if_neg (show ¬ (s.l.length:Int)=c from h1)).symm) rfl rfl
  ·exact done _ _ _ _ _ (by unfold mU;rw[if_neg (show ¬ (s.l.length:Int)=c from h1),if_neg (show ¬ (fv O8 (kH t) s.l).2=aq from by rw[show(fv O8 (kH t) s.l).2=ao from h2];decide)]) (by unfold nP;exact(if_neg (show ¬ (s.l.length:Int)=c from h1)).symm) rfl rfl
 ·cases hx
def TQi:eK Rt:=[(94,bM zN 2 (c9 (a9 G9.CR))),(69,bM zN 2 (a9 Ys))]
theorem ahY:cQ D2 Tryz.prog TQi:=⟨aX _ _ (xw G9.H5),aX _ _ Su,trivial⟩
def YE:Prim Rt:=fun args hh=>match args,hh with
 |[.pointer (aa ⟨0,0,aj⟩),.agg ⟨[.int .i64 a,.int .i64 b]⟩],[aa (.inl (98,[.int .i64 c,.pointer (aa ⟨1,0,aj⟩),.pointer (aa ⟨2,0,aj⟩),.pointer (aa ⟨3,0,aj⟩)])),aa (.inr (.inr (.inr (.inl (.tree s))))),aa (.inr (.inr (.inr (.inr (.tree g))))),aa (.inr (.inr (.inr (.inr (.tree h)))))]=>aa ⟨(⟨s,g,h,c⟩:QS).gE,.bool (AO (⟨s,g,h,c⟩:QS) ⟨a,b⟩),aj,[bQ (BS (⟨s,g,h,c⟩:QS) ⟨a,b⟩),oM (BS (⟨s,g,h,c⟩:QS) ⟨a,b⟩).mt,oS (BS (⟨s,g,h,c⟩:QS) ⟨a,b⟩).pr,oS (BS (⟨s,g,h,c⟩:QS) ⟨a,b⟩).gn],[],[(0,0)]⟩
 |_,_=>aj
theorem agd:ck D2 Tryz.prog 63 (a9 YE):=by
 refine fw Tryz.f63 fun args hh x hx=>?_
 unfold YE at hx;split at hx
 ·rename_i a b c s g h;cases hx;refine q4 fun _ hv=>?_
  generalize hG:ct (R:=Rt) _ _=G;refine cW (T:=TQi) ahY mixed 200 ?_;refine bN (q:=let Z4:=bs av;let Z1:=(jr (It.mk a b) ao (0:Int));let Z2:=(aB (fv aM Z1 (gu g)));let Z3:=(aB (fv aM Z1 (gu h)));Vc True/\Vc (fE g)/\Vc True/\Vc (fE h)/\(aw (fv aM Z1 (gu g))=ao->aY (G (aD (aw (fv aM Z1 (gu h)))) [aa (.inl (98,[Z4 c,.pointer (aa ⟨1,0,aj⟩),.pointer (aa ⟨2,0,aj⟩),.pointer (aa ⟨3,0,aj⟩)])),oM s,oS (oj g Z1),oS (oj h Z1),aa (.inl (31,[Z4 a,Z4 b])),aa (.inl (75,[Z4 (It.k (lI Z2)),Z4 (It.i (lI Z2)),.bool (o4 Z2),Z4 (qx Z2)])),aa (.inl (75,[Z4 (It.k (lI Z3)),Z4 (It.i (lI Z3)),.bool (o4 Z3),Z4 (qx Z3)]))]))/\(aw (fv aM Z1 (gu g))=aq->aY (G (aD aq) [aa (.inl (98,[Z4 c,.pointer (aa ⟨1,0,aj⟩),.pointer (aa ⟨2,0,aj⟩),.pointer (aa ⟨3,0,aj⟩)])),oM s,oS (oj g Z1),oS (oj h Z1),aa (.inl (31,[Z4 a,Z4 b])),aa (.inl (75,[Z4 (It.k (lI Z2)),Z4 (It.i (lI Z2)),.bool (o4 Z2),Z4 (qx Z2)])),aa (.inl (75,[Z4 (It.k (lI Z3)),Z4 (It.i (lI Z3)),.bool (o4 Z3),Z4 (qx Z3)]))]))) ?_ (by kernel_rfl)
  intro Z4 Z1 Z2 Z3;subst Z3 Z2 Z1 Z4;have done:∀ (x:Bool) (s':T8) (g' h':T9) (rest:Hp Rt),x=AO (⟨s,g,h,c⟩:QS) ⟨a,b⟩->s'=s->g'=g.find (sl ⟨a,b⟩)->h'=h.find (sl ⟨a,b⟩)->G (.bool x) (aa (.inl (98,[.int .i64 c,.pointer (aa ⟨1,0,aj⟩),.pointer (aa ⟨2,0,aj⟩),.pointer (aa ⟨3,0,aj⟩)]))::oM s'::oS g'::oS h'::rest):=by
   intro x s' g' h' rest e1 e2 e3 e4;subst e1 e2 e3 e4;subst hG;exact⟨[0,1,2,3],rfl,rfl,⟨.inl rfl,rfl,rfl,rfl,trivial⟩,rfl,rfl,rfl,rfl⟩
  clear hG;obtain⟨f1,f2,f3⟩:=hv;refine⟨⟨trivial⟩,⟨f2⟩,⟨trivial⟩,⟨f3⟩,fun h1=>⟨done _ _ _ _ _ ?_ rfl rfl rfl⟩,fun h1=>⟨done _ _ _ _ _ ?_ rfl rfl rfl⟩⟩
  ·show _=((fv aM (sl ⟨a,b⟩) g.l).2||_)
   rw[show(fv aM (sl ⟨a,b⟩) g.l).2=ao from h1];rfl
  ·show _=((fv aM (sl ⟨a,b⟩) g.l).2||_)
   rw[show(fv aM (sl ⟨a,b⟩) g.l).2=aq from h1];rfl
 ·cases hx
def TQb:eK Rt:=[(39,Cy [0,2] 2 (a9 OZ)),(95,bM zN 2 (c8 (a9 adI))),(112,bM zN 2 (c8 (a9 adk)))]
theorem abm:cQ D2 Tryz.prog TQb:=⟨Cu _ _ Xn aaE,aX _ _ (nD ajC),aX _ _ (nD ajm),trivial⟩
def ac0:Prim Rt:=fun args hh=>match args,hh with
 |[.pointer (aa ⟨0,0,aj⟩),.int .i64 p],[aa (.inl (98,[.int .i64 c,.pointer (aa ⟨1,0,aj⟩),.pointer (aa ⟨2,0,aj⟩),.pointer (aa ⟨3,0,aj⟩)])),aa (.inr (.inr (.inr (.inl (.tree s))))),aa (.inr (.inr (.inr (.inr (.tree g))))),aa (.inr (.inr (.inr (.inr (.tree h)))))]=>aa ⟨(⟨s,g,h,c⟩:QS).gE,.int .i64 (FZ (⟨s,g,h,c⟩:QS) p),aj,[bQ (Bi (⟨s,g,h,c⟩:QS) p),oM (Bi (⟨s,g,h,c⟩:QS) p).mt,oS (Bi (⟨s,g,h,c⟩:QS) p).pr,oS (Bi (⟨s,g,h,c⟩:QS) p).gn],[],[(0,0)]⟩
 |_,_=>aj
theorem aif:ck D2 Tryz.prog 64 (a9 ac0):=by
 refine fw Tryz.f64 fun args hh x hx=>?_
 unfold ac0 at hx;split at hx
 ·rename_i p c s g h;cases hx;refine q4 fun _ hv=>?_
  generalize hG:ct (R:=Rt) _ _=G;refine cW (T:=TQb) abm mixed 200 ?_;refine bN (q:=Vc (QS.gE (QS.mk s g h c))/\Vc (fE (QS.mt (o8 (QS.mk s g h c)))/\(-1099511627776:Int)≤rh (QS.mk s g h c)/\rh (QS.mk s g h c)≤(1099511627776:Int))/\aY (G (bs av (D_ (gu (QS.mt (o8 (QS.mk s g h c)))) p (rh (QS.mk s g h c)))) [aa (.inl (98,[.int av c,.pointer (aa ⟨1,0,aj⟩),.pointer (aa ⟨2,0,aj⟩),.pointer (aa ⟨3,0,aj⟩)])),oM (U4 (QS.mt (o8 (QS.mk s g h c))) p (rh (QS.mk s g h c))),oS g,oS (QS.gn (o8 (QS.mk s g h c)))])) ?_ (by kernel_rfl)
  subst hG;have hb:=OJ (⟨s,g,h,c⟩:QS);exact⟨⟨hv⟩,⟨hv.1,hb.1,hb.2⟩,⟨⟨[0,1,2,3],rfl,rfl,⟨.inl rfl,rfl,rfl,rfl,trivial⟩,rfl,rfl,rfl,rfl⟩⟩⟩
 ·cases hx
def acZ:Prim Rt:=fun args hh=>match args,hh with
 |[.pointer (aa ⟨0,0,aj⟩),.int .i64 p],[aa (.inl (98,[.int .i64 c,.pointer (aa ⟨1,0,aj⟩),.pointer (aa ⟨2,0,aj⟩),.pointer (aa ⟨3,0,aj⟩)])),aa (.inr (.inr (.inr (.inl (.tree s))))),aa (.inr (.inr (.inr (.inr (.tree g))))),aa (.inr (.inr (.inr (.inr (.tree h)))))]=>aa ⟨(⟨s,g,h,c⟩:QS).gE,.int .i64 (JN (⟨s,g,h,c⟩:QS) p),aj,[bQ (GO (⟨s,g,h,c⟩:QS) p),oM (GO (⟨s,g,h,c⟩:QS) p).mt,oS (GO (⟨s,g,h,c⟩:QS) p).pr,oS (GO (⟨s,g,h,c⟩:QS) p).gn],[],[(0,0)]⟩
 |_,_=>aj
theorem ai7:ck D2 Tryz.prog 72 (a9 acZ):=by
 refine fw Tryz.f72 fun args hh x hx=>?_
 unfold acZ at hx;split at hx
 ·rename_i p c s g h;cases hx;refine q4 fun _ hv=>?_
  generalize hG:ct (R:=Rt) _ _=G;refine cW (T:=TQb) abm mixed 200 ?_;refine bN (q:=Vc (QS.gE (QS.mk s g h c))/\Vc (fE (QS.mt (o8 (QS.mk s g h c)))/\(-1099511627776:Int)≤rh (QS.mk s g h c)/\rh (QS.mk s g h c)≤(1099511627776:Int))/\aY (G (bs av (OP (gu (QS.mt (o8 (QS.mk s g h c)))) p (rh (QS.mk s g h c)))) [aa (.inl (98,[.int av c,.pointer (aa ⟨1,0,aj⟩),.pointer (aa ⟨2,0,aj⟩),.pointer (aa ⟨3,0,aj⟩)])),oM (EC (QS.mt (o8 (QS.mk s g h c))) p (rh (QS.mk s g h c))),oS g,oS (QS.gn (o8 (QS.mk s g h c)))])) ?_ (by kernel_rfl)
  subst hG;have hb:=OJ (⟨s,g,h,c⟩:QS);exact⟨⟨hv⟩,⟨hv.1,hb.1,hb.2⟩,⟨⟨[0,1,2,3],rfl,rfl,⟨.inl rfl,rfl,rfl,rfl,trivial⟩,rfl,rfl,rfl,rfl⟩⟩⟩
 ·cases hx
def TQt:eK Rt:=[(141,bM zN 2 (c8 (a9 G8.QC))),(67,bM zN 2 (c8 (a9 G8.Dt)))]
theorem aiL:cQ D2 Tryz.prog TQt:=⟨aX _ _ (nD G8.abJ),aX _ _ (nD G8.GR),trivial⟩
def YR:Prim Rt:=fun args hh=>match args,hh with
 |[.pointer (aa ⟨0,0,aj⟩),.int .i64 i,.bool b],[aa (.inl (98,[.int .i64 c,.pointer (aa ⟨1,0,aj⟩),.pointer (aa ⟨2,0,aj⟩),.pointer (aa ⟨3,0,aj⟩)])),aa (.inr (.inr (.inr (.inl (.tree s))))),aa (.inr (.inr (.inr (.inr (.tree g))))),aa (.inr (.inr (.inr (.inr (.tree h)))))]=>aa ⟨s.gE/\(s.at_ i).kS (DY s i b),.tuple #[],aj,[bQ (⟨A4 s i b,g,h,c⟩:QS),oM (⟨A4 s i b,g,h,c⟩:QS).mt,oS (⟨A4 s i b,g,h,c⟩:QS).pr,oS (⟨A4 s i b,g,h,c⟩:QS).gn],[],[(0,0)]⟩
 |_,_=>aj
theorem agv:ck D2 Tryz.prog 107 (a9 YR):=by
 refine fw Tryz.f107 fun args hh x hx=>?_
 unfold YR at hx;split at hx
 ·rename_i i b c s g h;cases hx;refine q4 fun _ hv=>?_
  generalize hG:ct (R:=Rt) _ _=G;refine cW (T:=TQt) aiL mixed 200 ?_;refine bN (q:=let Z3:=bs av;let Z1:=(aB (Gv.p7 O8 i (gu s)));let Z2:=(Mk.mk (Mk.t Z1) (Mk.ins Z1) (Mk.it Z1) b (Mk.tf Z1) (Mk.tk Z1));Vc (fE s)/\Vc (tP (KR s i) Z2)/\aY (G (cv (aO [])) [aa (.inl (98,[Z3 c,.pointer (aa ⟨1,0,aj⟩),.pointer (aa ⟨2,0,aj⟩),.pointer (aa ⟨3,0,aj⟩)])),oM (C3 (KR s i) Z2),oS g,oS h,aa (.inl (49,[Z3 (Mk.t Z1),.bool (Mk.ins Z1),Z3 (It.k (Mk.it Z1)),Z3 (It.i (Mk.it Z1)),.bool b,.bool (Mk.tf Z1),Z3 (It.k (Mk.tk Z1)),Z3 (It.i (Mk.tk Z1))]))])) ?_ (by kernel_rfl)
  intro Z3 Z1 Z2;subst Z2 Z1 Z3;subst hG;exact⟨⟨hv.1⟩,⟨hv.2⟩,⟨⟨[0,1,2,3],rfl,rfl,⟨.inl rfl,rfl,rfl,rfl,trivial⟩,rfl,rfl,rfl,rfl⟩⟩⟩
 ·cases hx
end Pa
namespace Pa
open Rx Wv Br
open Sh (rG wz mJ sl nL)
set_option maxRecDepth 100000
set_option maxHeartbeats 8000000
def TQg:eK Rt:=[(104,bM zN 2 (c8 (a9 adK))),(109,bM zN 2 (c8 (a9 adq))),(69,bM zN 2 (a9 Ys)),(108,bM zN 2 (c8 (a9 G8.MS))),(111,bM zN 2 (c8 (a9 G8.QI))),(107,bM zN 2 (a9 YR)),(75,bM zN 2 (c9 (a9 G9.Cl))),(68,bM zN 2 (c9 (a9 G9.Dt)))]
theorem abA:cQ D2 Tryz.prog TQg:=⟨aX _ _ (nD aiP),aX _ _ (nD akt),aX _ _ Su,aX _ _ (nD G8.Zd),aX _ _ (nD G8.abB),aX _ _ agv,aX _ _ (xw W5),aX _ _ (xw G9.GR),trivial⟩
def ad6:Prim Rt:=fun args hh=>match args,hh with
 |[.pointer (aa ⟨0,0,aj⟩),.int .i64 f],[aa (.inl (98,[.int .i64 c,.pointer (aa ⟨1,0,aj⟩),.pointer (aa ⟨2,0,aj⟩),.pointer (aa ⟨3,0,aj⟩)])),aa (.inr (.inr (.inr (.inl (.tree s))))),aa (.inr (.inr (.inr (.inr (.tree g))))),aa (.inr (.inr (.inr (.inr (.tree h)))))]=>aa ⟨JS (⟨s,g,h,c⟩:QS) f,.agg ⟨[.slice (aa ⟨4,0,aa 2000⟩) (yy (⟨s,g,h,c⟩:QS) f).length (yy (⟨s,g,h,c⟩:QS) f).length,.slice (aa ⟨5,0,aa 2000⟩) ([]:List It).length ([]:List It).length]⟩,aj,[bQ (vG (⟨s,g,h,c⟩:QS) f),oM (vG (⟨s,g,h,c⟩:QS) f).mt,oS (vG (⟨s,g,h,c⟩:QS) f).pr,oS (vG (⟨s,g,h,c⟩:QS) f).gn,oI (yy (⟨s,g,h,c⟩:QS) f),oI []],[],[(0,0)]⟩
 |_,_=>aj
theorem aj8:ck D2 Tryz.prog 70 (a9 ad6):=by
 refine fw Tryz.f70 fun args hh x hx=>?_
 unfold ad6 at hx;split at hx
 ·rename_i f c s g h;cases hx;refine q4 fun _ hv=>?_
  generalize hG:ct (R:=Rt) _ _=G;refine cW (T:=TQg) abA mixed 200 ?_;refine bN (q:=let Z4:=bs av;let Z1:=(gH (uy (gu s) f) iz);let Z2:=(Gv.TS.first (pZ Z1) (Hc s f) f);let Z3:=(Gv.TS.uo (pZ Z1) (Hc s f) f);(decide (f<(0:Int))=aq->aY (G (bE (aO [.slice aj 0 0,.slice aj 0 0])) [aa (.inl (98,[Z4 c,.pointer (aa ⟨1,0,aj⟩),.pointer (aa ⟨2,0,aj⟩),.pointer (aa ⟨3,0,aj⟩)])),oM s,oS g,oS h,aa (.inl (59,[.slice aj 0 0,.slice aj 0 0]))]))/\(decide (f<(0:Int))=ao->Vc (fE s)/\Vc True/\Vc True/\Vc (fE (Hc s f))/\Vc (fE Z2/\tP (KR Z2 Z3) (DY Z2 Z3 aq))/\Vc (fE h)/\Vc (tP g (jr Z1 ao (0:Int)))/\aY (G (bE (aO [.slice (aa ⟨7,0,aa 2000⟩) 1 1,.slice aj 0 0])) [aa (.inl (98,[Z4 c,.pointer (aa ⟨1,0,aj⟩),.pointer (aa ⟨2,0,aj⟩),.pointer (aa ⟨3,0,aj⟩)])),oM (A4 Z2 Z3 aq),oS (C3 g (jr Z1 ao (0:Int))),oS (xT h (jr Z1 ao (0:Int))),aa (.inl (59,[.slice (aa ⟨7,0,aa 2000⟩) 1 1,.slice aj 0 0])),aa (.inl (47,[.bool (g9 (uy (gu s) f)),Z4 (It.k Z1),Z4 (It.i Z1)])),aa (.inl (75,[Z4 (It.k Z1),Z4 (It.i Z1),.bool ao,Z4 0])),aa (.inr (.inl (31,Row.mk [Z4 0,Z4 0] 1 [aT.mk [It.k Z1] [] [],aT.mk [It.i Z1] [] []])))]))) ?_ (by kernel_rfl)
  intro Z4 Z1 Z2 Z3;subst Z3 Z2 Z1 Z4;obtain⟨f1,f2,f3,f4⟩:=hv;refine⟨fun h1=>?_,fun h1=>?_⟩
  ·have h1:f<0:=of_decide_eq_true h1;subst hG;rw[show vG (⟨s,g,h,c⟩:QS) f=(⟨s,g,h,c⟩:QS) from if_pos h1,show yy (⟨s,g,h,c⟩:QS) f=[] from if_pos h1]
   exact⟨⟨[0,1,2,3,90,91],rfl,rfl,⟨.inl rfl,rfl,rfl,rfl,⟨rfl,iG _,rfl⟩,⟨rfl,iG _,rfl⟩,trivial⟩,rfl,rfl,rfl,rfl⟩⟩
  ·have h1:¬ f<0:=of_decide_eq_false h1;obtain⟨g1,g2⟩:=f4 h1;subst hG;rw[show vG (⟨s,g,h,c⟩:QS) f=⟨A4 (RX (⟨s,g,h,c⟩:QS) f) (TH (⟨s,g,h,c⟩:QS) f) aq,g.put (sl (Jb (⟨s,g,h,c⟩:QS) f)),h.drop (sl (Jb (⟨s,g,h,c⟩:QS) f)),c⟩ from if_neg h1,show yy (⟨s,g,h,c⟩:QS) f=[Jb (⟨s,g,h,c⟩:QS) f] from if_neg h1]
   exact⟨⟨f1⟩,⟨trivial⟩,⟨trivial⟩,⟨f1⟩,⟨f1,g1⟩,⟨f3⟩,⟨g2⟩,⟨⟨[0,1,2,3,7,91],rfl,rfl,⟨.inl rfl,rfl,rfl,rfl,⟨_,rfl,.inl rfl⟩,⟨rfl,iG _,rfl⟩,trivial⟩,rfl,rfl,rfl,rfl⟩⟩⟩
 ·cases hx
def adM:Prim Rt:=fun args hh=>match args,hh with
 |[.pointer (aa ⟨0,0,aj⟩),.int .i64 u],[aa (.inl (98,[.int .i64 c,.pointer (aa ⟨1,0,aj⟩),.pointer (aa ⟨2,0,aj⟩),.pointer (aa ⟨3,0,aj⟩)])),aa (.inr (.inr (.inr (.inl (.tree s))))),aa (.inr (.inr (.inr (.inr (.tree g))))),aa (.inr (.inr (.inr (.inr (.tree h)))))]=>aa ⟨Km (⟨s,g,h,c⟩:QS) u,.agg ⟨[.slice (aa ⟨4,0,aa 2000⟩) ([]:List It).length ([]:List It).length,.slice (aa ⟨5,0,aa 2000⟩) (Cv (⟨s,g,h,c⟩:QS) u).length (Cv (⟨s,g,h,c⟩:QS) u).length]⟩,aj,[bQ (FM (⟨s,g,h,c⟩:QS) u),oM (FM (⟨s,g,h,c⟩:QS) u).mt,oS (FM (⟨s,g,h,c⟩:QS) u).pr,oS (FM (⟨s,g,h,c⟩:QS) u).gn,oI [],oI (Cv (⟨s,g,h,c⟩:QS) u)],[],[(0,0)]⟩
 |_,_=>aj
theorem aie:ck D2 Tryz.prog 71 (a9 adM):=by
 refine fw Tryz.f71 fun args hh x hx=>?_
 unfold adM at hx;split at hx
 ·rename_i u c s g h;cases hx;refine q4 fun _ hv=>?_
  generalize hG:ct (R:=Rt) _ _=G;refine cW (T:=TQg) abA mixed 200 ?_;refine bN (q:=let Z4:=bs av;let Z1:=(gH (pU (gu s) u) iz);let Z2:=(Gv.TS.last (p9 Z1) (Cw s u) u);let Z3:=(Gv.TS.AT (p9 Z1) (Cw s u) u);Vc (fE s)/\((!g9 (pU (gu s) u))=aq->aY (G (bE (aO [.slice aj 0 0,.slice aj 0 0])) [aa (.inl (98,[Z4 c,.pointer (aa ⟨1,0,aj⟩),.pointer (aa ⟨2,0,aj⟩),.pointer (aa ⟨3,0,aj⟩)])),oM (Cw s u),oS g,oS h,aa (.inl (59,[.slice aj 0 0,.slice aj 0 0])),aa (.inl (47,[.bool (g9 (pU (gu s) u)),Z4 (It.k Z1),Z4 (It.i Z1)]))]))/\((!g9 (pU (gu s) u))=ao->Vc True/\Vc True/\Vc (fE (Cw s u))/\Vc (fE Z2/\tP (KR Z2 Z3) (DY Z2 Z3 ao))/\Vc (fE g)/\Vc (tP h (jr Z1 ao (0:Int)))/\aY (G (bE (aO [.slice aj 0 0,.slice (aa ⟨7,0,aa 2000⟩) 1 1])) [aa (.inl (98,[Z4 c,.pointer (aa ⟨1,0,aj⟩),.pointer (aa ⟨2,0,aj⟩),.pointer (aa ⟨3,0,aj⟩)])),oM (A4 Z2 Z3 ao),oS (xT g (jr Z1 ao (0:Int))),oS (C3 h (jr Z1 ao (0:Int))),aa (.inl (59,[.slice aj 0 0,.slice (aa ⟨7,0,aa 2000⟩) 1 1])),aa (.inl (47,[.bool (g9 (pU (gu s) u)),Z4 (It.k Z1),Z4 (It.i Z1)])),aa (.inl (75,[Z4 (It.k Z1),Z4 (It.i Z1),.bool ao,Z4 0])),aa (.inr (.inl (31,Row.mk [Z4 0,Z4 0] 1 [aT.mk [It.k Z1] [] [],aT.mk [It.i Z1] [] []])))]))) ?_ (by kernel_rfl)
  intro Z4 Z1 Z2 Z3;subst Z3 Z2 Z1 Z4;obtain⟨f1,f2,f3,f4⟩:=hv;refine⟨⟨f1⟩,fun h1=>?_,fun h1=>?_⟩
  ·have h1:¬ Oy (⟨s,g,h,c⟩:QS) u=aq:=by
    intro e;rw[show(pU s.l u).isSome=aq from e] at h1;cases h1
   subst hG;rw[show FM (⟨s,g,h,c⟩:QS) u=⟨Cw s u,g,h,c⟩ from if_neg h1,show Cv (⟨s,g,h,c⟩:QS) u=[] from if_neg h1]
   exact⟨⟨[0,1,2,3,90,91],rfl,rfl,⟨.inl rfl,rfl,rfl,rfl,⟨rfl,iG _,rfl⟩,⟨rfl,iG _,rfl⟩,trivial⟩,rfl,rfl,rfl,rfl⟩⟩
  ·have h1:Oy (⟨s,g,h,c⟩:QS) u=aq:=by
    show(pU s.l u).isSome=aq
    cases e:(pU s.l u).isSome
    ·rw[e] at h1;cases h1
    ·rfl
   obtain⟨g1,g2⟩:=f4 h1;subst hG;rw[show FM (⟨s,g,h,c⟩:QS) u=⟨A4 (RV (⟨s,g,h,c⟩:QS) u) (UO (⟨s,g,h,c⟩:QS) u) ao,g.drop (sl (Je (⟨s,g,h,c⟩:QS) u)),h.put (sl (Je (⟨s,g,h,c⟩:QS) u)),c⟩ from if_pos h1,show Cv (⟨s,g,h,c⟩:QS) u=[Je (⟨s,g,h,c⟩:QS) u] from if_pos h1]
   exact⟨⟨trivial⟩,⟨trivial⟩,⟨f1⟩,⟨f1,g1⟩,⟨f2⟩,⟨g2⟩,⟨⟨[0,1,2,3,90,7],rfl,rfl,⟨.inl rfl,rfl,rfl,rfl,⟨rfl,iG _,rfl⟩,⟨_,rfl,.inl rfl⟩,trivial⟩,rfl,rfl,rfl,rfl⟩⟩⟩
 ·cases hx
end Pa
namespace Pa
open Rx Wv Br
open Sh (rG wz mJ sl nL)
set_option maxRecDepth 100000
set_option maxHeartbeats 8000000
def TQI:eK Rt:=[(62,bM zN 2 (a9 Zj)),(63,bM zN 2 (a9 YE)),(64,bM zN 2 (a9 ac0)),(72,bM zN 2 (a9 acZ)),(70,bM zN 2 (a9 ad6)),(71,bM zN 2 (a9 adM)),(65,bM zN 2 (c8 (a9 G8.GC))),(67,bM zN 2 (c8 (a9 G8.Dt))),(74,bM zN 2 (c8 (a9 G8.Cl))),(73,bM zN 2 (c8 (a9 G8.CR))),(68,bM zN 2 (c9 (a9 G9.Dt))),(75,bM zN 2 (c9 (a9 G9.Cl))),(66,bM zN 2 (a9 ZE)),(69,bM zN 2 (a9 Ys))]
theorem UK:cQ D2 Tryz.prog TQI:=⟨aX _ _ agS,aX _ _ agd,aX _ _ aif,aX _ _ ai7,aX _ _ aj8,aX _ _ aie,aX _ _ (nD G8.TR),aX _ _ (nD G8.GR),aX _ _ (nD G8.HF),aX _ _ (nD W4),aX _ _ (xw G9.GR),aX _ _ (xw W5),aX _ _ abF,aX _ _ Su,trivial⟩
def aeT:Prim Rt:=fun args hh=>match args,hh with
 |[.pointer (aa ⟨0,0,aj⟩),.int .i64 t,.agg ⟨[.int .i64 a,.int .i64 b]⟩],[aa (.inl (98,[.int .i64 c,.pointer (aa ⟨1,0,aj⟩),.pointer (aa ⟨2,0,aj⟩),.pointer (aa ⟨3,0,aj⟩)])),aa (.inr (.inr (.inr (.inl (.tree s))))),aa (.inr (.inr (.inr (.inr (.tree g))))),aa (.inr (.inr (.inr (.inr (.tree h)))))]=>aa ⟨Ty (⟨s,g,h,c⟩:QS) t ⟨a,b⟩,.tuple #[.agg ⟨[.slice (aa ⟨4,0,aa 2000⟩) (wo (⟨s,g,h,c⟩:QS) t ⟨a,b⟩).length (wo (⟨s,g,h,c⟩:QS) t ⟨a,b⟩).length,.slice (aa ⟨5,0,aa 2000⟩) ([]:List It).length ([]:List It).length]⟩,.int .i64 (EE (⟨s,g,h,c⟩:QS) t ⟨a,b⟩)],aj,[bQ (kI (⟨s,g,h,c⟩:QS) t ⟨a,b⟩),oM (kI (⟨s,g,h,c⟩:QS) t ⟨a,b⟩).mt,oS (kI (⟨s,g,h,c⟩:QS) t ⟨a,b⟩).pr,oS (kI (⟨s,g,h,c⟩:QS) t ⟨a,b⟩).gn,oI (wo (⟨s,g,h,c⟩:QS) t ⟨a,b⟩),oI []],[],[(0,0)]⟩
 |_,_=>aj
theorem agE:ck D2 Tryz.prog 24 (a9 aeT):=by
 refine fw Tryz.f24 fun args hh x hx=>?_
 unfold aeT at hx;split at hx
 ·rename_i t a b c s g h;cases hx;refine q4 fun _ hv=>?_
  generalize hG:ct (R:=Rt) _ _=G;refine cW (T:=TQI) UK mixed 200 ?_;refine bN (q:=let cP:=aE (aa ⟨3,0,aj⟩);let cz:=aE (aa ⟨2,0,aj⟩);let dR:=aE (aa ⟨1,0,aj⟩);let fJ:=bs av;let Z1:=(nP (QS.mk s g h c) t);let Z2:=(QS.mt (BS Z1 (It.mk a b)));let Z3:=(Mk.mk t ao (It.mk (0:Int) (0:Int)) ao ao (It.mk (0:Int) (0:Int)));let Z4:=(QS.mk (Qg Z2 Z3) (QS.pr (BS Z1 (It.mk a b))) (QS.gn (BS Z1 (It.mk a b))) (QS.cap (BS Z1 (It.mk a b))));let Z5:=(Bi Z4 (↑(ae (yB O8 Z3 (gu Z2))):Int));let Z6:=(Mk.mk t aq (It.mk a b) ao ao (It.mk (0:Int) (0:Int)));let Z7:=(QS.mk (C3 (QS.mt Z5) Z6) (QS.pr Z5) (C3 (QS.gn Z5) (jr (It.mk a b) ao (0:Int))) (QS.cap Z5));let Z8:=(FZ Z4 (↑(ae (yB O8 Z3 (gu Z2))):Int));let Z9:=(ae (yy Z7 Z8));Vc (fE s)/\((mU (QS.mk s g h c) t != (0:Int))=aq->aY (G (cv (aO [.agg (aO [.slice aj 0 0,.slice aj 0 0]),fJ (mU (QS.mk s g h c) t)])) [aa (.inl (98,[fJ (QS.cap Z1),dR,cz,cP])),oM (QS.mt Z1),oS (QS.pr Z1),oS (QS.gn Z1),aa (.inl (31,[fJ a,fJ b])),aa (.inl (59,[.slice aj 0 0,.slice aj 0 0]))]))/\((mU (QS.mk s g h c) t != (0:Int))=ao->Vc (QS.gE Z1)/\(AO Z1 (It.mk a b)=aq->aY (G (cv (aO [.agg (aO [.slice aj 0 0,.slice aj 0 0]),fJ 2])) [aa (.inl (98,[fJ (QS.cap (BS Z1 (It.mk a b))),dR,cz,cP])),oM Z2,oS (QS.pr (BS Z1 (It.mk a b))),oS (QS.gn (BS Z1 (It.mk a b))),aa (.inl (31,[fJ a,fJ b])),aa (.inl (59,[.slice aj 0 0,.slice aj 0 0]))]))/\(AO Z1 (It.mk a b)=ao->Vc True/\Vc (fE Z2)/\Vc (QS.gE Z4)/\Vc (tP (QS.mt Z5) Z6)/\Vc True/\Vc (tP (QS.gn Z5) (jr (It.mk a b) ao (0:Int)))/\Vc (JS Z7 Z8)/\aY (G (cv (aO [.agg (aO [.slice (aa ⟨6,0,aa 2000⟩) Z9 Z9,.slice (aa ⟨7,0,aa 2000⟩) 0 0]),fJ 0])) [aa (.inl (98,[fJ (QS.cap (vG Z7 Z8)),dR,cz,cP])),oM (QS.mt (vG Z7 Z8)),oS (QS.pr (vG Z7 Z8)),oS (QS.gn (vG Z7 Z8)),aa (.inl (31,[fJ a,fJ b])),aa (.inl (59,[.slice (aa ⟨6,0,aa 2000⟩) Z9 Z9,.slice (aa ⟨7,0,aa 2000⟩) 0 0])),aa (.inr (.inl (31,Row.mk [fJ 0,fJ 0] Z9 [aT.mk (au It.k (yy Z7 Z8)) [] [],aT.mk (au It.i (yy Z7 Z8)) [] []]))),aa (.inr (.inl (31,Row.mk [fJ 0,fJ 0] 0 [aT.mk [] [] [],aT.mk [] [] []])))])))) ?_ (by kernel_rfl)
  intro cP cz dR fJ Z1 Z2 Z3 Z4 Z5 Z6 Z7 Z8 Z9;subst Z9 Z8 Z7 Z6 Z5 Z4 Z3 Z2 Z1 fJ dR cz cP;obtain⟨⟨f1,f2,f3⟩,ok⟩:=hv;have fr:=XC (t:=t) (q:=(⟨s,g,h,c⟩:QS)) ⟨f1,f2,f3⟩;refine⟨⟨f1⟩,fun h1=>?_,fun h1=>⟨⟨fr⟩,fun h2=>?_,fun h2=>?_⟩⟩
  ·have h1:¬ mU (⟨s,g,h,c⟩:QS) t=0:=fun e=>by rw[e] at h1;cases h1
   subst hG;rw[show kI (⟨s,g,h,c⟩:QS) t ⟨a,b⟩=nP (⟨s,g,h,c⟩:QS) t from if_neg h1,show wo (⟨s,g,h,c⟩:QS) t ⟨a,b⟩=[] from if_neg h1,show EE (⟨s,g,h,c⟩:QS) t ⟨a,b⟩=mU (⟨s,g,h,c⟩:QS) t from if_neg h1]
   exact⟨⟨[0,1,2,3,90,91],rfl,rfl,⟨.inl rfl,rfl,rfl,rfl,⟨rfl,iG _,rfl⟩,⟨rfl,iG _,rfl⟩,trivial⟩,rfl,rfl,rfl,rfl⟩⟩
  ·have h1:mU (⟨s,g,h,c⟩:QS) t=0:=by simpa using h1
   subst hG;rw[show kI (⟨s,g,h,c⟩:QS) t ⟨a,b⟩=L1 (⟨s,g,h,c⟩:QS) t ⟨a,b⟩ from(if_pos h1).trans (if_pos h2),show wo (⟨s,g,h,c⟩:QS) t ⟨a,b⟩=[] from(if_pos h1).trans (if_pos h2),show EE (⟨s,g,h,c⟩:QS) t ⟨a,b⟩=2 from(if_pos h1).trans (if_pos h2)]
   exact⟨⟨[0,1,2,3,90,91],rfl,rfl,⟨.inl rfl,rfl,rfl,rfl,⟨rfl,iG _,rfl⟩,⟨rfl,iG _,rfl⟩,trivial⟩,rfl,rfl,rfl,rfl⟩⟩
  ·have h1:mU (⟨s,g,h,c⟩:QS) t=0:=by simpa using h1
   have h3:¬ AO (nP (⟨s,g,h,c⟩:QS) t) ⟨a,b⟩=aq:=by rw[h2];decide
   obtain⟨g1,g2,g3⟩:=ok h1 h2;subst hG;rw[show kI (⟨s,g,h,c⟩:QS) t ⟨a,b⟩=vG (Me (⟨s,g,h,c⟩:QS) t ⟨a,b⟩) (OF (⟨s,g,h,c⟩:QS) t ⟨a,b⟩) from(if_pos h1).trans (if_neg h3),show wo (⟨s,g,h,c⟩:QS) t ⟨a,b⟩=yy (Me (⟨s,g,h,c⟩:QS) t ⟨a,b⟩) (OF (⟨s,g,h,c⟩:QS) t ⟨a,b⟩) from(if_pos h1).trans (if_neg h3),show EE (⟨s,g,h,c⟩:QS) t ⟨a,b⟩=0 from(if_pos h1).trans (if_neg h3)]
   exact⟨⟨trivial⟩,⟨fr.1⟩,⟨fr⟩,⟨g1⟩,⟨trivial⟩,⟨g2⟩,⟨g3⟩,⟨⟨[0,1,2,3,6,7],rfl,rfl,⟨.inl rfl,rfl,rfl,rfl,⟨_,rfl,.inl rfl⟩,⟨_,rfl,.inl rfl⟩,trivial⟩,rfl,rfl,rfl,rfl⟩⟩⟩
 ·cases hx
def ae2:Prim Rt:=fun args hh=>match args,hh with
 |[.pointer (aa ⟨0,0,aj⟩),.int .i64 t],[aa (.inl (98,[.int .i64 c,.pointer (aa ⟨1,0,aj⟩),.pointer (aa ⟨2,0,aj⟩),.pointer (aa ⟨3,0,aj⟩)])),aa (.inr (.inr (.inr (.inl (.tree s))))),aa (.inr (.inr (.inr (.inr (.tree g))))),aa (.inr (.inr (.inr (.inr (.tree h)))))]=>aa ⟨Tc (⟨s,g,h,c⟩:QS) t,.tuple #[.agg ⟨[.slice (aa ⟨4,0,aa 2000⟩) ([]:List It).length ([]:List It).length,.slice (aa ⟨5,0,aa 2000⟩) (C7 (⟨s,g,h,c⟩:QS) t).length (C7 (⟨s,g,h,c⟩:QS) t).length]⟩,.int .i64 (mU (⟨s,g,h,c⟩:QS) t)],aj,[bQ (kp (⟨s,g,h,c⟩:QS) t),oM (kp (⟨s,g,h,c⟩:QS) t).mt,oS (kp (⟨s,g,h,c⟩:QS) t).pr,oS (kp (⟨s,g,h,c⟩:QS) t).gn,oI [],oI (C7 (⟨s,g,h,c⟩:QS) t)],[],[(0,0)]⟩
 |_,_=>aj
theorem agR:ck D2 Tryz.prog 25 (a9 ae2):=by
 refine fw Tryz.f25 fun args hh x hx=>?_
 unfold ae2 at hx;split at hx
 ·rename_i t c s g h;cases hx;refine q4 fun _ hv=>?_
  generalize hG:ct (R:=Rt) _ _=G;refine cW (T:=TQI) UK mixed 200 ?_;refine bN (q:=let Z7:=bs av;let Z1:=(nP (QS.mk s g h c) t);let Z2:=(Mk.mk t ao (It.mk (0:Int) (0:Int)) ao ao (It.mk (0:Int) (0:Int)));let Z3:=(QS.mk (Qg (QS.mt Z1) Z2) (QS.pr Z1) (QS.gn Z1) (QS.cap Z1));let Z4:=(↑(ae (yB O8 Z2 (gu (QS.mt Z1)))):Int);let Z5:=(FM (GO Z3 Z4) (JN Z3 Z4));let Z6:=(Cv (GO Z3 Z4) (JN Z3 Z4));Vc (fE s)/\((mU (QS.mk s g h c) t != (0:Int))=aq->aY (G (cv (aO [.agg (aO [.slice aj 0 0,.slice aj 0 0]),Z7 (mU (QS.mk s g h c) t)])) [aa (.inl (98,[Z7 (QS.cap Z1),.pointer (aa ⟨1,0,aj⟩),.pointer (aa ⟨2,0,aj⟩),.pointer (aa ⟨3,0,aj⟩)])),oM (QS.mt Z1),oS (QS.pr Z1),oS (QS.gn Z1),aa (.inl (59,[.slice aj 0 0,.slice aj 0 0]))]))/\((mU (QS.mk s g h c) t != (0:Int))=ao->Vc True/\Vc (fE (QS.mt Z1))/\Vc (QS.gE Z3)/\Vc (Km (GO Z3 Z4) (JN Z3 Z4))/\Vc (tP (QS.mt Z5) Z2)/\aY (G (cv (aO [.agg (aO [.slice (aa ⟨6,0,aa 2000⟩) 0 0,.slice (aa ⟨7,0,aa 2000⟩) (ae Z6) (ae Z6)]),Z7 0])) [aa (.inl (98,[Z7 (QS.cap Z5),.pointer (aa ⟨1,0,aj⟩),.pointer (aa ⟨2,0,aj⟩),.pointer (aa ⟨3,0,aj⟩)])),oM (C3 (QS.mt Z5) Z2),oS (QS.pr Z5),oS (QS.gn Z5),aa (.inl (59,[.slice (aa ⟨6,0,aa 2000⟩) 0 0,.slice (aa ⟨7,0,aa 2000⟩) (ae Z6) (ae Z6)])),aa (.inl (49,[Z7 t,.bool ao,Z7 0,Z7 0,.bool ao,.bool ao,Z7 0,Z7 0])),aa (.inr (.inl (31,Row.mk [Z7 0,Z7 0] 0 [aT.mk [] [] [],aT.mk [] [] []]))),aa (.inr (.inl (31,Row.mk [Z7 0,Z7 0] (ae Z6) [aT.mk (au It.k Z6) [] [],aT.mk (au It.i Z6) [] []]))),aa (.inl (59,[.slice (aa ⟨6,0,aa 2000⟩) 0 0,.slice (aa ⟨7,0,aa 2000⟩) (ae Z6) (ae Z6)]))]))) ?_ (by kernel_rfl)
  intro Z7 Z1 Z2 Z3 Z4 Z5 Z6;subst Z6 Z5 Z4 Z3 Z2 Z1 Z7;obtain⟨⟨f1,f2,f3⟩,ok⟩:=hv;have fr:=XC (t:=t) (q:=(⟨s,g,h,c⟩:QS)) ⟨f1,f2,f3⟩;refine⟨⟨f1⟩,fun h1=>?_,fun h1=>?_⟩
  ·have h1:¬ mU (⟨s,g,h,c⟩:QS) t=0:=fun e=>by rw[e] at h1;cases h1
   subst hG;rw[show kp (⟨s,g,h,c⟩:QS) t=nP (⟨s,g,h,c⟩:QS) t from if_neg h1,show C7 (⟨s,g,h,c⟩:QS) t=[] from if_neg h1]
   exact⟨⟨[0,1,2,3,90,91],rfl,rfl,⟨.inl rfl,rfl,rfl,rfl,⟨rfl,iG _,rfl⟩,⟨rfl,iG _,rfl⟩,trivial⟩,rfl,rfl,rfl,rfl⟩⟩
  ·have h1:mU (⟨s,g,h,c⟩:QS) t=0:=by simpa using h1
   obtain⟨g1,g2⟩:=ok h1;subst hG;rw[show kp (⟨s,g,h,c⟩:QS) t=⟨(uH (⟨s,g,h,c⟩:QS) t).mt.put (kH t),(uH (⟨s,g,h,c⟩:QS) t).pr,(uH (⟨s,g,h,c⟩:QS) t).gn,(uH (⟨s,g,h,c⟩:QS) t).cap⟩ from if_pos h1,show C7 (⟨s,g,h,c⟩:QS) t=Cv (Yl (⟨s,g,h,c⟩:QS) t) (Ov (⟨s,g,h,c⟩:QS) t) from if_pos h1,h1]
   exact⟨⟨trivial⟩,⟨fr.1⟩,⟨fr⟩,⟨g1⟩,⟨g2⟩,⟨⟨[0,1,2,3,6,7],rfl,rfl,⟨.inl rfl,rfl,rfl,rfl,⟨_,rfl,.inl rfl⟩,⟨_,rfl,.inl rfl⟩,trivial⟩,rfl,rfl,rfl,rfl⟩⟩⟩
 ·cases hx
def ae9:Prim Rt:=fun args hh=>match args,hh with
 |[.pointer (aa ⟨0,0,aj⟩),.int .i64 t],[aa (.inl (98,[.int .i64 c,.pointer (aa ⟨1,0,aj⟩),.pointer (aa ⟨2,0,aj⟩),.pointer (aa ⟨3,0,aj⟩)])),aa (.inr (.inr (.inr (.inl (.tree s))))),aa (.inr (.inr (.inr (.inr (.tree g))))),aa (.inr (.inr (.inr (.inr (.tree h)))))]=>aa ⟨ZD (⟨s,g,h,c⟩:QS) t,.tuple #[.agg ⟨[.slice (aa ⟨4,0,aa 2000⟩) (wE (⟨s,g,h,c⟩:QS) t).length (wE (⟨s,g,h,c⟩:QS) t).length,.slice (aa ⟨5,0,aa 2000⟩) (wH (⟨s,g,h,c⟩:QS) t).length (wH (⟨s,g,h,c⟩:QS) t).length]⟩,.int .i64 (KD (⟨s,g,h,c⟩:QS) t)],aj,[bQ (jR (⟨s,g,h,c⟩:QS) t),oM (jR (⟨s,g,h,c⟩:QS) t).mt,oS (jR (⟨s,g,h,c⟩:QS) t).pr,oS (jR (⟨s,g,h,c⟩:QS) t).gn,oI (wE (⟨s,g,h,c⟩:QS) t),oI (wH (⟨s,g,h,c⟩:QS) t)],[],[(0,0)]⟩
 |_,_=>aj
theorem agW:ck D2 Tryz.prog 27 (a9 ae9):=by
 refine fw Tryz.f27 fun args hh x hx=>?_
 unfold ae9 at hx;split at hx
 ·rename_i t c s g h;cases hx;refine q4 fun _ hv=>?_
  generalize hG:ct (R:=Rt) _ _=G;refine cW (T:=TQI) UK mixed 200 ?_;refine bN (q:=let Z9:=aE (aa ⟨3,0,aj⟩);let cP:=aE (aa ⟨2,0,aj⟩);let cz:=aE (aa ⟨1,0,aj⟩);let dR:=bs av;let Z1:=(Mk.mk t ao (It.mk (0:Int) (0:Int)) ao ao (It.mk (0:Int) (0:Int)));let Z2:=(aB (fv O8 Z1 (gu s)));let Z3:=(QS.mk (Qg (oj s Z1) Z2) g h c);let Z4:=(↑(ae (yB O8 Z2 (gu (oj s Z1)))):Int);let Z5:=(QS.mk (xT (QS.mt (Bi Z3 Z4)) Z2) (QS.pr (Bi Z3 Z4)) (QS.gn (Bi Z3 Z4)) (QS.cap (Bi Z3 Z4)));let Z6:=(ae (yy Z5 (FZ Z3 Z4)));let Z7:=(FM (GO Z3 (Z4+(1:Int))) (JN Z3 (Z4+(1:Int))));let Z8:=(Cv (GO Z3 (Z4+(1:Int))) (JN Z3 (Z4+(1:Int))));Vc True/\Vc (fE s)/\((!aw (fv O8 Z1 (gu s)))=aq->aY (G (cv (aO [.agg (aO [.slice aj 0 0,.slice aj 0 0]),dR 14])) [aa (.inl (98,[dR c,cz,cP,Z9])),oM (oj s Z1),oS g,oS h,aa (.inl (59,[.slice aj 0 0,.slice aj 0 0])),aa (.inl (49,[dR (Mk.t Z2),.bool (Mk.ins Z2),dR (It.k (Mk.it Z2)),dR (It.i (Mk.it Z2)),.bool (Mk.here Z2),.bool (Mk.tf Z2),dR (It.k (Mk.tk Z2)),dR (It.i (Mk.tk Z2))]))]))/\((!aw (fv O8 Z1 (gu s)))=ao->((!Mk.ins Z2)=aq->Vc (fE (oj s Z1))/\Vc (QS.gE Z3)/\Vc (fE (QS.mt (Bi Z3 Z4)))/\Vc (JS Z5 (FZ Z3 Z4))/\aY (G (cv (aO [.agg (aO [.slice (aa ⟨6,0,aa 2000⟩) Z6 Z6,.slice (aa ⟨7,0,aa 2000⟩) 0 0]),dR 0])) [aa (.inl (98,[dR (QS.cap (vG Z5 (FZ Z3 Z4))),cz,cP,Z9])),oM (QS.mt (vG Z5 (FZ Z3 Z4))),oS (QS.pr (vG Z5 (FZ Z3 Z4))),oS (QS.gn (vG Z5 (FZ Z3 Z4))),aa (.inl (59,[.slice (aa ⟨6,0,aa 2000⟩) Z6 Z6,.slice (aa ⟨7,0,aa 2000⟩) 0 0])),aa (.inl (49,[dR (Mk.t Z2),.bool (Mk.ins Z2),dR (It.k (Mk.it Z2)),dR (It.i (Mk.it Z2)),.bool (Mk.here Z2),.bool (Mk.tf Z2),dR (It.k (Mk.tk Z2)),dR (It.i (Mk.tk Z2))])),aa (.inr (.inl (31,Row.mk [dR 0,dR 0] Z6 [aT.mk (au It.k (yy Z5 (FZ Z3 Z4))) [] [],aT.mk (au It.i (yy Z5 (FZ Z3 Z4))) [] []]))),aa (.inr (.inl (31,Row.mk [dR 0,dR 0] 0 [aT.mk [] [] [],aT.mk [] [] []])))]))/\((!Mk.ins Z2)=ao->(Mk.here Z2=aq->Vc (fE (oj s Z1))/\Vc True/\Vc (fE g)/\aY (G (cv (aO [.agg (aO [.slice aj 0 0,.slice (aa ⟨6,0,aa 2000⟩) 1 1]),dR 0])) [aa (.inl (98,[dR c,cz,cP,Z9])),oM (xT (oj s Z1) Z2),oS (xT g (jr (Mk.it Z2) ao (0:Int))),oS h,aa (.inl (59,[.slice aj 0 0,.slice (aa ⟨6,0,aa 2000⟩) 1 1])),aa (.inl (49,[dR (Mk.t Z2),.bool (Mk.ins Z2),dR (It.k (Mk.it Z2)),dR (It.i (Mk.it Z2)),.bool (Mk.here Z2),.bool (Mk.tf Z2),dR (It.k (Mk.tk Z2)),dR (It.i (Mk.tk Z2))])),aa (.inr (.inl (31,Row.mk [dR 0,dR 0] 1 [aT.mk [It.k (Mk.it Z2)] [] [],aT.mk [It.i (Mk.it Z2)] [] []])))]))/\(Mk.here Z2=ao->Vc (fE (oj s Z1))/\Vc (fits (Z4+(1:Int)))/\Vc (QS.gE Z3)/\Vc (Km (GO Z3 (Z4+(1:Int))) (JN Z3 (Z4+(1:Int))))/\Vc (fE (QS.mt Z7))/\Vc True/\Vc (fE (QS.gn Z7))/\aY (G (cv (aO [.agg (aO [.slice (aa ⟨6,0,aa 2000⟩) 0 0,.slice (aa ⟨7,0,aa 2000⟩) (ae Z8) (ae Z8)]),dR 0])) [aa (.inl (98,[dR (QS.cap Z7),cz,cP,Z9])),oM (xT (QS.mt Z7) Z2),oS (QS.pr Z7),oS (xT (QS.gn Z7) (jr (Mk.it Z2) ao (0:Int))),aa (.inl (59,[.slice (aa ⟨6,0,aa 2000⟩) 0 0,.slice (aa ⟨7,0,aa 2000⟩) (ae Z8) (ae Z8)])),aa (.inl (49,[dR (Mk.t Z2),.bool (Mk.ins Z2),dR (It.k (Mk.it Z2)),dR (It.i (Mk.it Z2)),.bool (Mk.here Z2),.bool (Mk.tf Z2),dR (It.k (Mk.tk Z2)),dR (It.i (Mk.tk Z2))])),aa (.inr (.inl (31,Row.mk [dR 0,dR 0] 0 [aT.mk [] [] [],aT.mk [] [] []]))),aa (.inr (.inl (31,Row.mk [dR 0,dR 0] (ae Z8) [aT.mk (au It.k Z8) [] [],aT.mk (au It.i Z8) [] []]))),aa (.inl (59,[.slice (aa ⟨6,0,aa 2000⟩) 0 0,.slice (aa ⟨7,0,aa 2000⟩) (ae Z8) (ae Z8)]))]))))) ?_ (by kernel_rfl)
  intro Z9 cP cz dR Z1 Z2 Z3 Z4 Z5 Z6 Z7 Z8;subst Z8 Z7 Z6 Z5 Z4 Z3 Z2 Z1 dR cz cP Z9;obtain⟨⟨f1,f2,f3⟩,ok⟩:=hv;have bp:0≤Eb (⟨s,g,h,c⟩:QS) t/\Eb (⟨s,g,h,c⟩:QS) t≤60:=by
   have h1:=RO s;have h2:(yB O8 (mL (⟨s,g,h,c⟩:QS) t) s.l).length≤s.l.length:=by rw[Gv.OR,eu];omega
   exact⟨Int.natCast_nonneg _,by show((yB O8 (mL (⟨s,g,h,c⟩:QS) t) s.l).length:Int)≤60;omega⟩
  refine⟨⟨trivial⟩,⟨f1⟩,fun h1=>?_,fun h1=>⟨fun h2=>?_,fun h2=>⟨fun h3=>?_,fun h3=>?_⟩⟩⟩
  ·have h1:(!FR (⟨s,g,h,c⟩:QS) t)=aq:=h1;have h1:¬ FR (⟨s,g,h,c⟩:QS) t=aq:=by simpa using h1
   subst hG;rw[show jR (⟨s,g,h,c⟩:QS) t=Bh (⟨s,g,h,c⟩:QS) t from if_neg h1,show wE (⟨s,g,h,c⟩:QS) t=[] from if_neg h1,show wH (⟨s,g,h,c⟩:QS) t=[] from if_neg h1,show KD (⟨s,g,h,c⟩:QS) t=14 from if_neg h1]
   exact⟨⟨[0,1,2,3,90,91],rfl,rfl,⟨.inl rfl,rfl,rfl,rfl,⟨rfl,iG _,rfl⟩,⟨rfl,iG _,rfl⟩,trivial⟩,rfl,rfl,rfl,rfl⟩⟩
  all_goals
   have h1:(!FR (⟨s,g,h,c⟩:QS) t)=ao:=h1;have h1:FR (⟨s,g,h,c⟩:QS) t=aq:=by simpa using h1
   have hc:KD (⟨s,g,h,c⟩:QS) t=0:=if_pos h1
  ·have h2:(!(mL (⟨s,g,h,c⟩:QS) t).ins)=aq:=h2;have h2:(mL (⟨s,g,h,c⟩:QS) t).ins=ao:=by simpa using h2
   have h3:¬ (mL (⟨s,g,h,c⟩:QS) t).ins=aq:=by rw[h2];decide
   have g1:=(ok h1).1 h2;subst hG;rw[show jR (⟨s,g,h,c⟩:QS) t=vG (Sf (⟨s,g,h,c⟩:QS) t) (Kt (⟨s,g,h,c⟩:QS) t) from(if_pos h1).trans (if_neg h3),show wE (⟨s,g,h,c⟩:QS) t=yy (Sf (⟨s,g,h,c⟩:QS) t) (Kt (⟨s,g,h,c⟩:QS) t) from(if_pos h1).trans (if_neg h3),show wH (⟨s,g,h,c⟩:QS) t=[] from(if_pos h1).trans (if_neg h3),hc]
   exact⟨⟨f1⟩,⟨f1,f2,f3⟩,⟨f1⟩,⟨g1⟩,⟨⟨[0,1,2,3,6,7],rfl,rfl,⟨.inl rfl,rfl,rfl,rfl,⟨_,rfl,.inl rfl⟩,⟨_,rfl,.inl rfl⟩,trivial⟩,rfl,rfl,rfl,rfl⟩⟩⟩
  all_goals
   have h2:(!(mL (⟨s,g,h,c⟩:QS) t).ins)=ao:=h2;have h2:(mL (⟨s,g,h,c⟩:QS) t).ins=aq:=by simpa using h2
  ·have h3:(mL (⟨s,g,h,c⟩:QS) t).here=aq:=h3;subst hG;rw[show jR (⟨s,g,h,c⟩:QS) t=⟨(Bh (⟨s,g,h,c⟩:QS) t).mt.drop (mL (⟨s,g,h,c⟩:QS) t),(Bh (⟨s,g,h,c⟩:QS) t).pr.drop (sl (mL (⟨s,g,h,c⟩:QS) t).it),(Bh (⟨s,g,h,c⟩:QS) t).gn,(Bh (⟨s,g,h,c⟩:QS) t).cap⟩ from(if_pos h1).trans ((if_pos h2).trans (if_pos h3)),show wE (⟨s,g,h,c⟩:QS) t=[] from(if_pos h1).trans (if_pos h2),show wH (⟨s,g,h,c⟩:QS) t=[(mL (⟨s,g,h,c⟩:QS) t).it] from(if_pos h1).trans ((if_pos h2).trans (if_pos h3)),hc]
   exact⟨⟨f1⟩,⟨trivial⟩,⟨f2⟩,⟨⟨[0,1,2,3,90,6],rfl,rfl,⟨.inl rfl,rfl,rfl,rfl,⟨rfl,iG _,rfl⟩,⟨_,rfl,.inl rfl⟩,trivial⟩,rfl,rfl,rfl,rfl⟩⟩⟩
  ·have h3:(mL (⟨s,g,h,c⟩:QS) t).here=ao:=h3;have h4:¬ (mL (⟨s,g,h,c⟩:QS) t).here=aq:=by rw[h3];decide
   obtain⟨g1,g2,g3⟩:=(ok h1).2 h2 h3;subst hG;rw[show jR (⟨s,g,h,c⟩:QS) t=⟨(zY (⟨s,g,h,c⟩:QS) t).mt.drop (mL (⟨s,g,h,c⟩:QS) t),(zY (⟨s,g,h,c⟩:QS) t).pr,(zY (⟨s,g,h,c⟩:QS) t).gn.drop (sl (mL (⟨s,g,h,c⟩:QS) t).it),(zY (⟨s,g,h,c⟩:QS) t).cap⟩ from(if_pos h1).trans ((if_pos h2).trans (if_neg h4)),show wE (⟨s,g,h,c⟩:QS) t=[] from(if_pos h1).trans (if_pos h2),show wH (⟨s,g,h,c⟩:QS) t=Cv (XI (⟨s,g,h,c⟩:QS) t) (Pn (⟨s,g,h,c⟩:QS) t) from(if_pos h1).trans ((if_pos h2).trans (if_neg h4)),hc]
   exact⟨⟨f1⟩,⟨by show -9223372036854775808≤Eb (⟨s,g,h,c⟩:QS) t+1;omega,by show Eb (⟨s,g,h,c⟩:QS) t+1≤9223372036854775807;omega⟩,⟨f1,f2,f3⟩,⟨g1⟩,⟨g2⟩,⟨trivial⟩,⟨g3⟩,⟨⟨[0,1,2,3,6,7],rfl,rfl,⟨.inl rfl,rfl,rfl,rfl,⟨_,rfl,.inl rfl⟩,⟨_,rfl,.inl rfl⟩,trivial⟩,rfl,rfl,rfl,rfl⟩⟩⟩
 ·cases hx
end Pa
namespace Pa
open Rx Wv Br
open Sh (rG wz mJ sl nL)
set_option maxRecDepth 100000
set_option maxRecDepth 100000
set_option maxHeartbeats 8000000
abbrev amD (l:List Mk):Row:=⟨[.int .i64 0,.bool ao,.int .i64 0,.int .i64 0,.bool ao,.bool ao,.int .i64 0,.int .i64 0],l.length,[⟨l.map fun e=>e.t,[],[]⟩,⟨[],l.map fun e=>e.ins,[]⟩,⟨l.map fun e=>e.it.k,[],[]⟩,⟨l.map fun e=>e.it.i,[],[]⟩,⟨[],l.map fun e=>e.here,[]⟩,⟨[],l.map fun e=>e.tf,[]⟩,⟨l.map fun e=>e.tk.k,[],[]⟩,⟨l.map fun e=>e.tk.i,[],[]⟩]⟩
abbrev Ug (l:List Mk):Option (SB Rt):=aa (.inr (.inl (49,amD l)))
def YB:Prim Rt:=fun args hh=>match args,hh with
 |[.pointer (aa ⟨0,0,aj⟩)],[aa (.inl (98,[.int .i64 c,.pointer (aa ⟨1,0,aj⟩),.pointer (aa ⟨2,0,aj⟩),.pointer (aa ⟨3,0,aj⟩)])),aa (.inr (.inr (.inr (.inl (.tree s))))),aa (.inr (.inr (.inr (.inr (.tree g))))),aa (.inr (.inr (.inr (.inr (.tree h)))))]=>aa ⟨(⟨s,g,h,c⟩:QS).Ok,.int .i64 (pR (⟨s,g,h,c⟩:QS).ops),aj,[bQ (o8 (⟨s,g,h,c⟩:QS)),oM (o8 (⟨s,g,h,c⟩:QS)).mt,oS (o8 (⟨s,g,h,c⟩:QS)).pr,oS (o8 (⟨s,g,h,c⟩:QS)).gn],[],[(0,0)]⟩
 |_,_=>aj
theorem agx:ck D2 Tryz.prog 39 (a9 YB):=by
 refine Pg Xn fun args hh x hx=>?_
 unfold YB at hx;split at hx
 ·rename_i c s g h;cases hx;refine⟨_,rfl,by first|exact bc _|exact mH _|exact zb _ 2|exact(by decide:(4:Nat)≤6),mg rfl,(fun hw=>by first|rfl|cases hw),fun hv=>?_⟩
  have hq:HQ (⟨s,g,h,c⟩:QS) (⟨s,g,h,c⟩:QS).ops (⟨s,g,h,c⟩:QS).cap 90000:=hv;exact⟨hq.lV (by omega),by show bs av (rh (⟨s,g,h,c⟩:QS))=_;rw[hq.pR],rfl⟩
 ·cases hx
def Te:Prim Rt:=fun args hh=>match args,hh with
 |[.pointer (aa ⟨0,0,aj⟩),.int .i64 t,.agg ⟨[.int .i64 a,.int .i64 b]⟩],[aa (.inl (98,[.int .i64 c,.pointer (aa ⟨1,0,aj⟩),.pointer (aa ⟨2,0,aj⟩),.pointer (aa ⟨3,0,aj⟩)])),aa (.inr (.inr (.inr (.inl (.tree s))))),aa (.inr (.inr (.inr (.inr (.tree g))))),aa (.inr (.inr (.inr (.inr (.tree h)))))]=>aa ⟨(⟨s,g,h,c⟩:QS).Ok/\(⟨s,g,h,c⟩:QS).ops.length≤59,.tuple #[.agg ⟨[.slice (aa ⟨4,0,aa 2000⟩) (dw (⟨s,g,h,c⟩:QS).ops (jx (⟨s,g,h,c⟩:QS).ops (⟨s,g,h,c⟩:QS).cap t ⟨a,b⟩)).length (dw (⟨s,g,h,c⟩:QS).ops (jx (⟨s,g,h,c⟩:QS).ops (⟨s,g,h,c⟩:QS).cap t ⟨a,b⟩)).length,.slice (aa ⟨5,0,aa 2000⟩) (dw (jx (⟨s,g,h,c⟩:QS).ops (⟨s,g,h,c⟩:QS).cap t ⟨a,b⟩) (⟨s,g,h,c⟩:QS).ops).length (dw (jx (⟨s,g,h,c⟩:QS).ops (⟨s,g,h,c⟩:QS).cap t ⟨a,b⟩) (⟨s,g,h,c⟩:QS).ops).length]⟩,.int .i64 (nQ (⟨s,g,h,c⟩:QS).ops (⟨s,g,h,c⟩:QS).cap t ⟨a,b⟩)],aj,[bQ (kI (⟨s,g,h,c⟩:QS) t ⟨a,b⟩),oM (kI (⟨s,g,h,c⟩:QS) t ⟨a,b⟩).mt,oS (kI (⟨s,g,h,c⟩:QS) t ⟨a,b⟩).pr,oS (kI (⟨s,g,h,c⟩:QS) t ⟨a,b⟩).gn,oI (dw (⟨s,g,h,c⟩:QS).ops (jx (⟨s,g,h,c⟩:QS).ops (⟨s,g,h,c⟩:QS).cap t ⟨a,b⟩)),oI (dw (jx (⟨s,g,h,c⟩:QS).ops (⟨s,g,h,c⟩:QS).cap t ⟨a,b⟩) (⟨s,g,h,c⟩:QS).ops)],[],[(0,0)]⟩
 |_,_=>aj
theorem Yk:ck D2 Tryz.prog 24 (a9 Te):=by
 refine Pg agE fun args hh x hx=>?_
 unfold Te at hx;split at hx
 ·rename_i t a b c s g h;cases hx;refine⟨_,rfl,by first|exact bc _|exact mH _|exact zb _ 2|exact(by decide:(4:Nat)≤6),mg rfl,(fun hw=>by first|rfl|cases hw),fun hv=>?_⟩
  have hq:HQ (⟨s,g,h,c⟩:QS) (⟨s,g,h,c⟩:QS).ops (⟨s,g,h,c⟩:QS).cap 90000:=hv.1;obtain⟨g1,g2,g3,g4,g5,g6⟩:=Hs (t:=t) (x:=⟨a,b⟩) hq hv.2 (bc _);refine⟨g1,?_,?_⟩
  ·rw[← g5,g6,← g2]
  ·rw[← g5,g6]
 ·cases hx
def Tn:Prim Rt:=fun args hh=>match args,hh with
 |[.pointer (aa ⟨0,0,aj⟩),.int .i64 t],[aa (.inl (98,[.int .i64 c,.pointer (aa ⟨1,0,aj⟩),.pointer (aa ⟨2,0,aj⟩),.pointer (aa ⟨3,0,aj⟩)])),aa (.inr (.inr (.inr (.inl (.tree s))))),aa (.inr (.inr (.inr (.inr (.tree g))))),aa (.inr (.inr (.inr (.inr (.tree h)))))]=>aa ⟨(⟨s,g,h,c⟩:QS).Ok/\(⟨s,g,h,c⟩:QS).ops.length≤59,.tuple #[.agg ⟨[.slice (aa ⟨4,0,aa 2000⟩) (dw (⟨s,g,h,c⟩:QS).ops (jE (⟨s,g,h,c⟩:QS).ops (⟨s,g,h,c⟩:QS).cap t)).length (dw (⟨s,g,h,c⟩:QS).ops (jE (⟨s,g,h,c⟩:QS).ops (⟨s,g,h,c⟩:QS).cap t)).length,.slice (aa ⟨5,0,aa 2000⟩) (dw (jE (⟨s,g,h,c⟩:QS).ops (⟨s,g,h,c⟩:QS).cap t) (⟨s,g,h,c⟩:QS).ops).length (dw (jE (⟨s,g,h,c⟩:QS).ops (⟨s,g,h,c⟩:QS).cap t) (⟨s,g,h,c⟩:QS).ops).length]⟩,.int .i64 (pE (⟨s,g,h,c⟩:QS).ops (⟨s,g,h,c⟩:QS).cap t)],aj,[bQ (kp (⟨s,g,h,c⟩:QS) t),oM (kp (⟨s,g,h,c⟩:QS) t).mt,oS (kp (⟨s,g,h,c⟩:QS) t).pr,oS (kp (⟨s,g,h,c⟩:QS) t).gn,oI (dw (⟨s,g,h,c⟩:QS).ops (jE (⟨s,g,h,c⟩:QS).ops (⟨s,g,h,c⟩:QS).cap t)),oI (dw (jE (⟨s,g,h,c⟩:QS).ops (⟨s,g,h,c⟩:QS).cap t) (⟨s,g,h,c⟩:QS).ops)],[],[(0,0)]⟩
 |_,_=>aj
theorem XM:ck D2 Tryz.prog 25 (a9 Tn):=by
 refine Pg agR fun args hh x hx=>?_
 unfold Tn at hx;split at hx
 ·rename_i t c s g h;cases hx;refine⟨_,rfl,by first|exact bc _|exact mH _|exact zb _ 2|exact(by decide:(4:Nat)≤6),mg rfl,(fun hw=>by first|rfl|cases hw),fun hv=>?_⟩
  have hq:HQ (⟨s,g,h,c⟩:QS) (⟨s,g,h,c⟩:QS).ops (⟨s,g,h,c⟩:QS).cap 90000:=hv.1;obtain⟨g1,g2,g3,g4,g5,g6⟩:=GW (t:=t) hq hv.2 (bc _);refine⟨g1,?_,?_⟩
  ·rw[← g6,g5,← g2]
  ·rw[← g6,g5]
 ·cases hx
def Tk:Prim Rt:=fun args hh=>match args,hh with
 |[.pointer (aa ⟨0,0,aj⟩),.int .i64 t],[aa (.inl (98,[.int .i64 c,.pointer (aa ⟨1,0,aj⟩),.pointer (aa ⟨2,0,aj⟩),.pointer (aa ⟨3,0,aj⟩)])),aa (.inr (.inr (.inr (.inl (.tree s))))),aa (.inr (.inr (.inr (.inr (.tree g))))),aa (.inr (.inr (.inr (.inr (.tree h)))))]=>aa ⟨(⟨s,g,h,c⟩:QS).Ok,.tuple #[.agg ⟨[.slice (aa ⟨4,0,aa 2000⟩) (dw (⟨s,g,h,c⟩:QS).ops (kW (⟨s,g,h,c⟩:QS).ops t)).length (dw (⟨s,g,h,c⟩:QS).ops (kW (⟨s,g,h,c⟩:QS).ops t)).length,.slice (aa ⟨5,0,aa 2000⟩) (dw (kW (⟨s,g,h,c⟩:QS).ops t) (⟨s,g,h,c⟩:QS).ops).length (dw (kW (⟨s,g,h,c⟩:QS).ops t) (⟨s,g,h,c⟩:QS).ops).length]⟩,.int .i64 (vk (⟨s,g,h,c⟩:QS).ops t)],aj,[bQ (jR (⟨s,g,h,c⟩:QS) t),oM (jR (⟨s,g,h,c⟩:QS) t).mt,oS (jR (⟨s,g,h,c⟩:QS) t).pr,oS (jR (⟨s,g,h,c⟩:QS) t).gn,oI (dw (⟨s,g,h,c⟩:QS).ops (kW (⟨s,g,h,c⟩:QS).ops t)),oI (dw (kW (⟨s,g,h,c⟩:QS).ops t) (⟨s,g,h,c⟩:QS).ops)],[],[(0,0)]⟩
 |_,_=>aj
theorem XE:ck D2 Tryz.prog 27 (a9 Tk):=by
 refine Pg agW fun args hh x hx=>?_
 unfold Tk at hx;split at hx
 ·rename_i t c s g h;cases hx;refine⟨_,rfl,by first|exact bc _|exact mH _|exact zb _ 2|exact(by decide:(4:Nat)≤6),mg rfl,(fun hw=>by first|rfl|cases hw),fun hv=>?_⟩
  have hq:HQ (⟨s,g,h,c⟩:QS) (⟨s,g,h,c⟩:QS).ops (⟨s,g,h,c⟩:QS).cap 90000:=hv;obtain⟨g1,g2,g3,g4,g5,g6⟩:=Le (t:=t) hq (bc _);refine⟨g1,?_,?_⟩
  ·rw[← g5,← g6,← g2]
  ·rw[← g5,← g6]
 ·cases hx
end Pa
namespace Pa
open Rx Wv Br Sh
set_option maxRecDepth 100000
set_option maxHeartbeats 8000000
def z1:Nat->Bool:=fun j=>Nat.beq j 1
abbrev sv (q:QS):Option (SB Rt):=aa (.inl (98,[.int .i64 q.cap,.pointer (aa ⟨2,0,aj⟩),.pointer (aa ⟨3,0,aj⟩),.pointer (aa ⟨4,0,aj⟩)]))
def PH (a:Act):Int:=wv a.k 3
def yl (l:List Op) (c:Int) (a:Act):Int:=if PH a=2 then vk l (fm a l) else if PH a=0 then nQ l c (fm a l) a.x else pE l c (fm a l)
def ug (l:List Op) (c:Int) (a:Act):List Op:=if PH a=2 then kW l (fm a l) else if PH a=0 then jx l c (fm a l) a.x else jE l c (fm a l)
def lA (q:QS) (a:Act):QS:=if PH a=2 then jR q (fm a q.ops) else if PH a=0 then kI q (fm a q.ops) a.x else kp q (fm a q.ops)
theorem akF {q:QS} {l:List Op} {c:Int} {n:Nat} {a:Act} (h:HQ q l c n) (wV:l.length≤59) (hn:n≤90000):HQ (lA q a) (ug l c a) c (n+10)/\(lA q a).qA≤q.qA+10000*(uR l.length+4:Nat):=by
 unfold lA ug;rw[h.ops];split
 ·have:=Le (t:=fm a l) h hn;exact⟨this.2.2.1,this.2.2.2.1⟩
 ·split
  ·have:=Hs (t:=fm a l) (x:=a.x) h wV hn;exact⟨this.2.2.1,this.2.2.2.1⟩
  ·have:=GW (t:=fm a l) h wV hn;exact⟨this.2.2.1,this.2.2.2.1⟩
theorem acr {l:List Op} {c:Int} {a:Act} (h:yl l c a≠0):ug l c a=l:=by
 unfold yl at h;unfold ug;split
 ·rename_i k;rw[if_pos k] at h;unfold kW;rw[if_neg h]
 ·rename_i k;rw[if_neg k] at h;split
  ·rename_i k2;rw[if_pos k2] at h;unfold jx;rw[if_neg h]
  ·rename_i k2;rw[if_neg k2] at h;unfold jE;rw[if_neg h]
theorem aj9 {l:List Op} {c:Int} {a:Act}:(ug l c a).length≤l.length+1:=by
 unfold ug;split
 ·unfold kW;split
  ·unfold I3;rw[bJ,eu,jq];omega
  ·omega
 ·split
  ·unfold jx;split
   ·rw[M'];exact bc _
   ·omega
  ·unfold jE;split
   ·rw[M'];exact bc _
   ·omega
abbrev QS.Ya (q:QS):Prop:=HQ q q.ops q.cap 80000
end Pa
namespace Pa
open Go.RowKit Rx Wv Br Sh
set_option maxRecDepth 100000
set_option maxHeartbeats 16000000
theorem aaB (c:Int):HQ (wc c) [] (AU c) 0:=by
 have hc:0≤AU c/\AU c≤65536:=by unfold AU;omega
 have e:min (max (AU c) 0) 16777216=AU c:=by omega
 exact⟨⟨rfl,rfl,rfl,rfl,e,e,e,bc _,bc _,bc _,⟨nq _,nq _⟩,⟨nq _,nq _⟩,⟨nq _,nq _⟩⟩,rF,List.nodup_nil,(fun o h=>by cases h),⟨hc.1,hc.2⟩,dx _,nq _,nq _,nq _⟩
def RK:eK Rt:=[(15,bM zN 2 (a9 Tt)),(24,bM zN 2 (a9 Te)),(25,bM zN 2 (a9 Tn)),(27,bM zN 2 (a9 Tk)),(39,bM zN 2 (a9 YB))]
theorem ET:cQ D2 Tryz.prog RK:=⟨aX _ _ Xb,aX _ _ Yk,aX _ _ XM,aX _ _ XE,aX _ _ agx,trivial⟩
abbrev bCw (a b i j:Nat):Option (SB Rt):=aa (.inl (59,[.slice (aa ⟨i,0,aa 2000⟩) a a,.slice (aa ⟨j,0,aa 2000⟩) b b]))
theorem ag9 {G:Value->Hp Rt->Prop} (hG:∀ rest,G (.bool aq) rest):At D2 Tryz.prog (dM Tryz.f14) 0 (iD Tryz.prog Tryz.f14.results.toList G) [.inl []] ⟨vn []++ld (Tryz.f14.ntmps-0) aj,[],[]⟩:=by
 refine mB (T:=RK) [[1,1,1]] ET mixed 200 ?_;refine bN (q:=let Z1:=(aE (aa ⟨0,0,aj⟩));Vc True/\At D2 Tryz.prog (dM Tryz.f14) 0 (iD Tryz.prog (dF (dG Tryz.f14)) G) [.inl [1,1,1]] (SS.mk (aa (aD ao)::aa Z1::n4 (aa Z1::aa Z1::aa (aD ao)::nH (nH (nH (n4 (aj::[])))))) [(8,ao),(0,ao)] [aa (.inl (98,[.int av 9,.pointer (aa ⟨1,0,aj⟩),.pointer (aa ⟨2,0,aj⟩),.pointer (aa ⟨3,0,aj⟩)])),oM (QS.mt (wc (9:Int))),oS (QS.pr (wc (9:Int))),oS (QS.gn (wc (9:Int)))])) ?_ (by kernel_rfl)
 intro Z1;subst Z1;refine⟨⟨trivial⟩,At.fit [1] [.pointer (aa ⟨0,0,aj⟩)] [bQ (wc 9),oM (wc 9).mt,oS (wc 9).pr,oS (wc 9).gn] 62 ⟨rfl,rfl,by simp⟩ ⟨[0,1,2,3],rfl,⟨.inl rfl,rfl,rfl,rfl,trivial⟩,rfl,rfl,rfl,rfl⟩ ?_⟩
 have h0:HQ (wc 9) [] 9 0:=aaB 9;generalize wc 9=q at h0 ⊢;refine mB (T:=RK) [[1,1,1,1]] ET mixed 200 ?_;refine bN (q:=let Z1:=(jx (QS.ops q) (QS.cap q) (1:Int) (It.mk (5:Int) (0:Int)));let Z2:=(kI q (1:Int) (It.mk (5:Int) (0:Int)));Vc (QS.Ok q/\ae (QS.ops q)≤59)/\At D2 Tryz.prog (dM Tryz.f14) 0 (iD Tryz.prog (dF (dG Tryz.f14)) G) [.inl [1,1,1,1]] (SS.mk (aj::aa (aE (aa ⟨0,0,aj⟩))::n4 (aj::aj::aj::aa (aE (aa ⟨0,0,aj⟩))::aa (bE (aO [.int av 5,.int av 0]))::aa (cv (aO [.agg (aO [.slice (aa ⟨4,0,aa 2000⟩) (ae (dw (QS.ops q) Z1)) (ae (dw (QS.ops q) Z1)),.slice (aa ⟨5,0,aa 2000⟩) (ae (dw Z1 (QS.ops q))) (ae (dw Z1 (QS.ops q)))]),.int av (nQ (QS.ops q) (QS.cap q) (1:Int) (It.mk (5:Int) (0:Int)))]))::nH (nH (nH (aj::aj::[]))))) [] [aa (.inl (98,[.int av (QS.cap Z2),.pointer (aa ⟨1,0,aj⟩),.pointer (aa ⟨2,0,aj⟩),.pointer (aa ⟨3,0,aj⟩)])),oM (QS.mt Z2),oS (QS.pr Z2),oS (QS.gn Z2),aa (.inr (.inl (31,iR (dw (QS.ops q) Z1)))),aa (.inr (.inl (31,iR (dw Z1 (QS.ops q)))))])) ?_ (by kernel_rfl)
 intro Z1 Z2;subst Z2 Z1;refine⟨⟨(h0.mono (by decide)).ok,by rw[h0.ops];decide⟩,At.fit [1] [.pointer (aa ⟨0,0,aj⟩)] [bQ (kI q 1 ⟨5,0⟩),oM (kI q 1 ⟨5,0⟩).mt,oS (kI q 1 ⟨5,0⟩).pr,oS (kI q 1 ⟨5,0⟩).gn] 62 ⟨rfl,rfl,by simp⟩ ⟨[0,1,2,3],rfl,⟨.inl rfl,rfl,rfl,rfl,trivial⟩,rfl,rfl,rfl,rfl⟩ ?_⟩
 have h1:HQ (kI q 1 ⟨5,0⟩) ([⟨1,aq,⟨5,0⟩⟩]:List Op) 9 10:=(Hs (t:=1) (x:=⟨5,0⟩) h0 (by decide) (by decide)).2.2.1
 generalize(kI q 1 ⟨5,0⟩)=q1 at h1 ⊢;refine mB (T:=RK) [[1,1,1,1,1]] ET mixed 200 ?_;refine bN (q:=let Z1:=(jx (QS.ops q1) (QS.cap q1) (2:Int) (It.mk (3:Int) (0:Int)));let Z2:=(kI q1 (2:Int) (It.mk (3:Int) (0:Int)));Vc (QS.Ok q1/\ae (QS.ops q1)≤59)/\At D2 Tryz.prog (dM Tryz.f14) 0 (iD Tryz.prog (dF (dG Tryz.f14)) G) [.inl [1,1,1,1,1]] (SS.mk (aj::aa (aE (aa ⟨0,0,aj⟩))::n4 (n4 (aj::aj::aa (aE (aa ⟨0,0,aj⟩))::aa (bE (aO [.int av 3,.int av 0]))::aa (cv (aO [.agg (aO [.slice (aa ⟨4,0,aa 2000⟩) (ae (dw (QS.ops q1) Z1)) (ae (dw (QS.ops q1) Z1)),.slice (aa ⟨5,0,aa 2000⟩) (ae (dw Z1 (QS.ops q1))) (ae (dw Z1 (QS.ops q1)))]),.int av (nQ (QS.ops q1) (QS.cap q1) (2:Int) (It.mk (3:Int) (0:Int)))]))::nH (nH (n4 (n4 (n4 (aj::aj::aj::[])))))))) [] [aa (.inl (98,[.int av (QS.cap Z2),.pointer (aa ⟨1,0,aj⟩),.pointer (aa ⟨2,0,aj⟩),.pointer (aa ⟨3,0,aj⟩)])),oM (QS.mt Z2),oS (QS.pr Z2),oS (QS.gn Z2),aa (.inr (.inl (31,iR (dw (QS.ops q1) Z1)))),aa (.inr (.inl (31,iR (dw Z1 (QS.ops q1)))))])) ?_ (by kernel_rfl)
 intro Z1 Z2;subst Z2 Z1;refine⟨⟨(h1.mono (by decide)).ok,by rw[h1.ops];decide⟩,At.fit [1] [.pointer (aa ⟨0,0,aj⟩)] [bQ (kI q1 2 ⟨3,0⟩),oM (kI q1 2 ⟨3,0⟩).mt,oS (kI q1 2 ⟨3,0⟩).pr,oS (kI q1 2 ⟨3,0⟩).gn] 62 ⟨rfl,rfl,by simp⟩ ⟨[0,1,2,3],rfl,⟨.inl rfl,rfl,rfl,rfl,trivial⟩,rfl,rfl,rfl,rfl⟩ ?_⟩
 have h2:HQ (kI q1 2 ⟨3,0⟩) ([⟨1,aq,⟨5,0⟩⟩,⟨2,aq,⟨3,0⟩⟩]:List Op) 9 20:=(Hs (t:=2) (x:=⟨3,0⟩) h1 (by decide) (by decide)).2.2.1
 generalize(kI q1 2 ⟨3,0⟩)=q2 at h2 ⊢;refine mB (T:=RK) [[1,1,1,1,1,1]] ET mixed 200 ?_;refine bN (q:=let Z1:=(ae (dw (QS.ops q2) (jE (QS.ops q2) (QS.cap q2) (3:Int))));let Z2:=(ae (dw (jE (QS.ops q2) (QS.cap q2) (3:Int)) (QS.ops q2)));Vc (QS.Ok q2/\ae (QS.ops q2)≤59)/\At D2 Tryz.prog (dM Tryz.f14) 0 (iD Tryz.prog (dF (dG Tryz.f14)) G) [.inl [1,1,1,1,1,1]] (SS.mk (aj::aa (aE (aa ⟨0,0,aj⟩))::n4 (n4 (n4 (aj::aa (aE (aa ⟨0,0,aj⟩))::aa (cv (aO [.agg (aO [.slice (aa ⟨4,0,aa 2000⟩) Z1 Z1,.slice (aa ⟨5,0,aa 2000⟩) Z2 Z2]),.int av (pE (QS.ops q2) (QS.cap q2) (3:Int))]))::nH (nH (n4 (n4 (n4 (aj::[]))))))))) [] [aa (.inl (98,[.int av (QS.cap (kp q2 (3:Int))),.pointer (aa ⟨1,0,aj⟩),.pointer (aa ⟨2,0,aj⟩),.pointer (aa ⟨3,0,aj⟩)])),oM (QS.mt (kp q2 (3:Int))),oS (QS.pr (kp q2 (3:Int))),oS (QS.gn (kp q2 (3:Int))),aa (.inr (.inl (31,iR (dw (QS.ops q2) (jE (QS.ops q2) (QS.cap q2) (3:Int)))))),aa (.inr (.inl (31,iR (dw (jE (QS.ops q2) (QS.cap q2) (3:Int)) (QS.ops q2)))))])) ?_ (by kernel_rfl)
 intro Z1 Z2;subst Z2 Z1;refine⟨⟨(h2.mono (by decide)).ok,by rw[h2.ops];decide⟩,At.fit [1] [.pointer (aa ⟨0,0,aj⟩)] [bQ (kp q2 3),oM (kp q2 3).mt,oS (kp q2 3).pr,oS (kp q2 3).gn] 62 ⟨rfl,rfl,by simp⟩ ⟨[0,1,2,3],rfl,⟨.inl rfl,rfl,rfl,rfl,trivial⟩,rfl,rfl,rfl,rfl⟩ ?_⟩
 have h3:HQ (kp q2 3) ([⟨1,aq,⟨5,0⟩⟩,⟨2,aq,⟨3,0⟩⟩,⟨3,ao,⟨0,0⟩⟩]:List Op) 9 30:=(GW (t:=3) h2 (by decide) (by decide)).2.2.1
 generalize(kp q2 3)=q3 at h3 ⊢;refine mB (T:=RK) [[1,1,1,1,1,1,1]] ET mixed 200 ?_;refine bN (q:=let Z1:=(ae (dw (QS.ops q3) (kW (QS.ops q3) (2:Int))));let Z2:=(ae (dw (kW (QS.ops q3) (2:Int)) (QS.ops q3)));let Z3:=(cv (aO [.agg (aO [.slice (aa ⟨4,0,aa 2000⟩) Z1 Z1,.slice (aa ⟨5,0,aa 2000⟩) Z2 Z2]),.int av (vk (QS.ops q3) (2:Int))]));Vc (QS.Ok q3)/\At D2 Tryz.prog (dM Tryz.f14) 0 (iD Tryz.prog (dF (dG Tryz.f14)) G) [.inl [1,1,1,1,1,1,1]] (SS.mk (aj::aa (aE (aa ⟨0,0,aj⟩))::aa (aE (aa ⟨6,0,aj⟩))::aa (bs av (vk (QS.ops q3) (2:Int)))::n4 (n4 (n4 (aj::aa Z3::aa (aE (aa ⟨0,0,aj⟩))::aa Z3::aa (bE (aO [.slice (aa ⟨4,0,aa 2000⟩) Z1 Z1,.slice (aa ⟨5,0,aa 2000⟩) Z2 Z2]))::aa (bs av (vk (QS.ops q3) (2:Int)))::nH (nH (n4 (n4 ([])))))))) [] [aa (.inl (98,[.int av (QS.cap (jR q3 (2:Int))),.pointer (aa ⟨1,0,aj⟩),.pointer (aa ⟨2,0,aj⟩),.pointer (aa ⟨3,0,aj⟩)])),oM (QS.mt (jR q3 (2:Int))),oS (QS.pr (jR q3 (2:Int))),oS (QS.gn (jR q3 (2:Int))),aa (.inr (.inl (31,iR (dw (QS.ops q3) (kW (QS.ops q3) (2:Int)))))),aa (.inr (.inl (31,iR (dw (kW (QS.ops q3) (2:Int)) (QS.ops q3))))),aa (.inl (59,[.slice (aa ⟨4,0,aa 2000⟩) Z1 Z1,.slice (aa ⟨5,0,aa 2000⟩) Z2 Z2]))])) ?_ (by kernel_rfl)
 intro Z1 Z2 Z3;subst Z3 Z2 Z1;simp only[h3.ops,show vk ([⟨1,aq,⟨5,0⟩⟩,⟨2,aq,⟨3,0⟩⟩,⟨3,ao,⟨0,0⟩⟩]:List Op) 2=0 by decide,show dw ([⟨1,aq,⟨5,0⟩⟩,⟨2,aq,⟨3,0⟩⟩,⟨3,ao,⟨0,0⟩⟩]:List Op) (kW ([⟨1,aq,⟨5,0⟩⟩,⟨2,aq,⟨3,0⟩⟩,⟨3,ao,⟨0,0⟩⟩]:List Op) 2)=[] by decide,show dw (kW ([⟨1,aq,⟨5,0⟩⟩,⟨2,aq,⟨3,0⟩⟩,⟨3,ao,⟨0,0⟩⟩]:List Op) 2) ([⟨1,aq,⟨5,0⟩⟩,⟨2,aq,⟨3,0⟩⟩,⟨3,ao,⟨0,0⟩⟩]:List Op)=[⟨5,0⟩] by decide]
 refine⟨⟨(h3.mono (by decide)).ok⟩,At.fit [1,2,3] [.pointer (aa ⟨0,0,aj⟩),.pointer (aa ⟨4,0,aj⟩),.int .i64 0] [bQ (jR q3 2),oM (jR q3 2).mt,oS (jR q3 2).pr,oS (jR q3 2).gn,bCw 0 1 5 6,oI [],oI [⟨5,0⟩]] 62 ⟨rfl,rfl,by simp⟩ ⟨[0,1,2,3,6,4,5],rfl,⟨.inl rfl,rfl,rfl,rfl,.inl rfl,⟨_,rfl,.inl rfl⟩,⟨_,rfl,.inl rfl⟩,trivial⟩,rfl,rfl,rfl,rfl⟩ ?_⟩
 have h4:HQ (jR q3 2) ([⟨1,aq,⟨5,0⟩⟩,⟨3,ao,⟨0,0⟩⟩]:List Op) 9 40:=(Le (t:=2) h3 (by decide)).2.2.1
 generalize jR q3 2=q4 at h4 ⊢;refine mB (T:=RK) [[1,1,1,1,1,1,1,1]] ET mixed 200 ?_;refine bN (q:=let Z5:=bs av;let Z1:=(Z5 (pE (QS.ops q4) (QS.cap q4) (0:Int)));let Z2:=(ae (dw (QS.ops q4) (jE (QS.ops q4) (QS.cap q4) (0:Int))));let Z3:=(ae (dw (jE (QS.ops q4) (QS.cap q4) (0:Int)) (QS.ops q4)));let Z4:=(cv (aO [.agg (aO [.slice (aa ⟨7,0,aa 2000⟩) Z2 Z2,.slice (aa ⟨8,0,aa 2000⟩) Z3 Z3]),Z5 (pE (QS.ops q4) (QS.cap q4) (0:Int))]));Vc (QS.Ok q4/\ae (QS.ops q4)≤59)/\At D2 Tryz.prog (dM Tryz.f14) 0 (iD Tryz.prog (dF (dG Tryz.f14)) G) [.inl [1,1,1,1,1,1,1,1]] (SS.mk (aj::aa (aE (aa ⟨0,0,aj⟩))::aa (aE (aa ⟨4,0,aj⟩))::aa (Z5 0)::aa (aE (aa ⟨9,0,aj⟩))::aa Z1::nH (aa Z4::aa (aE (aa ⟨0,0,aj⟩))::aa Z4::aa (bE (aO [.slice (aa ⟨7,0,aa 2000⟩) Z2 Z2,.slice (aa ⟨8,0,aa 2000⟩) Z3 Z3]))::aa Z1::nH (nH (aj::aj::aj::[])))) [] [aa (.inl (98,[Z5 (QS.cap (kp q4 (0:Int))),.pointer (aa ⟨1,0,aj⟩),.pointer (aa ⟨2,0,aj⟩),.pointer (aa ⟨3,0,aj⟩)])),oM (QS.mt (kp q4 (0:Int))),oS (QS.pr (kp q4 (0:Int))),oS (QS.gn (kp q4 (0:Int))),aa (.inl (59,[.slice (aa ⟨5,0,aa 2000⟩) 0 0,.slice (aa ⟨6,0,aa 2000⟩) 1 1])),aa (.inr (.inl (31,Row.mk [Z5 0,Z5 0] 0 [aT.mk [] [] [],aT.mk [] [] []]))),aa (.inr (.inl (31,Row.mk [Z5 0,Z5 0] 1 [aT.mk [(5:Int)] [] [],aT.mk [(0:Int)] [] []]))),aa (.inr (.inl (31,iR (dw (QS.ops q4) (jE (QS.ops q4) (QS.cap q4) (0:Int)))))),aa (.inr (.inl (31,iR (dw (jE (QS.ops q4) (QS.cap q4) (0:Int)) (QS.ops q4))))),aa (.inl (59,[.slice (aa ⟨7,0,aa 2000⟩) Z2 Z2,.slice (aa ⟨8,0,aa 2000⟩) Z3 Z3]))])) ?_ (by kernel_rfl)
 intro Z5 Z1 Z2 Z3 Z4;subst Z4 Z3 Z2 Z1 Z5;simp only[h4.ops,h4.cap,show pE ([⟨1,aq,⟨5,0⟩⟩,⟨3,ao,⟨0,0⟩⟩]:List Op) 9 0=0 by decide,show dw ([⟨1,aq,⟨5,0⟩⟩,⟨3,ao,⟨0,0⟩⟩]:List Op) (jE ([⟨1,aq,⟨5,0⟩⟩,⟨3,ao,⟨0,0⟩⟩]:List Op) 9 0)=[] by decide,show dw (jE ([⟨1,aq,⟨5,0⟩⟩,⟨3,ao,⟨0,0⟩⟩]:List Op) 9 0) ([⟨1,aq,⟨5,0⟩⟩,⟨3,ao,⟨0,0⟩⟩]:List Op)=[] by decide]
 refine⟨⟨(h4.mono (by decide)).ok,by decide⟩,At.fit [1,2,3,4,5] [.pointer (aa ⟨0,0,aj⟩),.pointer (aa ⟨4,0,aj⟩),.int .i64 0,.pointer (aa ⟨7,0,aj⟩),.int .i64 0] [bQ (kp q4 0),oM (kp q4 0).mt,oS (kp q4 0).pr,oS (kp q4 0).gn,bCw 0 1 5 6,oI [],oI [⟨5,0⟩],bCw 0 0 8 9,oI [],oI []] 62 ⟨rfl,rfl,by simp⟩ ⟨[0,1,2,3,4,5,6,9,7,8],rfl,⟨.inl rfl,rfl,rfl,rfl,.inl rfl,⟨_,rfl,.inl rfl⟩,⟨_,rfl,.inl rfl⟩,.inl rfl,⟨_,rfl,.inl rfl⟩,⟨_,rfl,.inl rfl⟩,trivial⟩,rfl,rfl,rfl,rfl⟩ ?_⟩
 have h5:HQ (kp q4 0) ([⟨0,ao,⟨0,0⟩⟩,⟨1,aq,⟨5,0⟩⟩,⟨3,ao,⟨0,0⟩⟩]:List Op) 9 50:=(GW (t:=0) h4 (by decide) (by decide)).2.2.1
 generalize kp q4 0=q5 at h5 ⊢;refine cW (T:=RK) ET mixed 200 ?_;refine bN (q:=let Z1:=aE (aa ⟨2,0,aj⟩);let Z2:=aE (aa ⟨1,0,aj⟩);let Z3:=aE (aa ⟨3,0,aj⟩);let Z4:=bs av;(aq=aq->(aq=aq->(aq=aq->Vc ((0:Int)≤(0:Int)/\(0:Int)<(1:Int)/\1≤1)/\Vc (0<1)/\(aq=aq->Vc (fits (0:Int))/\(aq=aq->Vc (QS.Ok q5)/\aY (G (aD (pR (QS.ops q5)==(1:Int))) [aa (.inl (98,[Z4 (QS.cap (o8 q5)),Z2,Z1,Z3])),oM (QS.mt (o8 q5)),oS (QS.pr (o8 q5)),oS (QS.gn (o8 q5)),aa (.inl (59,[.slice (aa ⟨5,0,aa 2000⟩) 0 0,.slice (aa ⟨6,0,aa 2000⟩) 1 1])),aa (.inr (.inl (31,Row.mk [Z4 0,Z4 0] 0 [aT.mk [] [] [],aT.mk [] [] []]))),aa (.inr (.inl (31,Row.mk [Z4 0,Z4 0] 1 [aT.mk [(5:Int)] [] [],aT.mk [(0:Int)] [] []]))),aa (.inl (59,[.slice (aa ⟨8,0,aa 2000⟩) 0 0,.slice (aa ⟨9,0,aa 2000⟩) 0 0])),aa (.inr (.inl (31,Row.mk [Z4 0,Z4 0] 0 [aT.mk [] [] [],aT.mk [] [] []]))),aa (.inr (.inl (31,Row.mk [Z4 0,Z4 0] 0 [aT.mk [] [] [],aT.mk [] [] []])))]))/\(aq=ao->aY (G (aD ao) [aa (.inl (98,[Z4 (QS.cap q5),Z2,Z1,Z3])),oM (QS.mt q5),oS (QS.pr q5),oS (QS.gn q5),aa (.inl (59,[.slice (aa ⟨5,0,aa 2000⟩) 0 0,.slice (aa ⟨6,0,aa 2000⟩) 1 1])),aa (.inr (.inl (31,Row.mk [Z4 0,Z4 0] 0 [aT.mk [] [] [],aT.mk [] [] []]))),aa (.inr (.inl (31,Row.mk [Z4 0,Z4 0] 1 [aT.mk [(5:Int)] [] [],aT.mk [(0:Int)] [] []]))),aa (.inl (59,[.slice (aa ⟨8,0,aa 2000⟩) 0 0,.slice (aa ⟨9,0,aa 2000⟩) 0 0])),aa (.inr (.inl (31,Row.mk [Z4 0,Z4 0] 0 [aT.mk [] [] [],aT.mk [] [] []]))),aa (.inr (.inl (31,Row.mk [Z4 0,Z4 0] 0 [aT.mk [] [] [],aT.mk [] [] []])))])))/\(aq=ao->aY (G (aD ao) [aa (.inl (98,[Z4 (QS.cap q5),Z2,Z1,Z3])),oM (QS.mt q5),oS (QS.pr q5),oS (QS.gn q5),aa (.inl (59,[.slice (aa ⟨5,0,aa 2000⟩) 0 0,.slice (aa ⟨6,0,aa 2000⟩) 1 1])),aa (.inr (.inl (31,Row.mk [Z4 0,Z4 0] 0 [aT.mk [] [] [],aT.mk [] [] []]))),aa (.inr (.inl (31,Row.mk [Z4 0,Z4 0] 1 [aT.mk [(5:Int)] [] [],aT.mk [(0:Int)] [] []]))),aa (.inl (59,[.slice (aa ⟨8,0,aa 2000⟩) 0 0,.slice (aa ⟨9,0,aa 2000⟩) 0 0])),aa (.inr (.inl (31,Row.mk [Z4 0,Z4 0] 0 [aT.mk [] [] [],aT.mk [] [] []]))),aa (.inr (.inl (31,Row.mk [Z4 0,Z4 0] 0 [aT.mk [] [] [],aT.mk [] [] []])))])))/\(aq=ao->aY (G (aD ao) [aa (.inl (98,[Z4 (QS.cap q5),Z2,Z1,Z3])),oM (QS.mt q5),oS (QS.pr q5),oS (QS.gn q5),aa (.inl (59,[.slice (aa ⟨5,0,aa 2000⟩) 0 0,.slice (aa ⟨6,0,aa 2000⟩) 1 1])),aa (.inr (.inl (31,Row.mk [Z4 0,Z4 0] 0 [aT.mk [] [] [],aT.mk [] [] []]))),aa (.inr (.inl (31,Row.mk [Z4 0,Z4 0] 1 [aT.mk [(5:Int)] [] [],aT.mk [(0:Int)] [] []]))),aa (.inl (59,[.slice (aa ⟨8,0,aa 2000⟩) 0 0,.slice (aa ⟨9,0,aa 2000⟩) 0 0])),aa (.inr (.inl (31,Row.mk [Z4 0,Z4 0] 0 [aT.mk [] [] [],aT.mk [] [] []]))),aa (.inr (.inl (31,Row.mk [Z4 0,Z4 0] 0 [aT.mk [] [] [],aT.mk [] [] []])))])))/\(aq=ao->aY (G (aD ao) [aa (.inl (98,[Z4 (QS.cap q5),Z2,Z1,Z3])),oM (QS.mt q5),oS (QS.pr q5),oS (QS.gn q5),aa (.inl (59,[.slice (aa ⟨5,0,aa 2000⟩) 0 0,.slice (aa ⟨6,0,aa 2000⟩) 1 1])),aa (.inr (.inl (31,Row.mk [Z4 0,Z4 0] 0 [aT.mk [] [] [],aT.mk [] [] []]))),aa (.inr (.inl (31,Row.mk [Z4 0,Z4 0] 1 [aT.mk [(5:Int)] [] [],aT.mk [(0:Int)] [] []]))),aa (.inl (59,[.slice (aa ⟨8,0,aa 2000⟩) 0 0,.slice (aa ⟨9,0,aa 2000⟩) 0 0])),aa (.inr (.inl (31,Row.mk [Z4 0,Z4 0] 0 [aT.mk [] [] [],aT.mk [] [] []]))),aa (.inr (.inl (31,Row.mk [Z4 0,Z4 0] 0 [aT.mk [] [] [],aT.mk [] [] []])))])))/\(aq=ao->aY (G (aD ao) [aa (.inl (98,[Z4 (QS.cap q5),Z2,Z1,Z3])),oM (QS.mt q5),oS (QS.pr q5),oS (QS.gn q5),aa (.inl (59,[.slice (aa ⟨5,0,aa 2000⟩) 0 0,.slice (aa ⟨6,0,aa 2000⟩) 1 1])),aa (.inr (.inl (31,Row.mk [Z4 0,Z4 0] 0 [aT.mk [] [] [],aT.mk [] [] []]))),aa (.inr (.inl (31,Row.mk [Z4 0,Z4 0] 1 [aT.mk [(5:Int)] [] [],aT.mk [(0:Int)] [] []]))),aa (.inl (59,[.slice (aa ⟨8,0,aa 2000⟩) 0 0,.slice (aa ⟨9,0,aa 2000⟩) 0 0])),aa (.inr (.inl (31,Row.mk [Z4 0,Z4 0] 0 [aT.mk [] [] [],aT.mk [] [] []]))),aa (.inr (.inl (31,Row.mk [Z4 0,Z4 0] 0 [aT.mk [] [] [],aT.mk [] [] []])))]))) ?_ (by kernel_rfl)
 intro Z1 Z2 Z3 Z4;subst Z4 Z3 Z2 Z1;simp only[h5.ops];refine⟨fun _=>?_,fun h=>by cases h⟩
 refine⟨fun _=>?_,fun h=>by cases h⟩
 refine⟨fun _=>⟨⟨by decide,by decide,by decide⟩,⟨by decide⟩,?_⟩,fun h=>by cases h⟩
 refine⟨fun _=>⟨⟨by decide,by decide⟩,?_⟩,fun h=>by cases h⟩
 refine⟨fun _=>⟨⟨(h5.mono (by decide)).ok⟩,⟨?_⟩⟩,fun h=>by cases h⟩
 rw[show(pR ([⟨0,ao,⟨0,0⟩⟩,⟨1,aq,⟨5,0⟩⟩,⟨3,ao,⟨0,0⟩⟩]:List Op)==1)=aq by decide]
 exact hG _
def ad3:Prim Rt:=fun args hh=>match args,hh with
 |[],[]=>aa ⟨True,.bool aq,aj,hh,[],[]⟩
 |_,_=>aj
theorem ahC:ck D2 Tryz.prog 14 (a9 ad3):=by
 refine fw Tryz.f14 fun args hh x hx=>?_
 unfold ad3 at hx;split at hx
 ·injection hx with hx
  subst hx;refine⟨bc _,mg rfl,(fun hw=>rfl),fun _ hv=>?_⟩
  exact ag9 fun rest=>⟨[],rfl,rfl,trivial,rfl,rfl,rfl,rfl⟩
 ·cases hx
abbrev az:Act:=⟨0,0,ao,⟨0,0⟩⟩
abbrev aR (l:List Act):Row:=⟨[.int .i64 0,.int .i64 0,.bool ao,.int .i64 0,.int .i64 0],l.length,[⟨l.map Act.k,[],[]⟩,⟨l.map Act.t,[],[]⟩,⟨[],l.map Act.d,[]⟩,⟨l.map fun a=>a.x.k,[],[]⟩,⟨l.map fun a=>a.x.i,[],[]⟩]⟩
abbrev vA (l:List Act):Option (SB Rt):=aa (.inr (.inr (.inl (aR l))))
theorem gA {β:Type} {l:List Act} {i:Nat} (f:Act->β) (d:β) (h:f az=d):(l.map f).getD i d=f (l.getD i az):=by
 subst h;rw[ax,ax,gh];cases l[i]?<;>rfl
abbrev tmA:List Value:=[.int .i64 0,.int .i64 0,.bool ao,.int .i64 0,.int .i64 0]
theorem Ta {c:aT} {n:Nat} (h:c=yO c.i) (l:c.i.length=n):c=⟨(oi n).map fun i=>c.i.getD i 0,[],[]⟩:=by
 have e:(oi n).map (fun i=>c.i.getD i 0)=c.i:=by
  subst l;exact FU fun i hi=>by rw[ax,bj hi];rfl
 rw[e];exact h
theorem alc {c:aT} {n:Nat} (h:c=AE c.b) (l:c.b.length=n):c=⟨[],(oi n).map fun i=>c.b.getD i ao,[]⟩:=by
 have e:(oi n).map (fun i=>c.b.getD i ao)=c.b:=by
  subst l;exact FU fun i hi=>by rw[ax,bj hi];rfl
 rw[e];exact h
theorem agG {r:Row} (hr:r.tm=tmA) (hw:Hi tmA r.ez r.n):∃ l,r=aR l:=by
 obtain⟨tm,n,ez⟩:=r;simp only at hr hw;subst hr
 match ez,hw with
 |[a,b,c,d,e],hw =>
  simp only[Hi] at hw;obtain⟨h1,h2,h3,h4,h5⟩:=hw;refine⟨(oi n).map fun i=>⟨a.i.getD i 0,b.i.getD i 0,c.b.getD i ao,⟨d.i.getD i 0,e.i.getD i 0⟩⟩,?_⟩
  unfold aR;simp only[Wl,Function.comp_def,gX,List.length_range];rw[← Ta h1.1 h1.2.1,← Ta h2.1 h2.2.1,← alc h3.1 h3.2,← Ta h4.1 h4.2.1,← Ta h5.1.1 h5.1.2.1]
abbrev bQi (i:Nat) (q:QS):Option (SB Rt):=aa (.inl (98,[.int .i64 q.cap,.pointer (aa ⟨i,0,aj⟩),.pointer (aa ⟨i+1,0,aj⟩),.pointer (aa ⟨i+2,0,aj⟩)]))
def yk (c:Int) (dE:List Act):Nat->List Op
 |0=>[]
 |i+1=>ug (yk c dE i) (AU c) (dE.getD i az)
def yq (c:Int) (dE:List Act):Nat->QS
 |0=>wc c
 |i+1=>lA (yq c dE i) (dE.getD i az)
theorem QZ (c:Int) (dE:List Act):∀ i,(yk c dE i).length≤i
 |0=>bc _
 |i+1=>iY aj9 (Nat.succ_le_succ (QZ c dE i))
theorem ab2 (c:Int) (dE:List Act):∀ i,i≤60->HQ (yq c dE i) (yk c dE i) (AU c) (10*i)
 |0,_=>aaB c
 |i+1,h=>by
  have l:=QZ c dE i;exact(akF (a:=dE.getD i az) (ab2 c dE i (by omega)) (by omega) (by omega)).1
end Pa
namespace Pa
open Rx Wv Br Sh
set_option maxRecDepth 100000
set_option maxHeartbeats 16000000
def As:eK Rt:=[(32,wx z1 2 (a9 ac')),(54,wx z0 2 (a9 adV)),(33,bM zN 2 (a9 Tg)),(30,wx z0 2 (a9 aeb)),(56,wx z0 2 (a9 q9)),(55,wx z0 2 (a9 adC)),(19,wx z0 2 (a9 Yu)),(58,wx z01 2 (a9 adw)),(57,bM zN 2 (a9 ZH)),(24,bM zN 2 (a9 Te)),(25,bM zN 2 (a9 Tn)),(27,bM zN 2 (a9 Tk))]
theorem pL:cQ D2 Tryz.prog As:=⟨p8 _ _ ah_,p8 _ _ ajn,aX _ _ Xe,p8 _ _ ahH,p8 _ _ ajq,p8 _ _ ajA,p8 _ _ abU,p8 _ _ ahK,aX _ _ agk,aX _ _ Yk,aX _ _ XM,aX _ _ XE,trivial⟩
abbrev Dd (a b i j:Nat):Option (SB Rt):=aa (.inl (59,[.slice (aa ⟨i,0,aa 2000⟩) a a,.slice (aa ⟨j,0,aa 2000⟩) b b]))
theorem BH {G:Value->Hp Rt->Prop} {q:QS} {l l':List Op} {v:Int} {n:Nat} (hb:l.length≤60) (hd:(gw l).Nodup) (hG:∀ rest,G (.tuple #[.slice (aa ⟨1,0,aa 4000⟩) l.length n,.bool aq]) ([sv q,oO l,oM q.mt,oS q.pr,oS q.gn]++rest)) :
  At D2 Tryz.prog (dM Tryz.f17) 5 (iD Tryz.prog Tryz.f17.results.toList G) [.inl [1,1,1,1,1,1,1,1,1]] ⟨frame [1,12,13,14,15] [.slice (aa ⟨1,0,aa 4000⟩) l.length n,.pointer (aa ⟨5,0,aj⟩),.int .i64 v,.int .i64 v,.slice (aa ⟨1,0,aa 4000⟩) l.length n] 0 122,[],[sv q,oO l,oM q.mt,oS q.pr,oS q.gn,Dd (dw l l).length (dw l l).length 6 7,oI (dw l l),oI (dw l l)]⟩:=by
 refine cW (T:=As) pL mixed 200 ?_;refine bN (q:=let Z5:=bs av;let Z1:=(uO (wu l 0 l.length));let Z2:=(fin [] Z1);let Z3:=(gG (rT Z2 0 (ae Z2)));let Z4:=(gG (iR (qh Z3 Z3)));Vc ((0+ae l≤ae l/\True)/\wu l 0 l.length=oR Z1/\ae l=ae Z1/\ae Z1≤100/\I0 (gw Z1))/\Vc ((0+ae l≤ae l/\True)/\wu l 0 l.length=oR Z1/\ae l=ae Z1/\ae Z1≤100/\I0 (gw Z1))/\((v==v)=aq->Vc (aD (v==v)=aD aq)/\Vc ((0+ae Z2≤ae Z2/\0+ae Z2≤ae Z2/\True)/\rT Z2 0 (ae Z2)=iR Z3/\ae Z2=ae Z3/\rT Z2 0 (ae Z2)=iR Z3/\ae Z2=ae Z3/\ae Z3≤100/\ae Z3≤100)/\Vc ((31=31/\31=31/\31=31/\31=31)/\(iR (dw l l)=iR (gG (iR (dw l l)))/\ae (dw l l)=ae (gG (iR (dw l l)))/\ae (gG (iR (dw l l)))≤1000)/\(iR (dw l l)=iR (gG (iR (dw l l)))/\ae (dw l l)=ae (gG (iR (dw l l)))/\ae (gG (iR (dw l l)))≤1000)/\(iR (qh Z3 Z3)=iR Z4/\ae (qh Z3 Z3)=ae Z4/\ae Z4≤1000)/\iR (qh Z3 Z3)=iR Z4/\ae (qh Z3 Z3)=ae Z4/\ae Z4≤1000)/\aY (G (cv (aO [.slice (aa ⟨1,0,aa 4000⟩) l.length n,.bool (decide (gG (iR (dw l l))=gG (iR (qh Z3 Z3)))&&decide (gG (iR (dw l l))=gG (iR (qh Z3 Z3))))])) [aa (.inl (98,[Z5 (QS.cap q),.pointer (aa ⟨2,0,aj⟩),.pointer (aa ⟨3,0,aj⟩),.pointer (aa ⟨4,0,aj⟩)])),aa (.inr (.inl (45,oR l))),oM (QS.mt q),oS (QS.pr q),oS (QS.gn q),aa (.inl (59,[.slice (aa ⟨6,0,aa 2000⟩) (ae (dw l l)) (ae (dw l l)),.slice (aa ⟨7,0,aa 2000⟩) (ae (dw l l)) (ae (dw l l))])),aa (.inr (.inl (31,iR (dw l l)))),aa (.inr (.inl (31,iR (dw l l)))),aj,aa (.inr (.inl (31,iR Z2))),aa (.inr (.inl (31,iR (nK (tk [] Z1))))),aa (.inr (.inl (47,Row.mk [.bool ao,Z5 0,Z5 0] (ae (jP [] Z1)) [aT.mk [] (au g9 (jP [] Z1)) [],aT.mk (au (fun x=>It.k (gH x (It.mk (0:Int) (0:Int)))) (jP [] Z1)) [] [],aT.mk (au (fun x=>It.i (gH x (It.mk (0:Int) (0:Int)))) (jP [] Z1)) [] []]))),aj,aa (.inr (.inl (31,iR Z2))),aa (.inr (.inl (31,iR (nK (tk [] Z1))))),aa (.inr (.inl (47,Row.mk [.bool ao,Z5 0,Z5 0] (ae (jP [] Z1)) [aT.mk [] (au g9 (jP [] Z1)) [],aT.mk (au (fun x=>It.k (gH x (It.mk (0:Int) (0:Int)))) (jP [] Z1)) [] [],aT.mk (au (fun x=>It.i (gH x (It.mk (0:Int) (0:Int)))) (jP [] Z1)) [] []]))),aj,aj,aa (.inr (.inl (31,iR (qh Z3 Z3)))),aa (.inr (.inl (31,iR (qh Z3 Z3))))]))/\((v==v)=ao->Vc (aD (v==v)=aD ao)/\aY (G (cv (aO [.slice (aa ⟨1,0,aa 4000⟩) l.length n,.bool ao])) [aa (.inl (98,[Z5 (QS.cap q),.pointer (aa ⟨2,0,aj⟩),.pointer (aa ⟨3,0,aj⟩),.pointer (aa ⟨4,0,aj⟩)])),aa (.inr (.inl (45,oR l))),oM (QS.mt q),oS (QS.pr q),oS (QS.gn q),aa (.inl (59,[.slice (aa ⟨6,0,aa 2000⟩) (ae (dw l l)) (ae (dw l l)),.slice (aa ⟨7,0,aa 2000⟩) (ae (dw l l)) (ae (dw l l))])),aa (.inr (.inl (31,iR (dw l l)))),aa (.inr (.inl (31,iR (dw l l)))),aj,aa (.inr (.inl (31,iR Z2))),aa (.inr (.inl (31,iR (nK (tk [] Z1))))),aa (.inr (.inl (47,Row.mk [.bool ao,Z5 0,Z5 0] (ae (jP [] Z1)) [aT.mk [] (au g9 (jP [] Z1)) [],aT.mk (au (fun x=>It.k (gH x (It.mk (0:Int) (0:Int)))) (jP [] Z1)) [] [],aT.mk (au (fun x=>It.i (gH x (It.mk (0:Int) (0:Int)))) (jP [] Z1)) [] []]))),aj,aa (.inr (.inl (31,iR Z2))),aa (.inr (.inl (31,iR (nK (tk [] Z1))))),aa (.inr (.inl (47,Row.mk [.bool ao,Z5 0,Z5 0] (ae (jP [] Z1)) [aT.mk [] (au g9 (jP [] Z1)) [],aT.mk (au (fun x=>It.k (gH x (It.mk (0:Int) (0:Int)))) (jP [] Z1)) [] [],aT.mk (au (fun x=>It.i (gH x (It.mk (0:Int) (0:Int)))) (jP [] Z1)) [] []])))]))) ?_ (by kernel_rfl)
 intro Z5 Z1 Z2 Z3 Z4;subst Z4 Z3 Z2 Z1 Z5;have hf:=BI l;have hc:(dw l l).length≤1000:=by unfold dw;rw[p6];decide
 simp only[zr,H2,DN,DX,eq_self,decide_true];refine⟨⟨⟨by omega,trivial⟩,trivial,trivial,by omega,hd⟩,⟨⟨by omega,trivial⟩,trivial,trivial,by omega,hd⟩,fun _=>⟨⟨by rw[beq_self_eq_true]⟩,⟨⟨by omega,by omega,trivial⟩,trivial,trivial,trivial,trivial,by omega,by omega⟩,⟨⟨trivial,trivial,trivial,trivial⟩,⟨trivial,trivial,hc⟩,⟨trivial,trivial,hc⟩,⟨trivial,trivial,hc⟩,⟨trivial,trivial,hc⟩⟩,⟨hG _⟩⟩,fun h=>by rw[beq_self_eq_true] at h;cases h⟩
theorem NR {G:Value->Hp Rt->Prop} {q:QS} {l l':List Op} {v:Int} {n:Nat} (qf:l'.length≤61) (hd':(gw l').Nodup) (hb:l.length≤60) (hd:(gw l).Nodup) (hG:∀ rest,G (.tuple #[.slice (aa ⟨8,0,aa 4000⟩) l'.length 0,.bool aq]) ([sv q,oO l,oM q.mt,oS q.pr,oS q.gn,Dd (dw l l').length (dw l' l).length 6 7,oI (dw l l'),oI (dw l' l),oO l']++rest)) :
  At D2 Tryz.prog (dM Tryz.f17) 5 (iD Tryz.prog Tryz.f17.results.toList G) [.inl [1,1,1,1,1,1,1,1,1]] ⟨frame [1,12,13,14,15] [.slice (aa ⟨1,0,aa 4000⟩) l.length n,.pointer (aa ⟨5,0,aj⟩),.int .i64 v,.int .i64 v,.slice (aa ⟨8,0,aa 4000⟩) l'.length 0] 0 122,[],[sv q,oO l,oM q.mt,oS q.pr,oS q.gn,Dd (dw l l').length (dw l' l).length 6 7,oI (dw l l'),oI (dw l' l),oO l']⟩:=by
 refine cW (T:=As) pL mixed 200 ?_;refine bN (q:=let Z5:=bs av;let Z1:=(uO (wu l 0 l.length));let Z2:=(uO (wu l' 0 (ae l')));let Z3:=(gG (rT (fin [] Z1) 0 (ae (fin [] Z1))));let Z4:=(gG (rT (fin [] Z2) 0 (ae (fin [] Z2))));Vc ((0+ae l≤ae l/\True)/\wu l 0 l.length=oR Z1/\ae l=ae Z1/\ae Z1≤100/\I0 (gw Z1))/\Vc ((0+ae l'≤ae l'/\True)/\wu l' 0 (ae l')=oR Z2/\ae l'=ae Z2/\ae Z2≤100/\I0 (gw Z2))/\((v==v)=aq->Vc (aD (v==v)=aD aq)/\Vc ((0+ae (fin [] Z1)≤ae (fin [] Z1)/\0+ae (fin [] Z2)≤ae (fin [] Z2)/\True)/\rT (fin [] Z1) 0 (ae (fin [] Z1))=iR Z3/\ae (fin [] Z1)=ae Z3/\rT (fin [] Z2) 0 (ae (fin [] Z2))=iR Z4/\ae (fin [] Z2)=ae Z4/\ae Z3≤100/\ae Z4≤100)/\Vc ((31=31/\31=31/\31=31/\31=31)/\(iR (dw l l')=iR (gG (iR (dw l l')))/\ae (dw l l')=ae (gG (iR (dw l l')))/\ae (gG (iR (dw l l')))≤1000)/\(iR (dw l' l)=iR (gG (iR (dw l' l)))/\ae (dw l' l)=ae (gG (iR (dw l' l)))/\ae (gG (iR (dw l' l)))≤1000)/\(iR (qh Z3 Z4)=iR (gG (iR (qh Z3 Z4)))/\ae (qh Z3 Z4)=ae (gG (iR (qh Z3 Z4)))/\ae (gG (iR (qh Z3 Z4)))≤1000)/\iR (qh Z4 Z3)=iR (gG (iR (qh Z4 Z3)))/\ae (qh Z4 Z3)=ae (gG (iR (qh Z4 Z3)))/\ae (gG (iR (qh Z4 Z3)))≤1000)/\aY (G (cv (aO [.slice (aa ⟨8,0,aa 4000⟩) (ae l') 0,.bool (decide (gG (iR (dw l l'))=gG (iR (qh Z3 Z4)))&&decide (gG (iR (dw l' l))=gG (iR (qh Z4 Z3))))])) [aa (.inl (98,[Z5 (QS.cap q),.pointer (aa ⟨2,0,aj⟩),.pointer (aa ⟨3,0,aj⟩),.pointer (aa ⟨4,0,aj⟩)])),aa (.inr (.inl (45,oR l))),oM (QS.mt q),oS (QS.pr q),oS (QS.gn q),aa (.inl (59,[.slice (aa ⟨6,0,aa 2000⟩) (ae (dw l l')) (ae (dw l l')),.slice (aa ⟨7,0,aa 2000⟩) (ae (dw l' l)) (ae (dw l' l))])),aa (.inr (.inl (31,iR (dw l l')))),aa (.inr (.inl (31,iR (dw l' l)))),aa (.inr (.inl (45,oR l'))),aj,aa (.inr (.inl (31,iR (fin [] Z1)))),aa (.inr (.inl (31,iR (nK (tk [] Z1))))),aa (.inr (.inl (47,Row.mk [.bool ao,Z5 0,Z5 0] (ae (jP [] Z1)) [aT.mk [] (au g9 (jP [] Z1)) [],aT.mk (au (fun x=>It.k (gH x (It.mk (0:Int) (0:Int)))) (jP [] Z1)) [] [],aT.mk (au (fun x=>It.i (gH x (It.mk (0:Int) (0:Int)))) (jP [] Z1)) [] []]))),aj,aa (.inr (.inl (31,iR (fin [] Z2)))),aa (.inr (.inl (31,iR (nK (tk [] Z2))))),aa (.inr (.inl (47,Row.mk [.bool ao,Z5 0,Z5 0] (ae (jP [] Z2)) [aT.mk [] (au g9 (jP [] Z2)) [],aT.mk (au (fun x=>It.k (gH x (It.mk (0:Int) (0:Int)))) (jP [] Z2)) [] [],aT.mk (au (fun x=>It.i (gH x (It.mk (0:Int) (0:Int)))) (jP [] Z2)) [] []]))),aj,aj,aa (.inr (.inl (31,iR (qh Z3 Z4)))),aa (.inr (.inl (31,iR (qh Z4 Z3))))]))/\((v==v)=ao->Vc (aD (v==v)=aD ao)/\aY (G (cv (aO [.slice (aa ⟨8,0,aa 4000⟩) (ae l') 0,.bool ao])) [aa (.inl (98,[Z5 (QS.cap q),.pointer (aa ⟨2,0,aj⟩),.pointer (aa ⟨3,0,aj⟩),.pointer (aa ⟨4,0,aj⟩)])),aa (.inr (.inl (45,oR l))),oM (QS.mt q),oS (QS.pr q),oS (QS.gn q),aa (.inl (59,[.slice (aa ⟨6,0,aa 2000⟩) (ae (dw l l')) (ae (dw l l')),.slice (aa ⟨7,0,aa 2000⟩) (ae (dw l' l)) (ae (dw l' l))])),aa (.inr (.inl (31,iR (dw l l')))),aa (.inr (.inl (31,iR (dw l' l)))),aa (.inr (.inl (45,oR l'))),aj,aa (.inr (.inl (31,iR (fin [] Z1)))),aa (.inr (.inl (31,iR (nK (tk [] Z1))))),aa (.inr (.inl (47,Row.mk [.bool ao,Z5 0,Z5 0] (ae (jP [] Z1)) [aT.mk [] (au g9 (jP [] Z1)) [],aT.mk (au (fun x=>It.k (gH x (It.mk (0:Int) (0:Int)))) (jP [] Z1)) [] [],aT.mk (au (fun x=>It.i (gH x (It.mk (0:Int) (0:Int)))) (jP [] Z1)) [] []]))),aj,aa (.inr (.inl (31,iR (fin [] Z2)))),aa (.inr (.inl (31,iR (nK (tk [] Z2))))),aa (.inr (.inl (47,Row.mk [.bool ao,Z5 0,Z5 0] (ae (jP [] Z2)) [aT.mk [] (au g9 (jP [] Z2)) [],aT.mk (au (fun x=>It.k (gH x (It.mk (0:Int) (0:Int)))) (jP [] Z2)) [] [],aT.mk (au (fun x=>It.i (gH x (It.mk (0:Int) (0:Int)))) (jP [] Z2)) [] []])))]))) ?_ (by kernel_rfl)
 intro Z5 Z1 Z2 Z3 Z4;subst Z4 Z3 Z2 Z1 Z5;have hf:=BI l;have hf':=BI l';have hc:(dw l l').length≤1000:=iY (Py _ _ _) (by omega)
 have Db:(dw l' l).length≤1000:=iY (Py _ _ _) (by omega)
 simp only[zr,H2,DN,DX,eq_self,decide_true];refine⟨⟨⟨by omega,trivial⟩,trivial,trivial,by omega,hd⟩,⟨⟨by omega,trivial⟩,trivial,trivial,by omega,hd'⟩,fun _=>⟨⟨by rw[beq_self_eq_true]⟩,⟨⟨by omega,by omega,trivial⟩,trivial,trivial,trivial,trivial,by omega,by omega⟩,⟨⟨trivial,trivial,trivial,trivial⟩,⟨trivial,trivial,hc⟩,⟨trivial,trivial,Db⟩,⟨trivial,trivial,hc⟩,⟨trivial,trivial,Db⟩⟩,⟨hG _⟩⟩,fun h=>by rw[beq_self_eq_true] at h;cases h⟩
theorem akM {G:Value->Hp Rt->Prop} {q:QS} {l:List Op} {n:Nat} {c t e a0 a1 a3 a4:Int} {a2:Bool} {A B:List It} (he:e=(nQ l c t ⟨a3,a4⟩)) (hA:A=dw l (jx l c t ⟨a3,a4⟩)) (hB:B=dw (jx l c t ⟨a3,a4⟩) l) (hb:l.length≤60) (hd:(gw l).Nodup) (qf:(jx l c t ⟨a3,a4⟩).length≤61) (hd':(gw (jx l c t ⟨a3,a4⟩)).Nodup)
  (hY:(nQ l c t ⟨a3,a4⟩)=0->∀ rest x y z,G (.tuple #[.slice (aa ⟨8,0,aa 4000⟩) (jx l c t ⟨a3,a4⟩).length 0,.bool aq]) ([sv q,oO l,oM q.mt,oS q.pr,oS q.gn,x,y,z,oO (jx l c t ⟨a3,a4⟩)]++rest))
  (hN:¬ (nQ l c t ⟨a3,a4⟩)=0->∀ rest,G (.tuple #[.slice (aa ⟨1,0,aa 4000⟩) l.length n,.bool aq]) ([sv q,oO l,oM q.mt,oS q.pr,oS q.gn]++rest)):At D2 Tryz.prog (dM Tryz.f17) 5 (iD Tryz.prog Tryz.f17.results.toList G) [.inl [1,1,1,1,1,1,1,1,0,1],.inl [1,1,1,1,1,1,1,1,1]] ⟨frame [1,2,7,10,11,12,13,14,15,16,71] [.slice (aa ⟨1,0,aa 4000⟩) l.length n,.int .i64 c,.pointer (aa ⟨5,0,aj⟩),.int .i64 t,.int .i64 (kY l t),.pointer (aa ⟨6,0,aj⟩),.int .i64 e,.int .i64 0,.slice (aa ⟨1,0,aa 4000⟩) l.length n,.int .i64 0,.bool aq] 0 122,[],[sv q,oO l,oM q.mt,oS q.pr,oS q.gn,aa (.inl (33,[.int .i64 a0,.int .i64 a1,.bool a2,.int .i64 a3,.int .i64 a4])),Dd A.length B.length 7 8,oI A,oI B]⟩:=by
 refine At.C4 [(71,aq)] (fun x hx=>by simp only[ib] at hx;subst hx;rfl) ?_
 refine mB (T:=As) [[1,1,1,1,1,1,1,1,0,1,0,1,0,1]] pL mixed 200 ?_;refine bN (q:=let Z2:=bs av;let Z1:=(bK (aa ⟨1,0,aa 4000⟩) l.length n);At D2 Tryz.prog (dM Tryz.f17) 5 (iD Tryz.prog (dF (dG Tryz.f17)) G) [.inl [1,1,1,1,1,1,1,1,0,1,0,1,0,1],.inl [1,1,1,1,1,1,1,1,0,1,0,1,1],.inl [1,1,1,1,1,1,1,1,1]] (SS.mk (aj::aa Z1::aa (Z2 c)::n4 (aa (aE (aa ⟨5,0,aj⟩))::aj::aj::aa (Z2 t)::aa (Z2 (kY l t))::aa (aE (aa ⟨6,0,aj⟩))::aa (Z2 e)::aa (Z2 0)::aa Z1::aa (Z2 0)::aa (aE (aa ⟨9,0,aj⟩))::nH (nH (nH (n4 (aj::aa (aD aq)::aa (Z2 t)::aa (bE (aO [Z2 t,.bool ao,Z2 0,Z2 0]))::aa (Z2 0)::aa (aD aq)::nH (nH (n4 (n4 (n4 (aj::aj::[]))))))))))) [(71,aq)] [aa (.inl (98,[Z2 (QS.cap q),.pointer (aa ⟨2,0,aj⟩),.pointer (aa ⟨3,0,aj⟩),.pointer (aa ⟨4,0,aj⟩)])),aa (.inr (.inl (45,oR l))),oM (QS.mt q),oS (QS.pr q),oS (QS.gn q),aa (.inl (33,[Z2 a0,Z2 a1,.bool a2,Z2 a3,Z2 a4])),aa (.inl (59,[.slice (aa ⟨7,0,aa 2000⟩) (ae A) (ae A),.slice (aa ⟨8,0,aa 2000⟩) (ae B) (ae B)])),aa (.inr (.inl (31,iR A))),aa (.inr (.inl (31,iR B))),aa (.inl (45,[Z2 t,.bool ao,Z2 0,Z2 0]))])) ?_ (by kernel_rfl)
 intro Z2 Z1;subst Z1 Z2;refine At.C4 [(75,aq)] (fun x hx=>by simp only[ib] at hx;subst hx;rfl) ?_
 refine mB (T:=As) [[1,1,1,1,1,1,1,1,1]] pL mixed 200 ?_;refine bN (q:=let Ez:=aE (aa ⟨4,0,aj⟩);let ko:=aE (aa ⟨3,0,aj⟩);let UU:=aE (aa ⟨2,0,aj⟩);let lp:=bs av;let Z1:=(iD Tryz.prog (dF (dG Tryz.f17)) G);let Z2:=(bK (aa ⟨1,0,aa 4000⟩) l.length n);let Z3:=(lp c);let Z4:=(aE (aa ⟨5,0,aj⟩));let Z5:=(lp t);let Z6:=(lp (kY l t));let Z7:=(aE (aa ⟨6,0,aj⟩));let Z8:=(lp e);let Z9:=(lp 0);let cP:=(aE (aa ⟨9,0,aj⟩));let cz:=(aD aq);let dR:=(bE (aO [lp t,.bool ao,lp 0,lp 0]));let fJ:=(aE (aa ⟨5,3,aj⟩));let gP:=(bE (aO [lp a3,lp a4]));let n6:=(bE (aO [lp t,.bool aq,lp a3,lp a4]));let mY:=(lp (↑l.length:Int));let fx:=(aD ao);let vF:=(uO (wu l 0 l.length));let FX:=(bK (aa ⟨11,0,aa 4000⟩) (ae (rL vF (Op.mk t aq (It.mk a3 a4)))) 0);let F9:=(cv (aO []));(((↑l.length:Int)==c)=aq->At D2 Tryz.prog (dM Tryz.f17) 5 Z1 [.inl [1,1,1,1,1,1,1,1,1]] (SS.mk (aj::aa Z2::aa Z3::n4 (aa Z4::aj::aj::aa Z5::aa Z6::aa Z7::aa Z8::aa (lp 10)::aa Z2::aa Z9::aa cP::nH (nH (nH (n4 (aj::aa cz::aa Z5::aa dR::aa Z9::aa cz::aa Z5::aa fJ::aa gP::aa n6::aa Z2::aa mY::aa Z3::aa cz::nH (nH (n4 (aj::aj::[]))))))))) [(83,aq),(75,aq)] [aa (.inl (98,[lp (QS.cap q),UU,ko,Ez])),aa (.inr (.inl (45,oR l))),oM (QS.mt q),oS (QS.pr q),oS (QS.gn q),aa (.inl (33,[lp a0,lp a1,.bool a2,lp a3,lp a4])),aa (.inl (59,[.slice (aa ⟨7,0,aa 2000⟩) (ae A) (ae A),.slice (aa ⟨8,0,aa 2000⟩) (ae B) (ae B)])),aa (.inr (.inl (31,iR A))),aa (.inr (.inl (31,iR B))),aa (.inl (45,[lp t,.bool aq,lp a3,lp a4]))]))/\(((↑l.length:Int)==c)=ao->(decide (kY l t≥(0:Int))=aq->At D2 Tryz.prog (dM Tryz.f17) 5 Z1 [.inl [1,1,1,1,1,1,1,1,1]] (SS.mk (aj::aa Z2::aa Z3::n4 (aa Z4::aj::aj::aa Z5::aa Z6::aa Z7::aa Z8::aa (lp 11)::aa Z2::aa Z9::aa cP::nH (nH (nH (n4 (aj::aa cz::aa Z5::aa dR::aa Z9::aa cz::aa Z5::aa fJ::aa gP::aa n6::aa Z2::aa mY::aa Z3::aa fx::aa Z6::aa cz::nH (nH (n4 ([]))))))))) [(85,aq),(83,ao),(75,aq)] [aa (.inl (98,[lp (QS.cap q),UU,ko,Ez])),aa (.inr (.inl (45,oR l))),oM (QS.mt q),oS (QS.pr q),oS (QS.gn q),aa (.inl (33,[lp a0,lp a1,.bool a2,lp a3,lp a4])),aa (.inl (59,[.slice (aa ⟨7,0,aa 2000⟩) (ae A) (ae A),.slice (aa ⟨8,0,aa 2000⟩) (ae B) (ae B)])),aa (.inr (.inl (31,iR A))),aa (.inr (.inl (31,iR B))),aa (.inl (45,[lp t,.bool aq,lp a3,lp a4]))]))/\(decide (kY l t≥(0:Int))=ao->(aq=aq->Vc ((0+ae l≤ae l/\True)/\wu l 0 l.length=oR vF/\ae l=ae vF/\ae vF≤100)/\(hasB vF (It.mk a3 a4)=aq->At D2 Tryz.prog (dM Tryz.f17) 5 Z1 [.inl [1,1,1,1,1,1,1,1,1]] (SS.mk (aj::aa Z2::aa Z3::n4 (aa Z4::aj::aj::aa Z5::aa Z6::aa Z7::aa Z8::aa (lp 2)::aa Z2::aa Z9::aa cP::nH (nH (nH (n4 (aj::aa cz::aa Z5::aa dR::aa Z9::aa cz::aa Z5::aa fJ::aa gP::aa n6::aa Z2::aa mY::aa Z3::aa fx::aa Z6::aa fx::aa Z9::aa cz::aa cz::aa Z2::aa fJ::aa gP::aa (aD (hasB vF (It.mk a3 a4)))::aa cz::nH (n4 (n4 (n4 ([])))))))))) [(93,aq),(88,aq),(85,ao),(83,ao),(75,aq)] [aa (.inl (98,[lp (QS.cap q),UU,ko,Ez])),aa (.inr (.inl (45,oR l))),oM (QS.mt q),oS (QS.pr q),oS (QS.gn q),aa (.inl (33,[lp a0,lp a1,.bool a2,lp a3,lp a4])),aa (.inl (59,[.slice (aa ⟨7,0,aa 2000⟩) (ae A) (ae A),.slice (aa ⟨8,0,aa 2000⟩) (ae B) (ae B)])),aa (.inr (.inl (31,iR A))),aa (.inr (.inl (31,iR B))),aa (.inl (45,[lp t,.bool aq,lp a3,lp a4]))]))/\(hasB vF (It.mk a3 a4)=ao->Vc ((0+ae l≤ae l/\True)/\wu l 0 l.length=oR vF/\ae l=ae vF/\ae vF≤100)/\At D2 Tryz.prog (dM Tryz.f17) 5 Z1 [.inl [1,1,1,1,1,1,1,1,1]] (SS.mk (aj::aa Z2::aa Z3::n4 (aa Z4::aj::aj::aa Z5::aa Z6::aa Z7::aa Z8::aa Z9::aa FX::aa Z9::aa cP::nH (nH (nH (n4 (aj::aa cz::aa Z5::aa dR::aa Z9::aa cz::aa Z5::aa fJ::aa gP::aa n6::aa Z2::aa mY::aa Z3::aa fx::aa Z6::aa fx::aa Z9::aa cz::aa cz::aa Z2::aa fJ::aa gP::aa (aD (hasB vF (It.mk a3 a4)))::aa fx::aa Z2::aa n6::aa FX::nH (n4 (n4 (aj::[]))))))))) [(93,ao),(88,aq),(85,ao),(83,ao),(75,aq)] [aa (.inl (98,[lp (QS.cap q),UU,ko,Ez])),aa (.inr (.inl (45,oR l))),oM (QS.mt q),oS (QS.pr q),oS (QS.gn q),aa (.inl (33,[lp a0,lp a1,.bool a2,lp a3,lp a4])),aa (.inl (59,[.slice (aa ⟨7,0,aa 2000⟩) (ae A) (ae A),.slice (aa ⟨8,0,aa 2000⟩) (ae B) (ae B)])),aa (.inr (.inl (31,iR A))),aa (.inr (.inl (31,iR B))),aa (.inl (45,[lp t,.bool aq,lp a3,lp a4])),aj,aa (.inr (.inl (45,oR (rL vF (Op.mk t aq (It.mk a3 a4))))))])))/\(aq=ao->Vc ((0+ae l≤ae l/\True)/\wu l 0 l.length=oR vF/\ae l=ae vF/\ae vF≤100)/\At D2 Tryz.prog (dM Tryz.f17) 5 Z1 [.inl [1,1,1,1,1,1,1,1,1]] (SS.mk (aj::aa Z2::aa Z3::n4 (aa Z4::aj::aj::aa Z5::aa Z6::aa Z7::aa Z8::aa Z9::aa FX::aa Z9::aa cP::nH (nH (nH (n4 (aj::aa cz::aa Z5::aa dR::aa Z9::aa cz::aa Z5::aa fJ::aa gP::aa n6::aa Z2::aa mY::aa Z3::aa fx::aa Z6::aa fx::aa Z9::aa cz::aa fx::aa F9::aa F9::aa F9::aa F9::aa fx::aa Z2::aa n6::aa FX::nH (n4 (n4 (aj::[]))))))))) [(93,ao),(88,ao),(85,ao),(83,ao),(75,aq)] [aa (.inl (98,[lp (QS.cap q),UU,ko,Ez])),aa (.inr (.inl (45,oR l))),oM (QS.mt q),oS (QS.pr q),oS (QS.gn q),aa (.inl (33,[lp a0,lp a1,.bool a2,lp a3,lp a4])),aa (.inl (59,[.slice (aa ⟨7,0,aa 2000⟩) (ae A) (ae A),.slice (aa ⟨8,0,aa 2000⟩) (ae B) (ae B)])),aa (.inr (.inl (31,iR A))),aa (.inr (.inl (31,iR B))),aa (.inl (45,[lp t,.bool aq,lp a3,lp a4])),aj,aa (.inr (.inl (45,oR (rL vF (Op.mk t aq (It.mk a3 a4))))))]))))) ?_ (by kernel_rfl)
 intro Ez ko UU lp Z1 Z2 Z3 Z4 Z5 Z6 Z7 Z8 Z9 cP cz dR fJ gP n6 mY fx vF FX F9;subst F9 FX vF fx mY n6 gP fJ dR cz cP Z9 Z8 Z7 Z6 Z5 Z4 Z3 Z2 Z1 lp UU ko Ez;simp only[zr,JZ,H2];subst he hA hB;refine⟨fun h1=>?_,fun h1=>⟨fun h2=>?_,fun h2=>⟨fun _=>⟨⟨⟨by omega,trivial⟩,trivial,trivial,by omega⟩,fun h3=>?_,fun h3=>⟨⟨⟨by omega,trivial⟩,trivial,trivial,by omega⟩,?_⟩⟩,fun h=>by cases h⟩⟩⟩
 ·have h1:(l.length:Int)=c:=eq_of_beq h1;have e1:nQ l c t ⟨a3,a4⟩=10:=by unfold nQ;rw[if_pos h1]
  have e2:jx l c t ⟨a3,a4⟩=l:=by unfold jx;rw[e1];rfl
  rw[e1,e2];exact At.fit [1,12,13,14,15] [.slice (aa ⟨1,0,aa 4000⟩) l.length n,.pointer (aa ⟨5,0,aj⟩),.int .i64 10,.int .i64 10,.slice (aa ⟨1,0,aa 4000⟩) l.length n] [sv q,oO l,oM q.mt,oS q.pr,oS q.gn,Dd (dw l l).length (dw l l).length 6 7,oI (dw l l),oI (dw l l)] 122 ⟨rfl,rfl,by simp⟩ ⟨[0,1,2,3,4,6,7,8],rfl,⟨.inl rfl,⟨_,rfl,.inl rfl⟩,rfl,rfl,rfl,.inl rfl,⟨_,rfl,.inl rfl⟩,⟨_,rfl,.inl rfl⟩,trivial⟩,rfl,rfl,rfl,rfl⟩ (BH (l':=l) hb hd (hN (by rw[e1];decide)))
 ·have h1:¬ (l.length:Int)=c:=fun k=>by rw[beq_eq_false_iff_ne] at h1;exact h1 k
  have h2:0≤kY l t:=of_decide_eq_true h2;have e1:nQ l c t ⟨a3,a4⟩=11:=by unfold nQ;rw[if_neg h1,if_pos h2]
  have e2:jx l c t ⟨a3,a4⟩=l:=by unfold jx;rw[e1];rfl
  rw[e1,e2];exact At.fit [1,12,13,14,15] [.slice (aa ⟨1,0,aa 4000⟩) l.length n,.pointer (aa ⟨5,0,aj⟩),.int .i64 11,.int .i64 11,.slice (aa ⟨1,0,aa 4000⟩) l.length n] [sv q,oO l,oM q.mt,oS q.pr,oS q.gn,Dd (dw l l).length (dw l l).length 6 7,oI (dw l l),oI (dw l l)] 122 ⟨rfl,rfl,by simp⟩ ⟨[0,1,2,3,4,6,7,8],rfl,⟨.inl rfl,⟨_,rfl,.inl rfl⟩,rfl,rfl,rfl,.inl rfl,⟨_,rfl,.inl rfl⟩,⟨_,rfl,.inl rfl⟩,trivial⟩,rfl,rfl,rfl,rfl⟩ (BH (l':=l) hb hd (hN (by rw[e1];decide)))
 ·have h1:¬ (l.length:Int)=c:=fun k=>by rw[beq_eq_false_iff_ne] at h1;exact h1 k
  have h2:¬ 0≤kY l t:=of_decide_eq_false h2;have e1:nQ l c t ⟨a3,a4⟩=2:=by unfold nQ;rw[if_neg h1,if_neg h2,if_pos h3]
  have e2:jx l c t ⟨a3,a4⟩=l:=by unfold jx;rw[e1];rfl
  rw[e1,e2];exact At.fit [1,12,13,14,15] [.slice (aa ⟨1,0,aa 4000⟩) l.length n,.pointer (aa ⟨5,0,aj⟩),.int .i64 2,.int .i64 2,.slice (aa ⟨1,0,aa 4000⟩) l.length n] [sv q,oO l,oM q.mt,oS q.pr,oS q.gn,Dd (dw l l).length (dw l l).length 6 7,oI (dw l l),oI (dw l l)] 122 ⟨rfl,rfl,by simp⟩ ⟨[0,1,2,3,4,6,7,8],rfl,⟨.inl rfl,⟨_,rfl,.inl rfl⟩,rfl,rfl,rfl,.inl rfl,⟨_,rfl,.inl rfl⟩,⟨_,rfl,.inl rfl⟩,trivial⟩,rfl,rfl,rfl,rfl⟩ (BH (l':=l) hb hd (hN (by rw[e1];decide)))
 ·have h1:¬ (l.length:Int)=c:=fun k=>by rw[beq_eq_false_iff_ne] at h1;exact h1 k
  have h2:¬ 0≤kY l t:=of_decide_eq_false h2;have e1:nQ l c t ⟨a3,a4⟩=0:=by unfold nQ;rw[if_neg h1,if_neg h2,if_neg (by rw[h3];decide)]
  have e2:rL l (⟨t,aq,⟨a3,a4⟩⟩:Op)=jx l c t ⟨a3,a4⟩:=by unfold jx;rw[e1];rfl
  rw[e1,e2];exact At.fit [1,12,13,14,15] [.slice (aa ⟨1,0,aa 4000⟩) l.length n,.pointer (aa ⟨5,0,aj⟩),.int .i64 0,.int .i64 0,.slice (aa ⟨8,0,aa 4000⟩) (jx l c t ⟨a3,a4⟩).length 0] [sv q,oO l,oM q.mt,oS q.pr,oS q.gn,Dd (dw l (jx l c t ⟨a3,a4⟩)).length (dw (jx l c t ⟨a3,a4⟩) l).length 6 7,oI (dw l (jx l c t ⟨a3,a4⟩)),oI (dw (jx l c t ⟨a3,a4⟩) l),oO (jx l c t ⟨a3,a4⟩)] 122 ⟨rfl,rfl,by simp⟩ ⟨[0,1,2,3,4,6,7,8,11],rfl,⟨.inl rfl,⟨_,rfl,.inl rfl⟩,rfl,rfl,rfl,.inl rfl,⟨_,rfl,.inl rfl⟩,⟨_,rfl,.inl rfl⟩,⟨_,rfl,.inl rfl⟩,trivial⟩,rfl,rfl,rfl,rfl⟩ (NR qf hd' hb hd (fun rest=>hY e1 rest _ _ _))
theorem akU {G:Value->Hp Rt->Prop} {q:QS} {l:List Op} {n:Nat} {c t e a0 a1 a3 a4:Int} {a2:Bool} {A B:List It} (he:e=(pE l c t)) (hA:A=dw l (jE l c t)) (hB:B=dw (jE l c t) l) (hb:l.length≤60) (hd:(gw l).Nodup) (qf:(jE l c t).length≤61) (hd':(gw (jE l c t)).Nodup)
  (hY:(pE l c t)=0->∀ rest x y z,G (.tuple #[.slice (aa ⟨8,0,aa 4000⟩) (jE l c t).length 0,.bool aq]) ([sv q,oO l,oM q.mt,oS q.pr,oS q.gn,x,y,z,oO (jE l c t)]++rest))
  (hN:¬ (pE l c t)=0->∀ rest,G (.tuple #[.slice (aa ⟨1,0,aa 4000⟩) l.length n,.bool aq]) ([sv q,oO l,oM q.mt,oS q.pr,oS q.gn]++rest)):At D2 Tryz.prog (dM Tryz.f17) 5 (iD Tryz.prog Tryz.f17.results.toList G) [.inl [1,1,1,1,1,1,1,1,0,1],.inl [1,1,1,1,1,1,1,1,1]] ⟨frame [1,2,7,10,11,12,13,14,15,16,71] [.slice (aa ⟨1,0,aa 4000⟩) l.length n,.int .i64 c,.pointer (aa ⟨5,0,aj⟩),.int .i64 t,.int .i64 (kY l t),.pointer (aa ⟨6,0,aj⟩),.int .i64 e,.int .i64 0,.slice (aa ⟨1,0,aa 4000⟩) l.length n,.int .i64 1,.bool aq] 0 122,[],[sv q,oO l,oM q.mt,oS q.pr,oS q.gn,aa (.inl (33,[.int .i64 a0,.int .i64 a1,.bool a2,.int .i64 a3,.int .i64 a4])),Dd A.length B.length 7 8,oI A,oI B]⟩:=by
 refine At.C4 [(71,aq)] (fun x hx=>by simp only[ib] at hx;subst hx;rfl) ?_
 refine mB (T:=As) [[1,1,1,1,1,1,1,1,0,1,0,1,0,1]] pL mixed 200 ?_;refine bN (q:=let Z2:=bs av;let Z1:=(bK (aa ⟨1,0,aa 4000⟩) l.length n);At D2 Tryz.prog (dM Tryz.f17) 5 (iD Tryz.prog (dF (dG Tryz.f17)) G) [.inl [1,1,1,1,1,1,1,1,0,1,0,1,0,1],.inl [1,1,1,1,1,1,1,1,0,1,0,1,1],.inl [1,1,1,1,1,1,1,1,1]] (SS.mk (aj::aa Z1::aa (Z2 c)::n4 (aa (aE (aa ⟨5,0,aj⟩))::aj::aj::aa (Z2 t)::aa (Z2 (kY l t))::aa (aE (aa ⟨6,0,aj⟩))::aa (Z2 e)::aa (Z2 0)::aa Z1::aa (Z2 1)::aa (aE (aa ⟨9,0,aj⟩))::nH (nH (nH (n4 (aj::aa (aD aq)::aa (Z2 t)::aa (bE (aO [Z2 t,.bool ao,Z2 0,Z2 0]))::aa (Z2 1)::aa (aD ao)::nH (nH (n4 (n4 (n4 (aj::aj::[]))))))))))) [(71,aq)] [aa (.inl (98,[Z2 (QS.cap q),.pointer (aa ⟨2,0,aj⟩),.pointer (aa ⟨3,0,aj⟩),.pointer (aa ⟨4,0,aj⟩)])),aa (.inr (.inl (45,oR l))),oM (QS.mt q),oS (QS.pr q),oS (QS.gn q),aa (.inl (33,[Z2 a0,Z2 a1,.bool a2,Z2 a3,Z2 a4])),aa (.inl (59,[.slice (aa ⟨7,0,aa 2000⟩) (ae A) (ae A),.slice (aa ⟨8,0,aa 2000⟩) (ae B) (ae B)])),aa (.inr (.inl (31,iR A))),aa (.inr (.inl (31,iR B))),aa (.inl (45,[Z2 t,.bool ao,Z2 0,Z2 0]))])) ?_ (by kernel_rfl)
 intro Z2 Z1;subst Z1 Z2;refine At.C4 [(75,ao)] (fun x hx=>by simp only[ib] at hx;subst hx;rfl) ?_
 refine mB (T:=As) [[1,1,1,1,1,1,1,1,1]] pL mixed 200 ?_;refine bN (q:=let FX:=aE (aa ⟨4,0,aj⟩);let F9:=aE (aa ⟨3,0,aj⟩);let Ez:=aE (aa ⟨2,0,aj⟩);let ko:=bs av;let Z1:=(iD Tryz.prog (dF (dG Tryz.f17)) G);let Z2:=(bK (aa ⟨1,0,aa 4000⟩) l.length n);let Z3:=(ko c);let Z4:=(aE (aa ⟨5,0,aj⟩));let Z5:=(ko t);let Z6:=(ko (kY l t));let Z7:=(aE (aa ⟨6,0,aj⟩));let Z8:=(ko e);let Z9:=(ko 1);let cP:=(aE (aa ⟨9,0,aj⟩));let cz:=(aD aq);let dR:=(bE (aO [ko t,.bool ao,ko 0,ko 0]));let fJ:=(aD ao);let gP:=(ko (↑l.length:Int));let n6:=(uO (wu l 0 l.length));let mY:=(bE (aO [ko a3,ko a4]));let fx:=(bK (aa ⟨11,0,aa 4000⟩) (ae (rL n6 (Op.mk t ao (It.mk (0:Int) (0:Int))))) 0);let vF:=(cv (aO []));(((↑l.length:Int)==c)=aq->At D2 Tryz.prog (dM Tryz.f17) 5 Z1 [.inl [1,1,1,1,1,1,1,1,1]] (SS.mk (aj::aa Z2::aa Z3::n4 (aa Z4::aj::aj::aa Z5::aa Z6::aa Z7::aa Z8::aa (ko 10)::aa Z2::aa Z9::aa cP::nH (nH (nH (n4 (aj::aa cz::aa Z5::aa dR::aa Z9::aa fJ::n4 (aa Z2::aa gP::aa Z3::aa cz::nH (nH (n4 (aj::aj::[])))))))))) [(83,aq),(75,ao)] [aa (.inl (98,[ko (QS.cap q),Ez,F9,FX])),aa (.inr (.inl (45,oR l))),oM (QS.mt q),oS (QS.pr q),oS (QS.gn q),aa (.inl (33,[ko a0,ko a1,.bool a2,ko a3,ko a4])),aa (.inl (59,[.slice (aa ⟨7,0,aa 2000⟩) (ae A) (ae A),.slice (aa ⟨8,0,aa 2000⟩) (ae B) (ae B)])),aa (.inr (.inl (31,iR A))),aa (.inr (.inl (31,iR B))),aa (.inl (45,[ko t,.bool ao,ko 0,ko 0]))]))/\(((↑l.length:Int)==c)=ao->(decide (kY l t≥(0:Int))=aq->At D2 Tryz.prog (dM Tryz.f17) 5 Z1 [.inl [1,1,1,1,1,1,1,1,1]] (SS.mk (aj::aa Z2::aa Z3::n4 (aa Z4::aj::aj::aa Z5::aa Z6::aa Z7::aa Z8::aa (ko 11)::aa Z2::aa Z9::aa cP::nH (nH (nH (n4 (aj::aa cz::aa Z5::aa dR::aa Z9::aa fJ::n4 (aa Z2::aa gP::aa Z3::aa fJ::aa Z6::aa cz::nH (nH (n4 ([])))))))))) [(85,aq),(83,ao),(75,ao)] [aa (.inl (98,[ko (QS.cap q),Ez,F9,FX])),aa (.inr (.inl (45,oR l))),oM (QS.mt q),oS (QS.pr q),oS (QS.gn q),aa (.inl (33,[ko a0,ko a1,.bool a2,ko a3,ko a4])),aa (.inl (59,[.slice (aa ⟨7,0,aa 2000⟩) (ae A) (ae A),.slice (aa ⟨8,0,aa 2000⟩) (ae B) (ae B)])),aa (.inr (.inl (31,iR A))),aa (.inr (.inl (31,iR B))),aa (.inl (45,[ko t,.bool ao,ko 0,ko 0]))]))/\(decide (kY l t≥(0:Int))=ao->(ao=aq->Vc ((0+ae l≤ae l/\True)/\wu l 0 l.length=oR n6/\ae l=ae n6/\ae n6≤100)/\(hasB n6 (It.mk a3 a4)=aq->At D2 Tryz.prog (dM Tryz.f17) 5 Z1 [.inl [1,1,1,1,1,1,1,1,1]] (SS.mk (aj::aa Z2::aa Z3::n4 (aa Z4::aj::aj::aa Z5::aa Z6::aa Z7::aa Z8::aa (ko 2)::aa Z2::aa Z9::aa cP::nH (nH (nH (n4 (aj::aa cz::aa Z5::aa dR::aa Z9::aa fJ::n4 (aa Z2::aa gP::aa Z3::aa fJ::aa Z6::aa fJ::aa Z9::aa fJ::aa cz::aa Z2::aa (aE (aa ⟨5,3,aj⟩))::aa mY::aa (aD (hasB n6 (It.mk a3 a4)))::aa cz::nH (n4 (n4 (n4 ([]))))))))))) [(93,aq),(88,aq),(85,ao),(83,ao),(75,ao)] [aa (.inl (98,[ko (QS.cap q),Ez,F9,FX])),aa (.inr (.inl (45,oR l))),oM (QS.mt q),oS (QS.pr q),oS (QS.gn q),aa (.inl (33,[ko a0,ko a1,.bool a2,ko a3,ko a4])),aa (.inl (59,[.slice (aa ⟨7,0,aa 2000⟩) (ae A) (ae A),.slice (aa ⟨8,0,aa 2000⟩) (ae B) (ae B)])),aa (.inr (.inl (31,iR A))),aa (.inr (.inl (31,iR B))),aa (.inl (45,[ko t,.bool ao,ko 0,ko 0]))]))/\(hasB n6 (It.mk a3 a4)=ao->Vc ((0+ae l≤ae l/\True)/\wu l 0 l.length=oR n6/\ae l=ae n6/\ae n6≤100)/\At D2 Tryz.prog (dM Tryz.f17) 5 Z1 [.inl [1,1,1,1,1,1,1,1,1]] (SS.mk (aj::aa Z2::aa Z3::n4 (aa Z4::aj::aj::aa Z5::aa Z6::aa Z7::aa Z8::aa (ko 0)::aa fx::aa Z9::aa cP::nH (nH (nH (n4 (aj::aa cz::aa Z5::aa dR::aa Z9::aa fJ::n4 (aa Z2::aa gP::aa Z3::aa fJ::aa Z6::aa fJ::aa Z9::aa fJ::aa cz::aa Z2::aa (aE (aa ⟨5,3,aj⟩))::aa mY::aa (aD (hasB n6 (It.mk a3 a4)))::aa fJ::aa Z2::aa dR::aa fx::nH (n4 (n4 (aj::[])))))))))) [(93,ao),(88,aq),(85,ao),(83,ao),(75,ao)] [aa (.inl (98,[ko (QS.cap q),Ez,F9,FX])),aa (.inr (.inl (45,oR l))),oM (QS.mt q),oS (QS.pr q),oS (QS.gn q),aa (.inl (33,[ko a0,ko a1,.bool a2,ko a3,ko a4])),aa (.inl (59,[.slice (aa ⟨7,0,aa 2000⟩) (ae A) (ae A),.slice (aa ⟨8,0,aa 2000⟩) (ae B) (ae B)])),aa (.inr (.inl (31,iR A))),aa (.inr (.inl (31,iR B))),aa (.inl (45,[ko t,.bool ao,ko 0,ko 0])),aj,aa (.inr (.inl (45,oR (rL n6 (Op.mk t ao (It.mk (0:Int) (0:Int)))))))])))/\(ao=ao->Vc ((0+ae l≤ae l/\True)/\wu l 0 l.length=oR n6/\ae l=ae n6/\ae n6≤100)/\At D2 Tryz.prog (dM Tryz.f17) 5 Z1 [.inl [1,1,1,1,1,1,1,1,1]] (SS.mk (aj::aa Z2::aa Z3::n4 (aa Z4::aj::aj::aa Z5::aa Z6::aa Z7::aa Z8::aa (ko 0)::aa fx::aa Z9::aa cP::nH (nH (nH (n4 (aj::aa cz::aa Z5::aa dR::aa Z9::aa fJ::n4 (aa Z2::aa gP::aa Z3::aa fJ::aa Z6::aa fJ::aa Z9::aa fJ::aa fJ::aa vF::aa vF::aa vF::aa vF::aa fJ::aa Z2::aa dR::aa fx::nH (n4 (n4 (aj::[])))))))))) [(93,ao),(88,ao),(85,ao),(83,ao),(75,ao)] [aa (.inl (98,[ko (QS.cap q),Ez,F9,FX])),aa (.inr (.inl (45,oR l))),oM (QS.mt q),oS (QS.pr q),oS (QS.gn q),aa (.inl (33,[ko a0,ko a1,.bool a2,ko a3,ko a4])),aa (.inl (59,[.slice (aa ⟨7,0,aa 2000⟩) (ae A) (ae A),.slice (aa ⟨8,0,aa 2000⟩) (ae B) (ae B)])),aa (.inr (.inl (31,iR A))),aa (.inr (.inl (31,iR B))),aa (.inl (45,[ko t,.bool ao,ko 0,ko 0])),aj,aa (.inr (.inl (45,oR (rL n6 (Op.mk t ao (It.mk (0:Int) (0:Int)))))))]))))) ?_ (by kernel_rfl)
 intro FX F9 Ez ko Z1 Z2 Z3 Z4 Z5 Z6 Z7 Z8 Z9 cP cz dR fJ gP n6 mY fx vF;subst vF fx mY n6 gP fJ dR cz cP Z9 Z8 Z7 Z6 Z5 Z4 Z3 Z2 Z1 ko Ez F9 FX;simp only[zr,JZ,H2];subst he hA hB;refine⟨fun h1=>?_,fun h1=>⟨fun h2=>?_,fun h2=>⟨(fun h=>by cases h),fun _=>⟨⟨⟨by omega,trivial⟩,trivial,trivial,by omega⟩,?_⟩⟩⟩⟩
 ·have h1:(l.length:Int)=c:=eq_of_beq h1;have e1:pE l c t=10:=by unfold pE;rw[if_pos h1]
  have e2:jE l c t=l:=by unfold jE;rw[e1];rfl
  rw[e1,e2];exact At.fit [1,12,13,14,15] [.slice (aa ⟨1,0,aa 4000⟩) l.length n,.pointer (aa ⟨5,0,aj⟩),.int .i64 10,.int .i64 10,.slice (aa ⟨1,0,aa 4000⟩) l.length n] [sv q,oO l,oM q.mt,oS q.pr,oS q.gn,Dd (dw l l).length (dw l l).length 6 7,oI (dw l l),oI (dw l l)] 122 ⟨rfl,rfl,by simp⟩ ⟨[0,1,2,3,4,6,7,8],rfl,⟨.inl rfl,⟨_,rfl,.inl rfl⟩,rfl,rfl,rfl,.inl rfl,⟨_,rfl,.inl rfl⟩,⟨_,rfl,.inl rfl⟩,trivial⟩,rfl,rfl,rfl,rfl⟩ (BH (l':=l) hb hd (hN (by rw[e1];decide)))
 ·have h1:¬ (l.length:Int)=c:=fun k=>by rw[beq_eq_false_iff_ne] at h1;exact h1 k
  have h2:0≤kY l t:=of_decide_eq_true h2;have e1:pE l c t=11:=by unfold pE;rw[if_neg h1,if_pos h2]
  have e2:jE l c t=l:=by unfold jE;rw[e1];rfl
  rw[e1,e2];exact At.fit [1,12,13,14,15] [.slice (aa ⟨1,0,aa 4000⟩) l.length n,.pointer (aa ⟨5,0,aj⟩),.int .i64 11,.int .i64 11,.slice (aa ⟨1,0,aa 4000⟩) l.length n] [sv q,oO l,oM q.mt,oS q.pr,oS q.gn,Dd (dw l l).length (dw l l).length 6 7,oI (dw l l),oI (dw l l)] 122 ⟨rfl,rfl,by simp⟩ ⟨[0,1,2,3,4,6,7,8],rfl,⟨.inl rfl,⟨_,rfl,.inl rfl⟩,rfl,rfl,rfl,.inl rfl,⟨_,rfl,.inl rfl⟩,⟨_,rfl,.inl rfl⟩,trivial⟩,rfl,rfl,rfl,rfl⟩ (BH (l':=l) hb hd (hN (by rw[e1];decide)))
 ·have h1:¬ (l.length:Int)=c:=fun k=>by rw[beq_eq_false_iff_ne] at h1;exact h1 k
  have h2:¬ 0≤kY l t:=of_decide_eq_false h2;have e1:pE l c t=0:=by unfold pE;rw[if_neg h1,if_neg h2]
  have e2:rL l (⟨t,ao,⟨0,0⟩⟩:Op)=jE l c t:=by unfold jE;rw[e1];rfl
  rw[e1,e2];exact At.fit [1,12,13,14,15] [.slice (aa ⟨1,0,aa 4000⟩) l.length n,.pointer (aa ⟨5,0,aj⟩),.int .i64 0,.int .i64 0,.slice (aa ⟨8,0,aa 4000⟩) (jE l c t).length 0] [sv q,oO l,oM q.mt,oS q.pr,oS q.gn,Dd (dw l (jE l c t)).length (dw (jE l c t) l).length 6 7,oI (dw l (jE l c t)),oI (dw (jE l c t) l),oO (jE l c t)] 122 ⟨rfl,rfl,by simp⟩ ⟨[0,1,2,3,4,6,7,8,11],rfl,⟨.inl rfl,⟨_,rfl,.inl rfl⟩,rfl,rfl,rfl,.inl rfl,⟨_,rfl,.inl rfl⟩,⟨_,rfl,.inl rfl⟩,⟨_,rfl,.inl rfl⟩,trivial⟩,rfl,rfl,rfl,rfl⟩ (NR qf hd' hb hd (fun rest=>hY e1 rest _ _ _))
theorem ak' {G:Value->Hp Rt->Prop} {s:T8} {g h:T9} {c:Int} {l:List Op} {n:Nat} {a0 a1 a3 a4:Int} {a2:Bool} (hq:HQ (⟨s,g,h,c⟩:QS) l c 80000) (wV:l.length≤59)
  (hY:yl l c (⟨a0,a1,a2,⟨a3,a4⟩⟩:Act)=0->∀ rest x y z,G (.tuple #[.slice (aa ⟨8,0,aa 4000⟩) (ug l c (⟨a0,a1,a2,⟨a3,a4⟩⟩:Act)).length 0,.bool aq]) ([sv (lA (⟨s,g,h,c⟩:QS) (⟨a0,a1,a2,⟨a3,a4⟩⟩:Act)),oO l,oM (lA (⟨s,g,h,c⟩:QS) (⟨a0,a1,a2,⟨a3,a4⟩⟩:Act)).mt,oS (lA (⟨s,g,h,c⟩:QS) (⟨a0,a1,a2,⟨a3,a4⟩⟩:Act)).pr,oS (lA (⟨s,g,h,c⟩:QS) (⟨a0,a1,a2,⟨a3,a4⟩⟩:Act)).gn,x,y,z,oO (ug l c (⟨a0,a1,a2,⟨a3,a4⟩⟩:Act))]++rest))
  (hN:¬ yl l c (⟨a0,a1,a2,⟨a3,a4⟩⟩:Act)=0->∀ rest,G (.tuple #[.slice (aa ⟨1,0,aa 4000⟩) l.length n,.bool aq]) ([sv (lA (⟨s,g,h,c⟩:QS) (⟨a0,a1,a2,⟨a3,a4⟩⟩:Act)),oO l,oM (lA (⟨s,g,h,c⟩:QS) (⟨a0,a1,a2,⟨a3,a4⟩⟩:Act)).mt,oS (lA (⟨s,g,h,c⟩:QS) (⟨a0,a1,a2,⟨a3,a4⟩⟩:Act)).pr,oS (lA (⟨s,g,h,c⟩:QS) (⟨a0,a1,a2,⟨a3,a4⟩⟩:Act)).gn]++rest)) (hk:PH (⟨a0,a1,a2,⟨a3,a4⟩⟩:Act)=2):At D2 Tryz.prog (dM Tryz.f17) 5 (iD Tryz.prog Tryz.f17.results.toList G) [.inl [1,1,1,1,1,1,1]] ⟨frame [0,1,2,7,10,11,12,13,14,15,16] [.pointer (aa ⟨0,0,aj⟩),.slice (aa ⟨1,0,aa 4000⟩) l.length n,.int .i64 c,.pointer (aa ⟨5,0,aj⟩),.int .i64 (fm (⟨a0,a1,a2,⟨a3,a4⟩⟩:Act) l),.int .i64 (kY l (fm (⟨a0,a1,a2,⟨a3,a4⟩⟩:Act) l)),.pointer (aa ⟨6,0,aj⟩),.int .i64 0,.int .i64 0,.slice (aa ⟨1,0,aa 4000⟩) l.length n,.int .i64 2] 0 122,[],[aa (.inl (98,[.int .i64 c,.pointer (aa ⟨2,0,aj⟩),.pointer (aa ⟨3,0,aj⟩),.pointer (aa ⟨4,0,aj⟩)])),oO l,aa (.inr (.inr (.inr (.inl (.tree s))))),aa (.inr (.inr (.inr (.inr (.tree g))))),aa (.inr (.inr (.inr (.inr (.tree h))))),aa (.inl (33,[.int .i64 a0,.int .i64 a1,.bool a2,.int .i64 a3,.int .i64 a4])),aa (.inl (59,[.slice aj 0 0,.slice aj 0 0]))]⟩:=by
 have eE:yl l c (⟨a0,a1,a2,⟨a3,a4⟩⟩:Act)=vk l (fm (⟨a0,a1,a2,⟨a3,a4⟩⟩:Act) l):=by unfold yl;rw[if_pos hk]
 have eL:ug l c (⟨a0,a1,a2,⟨a3,a4⟩⟩:Act)=kW l (fm (⟨a0,a1,a2,⟨a3,a4⟩⟩:Act) l):=by unfold ug;rw[if_pos hk]
 have eQ:lA (⟨s,g,h,c⟩:QS) (⟨a0,a1,a2,⟨a3,a4⟩⟩:Act)=jR (⟨s,g,h,c⟩:QS) (fm (⟨a0,a1,a2,⟨a3,a4⟩⟩:Act) l):=by unfold lA;rw[if_pos hk,hq.ops]
 rw[eE,eL,eQ] at hY;rw[eE,eQ] at hN;have Yh:=hq.Gb;refine mB (T:=As) [[1,1,1,1,1,1,1,0,0,1]] pL mixed 200 ?_;refine bN (q:=let Z2:=bs av;let Z1:=(bK (aa ⟨1,0,aa 4000⟩) l.length n);At D2 Tryz.prog (dM Tryz.f17) 5 (iD Tryz.prog (dF (dG Tryz.f17)) G) [.inl [1,1,1,1,1,1,1,0,0,1],.inr (.inl 0),.inl [1,1,1,1,1,1,1,1]] (SS.mk (aa (aE (aa ⟨0,0,aj⟩))::aa Z1::aa (Z2 c)::n4 (aa (aE (aa ⟨5,0,aj⟩))::aj::aj::aa (Z2 (fm (Act.mk a0 a1 a2 (It.mk a3 a4)) l))::aa (Z2 (kY l (fm (Act.mk a0 a1 a2 (It.mk a3 a4)) l)))::aa (aE (aa ⟨6,0,aj⟩))::aa (Z2 0)::aa (Z2 0)::aa Z1::aa (Z2 2)::nH (aj::aj::aj::aa (aD aq)::aa (Z2 2)::aa (aD aq)::nH (nH (nH (nH (nH (aj::aj::aj::[])))))))) [] [aa (.inl (98,[Z2 c,.pointer (aa ⟨2,0,aj⟩),.pointer (aa ⟨3,0,aj⟩),.pointer (aa ⟨4,0,aj⟩)])),aa (.inr (.inl (45,oR l))),oM s,oS g,oS h,aa (.inl (33,[Z2 a0,Z2 a1,.bool a2,Z2 a3,Z2 a4])),aa (.inl (59,[.slice aj 0 0,.slice aj 0 0]))])) ?_ (by kernel_rfl)
 intro Z2 Z1;subst Z1 Z2;refine At.C4 [(36,aq)] (fun x hx=>by simp only[ib] at hx;subst hx;rfl) ?_
 refine mB (T:=As) [[1,1,1,1,1,1,1,1,0,1]] pL mixed 200 ?_;refine bN (q:=let mY:=bs av;let Z1:=(fm (Act.mk a0 a1 a2 (It.mk a3 a4)) l);let Z2:=(aE (aa ⟨0,0,aj⟩));let Z3:=(bK (aa ⟨1,0,aa 4000⟩) l.length n);let Z4:=(mY Z1);let Z5:=(mY (kY l Z1));let Z6:=(QS.ops (QS.mk s g h c));let Z7:=(mY (vk Z6 Z1));let Z8:=(mY 2);let Z9:=(ae (dw Z6 (kW Z6 Z1)));let cP:=(ae (dw (kW Z6 Z1) Z6));let cz:=(cv (aO [.agg (aO [.slice (aa ⟨7,0,aa 2000⟩) Z9 Z9,.slice (aa ⟨8,0,aa 2000⟩) cP cP]),mY (vk Z6 Z1)]));let dR:=(bE (aO [.slice (aa ⟨7,0,aa 2000⟩) Z9 Z9,.slice (aa ⟨8,0,aa 2000⟩) cP cP]));let fJ:=(jR (QS.mk s g h c) Z1);let gP:=(uO (wu l 0 l.length));let n6:=(bK (aa ⟨10,0,aa 4000⟩) (ae (I3 gP (aI (kY l Z1)))) 0);Vc (QS.Ok (QS.mk s g h c))/\(decide (kY l Z1<(0:Int))=aq->At D2 Tryz.prog (dM Tryz.f17) 5 (iD Tryz.prog (dF (dG Tryz.f17)) G) [.inl [1,1,1,1,1,1,1,1,0,1],.inl [1,1,1,1,1,1,1,1,1]] (SS.mk (aa Z2::aa Z3::aa (mY c)::n4 (aa (aE (aa ⟨5,0,aj⟩))::aj::aj::aa Z4::aa Z5::aa (aE (aa ⟨6,0,aj⟩))::aa Z7::aa (mY 14)::aa Z3::aa Z8::nH (aj::aj::aj::aa (aD aq)::aa Z8::aa (aD aq)::aa cz::aa Z2::aa Z4::aa cz::aa dR::aa Z7::aa Z5::aa (aD aq)::nH (n4 (aj::aj::aj::aa Z8::aa (aD ao)::nH (nH (nH (aj::aj::[])))))))) [(46,aq),(36,aq)] [aa (.inl (98,[mY (QS.cap fJ),.pointer (aa ⟨2,0,aj⟩),.pointer (aa ⟨3,0,aj⟩),.pointer (aa ⟨4,0,aj⟩)])),aa (.inr (.inl (45,oR l))),oM (QS.mt fJ),oS (QS.pr fJ),oS (QS.gn fJ),aa (.inl (33,[mY a0,mY a1,.bool a2,mY a3,mY a4])),aa (.inl (59,[.slice (aa ⟨7,0,aa 2000⟩) Z9 Z9,.slice (aa ⟨8,0,aa 2000⟩) cP cP])),aa (.inr (.inl (31,iR (dw Z6 (kW Z6 Z1))))),aa (.inr (.inl (31,iR (dw (kW Z6 Z1) Z6))))]))/\(decide (kY l Z1<(0:Int))=ao->Vc ((0+ae l≤ae l/\True)/\wu l 0 l.length=oR gP/\ae l=ae gP/\ae gP≤100/\(0:Int)≤kY l Z1/\kY l Z1<(↑(ae gP):Int))/\At D2 Tryz.prog (dM Tryz.f17) 5 (iD Tryz.prog (dF (dG Tryz.f17)) G) [.inl [1,1,1,1,1,1,1,1,0,1],.inl [1,1,1,1,1,1,1,1,1]] (SS.mk (aa Z2::aa Z3::aa (mY c)::n4 (aa (aE (aa ⟨5,0,aj⟩))::aj::aj::aa Z4::aa Z5::aa (aE (aa ⟨6,0,aj⟩))::aa Z7::aa (mY 0)::aa n6::aa Z8::nH (aj::aj::aj::aa (aD aq)::aa Z8::aa (aD aq)::aa cz::aa Z2::aa Z4::aa cz::aa dR::aa Z7::aa Z5::aa (aD ao)::aa Z3::aa Z5::aa n6::nH (n4 (aa Z8::aa (aD ao)::nH (nH (nH (aj::aj::[])))))))) [(46,ao),(36,aq)] [aa (.inl (98,[mY (QS.cap fJ),.pointer (aa ⟨2,0,aj⟩),.pointer (aa ⟨3,0,aj⟩),.pointer (aa ⟨4,0,aj⟩)])),aa (.inr (.inl (45,oR l))),oM (QS.mt fJ),oS (QS.pr fJ),oS (QS.gn fJ),aa (.inl (33,[mY a0,mY a1,.bool a2,mY a3,mY a4])),aa (.inl (59,[.slice (aa ⟨7,0,aa 2000⟩) Z9 Z9,.slice (aa ⟨8,0,aa 2000⟩) cP cP])),aa (.inr (.inl (31,iR (dw Z6 (kW Z6 Z1))))),aa (.inr (.inl (31,iR (dw (kW Z6 Z1) Z6)))),aj,aa (.inr (.inl (45,oR (I3 gP (aI (kY l Z1))))))]))) ?_ (by kernel_rfl)
 intro mY Z1 Z2 Z3 Z4 Z5 Z6 Z7 Z8 Z9 cP cz dR fJ gP n6;subst n6 gP fJ dR cz cP Z9 Z8 Z7 Z6 Z5 Z4 Z3 Z2 Z1 mY;simp only[hq.ops,zr,JZ,H2];obtain⟨g1,g2,g3,g4,g5,g6⟩:=Le (t:=(fm (⟨a0,a1,a2,⟨a3,a4⟩⟩:Act) l)) hq (by omega)
 refine⟨⟨(hq.mono (by omega)).ok⟩,fun h1=>?_,fun h1=>?_⟩
 ·have h1:kY l (fm (⟨a0,a1,a2,⟨a3,a4⟩⟩:Act) l)<0:=of_decide_eq_true h1;have e1:vk l (fm (⟨a0,a1,a2,⟨a3,a4⟩⟩:Act) l)=14:=by unfold vk;rw[if_pos h1]
  have e2:kW l (fm (⟨a0,a1,a2,⟨a3,a4⟩⟩:Act) l)=l:=by unfold kW;rw[e1];rfl
  rw[e1,e2];refine At.C4 [(71,ao)] (fun x hx=>by simp only[ib] at hx;subst hx;rfl) ?_
  refine mB (T:=As) [[1,1,1,1,1,1,1,1,1]] pL mixed 200 ?_;refine bN (q:=let Z6:=bs av;let Z1:=(bK (aa ⟨1,0,aa 4000⟩) l.length n);let Z2:=(fm (Act.mk a0 a1 a2 (It.mk a3 a4)) l);let Z3:=(ae (dw l l));let Z4:=(cv (aO [.agg (aO [.slice (aa ⟨7,0,aa 2000⟩) Z3 Z3,.slice (aa ⟨8,0,aa 2000⟩) Z3 Z3]),Z6 14]));let Z5:=(jR (QS.mk s g h c) Z2);At D2 Tryz.prog (dM Tryz.f17) 5 (iD Tryz.prog (dF (dG Tryz.f17)) G) [.inl [1,1,1,1,1,1,1,1,1]] (SS.mk (aa (aE (aa ⟨0,0,aj⟩))::aa Z1::aa (Z6 c)::n4 (aa (aE (aa ⟨5,0,aj⟩))::aj::aj::aa (Z6 Z2)::aa (Z6 (kY l Z2))::aa (aE (aa ⟨6,0,aj⟩))::aa (Z6 14)::aa (Z6 14)::aa Z1::aa (Z6 2)::nH (aj::aj::aj::aa (aD aq)::aa (Z6 2)::aa (aD aq)::aa Z4::aa (aE (aa ⟨0,0,aj⟩))::aa (Z6 Z2)::aa Z4::aa (bE (aO [.slice (aa ⟨7,0,aa 2000⟩) Z3 Z3,.slice (aa ⟨8,0,aa 2000⟩) Z3 Z3]))::aa (Z6 14)::aa (Z6 (kY l Z2))::aa (aD aq)::nH (n4 (aj::aj::aj::aa (Z6 2)::aa (aD ao)::nH (nH (nH (aj::aj::[])))))))) [(71,ao)] [aa (.inl (98,[Z6 (QS.cap Z5),.pointer (aa ⟨2,0,aj⟩),.pointer (aa ⟨3,0,aj⟩),.pointer (aa ⟨4,0,aj⟩)])),aa (.inr (.inl (45,oR l))),oM (QS.mt Z5),oS (QS.pr Z5),oS (QS.gn Z5),aa (.inl (33,[Z6 a0,Z6 a1,.bool a2,Z6 a3,Z6 a4])),aa (.inl (59,[.slice (aa ⟨7,0,aa 2000⟩) Z3 Z3,.slice (aa ⟨8,0,aa 2000⟩) Z3 Z3])),aa (.inr (.inl (31,iR (dw l l)))),aa (.inr (.inl (31,iR (dw l l))))])) ?_ (by kernel_rfl)
  intro Z6 Z1 Z2 Z3 Z4 Z5;subst Z5 Z4 Z3 Z2 Z1 Z6;exact At.fit [1,12,13,14,15] [.slice (aa ⟨1,0,aa 4000⟩) l.length n,.pointer (aa ⟨5,0,aj⟩),.int .i64 14,.int .i64 14,.slice (aa ⟨1,0,aa 4000⟩) l.length n] [sv (jR (⟨s,g,h,c⟩:QS) (fm (⟨a0,a1,a2,⟨a3,a4⟩⟩:Act) l)),oO l,oM (jR (⟨s,g,h,c⟩:QS) (fm (⟨a0,a1,a2,⟨a3,a4⟩⟩:Act) l)).mt,oS (jR (⟨s,g,h,c⟩:QS) (fm (⟨a0,a1,a2,⟨a3,a4⟩⟩:Act) l)).pr,oS (jR (⟨s,g,h,c⟩:QS) (fm (⟨a0,a1,a2,⟨a3,a4⟩⟩:Act) l)).gn,Dd (dw l l).length (dw l l).length 6 7,oI (dw l l),oI (dw l l)] 122 ⟨rfl,rfl,by simp⟩ ⟨[0,1,2,3,4,6,7,8],rfl,⟨.inl rfl,⟨_,rfl,.inl rfl⟩,rfl,rfl,rfl,.inl rfl,⟨_,rfl,.inl rfl⟩,⟨_,rfl,.inl rfl⟩,trivial⟩,rfl,rfl,rfl,rfl⟩ (BH (l':=l) Yh hq.nd (hN (by rw[e1];decide)))
 ·have h1:¬ kY l (fm (⟨a0,a1,a2,⟨a3,a4⟩⟩:Act) l)<0:=of_decide_eq_false h1;have e1:vk l (fm (⟨a0,a1,a2,⟨a3,a4⟩⟩:Act) l)=0:=by unfold vk;rw[if_neg h1]
  have e2:I3 l (kY l (fm (⟨a0,a1,a2,⟨a3,a4⟩⟩:Act) l)).toNat=kW l (fm (⟨a0,a1,a2,⟨a3,a4⟩⟩:Act) l):=by unfold kW;rw[e1];rfl
  have e3:kY l (fm (⟨a0,a1,a2,⟨a3,a4⟩⟩:Act) l)<l.length:=by unfold kY;split<;>omega
  rw[e1,e2];refine⟨⟨⟨by omega,trivial⟩,trivial,trivial,by omega,by omega,e3⟩,?_⟩
  refine At.C4 [(71,ao)] (fun x hx=>by simp only[ib] at hx;subst hx;rfl) ?_
  refine mB (T:=As) [[1,1,1,1,1,1,1,1,1]] pL mixed 200 ?_;refine bN (q:=let Z9:=bs av;let Z1:=(bK (aa ⟨1,0,aa 4000⟩) l.length n);let Z2:=(fm (Act.mk a0 a1 a2 (It.mk a3 a4)) l);let Z3:=(Z9 (kY l Z2));let Z4:=(bK (aa ⟨10,0,aa 4000⟩) (ae (kW l Z2)) 0);let Z5:=(ae (dw l (kW l Z2)));let Z6:=(ae (dw (kW l Z2) l));let Z7:=(cv (aO [.agg (aO [.slice (aa ⟨7,0,aa 2000⟩) Z5 Z5,.slice (aa ⟨8,0,aa 2000⟩) Z6 Z6]),Z9 0]));let Z8:=(jR (QS.mk s g h c) Z2);At D2 Tryz.prog (dM Tryz.f17) 5 (iD Tryz.prog (dF (dG Tryz.f17)) G) [.inl [1,1,1,1,1,1,1,1,1]] (SS.mk (aa (aE (aa ⟨0,0,aj⟩))::aa Z1::aa (Z9 c)::n4 (aa (aE (aa ⟨5,0,aj⟩))::aj::aj::aa (Z9 Z2)::aa Z3::aa (aE (aa ⟨6,0,aj⟩))::aa (Z9 0)::aa (Z9 0)::aa Z4::aa (Z9 2)::nH (aj::aj::aj::aa (aD aq)::aa (Z9 2)::aa (aD aq)::aa Z7::aa (aE (aa ⟨0,0,aj⟩))::aa (Z9 Z2)::aa Z7::aa (bE (aO [.slice (aa ⟨7,0,aa 2000⟩) Z5 Z5,.slice (aa ⟨8,0,aa 2000⟩) Z6 Z6]))::aa (Z9 0)::aa Z3::aa (aD ao)::aa Z1::aa Z3::aa Z4::nH (n4 (aa (Z9 2)::aa (aD ao)::nH (nH (nH (aj::aj::[])))))))) [(71,ao)] [aa (.inl (98,[Z9 (QS.cap Z8),.pointer (aa ⟨2,0,aj⟩),.pointer (aa ⟨3,0,aj⟩),.pointer (aa ⟨4,0,aj⟩)])),aa (.inr (.inl (45,oR l))),oM (QS.mt Z8),oS (QS.pr Z8),oS (QS.gn Z8),aa (.inl (33,[Z9 a0,Z9 a1,.bool a2,Z9 a3,Z9 a4])),aa (.inl (59,[.slice (aa ⟨7,0,aa 2000⟩) Z5 Z5,.slice (aa ⟨8,0,aa 2000⟩) Z6 Z6])),aa (.inr (.inl (31,iR (dw l (kW l Z2))))),aa (.inr (.inl (31,iR (dw (kW l Z2) l)))),aj,aa (.inr (.inl (45,oR (kW l Z2))))])) ?_ (by kernel_rfl)
  intro Z9 Z1 Z2 Z3 Z4 Z5 Z6 Z7 Z8;subst Z8 Z7 Z6 Z5 Z4 Z3 Z2 Z1 Z9;exact At.fit [1,12,13,14,15] [.slice (aa ⟨1,0,aa 4000⟩) l.length n,.pointer (aa ⟨5,0,aj⟩),.int .i64 0,.int .i64 0,.slice (aa ⟨8,0,aa 4000⟩) (kW l (fm (⟨a0,a1,a2,⟨a3,a4⟩⟩:Act) l)).length 0] [sv (jR (⟨s,g,h,c⟩:QS) (fm (⟨a0,a1,a2,⟨a3,a4⟩⟩:Act) l)),oO l,oM (jR (⟨s,g,h,c⟩:QS) (fm (⟨a0,a1,a2,⟨a3,a4⟩⟩:Act) l)).mt,oS (jR (⟨s,g,h,c⟩:QS) (fm (⟨a0,a1,a2,⟨a3,a4⟩⟩:Act) l)).pr,oS (jR (⟨s,g,h,c⟩:QS) (fm (⟨a0,a1,a2,⟨a3,a4⟩⟩:Act) l)).gn,Dd (dw l (kW l (fm (⟨a0,a1,a2,⟨a3,a4⟩⟩:Act) l))).length (dw (kW l (fm (⟨a0,a1,a2,⟨a3,a4⟩⟩:Act) l)) l).length 6 7,oI (dw l (kW l (fm (⟨a0,a1,a2,⟨a3,a4⟩⟩:Act) l))),oI (dw (kW l (fm (⟨a0,a1,a2,⟨a3,a4⟩⟩:Act) l)) l),oO (kW l (fm (⟨a0,a1,a2,⟨a3,a4⟩⟩:Act) l))] 122 ⟨rfl,rfl,by simp⟩ ⟨[0,1,2,3,4,6,7,8,10],rfl,⟨.inl rfl,⟨_,rfl,.inl rfl⟩,rfl,rfl,rfl,.inl rfl,⟨_,rfl,.inl rfl⟩,⟨_,rfl,.inl rfl⟩,⟨_,rfl,.inl rfl⟩,trivial⟩,rfl,rfl,rfl,rfl⟩ (NR (by have:=g3.Gb;omega) g3.nd Yh hq.nd (fun rest=>hY e1 rest _ _ _))
theorem akP {G:Value->Hp Rt->Prop} {s:T8} {g h:T9} {c:Int} {l:List Op} {n:Nat} {a0 a1 a3 a4:Int} {a2:Bool} (hq:HQ (⟨s,g,h,c⟩:QS) l c 80000) (wV:l.length≤59)
  (hY:yl l c (⟨a0,a1,a2,⟨a3,a4⟩⟩:Act)=0->∀ rest x y z,G (.tuple #[.slice (aa ⟨8,0,aa 4000⟩) (ug l c (⟨a0,a1,a2,⟨a3,a4⟩⟩:Act)).length 0,.bool aq]) ([sv (lA (⟨s,g,h,c⟩:QS) (⟨a0,a1,a2,⟨a3,a4⟩⟩:Act)),oO l,oM (lA (⟨s,g,h,c⟩:QS) (⟨a0,a1,a2,⟨a3,a4⟩⟩:Act)).mt,oS (lA (⟨s,g,h,c⟩:QS) (⟨a0,a1,a2,⟨a3,a4⟩⟩:Act)).pr,oS (lA (⟨s,g,h,c⟩:QS) (⟨a0,a1,a2,⟨a3,a4⟩⟩:Act)).gn,x,y,z,oO (ug l c (⟨a0,a1,a2,⟨a3,a4⟩⟩:Act))]++rest))
  (hN:¬ yl l c (⟨a0,a1,a2,⟨a3,a4⟩⟩:Act)=0->∀ rest,G (.tuple #[.slice (aa ⟨1,0,aa 4000⟩) l.length n,.bool aq]) ([sv (lA (⟨s,g,h,c⟩:QS) (⟨a0,a1,a2,⟨a3,a4⟩⟩:Act)),oO l,oM (lA (⟨s,g,h,c⟩:QS) (⟨a0,a1,a2,⟨a3,a4⟩⟩:Act)).mt,oS (lA (⟨s,g,h,c⟩:QS) (⟨a0,a1,a2,⟨a3,a4⟩⟩:Act)).pr,oS (lA (⟨s,g,h,c⟩:QS) (⟨a0,a1,a2,⟨a3,a4⟩⟩:Act)).gn]++rest)) (hk:PH (⟨a0,a1,a2,⟨a3,a4⟩⟩:Act)=0):At D2 Tryz.prog (dM Tryz.f17) 5 (iD Tryz.prog Tryz.f17.results.toList G) [.inl [1,1,1,1,1,1,1]] ⟨frame [0,1,2,7,10,11,12,13,14,15,16] [.pointer (aa ⟨0,0,aj⟩),.slice (aa ⟨1,0,aa 4000⟩) l.length n,.int .i64 c,.pointer (aa ⟨5,0,aj⟩),.int .i64 (fm (⟨a0,a1,a2,⟨a3,a4⟩⟩:Act) l),.int .i64 (kY l (fm (⟨a0,a1,a2,⟨a3,a4⟩⟩:Act) l)),.pointer (aa ⟨6,0,aj⟩),.int .i64 0,.int .i64 0,.slice (aa ⟨1,0,aa 4000⟩) l.length n,.int .i64 0] 0 122,[],[aa (.inl (98,[.int .i64 c,.pointer (aa ⟨2,0,aj⟩),.pointer (aa ⟨3,0,aj⟩),.pointer (aa ⟨4,0,aj⟩)])),oO l,aa (.inr (.inr (.inr (.inl (.tree s))))),aa (.inr (.inr (.inr (.inr (.tree g))))),aa (.inr (.inr (.inr (.inr (.tree h))))),aa (.inl (33,[.int .i64 a0,.int .i64 a1,.bool a2,.int .i64 a3,.int .i64 a4])),aa (.inl (59,[.slice aj 0 0,.slice aj 0 0]))]⟩:=by
 have eE:yl l c (⟨a0,a1,a2,⟨a3,a4⟩⟩:Act)=nQ l c (fm (⟨a0,a1,a2,⟨a3,a4⟩⟩:Act) l) ⟨a3,a4⟩:=by unfold yl;rw[if_neg (by rw[hk];decide),if_pos hk]
 have eL:ug l c (⟨a0,a1,a2,⟨a3,a4⟩⟩:Act)=jx l c (fm (⟨a0,a1,a2,⟨a3,a4⟩⟩:Act) l) ⟨a3,a4⟩:=by unfold ug;rw[if_neg (by rw[hk];decide),if_pos hk]
 have eQ:lA (⟨s,g,h,c⟩:QS) (⟨a0,a1,a2,⟨a3,a4⟩⟩:Act)=kI (⟨s,g,h,c⟩:QS) (fm (⟨a0,a1,a2,⟨a3,a4⟩⟩:Act) l) ⟨a3,a4⟩:=by unfold lA;rw[if_neg (by rw[hk];decide),if_pos hk,hq.ops]
 rw[eE,eL,eQ] at hY;rw[eE,eQ] at hN;have Yh:=hq.Gb;refine mB (T:=As) [[1,1,1,1,1,1,1,0,0,1]] pL mixed 200 ?_;refine bN (q:=let Z3:=bs av;let Z1:=(bK (aa ⟨1,0,aa 4000⟩) l.length n);let Z2:=(Z3 0);At D2 Tryz.prog (dM Tryz.f17) 5 (iD Tryz.prog (dF (dG Tryz.f17)) G) [.inl [1,1,1,1,1,1,1,0,0,1],.inr (.inl 0),.inl [1,1,1,1,1,1,1,1]] (SS.mk (aa (aE (aa ⟨0,0,aj⟩))::aa Z1::aa (Z3 c)::n4 (aa (aE (aa ⟨5,0,aj⟩))::aj::aj::aa (Z3 (fm (Act.mk a0 a1 a2 (It.mk a3 a4)) l))::aa (Z3 (kY l (fm (Act.mk a0 a1 a2 (It.mk a3 a4)) l)))::aa (aE (aa ⟨6,0,aj⟩))::aa Z2::aa Z2::aa Z1::aa Z2::nH (aj::aj::aj::aa (aD ao)::aa Z2::aa (aD ao)::nH (nH (nH (nH (nH (aj::aj::aj::[])))))))) [] [aa (.inl (98,[Z3 c,.pointer (aa ⟨2,0,aj⟩),.pointer (aa ⟨3,0,aj⟩),.pointer (aa ⟨4,0,aj⟩)])),aa (.inr (.inl (45,oR l))),oM s,oS g,oS h,aa (.inl (33,[Z3 a0,Z3 a1,.bool a2,Z3 a3,Z3 a4])),aa (.inl (59,[.slice aj 0 0,.slice aj 0 0]))])) ?_ (by kernel_rfl)
 intro Z3 Z1 Z2;subst Z2 Z1 Z3;refine At.C4 [(36,ao)] (fun x hx=>by simp only[ib] at hx;subst hx;rfl) ?_
 refine mB (T:=As) [[1,1,1,1,1,1,1,0,0,1,1,1]] pL mixed 200 ?_;refine bN (q:=let Z3:=bs av;let Z1:=(bK (aa ⟨1,0,aa 4000⟩) l.length n);let Z2:=(Z3 0);At D2 Tryz.prog (dM Tryz.f17) 5 (iD Tryz.prog (dF (dG Tryz.f17)) G) [.inl [1,1,1,1,1,1,1,0,0,1,1,1],.inr (.inl 0),.inl [1,1,1,1,1,1,1,1]] (SS.mk (aa (aE (aa ⟨0,0,aj⟩))::aa Z1::aa (Z3 c)::n4 (aa (aE (aa ⟨5,0,aj⟩))::aj::aj::aa (Z3 (fm (Act.mk a0 a1 a2 (It.mk a3 a4)) l))::aa (Z3 (kY l (fm (Act.mk a0 a1 a2 (It.mk a3 a4)) l)))::aa (aE (aa ⟨6,0,aj⟩))::aa Z2::aa Z2::aa Z1::aa Z2::nH (aj::aj::aj::aa (aD ao)::aa Z2::aa (aD ao)::n4 (n4 (aj::aj::aj::aa (aD aq)::aa Z2::aa (aD aq)::nH (nH (nH (nH (n4 (aj::[])))))))))) [(36,ao)] [aa (.inl (98,[Z3 c,.pointer (aa ⟨2,0,aj⟩),.pointer (aa ⟨3,0,aj⟩),.pointer (aa ⟨4,0,aj⟩)])),aa (.inr (.inl (45,oR l))),oM s,oS g,oS h,aa (.inl (33,[Z3 a0,Z3 a1,.bool a2,Z3 a3,Z3 a4])),aa (.inl (59,[.slice aj 0 0,.slice aj 0 0]))])) ?_ (by kernel_rfl)
 intro Z3 Z1 Z2;subst Z2 Z1 Z3;refine At.C4 [(50,aq)] (fun x hx=>by simp only[ib] at hx;subst hx;rfl) ?_
 refine mB (T:=As) [[1,1,1,1,1,1,1,1,0,1]] pL mixed 200 ?_;refine bN (q:=let Z9:=bs av;let Z1:=(QS.ops (QS.mk s g h c));let Z2:=(bK (aa ⟨1,0,aa 4000⟩) l.length n);let Z3:=(fm (Act.mk a0 a1 a2 (It.mk a3 a4)) l);let Z4:=(Z9 0);let Z5:=(ae (dw Z1 (jx Z1 c Z3 (It.mk a3 a4))));let Z6:=(ae (dw (jx Z1 c Z3 (It.mk a3 a4)) Z1));let Z7:=(cv (aO [.agg (aO [.slice (aa ⟨7,0,aa 2000⟩) Z5 Z5,.slice (aa ⟨8,0,aa 2000⟩) Z6 Z6]),Z9 (nQ Z1 c Z3 (It.mk a3 a4))]));let Z8:=(kI (QS.mk s g h c) Z3 (It.mk a3 a4));Vc (QS.Ok (QS.mk s g h c)/\ae Z1≤59)/\At D2 Tryz.prog (dM Tryz.f17) 5 (iD Tryz.prog (dF (dG Tryz.f17)) G) [.inl [1,1,1,1,1,1,1,1,0,1],.inl [1,1,1,1,1,1,1,1,1]] (SS.mk (aa (aE (aa ⟨0,0,aj⟩))::aa Z2::aa (Z9 c)::n4 (aa (aE (aa ⟨5,0,aj⟩))::aj::aj::aa (Z9 Z3)::aa (Z9 (kY l Z3))::aa (aE (aa ⟨6,0,aj⟩))::aa (Z9 (nQ Z1 c Z3 (It.mk a3 a4)))::aa Z4::aa Z2::aa Z4::nH (aj::aj::aj::aa (aD ao)::aa Z4::aa (aD ao)::n4 (n4 (aj::aj::aj::aa (aD aq)::aa Z4::aa (aD aq)::aa Z7::aa (aE (aa ⟨0,0,aj⟩))::aa (Z9 Z3)::aa (aE (aa ⟨5,3,aj⟩))::aa (bE (aO [Z9 a3,Z9 a4]))::aa Z7::aa (bE (aO [.slice (aa ⟨7,0,aa 2000⟩) Z5 Z5,.slice (aa ⟨8,0,aa 2000⟩) Z6 Z6]))::aa (Z9 (nQ Z1 c Z3 (It.mk a3 a4)))::n4 (n4 (aj::aa Z4::aa (aD aq)::nH (nH (nH (aj::aj::[])))))))))) [(50,aq)] [aa (.inl (98,[Z9 (QS.cap Z8),.pointer (aa ⟨2,0,aj⟩),.pointer (aa ⟨3,0,aj⟩),.pointer (aa ⟨4,0,aj⟩)])),aa (.inr (.inl (45,oR l))),oM (QS.mt Z8),oS (QS.pr Z8),oS (QS.gn Z8),aa (.inl (33,[Z9 a0,Z9 a1,.bool a2,Z9 a3,Z9 a4])),aa (.inl (59,[.slice (aa ⟨7,0,aa 2000⟩) Z5 Z5,.slice (aa ⟨8,0,aa 2000⟩) Z6 Z6])),aa (.inr (.inl (31,iR (dw Z1 (jx Z1 c Z3 (It.mk a3 a4)))))),aa (.inr (.inl (31,iR (dw (jx Z1 c Z3 (It.mk a3 a4)) Z1))))])) ?_ (by kernel_rfl)
 intro Z9 Z1 Z2 Z3 Z4 Z5 Z6 Z7 Z8;subst Z8 Z7 Z6 Z5 Z4 Z3 Z2 Z1 Z9;simp only[hq.ops];obtain⟨g1,g2,g3,g4,g5,g6⟩:=Hs (t:=(fm (⟨a0,a1,a2,⟨a3,a4⟩⟩:Act) l)) (x:=⟨a3,a4⟩) hq wV (by omega)
 exact⟨⟨(hq.mono (by omega)).ok,wV⟩,At.fit [1,2,7,10,11,12,13,14,15,16,71] [.slice (aa ⟨1,0,aa 4000⟩) l.length n,.int .i64 c,.pointer (aa ⟨5,0,aj⟩),.int .i64 (fm (⟨a0,a1,a2,⟨a3,a4⟩⟩:Act) l),.int .i64 (kY l (fm (⟨a0,a1,a2,⟨a3,a4⟩⟩:Act) l)),.pointer (aa ⟨6,0,aj⟩),.int .i64 (nQ l c (fm (⟨a0,a1,a2,⟨a3,a4⟩⟩:Act) l) ⟨a3,a4⟩),.int .i64 0,.slice (aa ⟨1,0,aa 4000⟩) l.length n,.int .i64 0,.bool aq] [sv (kI (⟨s,g,h,c⟩:QS) (fm (⟨a0,a1,a2,⟨a3,a4⟩⟩:Act) l) ⟨a3,a4⟩),oO l,oM (kI (⟨s,g,h,c⟩:QS) (fm (⟨a0,a1,a2,⟨a3,a4⟩⟩:Act) l) ⟨a3,a4⟩).mt,oS (kI (⟨s,g,h,c⟩:QS) (fm (⟨a0,a1,a2,⟨a3,a4⟩⟩:Act) l) ⟨a3,a4⟩).pr,oS (kI (⟨s,g,h,c⟩:QS) (fm (⟨a0,a1,a2,⟨a3,a4⟩⟩:Act) l) ⟨a3,a4⟩).gn,aa (.inl (33,[.int .i64 a0,.int .i64 a1,.bool a2,.int .i64 a3,.int .i64 a4])),Dd (dw l (jx l c (fm (⟨a0,a1,a2,⟨a3,a4⟩⟩:Act) l) ⟨a3,a4⟩)).length (dw (jx l c (fm (⟨a0,a1,a2,⟨a3,a4⟩⟩:Act) l) ⟨a3,a4⟩) l).length 7 8,oI (dw l (jx l c (fm (⟨a0,a1,a2,⟨a3,a4⟩⟩:Act) l) ⟨a3,a4⟩)),oI (dw (jx l c (fm (⟨a0,a1,a2,⟨a3,a4⟩⟩:Act) l) ⟨a3,a4⟩) l)] 122 ⟨rfl,rfl,by simp⟩ ⟨[0,1,2,3,4,5,6,7,8],rfl,⟨.inl rfl,⟨_,rfl,.inl rfl⟩,rfl,rfl,rfl,.inl rfl,.inl rfl,⟨_,rfl,.inl rfl⟩,⟨_,rfl,.inl rfl⟩,trivial⟩,rfl,rfl,rfl,rfl⟩ (akM rfl rfl rfl Yh hq.nd (by have:=g3.Gb;omega) g3.nd hY hN)⟩
theorem akJ {G:Value->Hp Rt->Prop} {s:T8} {g h:T9} {c:Int} {l:List Op} {n:Nat} {a0 a1 a3 a4:Int} {a2:Bool} (hq:HQ (⟨s,g,h,c⟩:QS) l c 80000) (wV:l.length≤59)
  (hY:yl l c (⟨a0,a1,a2,⟨a3,a4⟩⟩:Act)=0->∀ rest x y z,G (.tuple #[.slice (aa ⟨8,0,aa 4000⟩) (ug l c (⟨a0,a1,a2,⟨a3,a4⟩⟩:Act)).length 0,.bool aq]) ([sv (lA (⟨s,g,h,c⟩:QS) (⟨a0,a1,a2,⟨a3,a4⟩⟩:Act)),oO l,oM (lA (⟨s,g,h,c⟩:QS) (⟨a0,a1,a2,⟨a3,a4⟩⟩:Act)).mt,oS (lA (⟨s,g,h,c⟩:QS) (⟨a0,a1,a2,⟨a3,a4⟩⟩:Act)).pr,oS (lA (⟨s,g,h,c⟩:QS) (⟨a0,a1,a2,⟨a3,a4⟩⟩:Act)).gn,x,y,z,oO (ug l c (⟨a0,a1,a2,⟨a3,a4⟩⟩:Act))]++rest))
  (hN:¬ yl l c (⟨a0,a1,a2,⟨a3,a4⟩⟩:Act)=0->∀ rest,G (.tuple #[.slice (aa ⟨1,0,aa 4000⟩) l.length n,.bool aq]) ([sv (lA (⟨s,g,h,c⟩:QS) (⟨a0,a1,a2,⟨a3,a4⟩⟩:Act)),oO l,oM (lA (⟨s,g,h,c⟩:QS) (⟨a0,a1,a2,⟨a3,a4⟩⟩:Act)).mt,oS (lA (⟨s,g,h,c⟩:QS) (⟨a0,a1,a2,⟨a3,a4⟩⟩:Act)).pr,oS (lA (⟨s,g,h,c⟩:QS) (⟨a0,a1,a2,⟨a3,a4⟩⟩:Act)).gn]++rest)) (hk:PH (⟨a0,a1,a2,⟨a3,a4⟩⟩:Act)=1):At D2 Tryz.prog (dM Tryz.f17) 5 (iD Tryz.prog Tryz.f17.results.toList G) [.inl [1,1,1,1,1,1,1]] ⟨frame [0,1,2,7,10,11,12,13,14,15,16] [.pointer (aa ⟨0,0,aj⟩),.slice (aa ⟨1,0,aa 4000⟩) l.length n,.int .i64 c,.pointer (aa ⟨5,0,aj⟩),.int .i64 (fm (⟨a0,a1,a2,⟨a3,a4⟩⟩:Act) l),.int .i64 (kY l (fm (⟨a0,a1,a2,⟨a3,a4⟩⟩:Act) l)),.pointer (aa ⟨6,0,aj⟩),.int .i64 0,.int .i64 0,.slice (aa ⟨1,0,aa 4000⟩) l.length n,.int .i64 1] 0 122,[],[aa (.inl (98,[.int .i64 c,.pointer (aa ⟨2,0,aj⟩),.pointer (aa ⟨3,0,aj⟩),.pointer (aa ⟨4,0,aj⟩)])),oO l,aa (.inr (.inr (.inr (.inl (.tree s))))),aa (.inr (.inr (.inr (.inr (.tree g))))),aa (.inr (.inr (.inr (.inr (.tree h))))),aa (.inl (33,[.int .i64 a0,.int .i64 a1,.bool a2,.int .i64 a3,.int .i64 a4])),aa (.inl (59,[.slice aj 0 0,.slice aj 0 0]))]⟩:=by
 have eE:yl l c (⟨a0,a1,a2,⟨a3,a4⟩⟩:Act)=pE l c (fm (⟨a0,a1,a2,⟨a3,a4⟩⟩:Act) l):=by unfold yl;rw[if_neg (by rw[hk];decide),if_neg (by rw[hk];decide)]
 have eL:ug l c (⟨a0,a1,a2,⟨a3,a4⟩⟩:Act)=jE l c (fm (⟨a0,a1,a2,⟨a3,a4⟩⟩:Act) l):=by unfold ug;rw[if_neg (by rw[hk];decide),if_neg (by rw[hk];decide)]
 have eQ:lA (⟨s,g,h,c⟩:QS) (⟨a0,a1,a2,⟨a3,a4⟩⟩:Act)=kp (⟨s,g,h,c⟩:QS) (fm (⟨a0,a1,a2,⟨a3,a4⟩⟩:Act) l):=by unfold lA;rw[if_neg (by rw[hk];decide),if_neg (by rw[hk];decide),hq.ops]
 rw[eE,eL,eQ] at hY;rw[eE,eQ] at hN;have Yh:=hq.Gb;refine mB (T:=As) [[1,1,1,1,1,1,1,0,0,1]] pL mixed 200 ?_;refine bN (q:=let Z2:=bs av;let Z1:=(bK (aa ⟨1,0,aa 4000⟩) l.length n);At D2 Tryz.prog (dM Tryz.f17) 5 (iD Tryz.prog (dF (dG Tryz.f17)) G) [.inl [1,1,1,1,1,1,1,0,0,1],.inr (.inl 0),.inl [1,1,1,1,1,1,1,1]] (SS.mk (aa (aE (aa ⟨0,0,aj⟩))::aa Z1::aa (Z2 c)::n4 (aa (aE (aa ⟨5,0,aj⟩))::aj::aj::aa (Z2 (fm (Act.mk a0 a1 a2 (It.mk a3 a4)) l))::aa (Z2 (kY l (fm (Act.mk a0 a1 a2 (It.mk a3 a4)) l)))::aa (aE (aa ⟨6,0,aj⟩))::aa (Z2 0)::aa (Z2 0)::aa Z1::aa (Z2 1)::nH (aj::aj::aj::aa (aD ao)::aa (Z2 1)::aa (aD ao)::nH (nH (nH (nH (nH (aj::aj::aj::[])))))))) [] [aa (.inl (98,[Z2 c,.pointer (aa ⟨2,0,aj⟩),.pointer (aa ⟨3,0,aj⟩),.pointer (aa ⟨4,0,aj⟩)])),aa (.inr (.inl (45,oR l))),oM s,oS g,oS h,aa (.inl (33,[Z2 a0,Z2 a1,.bool a2,Z2 a3,Z2 a4])),aa (.inl (59,[.slice aj 0 0,.slice aj 0 0]))])) ?_ (by kernel_rfl)
 intro Z2 Z1;subst Z1 Z2;refine At.C4 [(36,ao)] (fun x hx=>by simp only[ib] at hx;subst hx;rfl) ?_
 refine mB (T:=As) [[1,1,1,1,1,1,1,0,0,1,1,1]] pL mixed 200 ?_;refine bN (q:=let Z2:=bs av;let Z1:=(bK (aa ⟨1,0,aa 4000⟩) l.length n);At D2 Tryz.prog (dM Tryz.f17) 5 (iD Tryz.prog (dF (dG Tryz.f17)) G) [.inl [1,1,1,1,1,1,1,0,0,1,1,1],.inr (.inl 0),.inl [1,1,1,1,1,1,1,1]] (SS.mk (aa (aE (aa ⟨0,0,aj⟩))::aa Z1::aa (Z2 c)::n4 (aa (aE (aa ⟨5,0,aj⟩))::aj::aj::aa (Z2 (fm (Act.mk a0 a1 a2 (It.mk a3 a4)) l))::aa (Z2 (kY l (fm (Act.mk a0 a1 a2 (It.mk a3 a4)) l)))::aa (aE (aa ⟨6,0,aj⟩))::aa (Z2 0)::aa (Z2 0)::aa Z1::aa (Z2 1)::nH (aj::aj::aj::aa (aD ao)::aa (Z2 1)::aa (aD ao)::n4 (n4 (aj::aj::aj::aa (aD ao)::aa (Z2 1)::aa (aD ao)::nH (nH (nH (nH (n4 (aj::[])))))))))) [(36,ao)] [aa (.inl (98,[Z2 c,.pointer (aa ⟨2,0,aj⟩),.pointer (aa ⟨3,0,aj⟩),.pointer (aa ⟨4,0,aj⟩)])),aa (.inr (.inl (45,oR l))),oM s,oS g,oS h,aa (.inl (33,[Z2 a0,Z2 a1,.bool a2,Z2 a3,Z2 a4])),aa (.inl (59,[.slice aj 0 0,.slice aj 0 0]))])) ?_ (by kernel_rfl)
 intro Z2 Z1;subst Z1 Z2;refine At.C4 [(50,ao)] (fun x hx=>by simp only[ib] at hx;subst hx;rfl) ?_
 refine mB (T:=As) [[1,1,1,1,1,1,1,0,0,1,1,1,1,1]] pL mixed 200 ?_;refine bN (q:=let Z3:=bs av;let Z1:=(bK (aa ⟨1,0,aa 4000⟩) l.length n);let Z2:=(Z3 1);At D2 Tryz.prog (dM Tryz.f17) 5 (iD Tryz.prog (dF (dG Tryz.f17)) G) [.inl [1,1,1,1,1,1,1,0,0,1,1,1,1,1],.inr (.inl 0),.inl [1,1,1,1,1,1,1,1]] (SS.mk (aa (aE (aa ⟨0,0,aj⟩))::aa Z1::aa (Z3 c)::n4 (aa (aE (aa ⟨5,0,aj⟩))::aj::aj::aa (Z3 (fm (Act.mk a0 a1 a2 (It.mk a3 a4)) l))::aa (Z3 (kY l (fm (Act.mk a0 a1 a2 (It.mk a3 a4)) l)))::aa (aE (aa ⟨6,0,aj⟩))::aa (Z3 0)::aa (Z3 0)::aa Z1::aa Z2::nH (aj::aj::aj::aa (aD ao)::aa Z2::aa (aD ao)::n4 (n4 (aj::aj::aj::aa (aD ao)::aa Z2::aa (aD ao)::n4 (n4 (aa (aD aq)::aa Z2::aa (aD aq)::nH (nH (nH (n4 (n4 (aj::aj::[])))))))))))) [(50,ao)] [aa (.inl (98,[Z3 c,.pointer (aa ⟨2,0,aj⟩),.pointer (aa ⟨3,0,aj⟩),.pointer (aa ⟨4,0,aj⟩)])),aa (.inr (.inl (45,oR l))),oM s,oS g,oS h,aa (.inl (33,[Z3 a0,Z3 a1,.bool a2,Z3 a3,Z3 a4])),aa (.inl (59,[.slice aj 0 0,.slice aj 0 0]))])) ?_ (by kernel_rfl)
 intro Z3 Z1 Z2;subst Z2 Z1 Z3;refine At.C4 [(61,aq)] (fun x hx=>by simp only[ib] at hx;subst hx;rfl) ?_
 refine mB (T:=As) [[1,1,1,1,1,1,1,1,0,1]] pL mixed 200 ?_;refine bN (q:=let Z9:=bs av;let Z1:=(QS.ops (QS.mk s g h c));let Z2:=(bK (aa ⟨1,0,aa 4000⟩) l.length n);let Z3:=(fm (Act.mk a0 a1 a2 (It.mk a3 a4)) l);let Z4:=(Z9 1);let Z5:=(ae (dw Z1 (jE Z1 c Z3)));let Z6:=(ae (dw (jE Z1 c Z3) Z1));let Z7:=(cv (aO [.agg (aO [.slice (aa ⟨7,0,aa 2000⟩) Z5 Z5,.slice (aa ⟨8,0,aa 2000⟩) Z6 Z6]),Z9 (pE Z1 c Z3)]));let Z8:=(kp (QS.mk s g h c) Z3);Vc (QS.Ok (QS.mk s g h c)/\ae Z1≤59)/\At D2 Tryz.prog (dM Tryz.f17) 5 (iD Tryz.prog (dF (dG Tryz.f17)) G) [.inl [1,1,1,1,1,1,1,1,0,1],.inl [1,1,1,1,1,1,1,1,1]] (SS.mk (aa (aE (aa ⟨0,0,aj⟩))::aa Z2::aa (Z9 c)::n4 (aa (aE (aa ⟨5,0,aj⟩))::aj::aj::aa (Z9 Z3)::aa (Z9 (kY l Z3))::aa (aE (aa ⟨6,0,aj⟩))::aa (Z9 (pE Z1 c Z3))::aa (Z9 0)::aa Z2::aa Z4::nH (aj::aj::aj::aa (aD ao)::aa Z4::aa (aD ao)::n4 (n4 (aj::aj::aj::aa (aD ao)::aa Z4::aa (aD ao)::n4 (n4 (aa (aD aq)::aa Z4::aa (aD aq)::aa Z7::aa (aE (aa ⟨0,0,aj⟩))::aa (Z9 Z3)::aa Z7::aa (bE (aO [.slice (aa ⟨7,0,aa 2000⟩) Z5 Z5,.slice (aa ⟨8,0,aa 2000⟩) Z6 Z6]))::aa (Z9 (pE Z1 c Z3))::aa Z4::aa (aD aq)::nH (nH (nH (aj::aj::[])))))))))) [(61,aq)] [aa (.inl (98,[Z9 (QS.cap Z8),.pointer (aa ⟨2,0,aj⟩),.pointer (aa ⟨3,0,aj⟩),.pointer (aa ⟨4,0,aj⟩)])),aa (.inr (.inl (45,oR l))),oM (QS.mt Z8),oS (QS.pr Z8),oS (QS.gn Z8),aa (.inl (33,[Z9 a0,Z9 a1,.bool a2,Z9 a3,Z9 a4])),aa (.inl (59,[.slice (aa ⟨7,0,aa 2000⟩) Z5 Z5,.slice (aa ⟨8,0,aa 2000⟩) Z6 Z6])),aa (.inr (.inl (31,iR (dw Z1 (jE Z1 c Z3))))),aa (.inr (.inl (31,iR (dw (jE Z1 c Z3) Z1))))])) ?_ (by kernel_rfl)
 intro Z9 Z1 Z2 Z3 Z4 Z5 Z6 Z7 Z8;subst Z8 Z7 Z6 Z5 Z4 Z3 Z2 Z1 Z9;simp only[hq.ops];obtain⟨g1,g2,g3,g4,g5,g6⟩:=GW (t:=(fm (⟨a0,a1,a2,⟨a3,a4⟩⟩:Act) l)) hq wV (by omega)
 exact⟨⟨(hq.mono (by omega)).ok,wV⟩,At.fit [1,2,7,10,11,12,13,14,15,16,71] [.slice (aa ⟨1,0,aa 4000⟩) l.length n,.int .i64 c,.pointer (aa ⟨5,0,aj⟩),.int .i64 (fm (⟨a0,a1,a2,⟨a3,a4⟩⟩:Act) l),.int .i64 (kY l (fm (⟨a0,a1,a2,⟨a3,a4⟩⟩:Act) l)),.pointer (aa ⟨6,0,aj⟩),.int .i64 (pE l c (fm (⟨a0,a1,a2,⟨a3,a4⟩⟩:Act) l)),.int .i64 0,.slice (aa ⟨1,0,aa 4000⟩) l.length n,.int .i64 1,.bool aq] [sv (kp (⟨s,g,h,c⟩:QS) (fm (⟨a0,a1,a2,⟨a3,a4⟩⟩:Act) l)),oO l,oM (kp (⟨s,g,h,c⟩:QS) (fm (⟨a0,a1,a2,⟨a3,a4⟩⟩:Act) l)).mt,oS (kp (⟨s,g,h,c⟩:QS) (fm (⟨a0,a1,a2,⟨a3,a4⟩⟩:Act) l)).pr,oS (kp (⟨s,g,h,c⟩:QS) (fm (⟨a0,a1,a2,⟨a3,a4⟩⟩:Act) l)).gn,aa (.inl (33,[.int .i64 a0,.int .i64 a1,.bool a2,.int .i64 a3,.int .i64 a4])),Dd (dw l (jE l c (fm (⟨a0,a1,a2,⟨a3,a4⟩⟩:Act) l))).length (dw (jE l c (fm (⟨a0,a1,a2,⟨a3,a4⟩⟩:Act) l)) l).length 7 8,oI (dw l (jE l c (fm (⟨a0,a1,a2,⟨a3,a4⟩⟩:Act) l))),oI (dw (jE l c (fm (⟨a0,a1,a2,⟨a3,a4⟩⟩:Act) l)) l)] 122 ⟨rfl,rfl,by simp⟩ ⟨[0,1,2,3,4,5,6,7,8],rfl,⟨.inl rfl,⟨_,rfl,.inl rfl⟩,rfl,rfl,rfl,.inl rfl,.inl rfl,⟨_,rfl,.inl rfl⟩,⟨_,rfl,.inl rfl⟩,trivial⟩,rfl,rfl,rfl,rfl⟩ (akU rfl rfl rfl Yh hq.nd (by have:=g3.Gb;omega) g3.nd hY hN)⟩
theorem ab3 {G:Value->Hp Rt->Prop} {s:T8} {g h:T9} {c:Int} {l:List Op} {n:Nat} {a0 a1 a3 a4:Int} {a2:Bool} (hq:HQ (⟨s,g,h,c⟩:QS) l c 80000) (wV:l.length≤59)
  (hY:yl l c (⟨a0,a1,a2,⟨a3,a4⟩⟩:Act)=0->∀ rest x y z,G (.tuple #[.slice (aa ⟨8,0,aa 4000⟩) (ug l c (⟨a0,a1,a2,⟨a3,a4⟩⟩:Act)).length 0,.bool aq]) ([sv (lA (⟨s,g,h,c⟩:QS) (⟨a0,a1,a2,⟨a3,a4⟩⟩:Act)),oO l,oM (lA (⟨s,g,h,c⟩:QS) (⟨a0,a1,a2,⟨a3,a4⟩⟩:Act)).mt,oS (lA (⟨s,g,h,c⟩:QS) (⟨a0,a1,a2,⟨a3,a4⟩⟩:Act)).pr,oS (lA (⟨s,g,h,c⟩:QS) (⟨a0,a1,a2,⟨a3,a4⟩⟩:Act)).gn,x,y,z,oO (ug l c (⟨a0,a1,a2,⟨a3,a4⟩⟩:Act))]++rest))
  (hN:¬ yl l c (⟨a0,a1,a2,⟨a3,a4⟩⟩:Act)=0->∀ rest,G (.tuple #[.slice (aa ⟨1,0,aa 4000⟩) l.length n,.bool aq]) ([sv (lA (⟨s,g,h,c⟩:QS) (⟨a0,a1,a2,⟨a3,a4⟩⟩:Act)),oO l,oM (lA (⟨s,g,h,c⟩:QS) (⟨a0,a1,a2,⟨a3,a4⟩⟩:Act)).mt,oS (lA (⟨s,g,h,c⟩:QS) (⟨a0,a1,a2,⟨a3,a4⟩⟩:Act)).pr,oS (lA (⟨s,g,h,c⟩:QS) (⟨a0,a1,a2,⟨a3,a4⟩⟩:Act)).gn]++rest)) :
  At D2 Tryz.prog (dM Tryz.f17) 5 (iD Tryz.prog Tryz.f17.results.toList G) [.inl []] ⟨vn [.pointer (aa ⟨0,0,aj⟩),.slice (aa ⟨1,0,aa 4000⟩) l.length n,.int .i64 c,.agg ⟨[.int .i64 a0,.int .i64 a1,.bool a2,.int .i64 a3,.int .i64 a4]⟩]++ld (Tryz.f17.ntmps-4) aj,[],[aa (.inl (98,[.int .i64 c,.pointer (aa ⟨2,0,aj⟩),.pointer (aa ⟨3,0,aj⟩),.pointer (aa ⟨4,0,aj⟩)])),oO l,aa (.inr (.inr (.inr (.inl (.tree s))))),aa (.inr (.inr (.inr (.inr (.tree g))))),aa (.inr (.inr (.inr (.inr (.tree h)))))]⟩:=by
 refine mB (T:=As) [[1,1,1,1,1,1,1]] pL mixed 200 ?_;refine bN (q:=let Z6:=bs av;let Z1:=(uO (wu l 0 l.length));let Z2:=(bK (aa ⟨1,0,aa 4000⟩) l.length n);let Z3:=(bE (aO [Z6 a0,Z6 a1,.bool a2,Z6 a3,Z6 a4]));let Z4:=(Z6 (fm (Act.mk a0 a1 a2 (It.mk a3 a4)) Z1));let Z5:=(Z6 (kY Z1 (fm (Act.mk a0 a1 a2 (It.mk a3 a4)) Z1)));Vc ((0+ae l≤ae l/\True)/\wu l 0 l.length=oR Z1/\ae l=ae Z1/\ae Z1≤100)/\Vc ((0+ae l≤ae l/\True)/\wu l 0 l.length=oR Z1/\ae l=ae Z1/\ae Z1≤100)/\Vc ((0:Int)<(3:Int)/\(3:Int)<(1000000:Int))/\At D2 Tryz.prog (dM Tryz.f17) 5 (iD Tryz.prog (dF (dG Tryz.f17)) G) [.inl [1,1,1,1,1,1,1]] (SS.mk (aa (aE (aa ⟨0,0,aj⟩))::aa Z2::aa (Z6 c)::aa Z3::aj::aj::aj::aa (aE (aa ⟨5,0,aj⟩))::aa (bK (aa ⟨6,0,aa 4000⟩) 0 0)::aa (aD ao)::aa Z4::aa Z5::aa (aE (aa ⟨7,0,aj⟩))::aa (Z6 0)::aa (Z6 0)::aa Z2::aa (Z6 (wv a0 (3:Int)))::n4 (n4 (aj::aa Z3::aa Z2::aa Z4::aa Z2::aa Z4::aa Z5::aa Z2::aa (aE (aa ⟨5,0,aj⟩))::aa (Z6 a0)::aa (Z6 (wv a0 (3:Int)))::nH (nH (nH (nH (nH (n4 (aj::aj::[]))))))))) [(9,ao)] [aa (.inl (98,[Z6 c,.pointer (aa ⟨2,0,aj⟩),.pointer (aa ⟨3,0,aj⟩),.pointer (aa ⟨4,0,aj⟩)])),aa (.inr (.inl (45,oR l))),oM s,oS g,oS h,aa (.inl (33,[Z6 a0,Z6 a1,.bool a2,Z6 a3,Z6 a4])),aa (.inr (.inl (45,Row.mk [Z6 0,.bool ao,Z6 0,Z6 0] 0 [aT.mk [] [] [],aT.mk [] [] [],aT.mk [] [] [],aT.mk [] [] []]))),aa (.inl (59,[.slice aj 0 0,.slice aj 0 0]))])) ?_ (by kernel_rfl)
 intro Z6 Z1 Z2 Z3 Z4 Z5;subst Z5 Z4 Z3 Z2 Z1 Z6;have hb:=hq.Gb;have hr:=Mn (a:=a0) (n:=3) (by decide)
 simp only[zr,H2];refine⟨⟨⟨by omega,trivial⟩,trivial,trivial,by omega⟩,⟨⟨by omega,trivial⟩,trivial,trivial,by omega⟩,⟨by decide,by decide⟩,?_⟩
 rcases(show wv a0 3=2∨wv a0 3=0∨wv a0 3=1 by omega) with e|e|e
 ·rw[e];exact At.fit [0,1,2,7,10,11,12,13,14,15,16] [.pointer (aa ⟨0,0,aj⟩),.slice (aa ⟨1,0,aa 4000⟩) l.length n,.int .i64 c,.pointer (aa ⟨5,0,aj⟩),.int .i64 (fm (⟨a0,a1,a2,⟨a3,a4⟩⟩:Act) l),.int .i64 (kY l (fm (⟨a0,a1,a2,⟨a3,a4⟩⟩:Act) l)),.pointer (aa ⟨6,0,aj⟩),.int .i64 0,.int .i64 0,.slice (aa ⟨1,0,aa 4000⟩) l.length n,.int .i64 2] [aa (.inl (98,[.int .i64 c,.pointer (aa ⟨2,0,aj⟩),.pointer (aa ⟨3,0,aj⟩),.pointer (aa ⟨4,0,aj⟩)])),oO l,aa (.inr (.inr (.inr (.inl (.tree s))))),aa (.inr (.inr (.inr (.inr (.tree g))))),aa (.inr (.inr (.inr (.inr (.tree h))))),aa (.inl (33,[.int .i64 a0,.int .i64 a1,.bool a2,.int .i64 a3,.int .i64 a4])),aa (.inl (59,[.slice aj 0 0,.slice aj 0 0]))] 122 ⟨rfl,rfl,by simp⟩ ⟨[0,1,2,3,4,5,7],rfl,⟨.inl rfl,⟨_,rfl,.inl rfl⟩,rfl,rfl,rfl,.inl rfl,.inl rfl,trivial⟩,rfl,rfl,rfl,rfl⟩ (ak' hq wV hY hN e)
 ·rw[e];exact At.fit [0,1,2,7,10,11,12,13,14,15,16] [.pointer (aa ⟨0,0,aj⟩),.slice (aa ⟨1,0,aa 4000⟩) l.length n,.int .i64 c,.pointer (aa ⟨5,0,aj⟩),.int .i64 (fm (⟨a0,a1,a2,⟨a3,a4⟩⟩:Act) l),.int .i64 (kY l (fm (⟨a0,a1,a2,⟨a3,a4⟩⟩:Act) l)),.pointer (aa ⟨6,0,aj⟩),.int .i64 0,.int .i64 0,.slice (aa ⟨1,0,aa 4000⟩) l.length n,.int .i64 0] [aa (.inl (98,[.int .i64 c,.pointer (aa ⟨2,0,aj⟩),.pointer (aa ⟨3,0,aj⟩),.pointer (aa ⟨4,0,aj⟩)])),oO l,aa (.inr (.inr (.inr (.inl (.tree s))))),aa (.inr (.inr (.inr (.inr (.tree g))))),aa (.inr (.inr (.inr (.inr (.tree h))))),aa (.inl (33,[.int .i64 a0,.int .i64 a1,.bool a2,.int .i64 a3,.int .i64 a4])),aa (.inl (59,[.slice aj 0 0,.slice aj 0 0]))] 122 ⟨rfl,rfl,by simp⟩ ⟨[0,1,2,3,4,5,7],rfl,⟨.inl rfl,⟨_,rfl,.inl rfl⟩,rfl,rfl,rfl,.inl rfl,.inl rfl,trivial⟩,rfl,rfl,rfl,rfl⟩ (akP hq wV hY hN e)
 ·rw[e];exact At.fit [0,1,2,7,10,11,12,13,14,15,16] [.pointer (aa ⟨0,0,aj⟩),.slice (aa ⟨1,0,aa 4000⟩) l.length n,.int .i64 c,.pointer (aa ⟨5,0,aj⟩),.int .i64 (fm (⟨a0,a1,a2,⟨a3,a4⟩⟩:Act) l),.int .i64 (kY l (fm (⟨a0,a1,a2,⟨a3,a4⟩⟩:Act) l)),.pointer (aa ⟨6,0,aj⟩),.int .i64 0,.int .i64 0,.slice (aa ⟨1,0,aa 4000⟩) l.length n,.int .i64 1] [aa (.inl (98,[.int .i64 c,.pointer (aa ⟨2,0,aj⟩),.pointer (aa ⟨3,0,aj⟩),.pointer (aa ⟨4,0,aj⟩)])),oO l,aa (.inr (.inr (.inr (.inl (.tree s))))),aa (.inr (.inr (.inr (.inr (.tree g))))),aa (.inr (.inr (.inr (.inr (.tree h))))),aa (.inl (33,[.int .i64 a0,.int .i64 a1,.bool a2,.int .i64 a3,.int .i64 a4])),aa (.inl (59,[.slice aj 0 0,.slice aj 0 0]))] 122 ⟨rfl,rfl,by simp⟩ ⟨[0,1,2,3,4,5,7],rfl,⟨.inl rfl,⟨_,rfl,.inl rfl⟩,rfl,rfl,rfl,.inl rfl,.inl rfl,trivial⟩,rfl,rfl,rfl,rfl⟩ (akJ hq wV hY hN e)
def doW (args:List Value) (hh:Hp Rt):Option Bool:=match args,hh with
 |[.pointer (aa ⟨0,0,aj⟩),.slice (aa ⟨1,0,aa 4000⟩) n cc,.int .i64 w,.agg ⟨[.int .i64 a0,.int .i64 a1,.bool a2,.int .i64 a3,.int .i64 a4]⟩],[aa (.inl (98,[.int .i64 c,.pointer (aa ⟨2,0,aj⟩),.pointer (aa ⟨3,0,aj⟩),.pointer (aa ⟨4,0,aj⟩)])),aa (.inr (.inl (ty,r))),aa (.inr (.inr (.inr (.inl (.tree s))))),aa (.inr (.inr (.inr (.inr (.tree g))))),aa (.inr (.inr (.inr (.inr (.tree h)))))]=>aa (decide (yl (⟨s,g,h,c⟩:QS).ops c (⟨a0,a1,a2,⟨a3,a4⟩⟩:Act)=0))
 |_,_=>aj
def doY:Prim Rt:=fun args hh=>match args,hh with
 |[.pointer (aa ⟨0,0,aj⟩),.slice (aa ⟨1,0,aa 4000⟩) n cc,.int .i64 w,.agg ⟨[.int .i64 a0,.int .i64 a1,.bool a2,.int .i64 a3,.int .i64 a4]⟩],[aa (.inl (98,[.int .i64 c,.pointer (aa ⟨2,0,aj⟩),.pointer (aa ⟨3,0,aj⟩),.pointer (aa ⟨4,0,aj⟩)])),aa (.inr (.inl (ty,r))),aa (.inr (.inr (.inr (.inl (.tree s))))),aa (.inr (.inr (.inr (.inr (.tree g))))),aa (.inr (.inr (.inr (.inr (.tree h)))))]=>aa ⟨(ty=45/\r=oR (⟨s,g,h,c⟩:QS).ops/\n=(⟨s,g,h,c⟩:QS).ops.length)/\(⟨s,g,h,c⟩:QS).Ya/\w=c/\(⟨s,g,h,c⟩:QS).ops.length≤59,.tuple #[.slice (aa ⟨5,0,aa 4000⟩) (ug (⟨s,g,h,c⟩:QS).ops c (⟨a0,a1,a2,⟨a3,a4⟩⟩:Act)).length 0,.bool aq],aj,[sv (lA (⟨s,g,h,c⟩:QS) (⟨a0,a1,a2,⟨a3,a4⟩⟩:Act)),oO (⟨s,g,h,c⟩:QS).ops,oM (lA (⟨s,g,h,c⟩:QS) (⟨a0,a1,a2,⟨a3,a4⟩⟩:Act)).mt,oS (lA (⟨s,g,h,c⟩:QS) (⟨a0,a1,a2,⟨a3,a4⟩⟩:Act)).pr,oS (lA (⟨s,g,h,c⟩:QS) (⟨a0,a1,a2,⟨a3,a4⟩⟩:Act)).gn,oO (ug (⟨s,g,h,c⟩:QS).ops c (⟨a0,a1,a2,⟨a3,a4⟩⟩:Act))],[],[(0,0)]⟩
 |_,_=>aj
def doN:Prim Rt:=fun args hh=>match args,hh with
 |[.pointer (aa ⟨0,0,aj⟩),.slice (aa ⟨1,0,aa 4000⟩) n cc,.int .i64 w,.agg ⟨[.int .i64 a0,.int .i64 a1,.bool a2,.int .i64 a3,.int .i64 a4]⟩],[aa (.inl (98,[.int .i64 c,.pointer (aa ⟨2,0,aj⟩),.pointer (aa ⟨3,0,aj⟩),.pointer (aa ⟨4,0,aj⟩)])),aa (.inr (.inl (ty,r))),aa (.inr (.inr (.inr (.inl (.tree s))))),aa (.inr (.inr (.inr (.inr (.tree g))))),aa (.inr (.inr (.inr (.inr (.tree h)))))]=>aa ⟨(ty=45/\r=oR (⟨s,g,h,c⟩:QS).ops/\n=(⟨s,g,h,c⟩:QS).ops.length)/\(⟨s,g,h,c⟩:QS).Ya/\w=c/\(⟨s,g,h,c⟩:QS).ops.length≤59,.tuple #[.slice (aa ⟨1,0,aa 4000⟩) n cc,.bool aq],aj,[sv (lA (⟨s,g,h,c⟩:QS) (⟨a0,a1,a2,⟨a3,a4⟩⟩:Act)),oO (⟨s,g,h,c⟩:QS).ops,oM (lA (⟨s,g,h,c⟩:QS) (⟨a0,a1,a2,⟨a3,a4⟩⟩:Act)).mt,oS (lA (⟨s,g,h,c⟩:QS) (⟨a0,a1,a2,⟨a3,a4⟩⟩:Act)).pr,oS (lA (⟨s,g,h,c⟩:QS) (⟨a0,a1,a2,⟨a3,a4⟩⟩:Act)).gn],[],[(0,0)]⟩
 |_,_=>aj
def Xm:Qf Rt:=⟨doW,doY,doN⟩
theorem ak4:ck D2 Tryz.prog 17 Xm:=by
 intro b;refine v8 (fn:=Tryz.f17) (root:=dM Tryz.f17) (by kernel_rfl) (by kernel_rfl) (by kernel_rfl) fun args hh x hx=>?_
 cases b with
 |true =>
  unfold Xm acJ doY at hx;simp only at hx;split at hx
  ·rename_i n cc w a0 a1 a2 a3 a4 c ty r s g h;cases hx;refine⟨by first|exact bc _|exact mH _,mg rfl,(fun hw=>by first|rfl|cases hw),fun mK hv=>?_⟩
   have hw:decide (yl (⟨s,g,h,c⟩:QS).ops c (⟨a0,a1,a2,⟨a3,a4⟩⟩:Act)=0)=aq:=by
    simp only[rW,Xm,doW] at mK
    simpa using mK
   clear mK;obtain⟨⟨rfl,rfl,rfl⟩,hq,VS,wV⟩:=hv;have VS:=VS.symm;subst VS;have hq:HQ (⟨s,g,h,c⟩:QS) (⟨s,g,h,c⟩:QS).ops c 80000:=hq;have hw:=of_decide_eq_true hw;exact ab3 hq wV (fun _ rest x y z=>⟨[0,1,2,3,4,8],rfl,rfl,⟨.inl rfl,⟨_,rfl,.inl rfl⟩,rfl,rfl,rfl,⟨_,rfl,.inl rfl⟩,trivial⟩,rfl,rfl,rfl,rfl⟩) (fun k=>absurd hw k)
  ·cases hx
 |false =>
  unfold Xm acJ doN at hx;simp only at hx;split at hx
  ·rename_i n cc w a0 a1 a2 a3 a4 c ty r s g h;cases hx;refine⟨by first|exact bc _|exact mH _,mg rfl,(fun hw=>by first|rfl|cases hw),fun mK hv=>?_⟩
   have hw:decide (yl (⟨s,g,h,c⟩:QS).ops c (⟨a0,a1,a2,⟨a3,a4⟩⟩:Act)=0)=ao:=by
    simp only[rW,Xm,doW] at mK
    simpa using mK
   clear mK;obtain⟨⟨rfl,rfl,rfl⟩,hq,VS,wV⟩:=hv;have VS:=VS.symm;subst VS;have hq:HQ (⟨s,g,h,c⟩:QS) (⟨s,g,h,c⟩:QS).ops c 80000:=hq;have hw:=of_decide_eq_false hw;exact ab3 hq wV (fun k=>absurd k hw) (fun _ rest=>⟨[0,1,2,3,4],rfl,rfl,⟨.inl rfl,⟨_,rfl,.inl rfl⟩,rfl,rfl,rfl,trivial⟩,rfl,rfl,rfl,rfl⟩)
  ·cases hx
end Pa
end Go.Proofs.YtjlomlgdgpoepaaGreat
