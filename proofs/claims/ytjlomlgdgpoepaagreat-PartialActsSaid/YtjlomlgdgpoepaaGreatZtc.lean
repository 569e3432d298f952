import Derived.Test.YtjlomlgdgpoepaaGreatZtb
set_option linter.unusedVariables false
set_option linter.unusedSimpArgs false
namespace Go.Proofs.YtjlomlgdgpoepaaGreat
open Gv renaming A6→Df,Part→HI,aF→aJ,cw→bY,dY→ew,drop→wh,fW→gU,find→iB,first→kI,has→yE,jI→KT,ky→lO,last→j3,lk→br,look→jQ,ma→lp,nextIdx→vz,one→nN,pJ→tx,put→tK,seen→HJ
open Gv.Node renaming all→bt,e→bZ,h→cu,mk→fy
open Gv.PM renaming cX→gV,cap→ib,dE→dM,free→dR,held→fM,live→eM,vs→cH
open Gv.Part renaming mk→my,n→bM,sum→bG
open Gv.Ref renaming mk→aN
open Gv.iL renaming sum→IW
open Rx renaming Ends→ch
open Ti renaming Hz→Wn,RN→Wo,qN→xh
open Ti.Td renaming l→pw,mk→iM,n→pt,plus→Qd,s→pv
open Wv.It renaming mk→cW
open _root_.And renaming intro→cY
open _root_.Array renaming mk→aO,toList→dA
open _root_.Bool renaming and_false→uQ,false→an,true_and→je,true→ao
open _root_.Go.Addr renaming mk→RE
open _root_.Go.Func renaming results→dC
open _root_.Go.IntKind renaming i64→ar,wrap→ck
open _root_.Go.Value renaming agg→bE,bool→aD,int→bk,pointer→aC,slice→bx,tuple→cq
open _root_.Iff renaming rfl→sk
open _root_.Int renaming lt_trichotomy→rO,toNat_natCast→iF,toNat→aH
open _root_.List renaming cons_append→mw,dropWhile_cons→sR,drop_zero→so,filter_append→mh,getD_eq_getElem?_getD→av,getD→ax,getElem?_cons_zero→cd,getElem?_map→fh,length_append→bA,length_cons→cy,length_filter_le→rj,length_map→fR,length_nil→jN,length_set→fa,length_take→dZ,length→ae,map_append→dG,map_cons→gr,map_set→Fq,map→au,mem_append→b5,mem_cons_of_mem→ed,mem_cons_self→bL,mem_cons→bP,mem_map→pb,nil_append→pd,nodup_append→cf,nodup_cons→fJ,nodup_nil→RD,pairwise_append→nG,pairwise_cons→gB,perm_middle→ze,set→qf,takeWhile_append_dropWhile→Af,takeWhile_cons→sQ
open _root_.List.Pairwise renaming nil→rP
open _root_.List.Sublist renaming append_left→Wp,nodup→acU
open _root_.Nat renaming beq→fb,le_log2→Xc,le_refl→a_,le_succ→kO,le_trans→jq,log2→N',lt_of_le_of_lt→iW,lt_or_ge→cr,lt_succ_self→fC,min_eq_left→tL,pow_le_pow_right→IV,sub_le→Bc,succ_pos→sL,zero_add→bV,zero_le→du,zero_lt_one→Qe
open _root_.Option renaming getD_some→lI,isSome_some→C7,none→aj,some_ne_none→wu,some→aa
open _root_.Option.some renaming injEq→ct,inj→pa
open _root_.Or renaming inl→dK,inr→eV
open _root_.Prod renaming ext→kf,fst→aA,snd→aw
open _root_.Sum renaming inl→df,inr→kn
namespace Gv
open Rx
set_option linter.unusedSectionVars false
section
variable {N:Type}
structure dx (m m':PM N):Prop where
 dE:m'.dE=m.dE
 live:m'.live=m.live
 free:m'.free=m.free
 held:m'.held=m.held
 cap:m'.cap=m.cap
 len:m'.vs.length=m.vs.length
theorem dx.refl (m:PM N):dx m m:=⟨rfl,rfl,rfl,rfl,rfl,rfl⟩
theorem dx.trans {a b c:PM N} (h:dx a b) (k:dx b c):dx a c:=⟨k.dE.trans h.dE,k.live.trans h.live,k.free.trans h.free,k.held.trans h.held,k.cap.trans h.cap,k.len.trans h.len⟩
theorem dx.ok {n:Nat} {m m':PM N} (h:dx m m'):fX n m'↔fX n m:=by
 constructor
 ·intro⟨h1,h2,h3,wS,h4,h5,h6,I',h8⟩;exact⟨by rw[← h.dE,← h.len,h1],by rw[← h.live,← h.len,h2],by rw[← h.free,← h.len,← h.live];exact h3,by rw[← h.free];exact wS,by rw[← h.len];exact h4,by rw[← h.free];exact h5,by rw[← h.dE];exact h6,by rw[← h.dE,← h.live];exact I',by rw[← h.held];exact h8⟩
 ·intro⟨h1,h2,h3,wS,h4,h5,h6,I',h8⟩;exact⟨by rw[h.dE,h.len,h1],by rw[h.live,h.len,h2],by rw[h.free,h.len,h.live];exact h3,by rw[h.free];exact wS,by rw[h.len];exact h4,by rw[h.free];exact h5,by rw[h.dE];exact h6,by rw[h.dE,h.live];exact I',by rw[h.held];exact h8⟩
theorem dx.aF (m:PM N) (r:Ref):dx m (aF m r):=by unfold aJ;split<;>exact⟨rfl,rfl,rfl,rfl,rfl,rfl⟩
theorem dx.pJ (m:PM N) (r:Ref) (n:N):dx m (pJ m r n):=by
 unfold tx;split
 ·exact⟨rfl,rfl,rfl,rfl,rfl,by simp⟩
 ·exact dx.refl m
end
section
variable {E A:Type} (O:iL E A)
theorem dx.sI (m:Po E A) (r:Ref) (n l q:Node E A):dx m (sI O m r n l q):=dx.pJ _ _ _
theorem dx.tie (m:Po E A) (r:Ref) (n:Node E A):dx m (tie O m r n):=((dx.aF _ _).trans (dx.aF _ _)).trans (dx.sI O _ _ _ _ _)
theorem dx.oX (m:Po E A) (r:Ref) (n:Node E A):dx m (oX O m r n):=((dx.aF _ _).trans (dx.tie O _ _ _)).trans (dx.tie O _ _ _)
theorem dx.oW (m:Po E A) (r:Ref) (n:Node E A):dx m (oW O m r n):=((dx.aF _ _).trans (dx.tie O _ _ _)).trans (dx.tie O _ _ _)
theorem dx.BM (m:PM (Node E A)) (a b c d:Ref):dx m (aJ (aJ (aJ (aJ m a) b) c) d):=(((dx.aF _ _).trans (dx.aF _ _)).trans (dx.aF _ _)).trans (dx.aF _ _)
theorem dx.level (m:Po E A) (r:Ref) (n:Node E A):dx m (level O m r n).2:=by
 unfold Gv.level;split
 ·split
  ·exact((dx.BM _ _ _ _ _).trans (dx.oX O _ _ _)).trans (dx.oW O _ _ _)
  ·exact(dx.BM _ _ _ _ _).trans (dx.oW O _ _ _)
 ·split
  ·split
   ·exact((dx.BM _ _ _ _ _).trans (dx.oW O _ _ _)).trans (dx.oX O _ _ _)
   ·exact(dx.BM _ _ _ _ _).trans (dx.oX O _ _ _)
  ·exact((dx.aF _ _).trans (dx.aF _ _)).trans (dx.sI O _ _ _ _ _)
theorem dx.replace:∀ (k:Nat) (m:Po E A) (r:Ref) (e:E),dx m (replace O k m r e).2
 |0,m,_,_=>dx.refl m
 |k+1,m,r,e=>by
  unfold Gv.replace;split
  ·exact dx.aF _ _
  ·split
   ·split
    ·exact((dx.aF _ _).trans (dx.replace k _ _ _)).trans (dx.tie O _ _ _)
    ·exact(dx.aF _ _).trans (dx.replace k _ _ _)
   ·split
    ·split
     ·exact((dx.aF _ _).trans (dx.replace k _ _ _)).trans (dx.tie O _ _ _)
     ·exact(dx.aF _ _).trans (dx.replace k _ _ _)
    ·exact(dx.aF _ _).trans (dx.tie O _ _ _)
theorem dx.kW:∀ (k:Nat) (m:Po E A) (r f:Ref) (e:E),dx m (kW O k m r f e).2
 |0,m,_,_,_=>dx.refl m
 |k+1,m,r,f,e=>by
  unfold Gv.kW;split
  ·exact dx.aF _ _
  ·split
   ·exact((dx.aF _ _).trans (dx.kW k _ _ _ _)).trans (dx.level O _ _ _)
   ·exact((dx.aF _ _).trans (dx.kW k _ _ _ _)).trans (dx.level O _ _ _)
theorem dx.link:∀ (k:Nat) (m:Po E A) (a b c:Ref),dx m (link O k m a b c).2
 |0,m,_,_,_=>dx.refl m
 |k+1,m,a,b,c=>by
  unfold Gv.link;split
  ·exact(((dx.aF _ _).trans (dx.aF _ _)).trans (dx.link k _ _ _ _)).trans (dx.level O _ _ _)
  ·split
   ·exact(((dx.aF _ _).trans (dx.aF _ _)).trans (dx.link k _ _ _ _)).trans (dx.level O _ _ _)
   ·exact(((dx.aF _ _).trans (dx.aF _ _)).trans (dx.aF _ _)).trans (dx.sI O _ _ _ _ _)
theorem dx.iH:∀ (k:Nat) (m:Po E A) (r:Ref),dx m (iH O k m r).2.2
 |0,m,_=>dx.refl m
 |k+1,m,r=>by
  unfold Gv.iH;split
  ·exact dx.aF _ _
  ·exact((dx.aF _ _).trans (dx.iH k _ _)).trans (dx.level O _ _ _)
theorem dx.glue (k:Nat) (m:Po E A) (a c:Ref):dx m (glue O k m a c).2:=by
 unfold Gv.glue;split
 ·exact dx.refl m
 ·exact(dx.iH O _ _ _).trans (dx.link O _ _ _ _ _)
theorem dx.pick (K:Nat):∀ (k:Nat) (m:Po E A) (r:Ref) (e:E),dx m (pick O K k m r e).2.2
 |0,m,_,_=>dx.refl m
 |k+1,m,r,e=>by
  unfold Gv.pick;split
  ·exact dx.aF _ _
  ·split
   ·split
    ·exact(dx.aF _ _).trans (dx.pick K k _ _ _)
    ·exact((dx.aF _ _).trans (dx.pick K k _ _ _)).trans (dx.level O _ _ _)
   ·split
    ·split
     ·exact(dx.aF _ _).trans (dx.pick K k _ _ _)
     ·exact((dx.aF _ _).trans (dx.pick K k _ _ _)).trans (dx.level O _ _ _)
    ·exact(dx.aF _ _).trans (dx.glue O _ _ _ _)
theorem dx.lX (K:Nat):∀ (k:Nat) (m:Po E A) (r:Ref) (e:E),dx m (lX O K k m r e).2.2
 |0,m,_,_=>dx.refl m
 |k+1,m,r,e=>by
  unfold Gv.lX;split
  ·exact dx.aF _ _
  ·split
   ·exact((dx.aF _ _).trans (dx.lX K k _ _ _)).trans (dx.link O _ _ _ _ _)
   ·exact((dx.aF _ _).trans (dx.lX K k _ _ _)).trans (dx.link O _ _ _ _ _)
theorem dx.cw:∀ (k:Nat) (m:Po E A) (r:Ref),dx m (cw O k m r).2
 |0,m,_=>dx.refl m
 |k+1,m,r=>by
  unfold bY;split
  ·exact dx.aF _ _
  ·exact((dx.aF _ _).trans (dx.cw k _ _)).trans (dx.cw k _ _)
theorem dx.fW:∀ (k:Nat) (m:Po E A) (n:Node E A) (a b:Int),dx m (fW O k m n a b).2
 |0,m,_,_,_=>dx.refl m
 |k+1,m,n,a,b=>by
  unfold gU;split
  ·exact dx.refl m
  ·split
   ·exact dx.refl m
   ·dsimp only
    split
    ·exact(dx.aF _ _).trans (dx.fW k _ _ _ _)
    ·exact(((dx.aF _ _).trans (dx.fW k _ _ _ _)).trans (dx.aF _ _)).trans (dx.fW k _ _ _ _)
theorem dx.first (may:A->A->Bool):∀ (k:Nat) (m:Po E A) (n:Node E A) (a:Part A) (f:Int),dx m (first O may k m n a f).2
 |0,m,_,_,_=>dx.refl m
 |k+1,m,n,a,f=>by
  unfold kI
  split
  ·exact dx.refl m
  ·split
   ·exact dx.refl m
   ·split
    ·exact(dx.aF _ _).trans (dx.first may k _ _ _ _)
    ·split
     ·exact(dx.aF _ _).trans (dx.first may k _ _ _ _)
     ·exact(((dx.aF _ _).trans (dx.first may k _ _ _ _)).trans (dx.aF _ _)).trans (dx.first may k _ _ _ _)
theorem dx.last (may:A->A->Bool):∀ (k:Nat) (m:Po E A) (n:Node E A) (a:Part A) (f:Int),dx m (last O may k m n a f).2
 |0,m,_,_,_=>dx.refl m
 |k+1,m,n,a,f=>by
  unfold j3;split
  ·exact dx.refl m
  ·split
   ·exact dx.refl m
   ·dsimp only
    split
    ·exact((dx.aF _ _).trans (dx.aF _ _)).trans (dx.last may k _ _ _ _)
    ·split
     ·exact((dx.aF _ _).trans (dx.aF _ _)).trans (dx.last may k _ _ _ _)
     ·exact(((dx.aF _ _).trans (dx.aF _ _)).trans (dx.last may k _ _ _ _)).trans (dx.last may k _ _ _ _)
end
section
variable {N E A:Type} {O:iL E A} {n:Nat}
theorem dg {m:PM N} {r:Ref}:fX n (aF m r)↔fX n m:=(dx.aF _ _).ok
theorem ag6 {m:PM N} {r:Ref} {v:N}:fX n (pJ m r v)↔fX n m:=(dx.pJ _ _ _).ok
theorem xy {m:Po E A} {r:Ref} {v l q:Node E A}:fX n (sI O m r v l q)↔fX n m:=(dx.sI O _ _ _ _ _).ok
theorem AP {m:Po E A} {r:Ref} {v:Node E A}:fX n (tie O m r v)↔fX n m:=(dx.tie O _ _ _).ok
theorem By {m:Po E A} {r:Ref} {v:Node E A}:fX n (oX O m r v)↔fX n m:=(dx.oX O _ _ _).ok
theorem BD {m:Po E A} {r:Ref} {v:Node E A}:fX n (oW O m r v)↔fX n m:=(dx.oW O _ _ _).ok
theorem sF {m:Po E A} {r:Ref} {v:Node E A}:fX n (level O m r v).2↔fX n m:=(dx.level O _ _ _).ok
theorem rT {k:Nat} {m:Po E A} {r:Ref} {e:E}:fX n (replace O k m r e).2↔fX n m:=(dx.replace O _ _ _ _).ok
theorem xw {k:Nat} {m:Po E A} {r f:Ref} {e:E}:fX n (kW O k m r f e).2↔fX n m:=(dx.kW O _ _ _ _ _).ok
theorem xF {k:Nat} {m:Po E A} {a b c:Ref}:fX n (link O k m a b c).2↔fX n m:=(dx.link O _ _ _ _ _).ok
theorem vl {k:Nat} {m:Po E A} {r:Ref}:fX n (iH O k m r).2.2↔fX n m:=(dx.iH O _ _ _).ok
theorem HB {k:Nat} {m:Po E A} {a c:Ref}:fX n (glue O k m a c).2↔fX n m:=(dx.glue O _ _ _ _).ok
theorem xv {K k:Nat} {m:Po E A} {r:Ref} {e:E}:fX n (pick O K k m r e).2.2↔fX n m:=(dx.pick O K _ _ _ _).ok
theorem QY {K k:Nat} {m:Po E A} {r:Ref} {e:E}:fX n (lX O K k m r e).2.2↔fX n m:=(dx.lX O K _ _ _ _).ok
theorem qJ {k:Nat} {m:Po E A} {r:Ref}:fX n (cw O k m r).2↔fX n m:=(dx.cw O _ _ _).ok
theorem OI {k:Nat} {m:Po E A} {v:Node E A} {a b:Int}:fX n (fW O k m v a b).2↔fX n m:=(dx.fW O _ _ _ _ _).ok
theorem MU {may:A->A->Bool} {k:Nat} {m:Po E A} {v:Node E A} {a:Part A} {f:Int}:fX n (first O may k m v a f).2↔fX n m:=(dx.first O may _ _ _ _ _).ok
theorem QM {may:A->A->Bool} {k:Nat} {m:Po E A} {v:Node E A} {a:Part A} {f:Int}:fX n (last O may k m v a f).2↔fX n m:=(dx.last O may _ _ _ _ _).ok
theorem mY:(∀ {N:Type} {n:Nat} {m:PM N} {r:Ref},fX n (aF m r)↔fX n m)/\(∀ {N:Type} {n:Nat} {m:PM N} {r:Ref} {v:N},fX n (pJ m r v)↔fX n m)/\(∀ {E A:Type} {O:iL E A} {n:Nat} {m:Po E A} {r:Ref} {v l q:Node E A},fX n (sI O m r v l q)↔fX n m)/\(∀ {E A:Type} {O:iL E A} {n:Nat} {m:Po E A} {r:Ref} {v:Node E A},fX n (tie O m r v)↔fX n m)/\(∀ {E A:Type} {O:iL E A} {n:Nat} {m:Po E A} {r:Ref} {v:Node E A},fX n (oX O m r v)↔fX n m)/\(∀ {E A:Type} {O:iL E A} {n:Nat} {m:Po E A} {r:Ref} {v:Node E A},fX n (oW O m r v)↔fX n m)/\(∀ {E A:Type} {O:iL E A} {n:Nat} {m:Po E A} {r:Ref} {v:Node E A},fX n (level O m r v).2↔fX n m)/\(∀ {E A:Type} {O:iL E A} {n:Nat} {k:Nat} {m:Po E A} {r:Ref} {e:E},fX n (replace O k m r e).2↔fX n m)/\(∀ {E A:Type} {O:iL E A} {n:Nat} {k:Nat} {m:Po E A} {r f:Ref} {e:E},fX n (kW O k m r f e).2↔fX n m)/\(∀ {E A:Type} {O:iL E A} {n:Nat} {k:Nat} {m:Po E A} {a b c:Ref},fX n (link O k m a b c).2↔fX n m)/\(∀ {E A:Type} {O:iL E A} {n:Nat} {k:Nat} {m:Po E A} {r:Ref},fX n (iH O k m r).2.2↔fX n m)/\(∀ {E A:Type} {O:iL E A} {n:Nat} {k:Nat} {m:Po E A} {a c:Ref},fX n (glue O k m a c).2↔fX n m)/\(∀ {E A:Type} {O:iL E A} {n:Nat} {K k:Nat} {m:Po E A} {r:Ref} {e:E},fX n (pick O K k m r e).2.2↔fX n m)/\(∀ {E A:Type} {O:iL E A} {n:Nat} {K k:Nat} {m:Po E A} {r:Ref} {e:E},fX n (lX O K k m r e).2.2↔fX n m)/\(∀ {E A:Type} {O:iL E A} {n:Nat} {k:Nat} {m:Po E A} {r:Ref},fX n (cw O k m r).2↔fX n m)/\(∀ {E A:Type} {O:iL E A} {n:Nat} {k:Nat} {m:Po E A} {v:Node E A} {a b:Int},fX n (fW O k m v a b).2↔fX n m)/\(∀ {E A:Type} {O:iL E A} {n:Nat} {may:A->A->Bool} {k:Nat} {m:Po E A} {v:Node E A} {a:Part A} {f:Int},fX n (first O may k m v a f).2↔fX n m)/\(∀ {E A:Type} {O:iL E A} {n:Nat} {may:A->A->Bool} {k:Nat} {m:Po E A} {v:Node E A} {a:Part A} {f:Int},fX n (last O may k m v a f).2↔fX n m):=⟨dg,ag6,xy,AP,By,BD,sF,rT,xw,xF,vl,HB,xv,QY,qJ,OI,MU,QM⟩
@[simp] theorem ik (m:Po E A) (s r:Ref):lk O (aF m s) r=lk O m r:=V6 _ _ _ _
theorem DV (r:Ref):(⟨r.i,r.g⟩:Ref)=r:=rfl
theorem Yc (i g:Int):(if an=ao then !(i==0&&(g==0&&ao)) else i==0&&(g==0&&ao))=decide ((⟨i,g⟩:Ref)=r0):=by
 rw[if_neg (by simp)]
 by_cases h:(⟨i,g⟩:Ref)=r0
 ·rw[decide_eq_true h];cases h
  rfl
 ·rw[decide_eq_false h];cases hb:(i==0&&(g==0&&ao)) with
  |false=>rfl
  |true =>
   simp only[Bool.and_eq_true,beq_iff_eq,and_true] at hb;obtain⟨rfl,rfl⟩:=hb;exact absurd rfl h
theorem su:∀ {k:Nat} {m:Po E A} {s r:Ref},Deep O k (aF m s) r↔Deep O k m r
 |0,_,_,_=>sk
 |k+1,m,s,r=>by simp only[Deep,ik,su]
theorem A5:∀ {k:Nat} {m:Po E A} {s r:Ref},sC O k (aF m s) r↔sC O k m r
 |0,_,_,_=>sk
 |k+1,m,s,r=>by simp only[sC,ik,A5]
theorem KD:∀ (k:Nat) (m:Po E A) (r s:Ref),lk O (cw O k m r).2 s=lk O m s
 |0,m,_,_=>rfl
 |k+1,m,r,s=>by
  unfold bY;split
  ·exact ik _ _ _
  ·dsimp only
   rw[KD k,KD k,ik]
theorem Dx:∀ (k:Nat) (m:Po E A) (n:Node E A) (a b:Int) (s:Ref),lk O (fW O k m n a b).2 s=lk O m s
 |0,m,_,_,_,_=>rfl
 |k+1,m,n,a,b,s=>by
  rw[gU];split
  ·rfl
  ·split
   ·rfl
   ·dsimp only
    split
    ·dsimp only
     rw[Dx k,ik]
    ·dsimp only
     rw[Dx k,ik,Dx k,ik]
theorem kZ (may:A->A->Bool):∀ (k:Nat) (m:Po E A) (n:Node E A) (a:Part A) (f:Int) (s:Ref),lk O (first O may k m n a f).2 s=lk O m s
 |0,m,_,_,_,_=>rfl
 |k+1,m,n,a,f,s=>by
  rw[kI]
  split
  ·rfl
  ·split
   ·rfl
   ·split
    ·rw[kZ may k,ik]
    ·split
     ·dsimp only
      rw[kZ may k,ik]
     ·rw[kZ may k,ik,kZ may k,ik]
theorem mj (may:A->A->Bool):∀ (k:Nat) (m:Po E A) (n:Node E A) (a:Part A) (f:Int) (s:Ref),lk O (last O may k m n a f).2 s=lk O m s
 |0,m,_,_,_,_=>rfl
 |k+1,m,n,a,f,s=>by
  rw[j3];split
  ·rfl
  ·split
   ·rfl
   ·dsimp only
    split
    ·rw[mj may k,ik,ik]
    ·split
     ·dsimp only
      rw[mj may k,ik,ik]
     ·rw[mj may k,mj may k,ik,ik]
theorem K4:∀ {k:Nat} {m m':Po E A} {r:Ref},(∀ s,lk O m' s=lk O m s)->(Deep O k m' r↔Deep O k m r)
 |0,_,_,_,_=>sk
 |k+1,m,m',r,h=>by simp only[Deep,h,K4 h]
theorem L5 {k j:Nat} {m:Po E A} {q r:Ref}:Deep O k (cw O j m q).2 r↔Deep O k m r:=K4 (KD j m q)
end
end Gv
namespace Gv
open Rx
set_option linter.unusedSectionVars false
inductive Tr (E:Type)
 |nil
 |node (r:Ref) (l:Tr E) (e:E) (q:Tr E)
namespace Tr
variable {E:Type}
def root:Tr E->Ref
 |nil=>r0
 |node r _ _ _=>r
def items:Tr E->List (Ref×E)
 |nil=>[]
 |node r l e q=>l.items++(r,e)::q.items
def h:Tr E->Nat
 |nil=>0
 |node _ l _ q=>1+max l.h q.h
def elems (t:Tr E):List E:=t.items.map aw
def refs (t:Tr E):List Ref:=t.items.map aA
def mB:Tr E->Prop
 |nil=>True
 |node _ l _ q=>l.mB/\q.mB/\l.h≤q.h+1/\q.h≤l.h+1
theorem Aj:∀ t:Tr E,t.h≤t.items.length
 |nil=>a_ _
 |node r l e q=>by
  have h1:=Aj l;have h2:=Aj q;simp only[h,items,bA,cy];omega
theorem gE (r:Ref) (l:Tr E) (e:E) (q:Tr E):(node r l e q).elems=l.elems++e::q.elems:=by simp[elems,items]
theorem jL (r:Ref) (l:Tr E) (e:E) (q:Tr E):(node r l e q).refs=l.refs++r::q.refs:=by simp[refs,items]
theorem e8 (t:Tr E):t.elems.length=t.items.length:=by simp[elems]
theorem Mp (t:Tr E):t.refs.length=t.items.length:=by simp[refs]
end Tr
structure yZ {E A:Type} (O:iL E A) (S:List E->A) (dk:List E->Prop):Prop where
 nil:S []=O.a0
 one:∀ e,S [e]=O.sum e
 plus:∀ x y,dk (x++y)->x≠[]->y≠[]->O.plus (S x) (S y)=S (x++y)
 left:∀ x y,dk (x++y)->dk x
 right:∀ x y,dk (x++y)->dk y
 len:∀ x,dk x->x.length≤1000000
 swap:∀ a b,O.cmp a b<0↔0<O.cmp b a
 trans:∀ a b c,O.cmp a b<0->O.cmp b c<0->O.cmp a c<0
 eqv:∀ a b c,O.cmp a b=0->O.cmp b c<0->O.cmp a c<0
 Zt:∀ a b c,O.cmp a b=0->O.cmp c b<0->O.cmp c a<0
section
variable {E A:Type} (O:iL E A) (S:List E->A)
def nd (t:Tr E):Node E A :=
 match t with
 |.nil=>zn O
 |.node r l e q=>⟨e,l.root,q.root,⟨(Tr.node r l e q).items.length,S (Tr.node r l e q).elems⟩,(Tr.node r l e q).h⟩
def Rp (m:Po E A):Tr E->Prop
 |.nil=>True
 |.node r l e q=>has m r=ao/\lk O m r=nd O S (.node r l e q)/\Rp m l/\Rp m q
variable {O S} {dk:List E->Prop} (Z:yZ O S dk)
theorem qY (r:Ref) (l:Tr E) (e:E) (q:Tr E):nd O S (.node r l e q)=⟨e,l.root,q.root,⟨(Tr.node r l e q).items.length,S (Tr.node r l e q).elems⟩,(Tr.node r l e q).h⟩:=rfl
theorem tO (m:Po E A) (a b:Ref):iI [] 2 (zn O) m (aF (aF m a) b):=(gC _ m a).to (gC _ _ b) (fun r hr=>by simp at hr) (a_ _)
theorem UI (m:Po E A) (a b c d:Ref):iI [] 4 (zn O) m (aF (aF (aF (aF m a) b) c) d):=(tO m a b).to (tO _ c d) (fun r hr=>by simp at hr) (a_ _)
theorem rn (t:Tr E):(nd O S t).h=(t.h:Int):=by cases t<;>rfl
theorem rJ (hZ:S []=O.a0) (t:Tr E):(nd O S t).all=⟨t.items.length,S t.elems⟩:=by
 cases t with
 |nil=>simp[nd,zn,Tr.items,Tr.elems,hZ]
 |node r l e q=>rfl
theorem Rp.root {n:Nat} {m:Po E A} (ho:fX n m) {t:Tr E} (h:Rp O S m t):lk O m t.root=nd O S t:=by
 cases t with
 |nil =>
  show look (zn O) m r0=_
  unfold look;rw[ho.z0]
  rfl
 |node r l e q=>exact h.2.1
theorem Rp.frame {R:List Ref} {k:Nat} {m m':Po E A} (hu:iI R k (zn O) m m'):∀ {t:Tr E},(∀ s,s∈t.refs->s∉R)->Rp O S m t->Rp O S m' t
 |.nil,_,_=>trivial
 |.node r l e q,hd,h=>by
  obtain⟨h1,h2,h3,h4⟩:=h;rw[Tr.jL] at hd;refine⟨by rw[hu.has];exact h1,?_,Rp.frame hu (fun s hs=>hd s (by simp[hs])) h3,Rp.frame hu (fun s hs=>hd s (by simp[hs])) h4⟩
  rw[← h2];exact hu.look r (hd r (by simp))
theorem Rp.aF {m:Po E A} {t:Tr E} (s:Ref) (h:Rp O S m t):Rp O S (aF m s) t:=Rp.frame (gC _ m s) (fun _ _ hs=>by cases hs) h
theorem Rp.has {m:Po E A}:∀ {t:Tr E},Rp O S m t->∀ s,s∈t.refs->has m s=ao
 |.nil,_,s,hs=>by cases hs
 |.node r l e q,h,s,hs=>by
  obtain⟨h1,h2,h3,h4⟩:=h;rw[Tr.jL,b5,bP] at hs;rcases hs with hs|rfl|hs
  ·exact Rp.has h3 s hs
  ·exact h1
  ·exact Rp.has h4 s hs
theorem agd {n:Nat} {m:Po E A} (ho:fX n m) {t:Tr E} (h:Rp O S m t) (hn:t≠.nil):t.root≠r0:=by
 cases t with
 |nil=>exact absurd rfl hn
 |node r l e q =>
  intro e0;have:=h.1;simp only[Tr.root] at e0;rw[e0,ho.z0] at this;cases this
include Z
theorem pC {x y:List E} (hg:dk (x++y)):dY O ⟨x.length,S x⟩ ⟨y.length,S y⟩=⟨(x++y).length,S (x++y)⟩:=by
 unfold dY;cases x with
 |nil=>simp
 |cons a x =>
  cases y with
  |nil =>
   simp only[List.append_nil,jN];rw[if_neg (by simp;omega),if_pos (by rfl)]
  |cons b y =>
   have hl:=Z.len _ hg;simp only[bA,cy] at hl;rw[if_neg (by simp;omega),if_neg (by simp;omega),Z.plus _ _ hg (by simp) (by simp),uD (by simp only[cy];omega)]
   simp only[bA,cy]
   congr 1
theorem Bs (e:E):one O e=⟨([e]:List E).length,S [e]⟩:=by rw[one,Z.one];rfl
theorem aaY {x y:List E} {e:E} (hg:dk (x++e::y)):dY O (dY O ⟨x.length,S x⟩ (one O e)) ⟨y.length,S y⟩=⟨(x++e::y).length,S (x++e::y)⟩:=by
 have e1:x++e::y=(x++[e])++y:=by simp
 rw[e1] at hg ⊢;rw[Bs Z,pC Z (Z.left _ _ hg),pC Z hg]
theorem QI {n:Nat} {m:Po E A} (ho:fX n m) {r:Ref} {l q:Tr E} {v:Node E A} (hl:Rp O S m l) (hq:Rp O S m q) (hr:has m r=ao) (XI:r∉l.refs) (hnq:r∉q.refs)
  (e1:v.l=l.root) (e2:v.r=q.root) (hg:dk (l.elems++v.e::q.elems)) :
  Rp O S (sI O m r v (nd O S l) (nd O S q)) (.node r l v.e q)/\iI [r] 1 (zn O) m (sI O m r v (nd O S l) (nd O S q)):=by
 have hu:=VR (zn O) m r ⟨v.e,v.l,v.r,dY O (dY O (nd O S l).all (one O v.e)) (nd O S q).all,W (1+mx (nd O S l).h (nd O S q).h)⟩;refine⟨⟨by rw[sI,hu.has];exact hr,?_,Rp.frame hu (fun s hs=>by simp;rintro rfl;exact XI hs) hl,Rp.frame hu (fun s hs=>by simp;rintro rfl;exact hnq hs) hq⟩,hu⟩
 show look (zn O) _ r=_
 rw[sI,abk (zn O) _ hr];have hlen:=Z.len _ hg;have h1:=l.Aj;have h2:=q.Aj;simp only[bA,cy,Tr.e8] at hlen;rw[rJ Z.nil,rJ Z.nil,rn,rn,← Tr.e8,← Tr.e8,aaY Z hg];simp only[nd,e1,e2,Tr.gE,Tr.items,Tr.h];have e3:W (1+mx (l.h:Int) (q.h:Int))=((1+max l.h q.h:Nat):Int):=by
  unfold mx;rw[uD (by split<;>omega)]
  split<;>omega
 rw[e3];simp[Tr.elems]
theorem D7 {n:Nat} {m:Po E A} (ho:fX n m) {r:Ref} {l q:Tr E} {v:Node E A} (hl:Rp O S m l) (hq:Rp O S m q) (hr:has m r=ao) (XI:r∉l.refs) (hnq:r∉q.refs)
  (e1:v.l=l.root) (e2:v.r=q.root) (hg:dk (l.elems++v.e::q.elems)) :
  Rp O S (tie O m r v) (.node r l v.e q)/\iI [r] 3 (zn O) m (tie O m r v):=by
 unfold tie;have k1:lk O m v.l=nd O S l:=by rw[e1];exact hl.root ho
 have k2:lk O (aF m v.l) v.r=nd O S q:=by rw[ik,e2];exact hq.root ho
 rw[k1,k2];obtain⟨p1,p2⟩:=QI Z (m:=aF (aF m v.l) v.r) (dg.2 (dg.2 ho)) ((hl.aF _).aF _) ((hq.aF _).aF _) (by simpa using hr) XI hnq e1 e2 hg
 exact⟨p1,(tO m v.l v.r).to p2 (fun r hr=>by simpa using hr) (by omega)⟩
omit Z in
structure Is (O:iL E A) (S:List E->A) (m:Po E A) (root:Ref) (its:List (Ref×E)) (t:Tr E):Prop where
 root:root=t.root
 rp:Rp O S m t
 its:t.items=its
 mB:t.mB
theorem MZ {n:Nat} {m:Po E A} (ho:fX n m) {r u:Ref} {a b c:Tr E} {y:E} {v:Node E A} (ha:Rp O S m a) (hb:Rp O S m (.node u b y c)) (hr:has m r=ao)
  (lR:(a.refs++r::(b.refs++u::c.refs)).Nodup) (e1:v.l=a.root) (e2:v.r=u) (hg:dk (a.elems++v.e::(b.elems++y::c.elems))) :
  Rp O S (oX O m r v) (.node u (.node r a v.e b) y c)/\iI [r,u] 7 (zn O) m (oX O m r v):=by
 obtain⟨b1,b2,b3,b4⟩:=hb;have k1:lk O m v.r=nd O S (.node u b y c):=by rw[e2];exact b2
 unfold oX;rw[k1,e2];simp only[nd];simp only[cf,fJ,b5,bP,not_or] at lR;have OR:dk (a.elems++v.e::b.elems):=Z.left _ (y::c.elems) (by simpa using hg)
 obtain⟨p1,p2⟩:=D7 Z (m:=aF m u) (r:=r) (v:=⟨v.e,v.l,b.root,v.all,v.h⟩) (dg.2 ho) (ha.aF _) (b3.aF _) (by simpa using hr)
  (fun h=>lR.2.2 r h r (dK rfl) rfl) (fun h=>lR.2.1.1.1 h) e1 rfl OR
 have q1:=(gC (zn O) m u).to p2 (S:=[r]) (k:=4) (fun r hr=>by simpa using hr) (by omega)
 obtain⟨s1,s2⟩:=D7 Z (m:=tie O (aF m u) r ⟨v.e,v.l,b.root,v.all,v.h⟩) (r:=u) (l:=.node r a v.e b) (q:=c) (v:=⟨y,r,c.root,⟨(Tr.node u b y c).items.length,S (Tr.node u b y c).elems⟩,(Tr.node u b y c).h⟩)
  (AP.2 (dg.2 ho)) p1 (Rp.frame q1 (fun s hs=>by simp;rintro rfl;exact lR.2.1.1.2.2 hs) b4) (by rw[q1.has];exact b1)
  (by
   rw[Tr.jL];simp only[b5,bP,not_or];exact⟨fun h=>lR.2.2 u h u (eV (eV (dK rfl))) rfl,fun h=>lR.2.1.1.2.1 h.symm,fun h=>lR.2.1.2.2.2 u h u (dK rfl) rfl⟩)
  (fun h=>lR.2.1.2.2.1.1 h) rfl rfl (by rw[Tr.gE];simpa using hg)
 exact⟨s1,q1.to s2 (fun s hs=>by simp at hs;rcases hs with rfl|rfl<;>simp) (by omega)⟩
theorem M9 {n:Nat} {m:Po E A} (ho:fX n m) {r u:Ref} {a b c:Tr E} {y:E} {v:Node E A} (hb:Rp O S m (.node u a y b)) (hc:Rp O S m c) (hr:has m r=ao)
  (lR:((a.refs++u::b.refs)++r::c.refs).Nodup) (e1:v.l=u) (e2:v.r=c.root) (hg:dk ((a.elems++y::b.elems)++v.e::c.elems)) :
  Rp O S (oW O m r v) (.node u a y (.node r b v.e c))/\iI [r,u] 7 (zn O) m (oW O m r v):=by
 obtain⟨b1,b2,b3,b4⟩:=hb;have k1:lk O m v.l=nd O S (.node u a y b):=by rw[e1];exact b2
 unfold oW;rw[k1,e1];simp only[nd];simp only[cf,fJ,b5,bP,not_or] at lR;have OR:dk (b.elems++v.e::c.elems):=Z.right (a.elems++[y]) _ (by simpa using hg)
 have nu:r≠u:=fun h=>lR.2.2 u (eV (dK rfl)) r (dK rfl) h.symm
 obtain⟨p1,p2⟩:=D7 Z (m:=aF m u) (r:=r) (v:=⟨v.e,b.root,v.r,v.all,v.h⟩) (dg.2 ho) (b4.aF _) (hc.aF _) (by simpa using hr)
  (fun h=>lR.2.2 r (eV (eV h)) r (dK rfl) rfl) (fun h=>lR.2.1.1 h) rfl e2 OR
 have q1:=(gC (zn O) m u).to p2 (S:=[r]) (k:=4) (fun r hr=>by simpa using hr) (by omega)
 obtain⟨s1,s2⟩:=D7 Z (m:=tie O (aF m u) r ⟨v.e,b.root,v.r,v.all,v.h⟩) (r:=u) (l:=a) (q:=.node r b v.e c) (v:=⟨y,a.root,r,⟨(Tr.node u a y b).items.length,S (Tr.node u a y b).elems⟩,(Tr.node u a y b).h⟩)
  (AP.2 (dg.2 ho)) (Rp.frame q1 (fun s hs=>by simp;rintro rfl;exact lR.2.2 s (dK hs) s (dK rfl) rfl) b3) p1 (by rw[q1.has];exact b1)
  (fun h=>lR.1.2.2 u h u (dK rfl) rfl)
  (by
   rw[Tr.jL];simp only[b5,bP,not_or];exact⟨fun h=>lR.1.2.1.1 h,fun h=>nu h.symm,fun h=>lR.2.2 u (eV (dK rfl)) u (eV h) rfl⟩)
  rfl rfl (by simpa [Tr.gE] using hg)
 exact⟨s1,q1.to s2 (fun s hs=>by simp at hs;rcases hs with rfl|rfl<;>simp) (by omega)⟩
omit Z in
theorem Rp.BM {m:Po E A} {t:Tr E} (a b c d:Ref) (h:Rp O S m t):Rp O S (aJ (aJ (aJ (aJ m a) b) c) d) t:=(((h.aF _).aF _).aF _).aF _
theorem yW {n:Nat} {m:Po E A} (ho:fX n m) {r:Ref} {l q:Tr E} {v:Node E A} (hl:Rp O S m l) (hq:Rp O S m q) (hr:has m r=ao)
  (lR:(l.refs++r::q.refs).Nodup) (e1:v.l=l.root) (e2:v.r=q.root) (hg:dk (l.elems++v.e::q.elems)) (bl:l.mB) (bq:q.mB) (d1:l.h≤q.h+2) (d2:q.h≤l.h+2) :
  ∃ t,Is O S (level O m r v).2 (level O m r v).1 (l.items++(r,v.e)::q.items) t/\max l.h q.h≤t.h/\t.h≤max l.h q.h+1/\(l.h≤q.h+1->q.h≤l.h+1->t.h=max l.h q.h+1) /\
   iI (l.refs++r::q.refs) 20 (zn O) m (level O m r v).2:=by
 have k1:lk O m v.l=nd O S l:=by rw[e1];exact hl.root ho
 have k2:lk O m v.r=nd O S q:=by rw[e2];exact hq.root ho
 have hlen:=Z.len _ hg;have h1:=l.Aj;have h2:=q.Aj;simp only[bA,cy,Tr.e8] at hlen;have w1:W ((q.h:Int)+1)=(q.h:Int)+1:=uD (by omega)
 have w2:W ((l.h:Int)+1)=(l.h:Int)+1:=uD (by omega)
 unfold level;simp only[ik,k1,k2,rn,w1,w2];have ry:=lR;simp only[cf,fJ,b5,bP,not_or] at ry;split
 ·rename_i ns;cases l with
  |nil=>simp only[Tr.h] at ns;omega
  |node a ll x lr =>
   obtain⟨zk,Bm,yh,yv⟩:=hl;obtain⟨bl1,bl2,bl3,bl4⟩:=bl;have k3:lk O m lr.root=nd O S lr:=yv.root ho;have k4:lk O m ll.root=nd O S ll:=yh.root ho;simp only[qY,k3,k4,rn,Tr.h] at ns d1 ⊢;rw[Tr.jL] at lR;rw[Tr.gE] at hg;have HX:=UI (O:=O) m v.l v.r lr.root ll.root;have VV:fX n (aF (aF (aF (aF m v.l) v.r) lr.root) ll.root):=dg.2 (dg.2 (dg.2 (dg.2 ho)));split
   ·rename_i j8;cases lr with
    |nil=>simp only[Tr.h] at j8;omega
    |node b p y c =>
     obtain⟨s_,mW,lZ,mf⟩:=yv;obtain⟨br1,br2,br3,br4⟩:=bl2;simp only[Tr.h] at j8 ns d1 bl3 bl4 ⊢;rw[Tr.jL] at lR;rw[Tr.gE] at hg;have ad7:(ll.refs++a::(p.refs++b::c.refs)).Nodup:=(cf.1 lR).1;obtain⟨p1,p2⟩:=MZ Z VV (r:=a) (u:=b) (a:=ll) (b:=p) (c:=c) (y:=y) (v:=⟨x,ll.root,b,⟨(Tr.node a ll x (.node b p y c)).items.length,S (Tr.node a ll x (.node b p y c)).elems⟩,((Tr.node a ll x (.node b p y c)).h:Nat)⟩)
      (Rp.BM _ _ _ _ yh) (Rp.BM _ _ _ _ ⟨s_,mW,lZ,mf⟩) (by simpa using zk) ad7 rfl rfl (Z.left _ _ hg)
     have q1:=HX.to p2 (S:=[a,b]) (k:=11) (fun s hs=>by simpa using hs) (by omega)
     have ane:(((ll.refs++a::p.refs)++b::c.refs)++r::q.refs).Nodup:=by simpa using lR
     have dq:∀ s,s∈q.refs->s∉[a,b]:=fun s hs Jj=>by
      have:=(cf.1 lR).2.2 s (by simp at Jj;rcases Jj with rfl|rfl<;>simp) s (by simp[hs])
      exact this rfl
     obtain⟨s1,s2⟩:=M9 Z (By.2 VV) (r:=r) (u:=b) (a:=.node a ll x p) (b:=c) (c:=q) (y:=y) (v:=⟨v.e,b,v.r,v.all,v.h⟩) p1 (Rp.frame q1 dq hq) (by rw[q1.has];exact hr)
      (by rw[Tr.jL];exact ane) rfl e2 (by rw[Tr.gE];simpa using hg)
     rw[e1] at *
     refine⟨.node b (.node a ll x p) y (.node r c v.e q),⟨rfl,s1,by simp[Tr.items],?_⟩,?_,?_,?_,(q1.to s2 (fun s hs=>by simp at hs;rw[Tr.jL,Tr.jL];rcases hs with(rfl|rfl)|rfl|rfl<;>simp) (by omega))⟩
     ·simp only[Tr.mB,Tr.h];refine⟨⟨bl1,br1,by omega,by omega⟩,⟨br2,bq,by omega,by omega⟩,by omega,by omega⟩
     ·simp only[Tr.h];omega
     ·simp only[Tr.h];omega
     ·intro _ _;omega
   ·rename_i j8;obtain⟨s1,s2⟩:=M9 Z VV (r:=r) (u:=a) (a:=ll) (b:=lr) (c:=q) (y:=x) (v:=v) (Rp.BM _ _ _ _ ⟨zk,Bm,yh,yv⟩) (Rp.BM _ _ _ _ hq) (by simpa using hr)
     lR e1 e2 hg
    rw[e1] at *
    refine⟨.node a ll x (.node r lr v.e q),⟨rfl,s1,by simp[Tr.items],?_⟩,?_,?_,?_,(HX.to s2 (fun s hs=>by simp at hs;rw[Tr.jL];rcases hs with rfl|rfl<;>simp) (by omega))⟩
    ·simp only[Tr.mB,Tr.h];refine⟨bl1,⟨bl2,bq,by omega,by omega⟩,by omega,by omega⟩
    ·simp only[Tr.h];omega
    ·simp only[Tr.h];omega
    ·intro _ _;omega
 ·split
  ·rename_i apR ns;cases q with
   |nil=>simp only[Tr.h] at ns;omega
   |node a ql x qr =>
    obtain⟨ss,FW,Yb,hq4⟩:=hq;obtain⟨bq1,bq2,bq3,bq4⟩:=bq;have k3:lk O m ql.root=nd O S ql:=Yb.root ho;have k4:lk O m qr.root=nd O S qr:=hq4.root ho;simp only[qY,k3,k4,rn,Tr.h] at ns d2 ⊢;rw[Tr.jL] at lR;rw[Tr.gE] at hg;have HX:=UI (O:=O) m v.l v.r ql.root qr.root;have VV:fX n (aF (aF (aF (aF m v.l) v.r) ql.root) qr.root):=dg.2 (dg.2 (dg.2 (dg.2 ho)));split
    ·rename_i j8;cases ql with
     |nil=>simp only[Tr.h] at j8;omega
     |node b p y c =>
      obtain⟨s_,mW,lZ,mf⟩:=Yb;obtain⟨br1,br2,br3,br4⟩:=bq1;simp only[Tr.h] at j8 ns d2 bq3 bq4 ⊢;rw[Tr.jL] at lR;rw[Tr.gE] at hg;have ad7:((p.refs++b::c.refs)++a::qr.refs).Nodup:=(fJ.1 (cf.1 lR).2.1).2;have OR:dk ((p.elems++y::c.elems)++x::qr.elems):=Z.right (l.elems++[v.e]) _ (by simpa using hg)
      obtain⟨p1,p2⟩:=M9 Z VV (r:=a) (u:=b) (a:=p) (b:=c) (c:=qr) (y:=y) (v:=⟨x,b,qr.root,⟨(Tr.node a (.node b p y c) x qr).items.length,S (Tr.node a (.node b p y c) x qr).elems⟩,((Tr.node a (.node b p y c) x qr).h:Nat)⟩)
       (Rp.BM _ _ _ _ ⟨s_,mW,lZ,mf⟩) (Rp.BM _ _ _ _ hq4) (by simpa using ss) ad7 rfl rfl OR
      have q1:=HX.to p2 (S:=[a,b]) (k:=11) (fun s hs=>by simpa using hs) (by omega)
      have dl:∀ s,s∈l.refs->s∉[a,b]:=fun s hs Jj=>by
       have:=(cf.1 lR).2.2 s hs s (by simp at Jj;rcases Jj with rfl|rfl<;>simp)
       exact this rfl
      obtain⟨s1,s2⟩:=MZ Z (BD.2 VV) (r:=r) (u:=b) (a:=l) (b:=p) (c:=.node a c x qr) (y:=y) (v:=⟨v.e,v.l,b,v.all,v.h⟩) (Rp.frame q1 dl hl) p1 (by rw[q1.has];exact hr)
       (by rw[Tr.jL];simpa using lR) e1 rfl (by rw[Tr.gE];simpa using hg)
      rw[e2] at *
      refine⟨.node b (.node r l v.e p) y (.node a c x qr),⟨rfl,s1,by simp[Tr.items],?_⟩,?_,?_,?_,(q1.to s2 (fun s hs=>by simp at hs;rw[Tr.jL,Tr.jL];rcases hs with(rfl|rfl)|rfl|rfl<;>simp) (by omega))⟩
      ·simp only[Tr.mB,Tr.h];refine⟨⟨bl,br1,by omega,by omega⟩,⟨br2,bq2,by omega,by omega⟩,by omega,by omega⟩
      ·simp only[Tr.h];omega
      ·simp only[Tr.h];omega
      ·intro _ _;omega
    ·rename_i j8;obtain⟨s1,s2⟩:=MZ Z VV (r:=r) (u:=a) (a:=l) (b:=ql) (c:=qr) (y:=x) (v:=v) (Rp.BM _ _ _ _ hl) (Rp.BM _ _ _ _ ⟨ss,FW,Yb,hq4⟩) (by simpa using hr)
      lR e1 e2 hg
     rw[e2] at *
     refine⟨.node a (.node r l v.e ql) x qr,⟨rfl,s1,by simp[Tr.items],?_⟩,?_,?_,?_,(HX.to s2 (fun s hs=>by simp at hs;rw[Tr.jL];rcases hs with rfl|rfl<;>simp) (by omega))⟩
     ·simp only[Tr.mB,Tr.h];refine⟨⟨bl,bq1,by omega,by omega⟩,bq2,by omega,by omega⟩
     ·simp only[Tr.h];omega
     ·simp only[Tr.h];omega
     ·intro _ _;omega
  ·rename_i hn1 hn2;obtain⟨s1,s2⟩:=QI Z (m:=aF (aF m v.l) v.r) (dg.2 (dg.2 ho)) ((hl.aF _).aF _) ((hq.aF _).aF _) (by simpa using hr) (fun h=>ry.2.2 r h r (dK rfl) rfl) (fun h=>ry.2.1.1 h) e1 e2 hg
   refine⟨.node r l v.e q,⟨rfl,s1,rfl,⟨bl,bq,by omega,by omega⟩⟩,?_,?_,?_,(tO m v.l v.r).to s2 (fun s hs=>by simp at hs;subst hs;simp) (by omega)⟩
   ·simp only[Tr.h];omega
   ·simp only[Tr.h];omega
   ·intro _ _;simp only[Tr.h];omega
end
end Gv
namespace Wv
open Rx
structure Mk where
 t:Int
 ins:Bool
 it:It
 here:Bool
 tf:Bool
 tk:It
structure Sw where
 c:Ti.Td
 w:Ti.Td
 d:Int
 f:Int
 m:It
 gf:Bool
 g:It
 lf:Bool
 l:It
def mz:Mk:=⟨0,an,⟨0,0⟩,an,an,⟨0,0⟩⟩
def sz:Sw:=⟨⟨0,0,0⟩,⟨0,0,0⟩,0,0,⟨0,0⟩,an,⟨0,0⟩,an,⟨0,0⟩⟩
def sA (x:It) (here:Bool):Sw:=if here=ao then⟨⟨1,1,1⟩,⟨1,0,0⟩,0,0,⟨0,0⟩,an,⟨0,0⟩,ao,x⟩ else⟨⟨1,1,1⟩,⟨1,1,1⟩,0,0,⟨0,0⟩,ao,x,an,⟨0,0⟩⟩
def sr (tf:Bool) (tk:It):Sw:=if tf=ao then⟨⟨1,-1,-1⟩,⟨1,-1,-1⟩,1,0,tk,an,⟨0,0⟩,an,⟨0,0⟩⟩ else⟨⟨1,-1,-1⟩,⟨1,-1,-1⟩,1,1,⟨0,0⟩,an,⟨0,0⟩,an,⟨0,0⟩⟩
def Mk.sum (m:Mk):Sw:=if m.ins=ao then sA m.it m.here else sr m.tf m.tk
def D' (s o:Sw):It:=if o.d=o.f then s.m else if s.d=s.f∨ah s.m o.m then o.m else s.m
def vm (side:Int) (af:Bool) (a:It) (bf:Bool) (b:It):Bool×It:=if bf=ao/\(¬ af=ao∨kM b a=side) then(bf,b) else if ¬ af=ao then(an,⟨0,0⟩) else(af,a)
def Sw.plus (s o:Sw):Sw:=⟨s.c.plus o.c,s.w.plus o.w,Wn (s.d+o.d),Wn (s.f+o.f),D' s o,(vm 1 s.gf s.g o.gf o.g).1,(vm 1 s.gf s.g o.gf o.g).2,(vm (-1) s.lf s.l o.lf o.l).1,(vm (-1) s.lf s.l o.lf o.l).2⟩
def O8:Gv.iL Mk Sw:=⟨mz,sz,fun a b=>Cx a.t b.t,Mk.sum,Sw.plus⟩
def Og (m:Mk):Int:=if m.ins=ao then 1 else -1
def uF (m:Mk):Int:=if m.ins=ao/\m.here=ao then 0 else Og m
def vg (l:List Mk):List Mk:=l.filter fun m=>!m.ins
def pK (l:List Mk):List Mk:=l.filter fun m=>!m.ins && !m.tf
def vq (l:List Mk):List It:=(l.filter fun m=>!m.ins&&m.tf).map Mk.tk
def lY (h:Bool) (l:List Mk):List It:=(l.filter fun m=>m.ins&&(m.here==h)).map Mk.it
def S8 (l:List Mk):Sw:=⟨xh (l.map Og),xh (l.map uF),(vg l).length,(pK l).length,(hi (vq l)).getD iz,(hi (lY an l)).isSome,(hi (lY an l)).getD iz,(lo (lY ao l)).isSome,(lo (lY ao l)).getD iz⟩
def F0 (l:List Mk):Prop:=l.length≤60
theorem afW (m:Mk):-1≤Og m/\Og m≤1:=by unfold Og;split<;>omega
theorem ZX (m:Mk):-1≤uF m/\uF m≤1:=by unfold uF;split;omega;exact afW m
theorem Ge {l:List Mk} {f:Mk->Int} (hf:∀ m,-1≤f m/\f m≤1) (h:l.length≤60):Ti.Small (l.map f):=by
 have hb:∀ i,i<(l.map f).length->-1≤(l.map f).getD i 0/\(l.map f).getD i 0≤1:=fun i hi=>by
  have lP:i<l.length:=by simpa using hi
  rw[av,fh,List.getElem?_eq_getElem lP];exact hf _
 refine⟨by simpa using h,fun i hi=>?_,fun i hi=>?_⟩
 ·have:=hb i hi;omega
 ·have:=hb i hi;omega
theorem ak2 (a b:Option It):vm 1 a.isSome (a.getD iz) b.isSome (b.getD iz)=((up a b).isSome,(up a b).getD iz):=by
 unfold vm;simp only[ac7];cases a with
 |none=>cases b<;>simp[up]
 |some a =>
  cases b with
  |none=>simp[up]
  |some b=>simp only[C7,lI,up];by_cases h:ah a b<;>simp[h]
theorem ajJ (a b:Option It):vm (-1) a.isSome (a.getD iz) b.isSome (b.getD iz)=((dn a b).isSome,(dn a b).getD iz):=by
 unfold vm;simp only[aey];cases a with
 |none=>cases b<;>simp[dn]
 |some a =>
  cases b with
  |none=>simp[dn]
  |some b=>simp only[C7,lI,dn];by_cases h:ah b a<;>simp[h]
theorem adu (l:List Mk):(vg l).length=(pK l).length+(vq l).length:=by
 unfold vg pK vq;rw[fR]
 induction l with
 |nil=>rfl
 |cons m l ih =>
  simp only[List.filter_cons];cases m.ins<;>cases m.tf<;>simp at *<;>omega
theorem R7 (l:List Mk):((vg l).length:Int)=(pK l).length↔hi (vq l)=aj:=by
 rw[adu];have h:=Yh (vq l)
 constructor
 ·intro h1;have:vq l=[]:=List.eq_nil_of_length_eq_zero (by omega)
  rw[this];rfl
 ·intro h1;rw[h1] at h;have:vq l=[]:=by
   by_cases c:vq l=[]
   ·exact c
   ·have:=h.2 c;cases this
  rw[this];simp
theorem ajG {x y:List Mk}:D' (S8 x) (S8 y)=(up (hi (vq x)) (hi (vq y))).getD iz:=by
 have hx:=R7 x;have hy:=R7 y;unfold D' S8;simp only[hx,hy];cases hi (vq x) with
 |none=>cases hi (vq y)<;>simp[up]
 |some a =>
  cases hi (vq y) with
  |none=>simp[up]
  |some b=>by_cases h:ah a b<;>simp[up,h]
theorem Ux (m:Mk):S8 [m]=m.sum:=by
 unfold S8 Mk.sum sA sr vg pK vq lY;obtain⟨t,ins,it,here,tf,tk⟩:=m;cases ins<;>cases here<;>cases tf<;>rfl
theorem ahy (x y:List Mk) (h:F0 (x++y)):(S8 x).plus (S8 y)=S8 (x++y):=by
 have hl:=h;unfold F0 at hl;have h1:(xh (x.map Og)).plus (xh (y.map Og))=xh ((x++y).map Og):=by
  rw[dG];exact Wo (by rw[← dG];exact Ge afW hl)
 have h2:(xh (x.map uF)).plus (xh (y.map uF))=xh ((x++y).map uF):=by
  rw[dG];exact Wo (by rw[← dG];exact Ge ZX hl)
 have e1:vg (x++y)=vg x++vg y:=mh ..;have e2:pK (x++y)=pK x++pK y:=mh ..;have e3:vq (x++y)=vq x++vq y:=by unfold vq;rw[mh,dG]
 have e4:∀ b,lY b (x++y)=lY b x++lY b y:=fun b=>by unfold lY;rw[mh,dG]
 have l1:(vg x).length+(vg y).length≤60:=by
  have:=rj (fun m:Mk=>!m.ins) (x++y)
  rw[← bA,← e1];exact jq this hl
 have l2:(pK x).length+(pK y).length≤60:=by
  have:=rj (fun m:Mk=>!m.ins && !m.tf) (x++y)
  rw[← bA,← e2];exact jq this hl
 have h3:Wn (((vg x).length:Int)+((vg y).length:Int))=((vg (x++y)).length:Int):=by
  rw[e1,bA,Ti.JB (by omega)];push_cast;rfl
 have h4:Wn (((pK x).length:Int)+((pK y).length:Int))=((pK (x++y)).length:Int):=by
  rw[e2,bA,Ti.JB (by omega)];push_cast;rfl
 have h5:D' (S8 x) (S8 y)=(hi (vq (x++y))).getD iz:=by rw[ajG,e3,KG]
 have h6:=ak2 (hi (lY an x)) (hi (lY an y));have h7:=ajJ (lo (lY ao x)) (lo (lY ao y));rw[← KG,← e4] at h6;rw[← RQ,← e4] at h7;unfold Sw.plus;rw[h5];unfold S8;simp only;rw[h1,h2,h3,h4,h6,h7]
theorem DR (e x:Mk):O8.cmp e x<0↔e.t<x.t:=by simp only[O8,Cx];split<;>(try split)<;>omega
theorem B2 (e x:Mk):O8.cmp e x=0↔e.t=x.t:=by simp only[O8,Cx];split<;>(try split)<;>omega
theorem Ry (e x:Mk):(0<O8.cmp e x)↔x.t<e.t:=by simp only[O8,Cx];split<;>(try split)<;>omega
theorem Ty:Gv.yZ O8 S8 F0 where
 nil:=rfl
 one e:=Ux e
 plus x y h _ _:=ahy x y h
 left x y h:=by unfold F0 at *;rw[bA] at h;omega
 right x y h:=by unfold F0 at *;rw[bA] at h;omega
 len x h:=by unfold F0 at h;omega
 swap a b:=by rw[DR,Ry]
 trans a b c:=by simp only[DR];omega
 eqv a b c:=by simp only[DR,B2];omega
 Zt a b c:=by simp only[DR,B2];omega
end Wv
namespace G8
open Rx
set_option maxRecDepth 100000
abbrev Nd:=Gv.Node Wv.Mk Wv.Sw
abbrev Pl:=Gv.PM Nd
def bj (n:Nd):List Value:=[.int .i64 n.e.t,.bool n.e.ins,.int .i64 n.e.it.k,.int .i64 n.e.it.i,.bool n.e.here,.bool n.e.tf,.int .i64 n.e.tk.k,.int .i64 n.e.tk.i,.int .i64 n.l.i,.int .i64 n.l.g,.int .i64 n.r.i,.int .i64 n.r.g,.int .i64 n.all.n,.int .i64 n.all.sum.c.n,.int .i64 n.all.sum.c.s,.int .i64 n.all.sum.c.l,.int .i64 n.all.sum.w.n,.int .i64 n.all.sum.w.s,.int .i64 n.all.sum.w.l,.int .i64 n.all.sum.d,.int .i64 n.all.sum.f,.int .i64 n.all.sum.m.k,.int .i64 n.all.sum.m.i,.bool n.all.sum.gf,.int .i64 n.all.sum.g.k,.int .i64 n.all.sum.g.i,.bool n.all.sum.lf,.int .i64 n.all.sum.l.k,.int .i64 n.all.sum.l.i,.int .i64 n.h]
def bW (p:HI Wv.Sw):List Value:=[.int .i64 p.n,.int .i64 p.sum.c.n,.int .i64 p.sum.c.s,.int .i64 p.sum.c.l,.int .i64 p.sum.w.n,.int .i64 p.sum.w.s,.int .i64 p.sum.w.l,.int .i64 p.sum.d,.int .i64 p.sum.f,.int .i64 p.sum.m.k,.int .i64 p.sum.m.i,.bool p.sum.gf,.int .i64 p.sum.g.k,.int .i64 p.sum.g.i,.bool p.sum.lf,.int .i64 p.sum.l.k,.int .i64 p.sum.l.i]
def dr (e:Wv.Mk):List Value:=[.int .i64 e.t,.bool e.ins,.int .i64 e.it.k,.int .i64 e.it.i,.bool e.here,.bool e.tf,.int .i64 e.tk.k,.int .i64 e.tk.i]
def km (s:Wv.Sw):List Value:=[.int .i64 s.c.n,.int .i64 s.c.s,.int .i64 s.c.l,.int .i64 s.w.n,.int .i64 s.w.s,.int .i64 s.w.l,.int .i64 s.d,.int .i64 s.f,.int .i64 s.m.k,.int .i64 s.m.i,.bool s.gf,.int .i64 s.g.k,.int .i64 s.g.i,.bool s.lf,.int .i64 s.l.k,.int .i64 s.l.i]
def fP (l:List Value):Wv.Mk:=⟨(vI (gm l 0)),(vB (gm l 1)),⟨(vI (gm l 2)),(vI (gm l 3))⟩,(vB (gm l 4)),(vB (gm l 5)),⟨(vI (gm l 6)),(vI (gm l 7))⟩⟩
def wk (l:List Value):Wv.Sw:=⟨⟨(vI (gm l 0)),(vI (gm l 1)),(vI (gm l 2))⟩,⟨(vI (gm l 3)),(vI (gm l 4)),(vI (gm l 5))⟩,(vI (gm l 6)),(vI (gm l 7)),⟨(vI (gm l 8)),(vI (gm l 9))⟩,(vB (gm l 10)),⟨(vI (gm l 11)),(vI (gm l 12))⟩,(vB (gm l 13)),⟨(vI (gm l 14)),(vI (gm l 15))⟩⟩
def o_ (l:List Value):HI Wv.Sw:=⟨(vI (gm l 0)),⟨⟨(vI (gm l 1)),(vI (gm l 2)),(vI (gm l 3))⟩,⟨(vI (gm l 4)),(vI (gm l 5)),(vI (gm l 6))⟩,(vI (gm l 7)),(vI (gm l 8)),⟨(vI (gm l 9)),(vI (gm l 10))⟩,(vB (gm l 11)),⟨(vI (gm l 12)),(vI (gm l 13))⟩,(vB (gm l 14)),⟨(vI (gm l 15)),(vI (gm l 16))⟩⟩⟩
def fU (l:List Value):Nd:=⟨⟨(vI (gm l 0)),(vB (gm l 1)),⟨(vI (gm l 2)),(vI (gm l 3))⟩,(vB (gm l 4)),(vB (gm l 5)),⟨(vI (gm l 6)),(vI (gm l 7))⟩⟩,⟨(vI (gm l 8)),(vI (gm l 9))⟩,⟨(vI (gm l 10)),(vI (gm l 11))⟩,⟨(vI (gm l 12)),⟨⟨(vI (gm l 13)),(vI (gm l 14)),(vI (gm l 15))⟩,⟨(vI (gm l 16)),(vI (gm l 17)),(vI (gm l 18))⟩,(vI (gm l 19)),(vI (gm l 20)),⟨(vI (gm l 21)),(vI (gm l 22))⟩,(vB (gm l 23)),⟨(vI (gm l 24)),(vI (gm l 25))⟩,(vB (gm l 26)),⟨(vI (gm l 27)),(vI (gm l 28))⟩⟩⟩,(vI (gm l 29))⟩
def di:List Value:=[.int .i64 0,.bool an,.int .i64 0,.int .i64 0,.bool an,.bool an,.int .i64 0,.int .i64 0,.int .i64 0,.int .i64 0,.int .i64 0,.int .i64 0,.int .i64 0,.int .i64 0,.int .i64 0,.int .i64 0,.int .i64 0,.int .i64 0,.int .i64 0,.int .i64 0,.int .i64 0,.int .i64 0,.int .i64 0,.bool an,.int .i64 0,.int .i64 0,.bool an,.int .i64 0,.int .i64 0,.int .i64 0,.int .i64 0,.bool an]
abbrev zd:Nd:=Gv.zn Wv.O8
def cV (a:List Int) (b:List Bool) (c:List Int) (d:List Int) (e:List Bool) (f:List Bool) (g:List Int) (h:List Int) (i:List Int) (j:List Int) (k:List Int) (l:List Int) (m:List Int) (n:List Int) (o:List Int) (p:List Int) (q:List Int) (r:List Int) (s:List Int) (t:List Int) (u:List Int) (v:List Int) (w:List Int) (x:List Bool) (y:List Int) (z:List Int) (A:List Bool) (B:List Int) (C:List Int) (D:List Int) (E:List Int) (F:List Bool):List aX:=[⟨a,[],[]⟩,⟨[],b,[]⟩,⟨c,[],[]⟩,⟨d,[],[]⟩,⟨[],e,[]⟩,⟨[],f,[]⟩,⟨g,[],[]⟩,⟨h,[],[]⟩,⟨i,[],[]⟩,⟨j,[],[]⟩,⟨k,[],[]⟩,⟨l,[],[]⟩,⟨m,[],[]⟩,⟨n,[],[]⟩,⟨o,[],[]⟩,⟨p,[],[]⟩,⟨q,[],[]⟩,⟨r,[],[]⟩,⟨s,[],[]⟩,⟨t,[],[]⟩,⟨u,[],[]⟩,⟨v,[],[]⟩,⟨w,[],[]⟩,⟨[],x,[]⟩,⟨y,[],[]⟩,⟨z,[],[]⟩,⟨[],A,[]⟩,⟨B,[],[]⟩,⟨C,[],[]⟩,⟨D,[],[]⟩,⟨E,[],[]⟩,⟨[],F,[]⟩]
def cM (v:List Nd) (g:List Int) (b:List Bool):List aX:=cV (v.map fun n:Nd=>n.e.t) (v.map fun n:Nd=>n.e.ins) (v.map fun n:Nd=>n.e.it.k) (v.map fun n:Nd=>n.e.it.i) (v.map fun n:Nd=>n.e.here) (v.map fun n:Nd=>n.e.tf) (v.map fun n:Nd=>n.e.tk.k) (v.map fun n:Nd=>n.e.tk.i) (v.map fun n:Nd=>n.l.i) (v.map fun n:Nd=>n.l.g) (v.map fun n:Nd=>n.r.i) (v.map fun n:Nd=>n.r.g) (v.map fun n:Nd=>n.all.n) (v.map fun n:Nd=>n.all.sum.c.n) (v.map fun n:Nd=>n.all.sum.c.s) (v.map fun n:Nd=>n.all.sum.c.l) (v.map fun n:Nd=>n.all.sum.w.n) (v.map fun n:Nd=>n.all.sum.w.s) (v.map fun n:Nd=>n.all.sum.w.l) (v.map fun n:Nd=>n.all.sum.d) (v.map fun n:Nd=>n.all.sum.f) (v.map fun n:Nd=>n.all.sum.m.k) (v.map fun n:Nd=>n.all.sum.m.i) (v.map fun n:Nd=>n.all.sum.gf) (v.map fun n:Nd=>n.all.sum.g.k) (v.map fun n:Nd=>n.all.sum.g.i) (v.map fun n:Nd=>n.all.sum.lf) (v.map fun n:Nd=>n.all.sum.l.k) (v.map fun n:Nd=>n.all.sum.l.i) (v.map fun n:Nd=>n.h) g b
def cS (v:List Nd) (k:Nat) (x:Nd) (g:List Int) (b:List Bool):List aX:=cV ((v.map fun n:Nd=>n.e.t).set k x.e.t) ((v.map fun n:Nd=>n.e.ins).set k x.e.ins) ((v.map fun n:Nd=>n.e.it.k).set k x.e.it.k) ((v.map fun n:Nd=>n.e.it.i).set k x.e.it.i) ((v.map fun n:Nd=>n.e.here).set k x.e.here) ((v.map fun n:Nd=>n.e.tf).set k x.e.tf) ((v.map fun n:Nd=>n.e.tk.k).set k x.e.tk.k) ((v.map fun n:Nd=>n.e.tk.i).set k x.e.tk.i) ((v.map fun n:Nd=>n.l.i).set k x.l.i) ((v.map fun n:Nd=>n.l.g).set k x.l.g) ((v.map fun n:Nd=>n.r.i).set k x.r.i) ((v.map fun n:Nd=>n.r.g).set k x.r.g) ((v.map fun n:Nd=>n.all.n).set k x.all.n) ((v.map fun n:Nd=>n.all.sum.c.n).set k x.all.sum.c.n) ((v.map fun n:Nd=>n.all.sum.c.s).set k x.all.sum.c.s) ((v.map fun n:Nd=>n.all.sum.c.l).set k x.all.sum.c.l) ((v.map fun n:Nd=>n.all.sum.w.n).set k x.all.sum.w.n) ((v.map fun n:Nd=>n.all.sum.w.s).set k x.all.sum.w.s) ((v.map fun n:Nd=>n.all.sum.w.l).set k x.all.sum.w.l) ((v.map fun n:Nd=>n.all.sum.d).set k x.all.sum.d) ((v.map fun n:Nd=>n.all.sum.f).set k x.all.sum.f) ((v.map fun n:Nd=>n.all.sum.m.k).set k x.all.sum.m.k) ((v.map fun n:Nd=>n.all.sum.m.i).set k x.all.sum.m.i) ((v.map fun n:Nd=>n.all.sum.gf).set k x.all.sum.gf) ((v.map fun n:Nd=>n.all.sum.g.k).set k x.all.sum.g.k) ((v.map fun n:Nd=>n.all.sum.g.i).set k x.all.sum.g.i) ((v.map fun n:Nd=>n.all.sum.lf).set k x.all.sum.lf) ((v.map fun n:Nd=>n.all.sum.l.k).set k x.all.sum.l.k) ((v.map fun n:Nd=>n.all.sum.l.i).set k x.all.sum.l.i) ((v.map fun n:Nd=>n.h).set k x.h) g b
def cG (v:List Nd) (k:Nat) (x:Nd) (g:List Int) (b:List Bool):List aX:=cV (((v.map fun n:Nd=>n.e.t)++[0]).set k x.e.t) (((v.map fun n:Nd=>n.e.ins)++[an]).set k x.e.ins) (((v.map fun n:Nd=>n.e.it.k)++[0]).set k x.e.it.k) (((v.map fun n:Nd=>n.e.it.i)++[0]).set k x.e.it.i) (((v.map fun n:Nd=>n.e.here)++[an]).set k x.e.here) (((v.map fun n:Nd=>n.e.tf)++[an]).set k x.e.tf) (((v.map fun n:Nd=>n.e.tk.k)++[0]).set k x.e.tk.k) (((v.map fun n:Nd=>n.e.tk.i)++[0]).set k x.e.tk.i) (((v.map fun n:Nd=>n.l.i)++[0]).set k x.l.i) (((v.map fun n:Nd=>n.l.g)++[0]).set k x.l.g) (((v.map fun n:Nd=>n.r.i)++[0]).set k x.r.i) (((v.map fun n:Nd=>n.r.g)++[0]).set k x.r.g) (((v.map fun n:Nd=>n.all.n)++[0]).set k x.all.n) (((v.map fun n:Nd=>n.all.sum.c.n)++[0]).set k x.all.sum.c.n) (((v.map fun n:Nd=>n.all.sum.c.s)++[0]).set k x.all.sum.c.s) (((v.map fun n:Nd=>n.all.sum.c.l)++[0]).set k x.all.sum.c.l) (((v.map fun n:Nd=>n.all.sum.w.n)++[0]).set k x.all.sum.w.n) (((v.map fun n:Nd=>n.all.sum.w.s)++[0]).set k x.all.sum.w.s) (((v.map fun n:Nd=>n.all.sum.w.l)++[0]).set k x.all.sum.w.l) (((v.map fun n:Nd=>n.all.sum.d)++[0]).set k x.all.sum.d) (((v.map fun n:Nd=>n.all.sum.f)++[0]).set k x.all.sum.f) (((v.map fun n:Nd=>n.all.sum.m.k)++[0]).set k x.all.sum.m.k) (((v.map fun n:Nd=>n.all.sum.m.i)++[0]).set k x.all.sum.m.i) (((v.map fun n:Nd=>n.all.sum.gf)++[an]).set k x.all.sum.gf) (((v.map fun n:Nd=>n.all.sum.g.k)++[0]).set k x.all.sum.g.k) (((v.map fun n:Nd=>n.all.sum.g.i)++[0]).set k x.all.sum.g.i) (((v.map fun n:Nd=>n.all.sum.lf)++[an]).set k x.all.sum.lf) (((v.map fun n:Nd=>n.all.sum.l.k)++[0]).set k x.all.sum.l.k) (((v.map fun n:Nd=>n.all.sum.l.i)++[0]).set k x.all.sum.l.i) (((v.map fun n:Nd=>n.h)++[0]).set k x.h) g b
def gM (v:List Nd) (k:Nat):List Value:=[.int .i64 ((v.map fun n:Nd=>n.e.t).getD k 0),.bool ((v.map fun n:Nd=>n.e.ins).getD k an),.int .i64 ((v.map fun n:Nd=>n.e.it.k).getD k 0),.int .i64 ((v.map fun n:Nd=>n.e.it.i).getD k 0),.bool ((v.map fun n:Nd=>n.e.here).getD k an),.bool ((v.map fun n:Nd=>n.e.tf).getD k an),.int .i64 ((v.map fun n:Nd=>n.e.tk.k).getD k 0),.int .i64 ((v.map fun n:Nd=>n.e.tk.i).getD k 0),.int .i64 ((v.map fun n:Nd=>n.l.i).getD k 0),.int .i64 ((v.map fun n:Nd=>n.l.g).getD k 0),.int .i64 ((v.map fun n:Nd=>n.r.i).getD k 0),.int .i64 ((v.map fun n:Nd=>n.r.g).getD k 0),.int .i64 ((v.map fun n:Nd=>n.all.n).getD k 0),.int .i64 ((v.map fun n:Nd=>n.all.sum.c.n).getD k 0),.int .i64 ((v.map fun n:Nd=>n.all.sum.c.s).getD k 0),.int .i64 ((v.map fun n:Nd=>n.all.sum.c.l).getD k 0),.int .i64 ((v.map fun n:Nd=>n.all.sum.w.n).getD k 0),.int .i64 ((v.map fun n:Nd=>n.all.sum.w.s).getD k 0),.int .i64 ((v.map fun n:Nd=>n.all.sum.w.l).getD k 0),.int .i64 ((v.map fun n:Nd=>n.all.sum.d).getD k 0),.int .i64 ((v.map fun n:Nd=>n.all.sum.f).getD k 0),.int .i64 ((v.map fun n:Nd=>n.all.sum.m.k).getD k 0),.int .i64 ((v.map fun n:Nd=>n.all.sum.m.i).getD k 0),.bool ((v.map fun n:Nd=>n.all.sum.gf).getD k an),.int .i64 ((v.map fun n:Nd=>n.all.sum.g.k).getD k 0),.int .i64 ((v.map fun n:Nd=>n.all.sum.g.i).getD k 0),.bool ((v.map fun n:Nd=>n.all.sum.lf).getD k an),.int .i64 ((v.map fun n:Nd=>n.all.sum.l.k).getD k 0),.int .i64 ((v.map fun n:Nd=>n.all.sum.l.i).getD k 0),.int .i64 ((v.map fun n:Nd=>n.h).getD k 0)]
def QJ (m:Pl):Hp Empty :=
 [aa (.inl (186,[.slice (aa ⟨1,0,aa 32000⟩) m.vs.length 0,.slice (aa ⟨2,0,aa 1000⟩) m.free.length 0,.int .i64 m.held,.int .i64 m.cap,.int .i64 m.cX])),
 aa (.inr (.inl (189,⟨di,m.vs.length,cM m.vs m.dE m.live⟩))),
 aa (.inr (.inl (3,⟨[.int .i64 0],m.free.length,[⟨m.free,[],[]⟩]⟩)))]
end G8
namespace G8
open Rx
inductive Rs
 |da (m:Pl)
def lay:Rs->Hp Empty
 |.da m=>QJ m
def L:EZ Rs Empty where
 lay:=lay
 ne x:=by cases x<;>exact sL _
 own x b X h:=by cases x<;>exact Cj rfl h
 ins x:=by cases x<;>rfl
def D:fH Rs:=F3 s8 L
end G8
namespace Rx
open Go.RowKit State
section
variable {R R0:Type} {D0:fH R0} {L:EZ R R0} {P:Program}
structure Up (L:EZ R R0) (c:jb R0) (args:List Value) (hh:Hp R) (x:Out R):Prop where
 ex:∃ x0,rZ c ao (lU (off L hh) args) (xY L hh)/\c.go ao (lU (off L hh) args) (xY L hh)=aa x0/\x0.vc/\x0.hp=xY L x.hp/\x0.v=gg (off L x.hp) x.v
 off:Gi (fun b=>fb (Rx.off L x.hp b) (Rx.off L hh b)) hh.length=ao
 ins:te x.hp.length x.hp=ao
theorem nr {f:FuncId} {c:jb R0} {spec:Prim R} (hc:b6 D0 P f c)
  (H:∀ args hh x,spec args hh=aa x->hh.length≤x.hp.length/\(∀ b,x.lit=aa b->x.v=.bool b)/\(x.wr=[]->x.hp=hh)/\(x.vc->Up L c args hh x)) :
  b6 (F3 D0 L) P f (a9 spec):=by
 refine qa ⟨(hc ao).known,fun args hh x _ hx C ρ ft w hm hv hi=>?_,fun args hh x hx=>(H args hh x hx).1,fun args hh x hx=>(H args hh x hx).2.1,fun args hh x hx=>(H args hh x hx).2.2.1⟩
 obtain⟨_,_,_,h4⟩:=H args hh x hx;obtain⟨⟨x0,q0,q1,q2,q3,q4⟩,q5,q6⟩:=h4 hv;obtain⟨ρ1,ft1,o1,o2⟩:=hm.open_;have hargs:args.map (bT ρ)=(lU (off L hh) args).map (bT ρ1):=by
  rw[rX,← lh,← lh];exact(qq (n:=hh.length) (fun b hb=>o1 b hb) args hi).symm
 rw[hargs];have j8:ix (xY L hh).length (lU (off L hh) args)=ao:=wc (n:=hh.length) (fun b hb=>by
  have:=G5 (L:=L) hh (b:=b) (i:=0) hb (u9 _)
  simpa using this) args hi
 refine((hc ao).run _ _ x0 q0 q1 C ρ1 ft1 w o2 q2 j8).mono fun e w' ⟨gv,ku,g1,g2,g3⟩=>?_
 rw[q3] at g3;refine⟨_,_,fun b hb=>?_,?_,g3.close_ q6⟩
 ·show gv (off L x.hp b)=ρ b
  have h6:off L hh b<(xY L hh).length:=by
   have:=G5 (L:=L) hh (b:=b) (i:=0) hb (u9 _)
   simpa using this
  have:=zQ q5 hb;rw[Nat.eq_of_beq_eq_true this,g1 _ h6,o1 b hb]
 ·rw[g2,q4,CP]
end
end Rx
namespace Gv
open Rx
set_option linter.unusedSectionVars false
section
variable {E A:Type} (O:iL E A)
def lo (e:E) (l:List (Ref×E)):List (Ref×E):=l.takeWhile fun x=>decide (0<O.cmp e x.2)
def hi (e:E) (l:List (Ref×E)):List (Ref×E):=l.dropWhile fun x=>decide (0<O.cmp e x.2)
def tW (e:E) (l:List (Ref×E)):Option (Ref×E) :=
 match hi O e l with
 |[]=>aj
 |x::_=>if O.cmp e x.2=0 then aa x else aj
def tX (l:List (Ref×E)):Prop:=l.Pairwise fun a b=>O.cmp a.2 b.2<0
theorem Ax (e:E) (l:List (Ref×E)):lo O e l++hi O e l=l:=Af
variable {O} {S:List E->A} {dk:List E->Prop} (Z:yZ O S dk)
theorem JR {α:Type} (p:α->Bool):∀ (l q:List α),(∀ x∈l,p x=ao)->(l++q).takeWhile p=l++q.takeWhile p/\(l++q).dropWhile p=q.dropWhile p
 |[],q,_=>⟨rfl,rfl⟩
 |a::l,q,h=>by
  obtain⟨h1,h2⟩:=JR p l q fun x hx=>h x (ed _ hx)
  have ha:=h a bL;simp[sQ,sR,ha,h1,h2]
theorem QX {α:Type} (p:α->Bool) (a:α) (q:List α) (ha:p a=an):∀ l:List α,(l++a::q).takeWhile p=l.takeWhile p/\(l++a::q).dropWhile p=l.dropWhile p++a::q
 |[]=>by simp[sQ,sR,ha]
 |b::l=>by
  obtain⟨h1,h2⟩:=QX p a q ha l;simp only[mw,sQ,sR];split
  ·exact⟨by rw[h1],h2⟩
  ·exact⟨rfl,rfl⟩
theorem Tl {e:E} {l q:List (Ref×E)} {r:Ref} {x:E} (h:O.cmp e x<0):lo O e (l++(r,x)::q)=lo O e l/\hi O e (l++(r,x)::q)=hi O e l++(r,x)::q :=
 QX _ _ _ (by simp;omega) _
include Z in
theorem tX.ahead {l q:List (Ref×E)} {r:Ref} {x e:E} (hs:tX O (l++(r,x)::q)) (h:0≤O.cmp e x):∀ y∈l,decide (0<O.cmp e y.2)=ao:=by
 intro y hy;have h1:O.cmp y.2 x<0:=(nG.1 hs).2.2 y hy (r,x) bL;refine decide_eq_true ((Z.swap _ _).1 ?_);rcases Int.lt_or_eq_of_le h with h2|h2
 ·exact Z.trans _ _ _ h1 ((Z.swap _ _).2 h2)
 ·exact Z.Zt _ _ _ h2.symm h1
include Z in
theorem Lr {e:E} {l q:List (Ref×E)} {r:Ref} {x:E} (hs:tX O (l++(r,x)::q)) (h:0<O.cmp e x):lo O e (l++(r,x)::q)=l++(r,x)::lo O e q/\hi O e (l++(r,x)::q)=hi O e q:=by
 obtain⟨h1,h2⟩:=JR (fun y:Ref×E=>decide (0<O.cmp e y.2)) l ((r,x)::q) (hs.ahead Z (by omega))
 have hx:decide (0<O.cmp e x)=ao:=decide_eq_true h;unfold lo hi;rw[h1,h2,sQ,sR,if_pos hx,if_pos hx];exact⟨rfl,rfl⟩
include Z in
theorem Y7 {e:E} {l q:List (Ref×E)} {r:Ref} {x:E} (hs:tX O (l++(r,x)::q)) (h:O.cmp e x=0):lo O e (l++(r,x)::q)=l/\hi O e (l++(r,x)::q)=(r,x)::q:=by
 obtain⟨h1,h2⟩:=JR (fun y:Ref×E=>decide (0<O.cmp e y.2)) l ((r,x)::q) (hs.ahead Z (by omega))
 have hx:¬ decide (0<O.cmp e x)=ao:=by simp;omega
 unfold lo hi;rw[h1,h2,sQ,sR,if_neg hx,if_neg hx];simp
theorem JU {e:E} {l q:List (Ref×E)} {r:Ref} {x:E} (h:O.cmp e x<0):tW O e (l++(r,x)::q)=tW O e l:=by
 unfold tW;rw[(Tl h).2];cases hl:hi O e l with
 |nil=>simp only[pd];rw[if_neg (by omega)]
 |cons y tl=>rfl
include Z in
theorem JY {e:E} {l q:List (Ref×E)} {r:Ref} {x:E} (hs:tX O (l++(r,x)::q)) (h:0<O.cmp e x):tW O e (l++(r,x)::q)=tW O e q:=by
 unfold tW;rw[(Lr Z hs h).2]
include Z in
theorem JA {e:E} {l q:List (Ref×E)} {r:Ref} {x:E} (hs:tX O (l++(r,x)::q)) (h:O.cmp e x=0):tW O e (l++(r,x)::q)=aa (r,x):=by
 unfold tW;rw[(Y7 Z hs h).2];simp only;rw[if_pos h]
theorem tQ {e:E} {l:List (Ref×E)} {x:Ref×E} (h:tW O e l=aa x):hi O e l=x::(hi O e l).tail/\O.cmp e x.2=0/\x∈l:=by
 unfold tW at h;split at h
 ·cases h
 ·rename_i y tl hy;split at h
  ·rename_i hc;injection h with h
   subst h;rw[hy];refine⟨rfl,hc,?_⟩;rw[← Ax O e l,hy];simp
  ·cases h
theorem tX.left {l q:List (Ref×E)} (h:tX O (l++q)):tX O l:=(nG.1 h).1
theorem tX.right {l q:List (Ref×E)} (h:tX O (l++q)):tX O q:=(nG.1 h).2.1
abbrev gd (dk:List E->Prop) (l:List (Ref×E)):Prop:=dk (l.map aw)
abbrev rf (l:List (Ref×E)):List Ref:=l.map aA
theorem Tr.oe (r:Ref) (l:Tr E) (e:E) (q:Tr E):(Tr.node r l e q).items=l.items++(r,e)::q.items:=rfl
include Z
theorem Qy {n:Nat} {f:Ref} {e:E}:∀ (t:Tr E) {k:Nat} {m:Po E A},fX n m->Rp O S m t->t.mB->tX O t.items->(f::t.refs).Nodup->has m f=ao ->
  lk O m f=⟨e,r0,r0,one O e,1⟩->tW O e t.items=aj->gd dk (lo O e t.items++(f,e)::hi O e t.items)->t.h<k ->
  ∃ t',Is O S (kW O k m t.root f e).2 (kW O k m t.root f e).1 (lo O e t.items++(f,e)::hi O e t.items) t'/\t.h≤t'.h/\t'.h≤t.h+1/\iI (f::t.refs) (30*t.h+1) (zn O) m (kW O k m t.root f e).2
 |t,0,m,_,_,_,_,_,_,_,_,_,hk=>by omega
 |.nil,k+1,m,ho,hr,hb,hs,hn,hf,XL,hh,hg,hk=>by
  have h0:(lk O m (Tr.nil (E:=E)).root).h=0:=by rw[(show Rp O S m .nil from trivial).root ho];rfl
  rw[kW,if_pos h0];refine⟨.node f .nil e .nil,⟨rfl,⟨by simpa using hf,?_,trivial,trivial⟩,rfl,⟨trivial,trivial,by simp[Tr.h],by simp[Tr.h]⟩⟩,by simp[Tr.h],by simp[Tr.h],(gC _ _ _).mono (fun s hs=>by cases hs) (by omega)⟩
  rw[ik,XL,qY];simp[Tr.items,Tr.elems,Tr.h,Tr.root,one,Z.one]
 |.node r l x q,k+1,m,ho,hr,hb,hs,hn,hf,XL,hh,hg,hk=>by
  have hrt:=hr.root ho;obtain⟨s_,mW,lZ,mf⟩:=hr;obtain⟨b1,b2,b3,b4⟩:=hb;have h0:¬ (lk O m r).h=0:=by rw[mW,rn];simp only[Tr.h];omega
  simp only[Tr.root];rw[Tr.oe] at hs hh hg ⊢;rw[Tr.jL] at hn ⊢;rw[kW,if_neg h0,mW,qY];simp only[Tr.h] at hk ⊢;have kv:O.cmp e x≠0:=fun hx=>by rw[JA Z hs hx] at hh;cases hh
  by_cases hc:O.cmp e x<0
  ·rw[if_pos hc];obtain⟨e1,e2⟩:=Tl (l:=l.items) (q:=q.items) (r:=r) hc;rw[e1,e2] at hg ⊢;rw[JU hc] at hh;have OR:gd dk (lo O e l.items++(f,e)::hi O e l.items):=Z.left _ ((x::q.elems)) (by simpa [gd,Tr.elems] using hg)
   have hn1:(f::l.refs).Nodup:=(cf (l₂:=r::q.refs).1 (by simpa using hn)).1
   obtain⟨t',h1,h2,h3,h4⟩:=Qy l (k:=k) (m:=aF m r) (dg.2 ho) (lZ.aF _) b1 hs.left hn1 (by simpa using hf) (by rw[ik];exact XL) hh OR (by omega)
   have hu:iI (f::l.refs) (30*l.h+2) (zn O) m (kW O k (aF m r) l.root f e).2:=(gC _ m r).to h4 (fun s hs=>by simpa using hs) (by omega)
   have hrefs:t'.refs=rf (lo O e l.items)++f::rf (hi O e l.items):=by simp[Tr.refs,h1.its]
   have VZ:l.refs=rf (lo O e l.items)++rf (hi O e l.items):=by rw[Tr.refs];conv=>lhs;rw[← Ax O e l.items];simp
   have hnd:(t'.refs++r::q.refs).Nodup:=by
    rw[hrefs];rw[VZ] at hn;have:(rf (lo O e l.items)++f::(rf (hi O e l.items)++r::q.refs)).Nodup:=ze.nodup_iff.2 (by simpa using hn)
    simpa using this
   have hni:∀ s,s∈r::q.refs->s∉f::l.refs:=fun s hs rY=>(cf (l₁:=f::l.refs) (l₂:=r::q.refs).1 (by simpa using hn)).2.2 s rY s hs rfl
   rw[h1.root];obtain⟨u,u1,u2,u3,u4,u5⟩:=yW Z (m:=(kW O k (aF m r) l.root f e).2) (xw.2 (dg.2 ho)) (r:=r) (l:=t') (q:=q)
    (v:=⟨x,t'.root,q.root,⟨(Tr.node r l x q).items.length,S (Tr.node r l x q).elems⟩,((Tr.node r l x q).h:Nat)⟩) h1.rp (Rp.frame hu (fun s hs=>hni s (by simp[hs])) mf) (by rw[hu.has];exact s_) hnd rfl rfl
    (by rw[Tr.elems,h1.its];simpa [gd,Tr.elems] using hg) h1.mB b2 (by omega) (by omega)
   refine⟨u,⟨u1.root,u1.rp,by rw[u1.its,h1.its];simp,u1.mB⟩,?_,by omega,hu.to u5 (fun s hs=>?_) (by omega)⟩
   ·rcases cr (q.h+1) t'.h with hx|hx
    ·omega
    ·have:=u4 hx (by omega);omega
   ·rw[hrefs] at hs;rw[VZ] at hs ⊢;simp only[bP,b5] at hs ⊢;rcases hs with(h|h|h)|(h|h|h)|h|h<;>simp[h]
  ·rw[if_neg hc];have pS:0<O.cmp e x:=by omega
   obtain⟨e1,e2⟩:=Lr Z hs pS;rw[e1,e2] at hg ⊢;rw[JY Z hs pS] at hh;have OR:gd dk (lo O e q.items++(f,e)::hi O e q.items):=Z.right (l.elems++[x]) _ (by simpa [gd,Tr.elems] using hg)
   have uu:=fJ.1 hn;have hn1:(f::q.refs).Nodup:=fJ.2 ⟨fun h=>uu.1 (by simp[h]),(fJ.1 (cf.1 uu.2).2.1).2⟩
   have JE:tX O q.items:=(gB.1 hs.right).2;obtain⟨t',h1,h2,h3,h4⟩:=Qy q (k:=k) (m:=aF m r) (dg.2 ho) (mf.aF _) b2 JE hn1 (by simpa using hf) (by rw[ik];exact XL) hh OR (by omega)
   have hu:iI (f::q.refs) (30*q.h+2) (zn O) m (kW O k (aF m r) q.root f e).2:=(gC _ m r).to h4 (fun s hs=>by simpa using hs) (by omega)
   have hrefs:t'.refs=rf (lo O e q.items)++f::rf (hi O e q.items):=by simp[Tr.refs,h1.its]
   have VZ:q.refs=rf (lo O e q.items)++rf (hi O e q.items):=by rw[Tr.refs];conv=>lhs;rw[← Ax O e q.items];simp
   have hnd:(l.refs++r::t'.refs).Nodup:=by
    rw[hrefs];rw[VZ] at hn;have:((l.refs++r::rf (lo O e q.items))++f::rf (hi O e q.items)).Nodup:=ze.nodup_iff.2 (by simpa using hn)
    simpa using this
   have hni:∀ s,s∈l.refs++[r]->s∉f::q.refs:=fun s hs rY=>by
    rcases bP.1 rY with rfl|rY
    ·refine uu.1 ?_;rcases b5.1 hs with h|h
     ·simp[h]
     ·simp at h;simp[h]
    ·have:((l.refs++[r])++q.refs).Nodup:=by simpa using uu.2
     exact(cf.1 this).2.2 s hs s rY rfl
   rw[h1.root];obtain⟨u,u1,u2,u3,u4,u5⟩:=yW Z (m:=(kW O k (aF m r) q.root f e).2) (xw.2 (dg.2 ho)) (r:=r) (l:=l) (q:=t')
    (v:=⟨x,l.root,t'.root,⟨(Tr.node r l x q).items.length,S (Tr.node r l x q).elems⟩,((Tr.node r l x q).h:Nat)⟩) (Rp.frame hu (fun s hs=>hni s (by simp[hs])) lZ) h1.rp (by rw[hu.has];exact s_) hnd rfl rfl
    (by rw[show t'.elems=t'.items.map aw from rfl,h1.its];simpa [gd,Tr.elems] using hg) b1 h1.mB (by omega) (by omega)
   refine⟨u,⟨u1.root,u1.rp,by rw[u1.its,h1.its];simp,u1.mB⟩,?_,by omega,hu.to u5 (fun s hs=>?_) (by omega)⟩
   ·rcases cr (l.h+1) t'.h with hx|hx
    ·omega
    ·have:=u4 (by omega) hx;omega
   ·rw[hrefs] at hs;rw[VZ] at hs ⊢;simp only[bP,b5] at hs ⊢;rcases hs with(h|h|h)|h|h|h|h|h<;>simp[h]
end
end Gv
namespace Gv
open Rx
set_option linter.unusedSectionVars false
section
variable {E A:Type} {O:iL E A} {S:List E->A} {dk:List E->Prop} (Z:yZ O S dk)
theorem Tr.w6 (r:Ref) (l:Tr E) (e:E) (q:Tr E):(Tr.node r l e q).root=r:=rfl
theorem BC {n:Nat}:∀ (t:Tr E) {k:Nat} {m:Po E A},fX n m->Rp O S m t->t.h<k->Deep O k m t.root
 |t,0,m,_,_,hk=>by omega
 |.nil,k+1,m,ho,hr,hk=>.inl (by rw[hr.root ho];rfl)
 |.node r l x q,k+1,m,ho,⟨s_,mW,lZ,mf⟩,hk=>by
  simp only[Tr.h] at hk;refine .inr ?_;simp only[Tr.root];rw[mW,qY];exact⟨BC l ho lZ (by omega),BC q ho mf (by omega)⟩
theorem Rp.elem {m:Po E A}:∀ {t:Tr E},Rp O S m t->∀ p,p∈t.items->(lk O m p.1).e=p.2
 |.nil,_,p,hp=>by cases hp
 |.node r l x q,⟨h1,h2,h3,h4⟩,p,hp=>by
  rw[Tr.oe,b5,bP] at hp;rcases hp with hp|rfl|hp
  ·exact Rp.elem h3 p hp
  ·rw[h2];rfl
  ·exact Rp.elem h4 p hp
theorem aaE {e:E} {l q:List (Ref×E)} {r:Ref} {x:E} (h:¬ 0<O.cmp e x):lo O e (l++(r,x)::q)=lo O e l/\hi O e (l++(r,x)::q)=hi O e l++(r,x)::q :=
 QX _ _ _ (by grind) _
theorem Mn {n:Nat} {m:Po E A} (ho:fX n m) {t:Tr E} (h:Rp O S m t) (hr:t.root=r0):t=.nil:=by grind[agd]
theorem adq (m:Po E A) (a b c:Ref):iI [] 3 (zn O) m (aF (aF (aF m a) b) c):=(tO m a b).to (gC _ _ c) (fun r hr=>by simp at hr) (a_ _)
include Z
theorem G6 {n:Nat} {b:Ref} {e:E}:∀ (k:Nat) (l q:Tr E) {m:Po E A},fX n m->Rp O S m l->Rp O S m q->has m b=ao->(lk O m b).e=e->(l.refs++b::q.refs).Nodup->dk (l.elems++e::q.elems)->l.mB->q.mB->l.h+q.h<k ->
  tD O k m l.root b q.root/\∃ t,Is O S (link O k m l.root b q.root).2 (link O k m l.root b q.root).1 (l.items++(b,e)::q.items) t/\max l.h q.h≤t.h/\t.h≤max l.h q.h+1/\(l.h≤q.h+1->q.h≤l.h+1->t.h=max l.h q.h+1) /\
   iI (l.refs++b::q.refs) (30*(l.h+q.h)+4) (zn O) m (link O k m l.root b q.root).2
 |0,l,q,m,_,_,_,_,_,_,_,_,_,hk=>by omega
 |k+1,l,q,m,ho,hl,hq,hb,he,lR,hg,bl,bq,hk=>by
  have k1:lk O m l.root=nd O S l:=hl.root ho;have k2:lk O m q.root=nd O S q:=hq.root ho;have hlen:=Z.len _ hg;have h1:=l.Aj;have h2:=q.Aj;simp only[bA,cy,Tr.e8] at hlen;have w1:W ((q.h:Int)+1)=(q.h:Int)+1:=uD (by omega)
  have w2:W ((l.h:Int)+1)=(l.h:Int)+1:=uD (by omega)
  have ho2:fX n (aF (aF m l.root) q.root):=dg.2 (dg.2 ho);have ry:=lR;simp only[cf,fJ,b5,bP,not_or] at ry;rw[tD,link];simp only[ik,k1,k2,rn,w1,w2]
  by_cases c1:(l.h:Int)>q.h+1
  ·rw[if_pos c1,if_pos c1];cases l with
   |nil=>simp only[Tr.h] at c1;omega
   |node a ll x lr =>
    obtain⟨zk,Bm,yh,yv⟩:=hl;obtain⟨bl1,bl2,bl3,bl4⟩:=bl;simp only[Tr.h] at c1 hk;simp only[qY,Tr.w6,Tr.h];rw[Tr.jL] at lR ⊢;rw[Tr.gE] at hg;have IN:(ll.refs++a::(lr.refs++b::q.refs)).Nodup:=by simpa using lR
    obtain⟨d,t',i1,i2,i3,i4,i5⟩:=G6 k lr q (m:=aF (aF m a) q.root) (dg.2 (dg.2 ho)) ((yv.aF _).aF _) ((hq.aF _).aF _) (by simpa using hb) (by simpa using he) (fJ.1 (cf.1 IN).2.1).2
     (Z.right (ll.elems++[x]) _ (by simpa using hg)) bl2 bq (by omega)
    have hu:=(tO (O:=O) m a q.root).to i5 (S:=lr.refs++b::q.refs) (k:=30*(lr.h+q.h)+6) (fun s hs=>by simpa using hs) (by omega)
    have tY:t'.refs=lr.refs++b::q.refs:=by rw[Tr.refs,i1.its];simp[Tr.refs]
    have vN:t'.elems=lr.elems++e::q.elems:=by rw[Tr.elems,i1.its];simp[Tr.elems]
    have UA:∀ s,s∈ll.refs++[a]->s∉lr.refs++b::q.refs:=fun s hs rY=>by
     have:((ll.refs++[a])++(lr.refs++b::q.refs)).Nodup:=by simpa using IN
     exact(cf.1 this).2.2 s hs s rY rfl
    refine⟨d,?_⟩;rw[i1.root];obtain⟨u,u1,u2,u3,u4,u5⟩:=yW Z (m:=(link O k (aF (aF m a) q.root) lr.root b q.root).2) (xF.2 (dg.2 (dg.2 ho))) (r:=a) (l:=ll) (q:=t')
     (v:=⟨x,ll.root,t'.root,⟨(Tr.node a ll x lr).items.length,S (Tr.node a ll x lr).elems⟩,((Tr.node a ll x lr).h:Nat)⟩) (Rp.frame hu (fun s hs=>UA s (by simp[hs])) yh) i1.rp (by rw[hu.has];exact zk)
     (by rw[tY];exact IN) rfl rfl (by rw[vN];simpa using hg) bl1 i1.mB (by omega) (by omega)
    simp only[Tr.h] at u4 u5 ⊢;refine⟨u,⟨u1.root,u1.rp,by rw[u1.its,i1.its];simp[Tr.items],u1.mB⟩,?_,?_,fun _ _=>by omega,hu.to u5 (fun s hs=>?_) (by omega)⟩
    ·rcases cr (ll.h+1) t'.h with hx|hx
     ·omega
     ·have:=u4 (by omega) hx;omega
    ·rcases cr (ll.h+1) t'.h with hx|hx
     ·omega
     ·have:=u4 (by omega) hx;omega
    ·rw[tY] at hs;simp only[b5,bP] at hs ⊢;rcases hs with(h|h|h)|h|h|h|h|h<;>simp[h]
  ·rw[if_neg c1,if_neg c1]
   by_cases c2:(q.h:Int)>l.h+1
   ·rw[if_pos c2,if_pos c2];cases q with
    |nil=>simp only[Tr.h] at c2;omega
    |node a ql x qr =>
     obtain⟨ss,FW,Yb,hq4⟩:=hq;obtain⟨bq1,bq2,bq3,bq4⟩:=bq;simp only[Tr.h] at c2 hk;simp only[qY,Tr.w6,Tr.h];rw[Tr.jL] at lR ⊢;rw[Tr.gE] at hg;have IN:((l.refs++b::ql.refs)++a::qr.refs).Nodup:=by simpa using lR
     obtain⟨d,t',i1,i2,i3,i4,i5⟩:=G6 k l ql (m:=aF (aF m l.root) a) (dg.2 (dg.2 ho)) ((hl.aF _).aF _) ((Yb.aF _).aF _) (by simpa using hb) (by simpa using he) (cf.1 IN).1
      (Z.left _ (x::qr.elems) (by simpa using hg)) bl bq1 (by omega)
     have hu:=(tO (O:=O) m l.root a).to i5 (S:=l.refs++b::ql.refs) (k:=30*(l.h+ql.h)+6) (fun s hs=>by simpa using hs) (by omega)
     have tY:t'.refs=l.refs++b::ql.refs:=by rw[Tr.refs,i1.its];simp[Tr.refs]
     have vN:t'.elems=l.elems++e::ql.elems:=by rw[Tr.elems,i1.its];simp[Tr.elems]
     have UA:∀ s,s∈a::qr.refs->s∉l.refs++b::ql.refs:=fun s hs rY=>(cf.1 IN).2.2 s rY s hs rfl
     refine⟨d,?_⟩;rw[i1.root];obtain⟨u,u1,u2,u3,u4,u5⟩:=yW Z (m:=(link O k (aF (aF m l.root) a) l.root b ql.root).2) (xF.2 (dg.2 (dg.2 ho))) (r:=a) (l:=t') (q:=qr)
      (v:=⟨x,t'.root,qr.root,⟨(Tr.node a ql x qr).items.length,S (Tr.node a ql x qr).elems⟩,((Tr.node a ql x qr).h:Nat)⟩) i1.rp (Rp.frame hu (fun s hs=>UA s (by simp[hs])) hq4) (by rw[hu.has];exact ss)
      (by rw[tY];exact IN) rfl rfl (by rw[vN];simpa using hg) i1.mB bq2 (by omega) (by omega)
     simp only[Tr.h] at u4 u5 ⊢;refine⟨u,⟨u1.root,u1.rp,by rw[u1.its,i1.its];simp[Tr.items],u1.mB⟩,?_,?_,fun _ _=>by omega,hu.to u5 (fun s hs=>?_) (by omega)⟩
     ·rcases cr (qr.h+1) t'.h with hx|hx
      ·omega
      ·have:=u4 hx (by omega);omega
     ·rcases cr (qr.h+1) t'.h with hx|hx
      ·omega
      ·have:=u4 hx (by omega);omega
     ·rw[tY] at hs;simp only[b5,bP] at hs ⊢;rcases hs with(h|h|h)|(h|h|h)|h|h<;>simp[h]
   ·rw[if_neg c2,if_neg c2];refine⟨trivial,?_⟩;obtain⟨s1,s2⟩:=QI Z (m:=aF (aF (aF m l.root) q.root) b) (r:=b) (l:=l) (q:=q) (v:=⟨(lk O m b).e,l.root,q.root,(lk O m b).all,(lk O m b).h⟩) (dg.2 ho2) (((hl.aF _).aF _).aF _) (((hq.aF _).aF _).aF _) (by simpa using hb)
     (fun h=>ry.2.2 b h b (dK rfl) rfl) (fun h=>ry.2.1.1 h) rfl rfl (by simpa [he] using hg)
    simp only[he] at s1 s2 ⊢;refine⟨.node b l e q,⟨rfl,s1,rfl,⟨bl,bq,by omega,by omega⟩⟩,?_,?_,?_,(adq m l.root q.root b).to s2 (fun s hs=>by simp at hs;subst hs;simp) (by omega)⟩
    ·simp only[Tr.h];omega
    ·simp only[Tr.h];omega
    ·intro _ _;simp only[Tr.h];omega
theorem VP {n:Nat}:∀ (t:Tr E) {k:Nat} {m:Po E A},fX n m->Rp O S m t->t.mB->t.refs.Nodup->dk t.elems->t≠.nil->t.h≤k ->
  sC O k m t.root/\∃ f x tl t',t.items=(f,x)::tl/\Is O S (iH O k m t.root).2.2 (iH O k m t.root).1 tl t'/\(iH O k m t.root).2.1=f/\t.h≤t'.h+1/\t'.h≤t.h/\iI (rf tl) (30*t.h) (zn O) m (iH O k m t.root).2.2
 |.nil,k,m,_,_,_,_,_,hn,_=>absurd rfl hn
 |.node r l x q,0,m,_,_,_,_,_,_,hk=>by grind[Tr.h]
 |.node r l x q,k+1,m,ho,⟨s_,mW,lZ,mf⟩,⟨b1,b2,b3,b4⟩,lR,hg,_,hk=>by
  simp only[Tr.h] at hk;simp only[Tr.root];rw[sC,iH,mW,qY];rw[Tr.jL] at lR;rw[Tr.gE] at hg
  by_cases c:l.root=r0
  ·have hl:=Mn ho lZ c;subst hl;exact⟨trivial,r,x,q.items,q,rfl,⟨rfl,mf.aF _,rfl,b2⟩,rfl,by grind[Tr.h],by grind[Tr.h],(gC _ _ _).mono (fun s hs=>by cases hs) (by grind[Tr.h])⟩
  ·rw[if_neg c,if_neg c];have hln:l≠.nil:=fun h=>c (by rw[h];rfl)
   obtain⟨d,f,y,tl,t',i0,i1,i2,i3,i4,i5⟩:=VP l (k:=k) (m:=aF m r) (dg.2 ho) (lZ.aF _) b1 (cf.1 lR).1 (Z.left _ _ hg) hln (by omega)
   have hu:=(gC (zn O) m r).to i5 (S:=rf tl) (k:=30*l.h+1) (fun s hs=>by grind) (by omega)
   have VZ:l.refs=f::rf tl:=by grind[Tr.refs]
   have hle:l.elems=y::tl.map aw:=by grind[Tr.elems]
   rw[VZ] at lR;rw[hle] at hg;have IN:(rf tl++r::q.refs).Nodup:=(fJ.1 lR).2;have tY:t'.refs=rf tl:=by rw[Tr.refs,i1.its]
   have vN:t'.elems=tl.map aw:=by rw[Tr.elems,i1.its]
   have UA:∀ s,s∈r::q.refs->s∉rf tl:=fun s hs rY=>(cf.1 IN).2.2 s rY s hs rfl
   rw[i1.root];obtain⟨u,u1,u2,u3,u4,u5⟩:=yW Z (m:=(iH O k (aF m r) l.root).2.2) (vl.2 (dg.2 ho)) (r:=r) (l:=t') (q:=q)
    (v:=⟨x,t'.root,q.root,⟨(Tr.node r l x q).items.length,S (Tr.node r l x q).elems⟩,((Tr.node r l x q).h:Nat)⟩) i1.rp (Rp.frame hu (fun s hs=>UA s (by simp[hs])) mf) (by rw[hu.has];exact s_)
    (by grind) rfl rfl (by rw[vN];exact Z.right [y] _ hg) i1.mB b2 (by omega) (by omega)
   refine⟨d,f,y,tl++(r,x)::q.items,u,by grind[Tr.oe],⟨u1.root,u1.rp,by rw[u1.its,i1.its],u1.mB⟩,i2,?_,?_,hu.to u5 (fun s hs=>?_) (by grind[Tr.h])⟩
   ·grind[Tr.h]
   ·grind[Tr.h]
   ·rw[tY] at hs;simp only[b5,bP,dG,gr,rf] at hs ⊢;rcases hs with h|h|h|h
    ·grind
    ·grind
    ·grind
    ·exact .inr (.inr h)
theorem ahm {n K:Nat} {l q:Tr E} {m:Po E A} (ho:fX n m) (hl:Rp O S m l) (hq:Rp O S m q) (lR:(l.refs++q.refs).Nodup) (hg:dk (l.elems++q.elems)) (bl:l.mB) (bq:q.mB) (hk:l.h+q.h<K) :
  Dv O K m l.root q.root/\∃ t,Is O S (glue O K m l.root q.root).2 (glue O K m l.root q.root).1 (l.items++q.items) t/\(l.h≤q.h+1->q.h≤l.h+1->max l.h q.h≤t.h)/\t.h≤max l.h q.h+1 /\
   iI (l.refs++q.refs) (30*(l.h+q.h+q.h)+4) (zn O) m (glue O K m l.root q.root).2:=by
 unfold Dv glue
 by_cases c:q.root=r0
 ·have hqn:=Mn ho hq c;subst hqn;exact⟨trivial,l,⟨rfl,hl,by simp[Tr.items],bl⟩,fun _ _=>by grind[Tr.h],by omega,iI.refl _ _ _ _⟩
 ·rw[if_neg c,if_neg c];have hqn:q≠.nil:=fun h=>c (by rw[h];rfl)
  obtain⟨d,f,x,tl,t',i0,i1,i2,i3,i4,i5⟩:=VP Z q (k:=K) (m:=m) ho hq bq (cf.1 lR).2.1 (Z.right _ _ hg) hqn (by omega)
  have hqr:q.refs=f::rf tl:=by grind[Tr.refs]
  have hqe:q.elems=x::tl.map aw:=by grind[Tr.elems]
  have hf:has m f=ao:=hq.has f (by grind)
  have XL:(lk O m f).e=x:=hq.elem (f,x) (by grind)
  rw[hqr] at lR ⊢;rw[hqe] at hg;have tY:t'.refs=rf tl:=by rw[Tr.refs,i1.its]
  have vN:t'.elems=tl.map aw:=by rw[Tr.elems,i1.its]
  have Yf:f∉rf tl:=(fJ.1 (cf.1 lR).2.1).1;have UA:∀ s,s∈l.refs->s∉rf tl:=fun s hs rY=>(cf.1 lR).2.2 s hs s (by simp[rY]) rfl
  rw[i1.root,i2];obtain⟨d2,u,u1,u2,u3,u4,u5⟩:=G6 Z K l t' (m:=(iH O K m q.root).2.2) (b:=f) (e:=x) (vl.2 ho) (Rp.frame i5 UA hl) i1.rp (by rw[i5.has];exact hf) (by rw[show lk O (iH O K m q.root).2.2 f=lk O m f from i5.look f Yf];exact XL)
   (by grind) (by grind) bl i1.mB (by omega)
  refine⟨⟨d,d2⟩,u,⟨u1.root,u1.rp,by rw[u1.its,i1.its,i0],u1.mB⟩,fun h1 h2=>?_,by omega,i5.to u5 (fun s hs=>?_) (by omega)⟩
  all_goals grind
end
end Gv
namespace Gv
open Rx
set_option linter.unusedSectionVars false
section
variable {E A:Type} {O:iL E A} {S:List E->A} {dk:List E->Prop} (Z:yZ O S dk)
theorem va (e:E) (l:List (Ref×E)):au aA (lo O e l)++au aA (hi O e l)=au aA l:=by grind[Ax]
include Z
theorem II {n:Nat} {e:E}:∀ (t:Tr E) {k:Nat} {m:Po E A},fX n m->Rp O S m t->t.mB->tX O t.items->t.refs.Nodup->(∀ x,tW O e t.items=aa x->gd dk (lo O e t.items++(x.1,e)::(hi O e t.items).tail))->t.h<k ->
  match tW O e t.items with
  |none=>(replace O k m t.root e).1=an/\iI [] (2*t.h+1) (zn O) m (replace O k m t.root e).2
  |some x=>(replace O k m t.root e).1=ao/\∃ t',Is O S (replace O k m t.root e).2 t.root (lo O e t.items++(x.1,e)::(hi O e t.items).tail) t'/\t'.h=t.h/\iI t.refs (6*t.h+1) (zn O) m (replace O k m t.root e).2
 |t,0,m,_,_,_,_,_,_,hk=>by omega
 |.nil,k+1,m,ho,hr,hb,hs,hn,hg,hk=>by
  have h0:(lk O m (Tr.nil (E:=E)).root).h=0:=by rw[(show Rp O S m .nil from trivial).root ho];rfl
  rw[replace,if_pos h0];exact⟨rfl,(gC _ _ _).mono (fun s hs=>hs) (by omega)⟩
 |.node r l x q,k+1,m,ho,⟨s_,mW,lZ,mf⟩,⟨b1,b2,b3,b4⟩,hs,hn,hg,hk=>by
  have h0:¬ (lk O m r).h=0:=by grind[rn,Tr.h]
  simp only[Tr.w6];rw[Tr.oe] at hs hg ⊢;rw[Tr.jL] at hn ⊢;rw[replace,if_neg h0,mW,qY];simp only[Tr.h] at hk ⊢;have ry:=hn;simp only[cf,fJ,b5,bP,not_or] at ry
  by_cases hc:O.cmp e x<0
  ·rw[if_pos hc];obtain⟨e1,e2⟩:=Tl (l:=l.items) (q:=q.items) (r:=r) hc;rw[e1,e2,JU hc] at hg;rw[e1,e2,JU hc];have ih:=II l (k:=k) (m:=aF m r) (dg.2 ho) (lZ.aF _) b1 hs.left (cf.1 hn).1 (fun y hy=>Z.left _ (x::q.elems) (by
    have:=hg y hy;rw[(tQ hy).1] at this
    simp_all[gd,Tr.elems])) (by omega)
   cases hh:tW O e l.items with
   |none =>
    rw[hh] at ih;obtain⟨i1,i2⟩:=ih;rw[if_neg (by grind)]
    exact⟨i1,(gC _ m r).to i2 (fun s hs=>by simp at hs) (by omega)⟩
   |some y =>
    rw[hh] at ih;obtain⟨i1,t',i2,i3,i4⟩:=ih;rw[if_pos i1];refine⟨rfl,?_⟩;have hgy:=hg y hh;have hy:=(tQ hh).1;have hu:=(gC (zn O) m r).to i4 (S:=l.refs) (k:=6*l.h+2) (fun s hs=>by grind) (by omega)
    have tY:t'.refs=l.refs:=by rw[Tr.refs,i2.its,Tr.refs,← va e l.items,hy];simp
    have vN:t'.elems=(lo O e l.items).map aw++e::((hi O e l.items).tail).map aw:=by rw[Tr.elems,i2.its];simp
    have aab:t'.root=l.root:=i2.root.symm;obtain⟨p1,p2⟩:=D7 Z (m:=(replace O k (aF m r) l.root e).2) (rT.2 (dg.2 ho)) (r:=r) (l:=t') (q:=q) (v:=⟨x,l.root,q.root,⟨(Tr.node r l x q).items.length,S (Tr.node r l x q).elems⟩,((Tr.node r l x q).h:Nat)⟩) i2.rp
     (Rp.frame hu (fun s hs rY=>ry.2.2 s rY s (eV hs) rfl) mf) (by rw[hu.has];exact s_) (by grind) (fun h=>ry.2.1.1 h) aab.symm rfl
     (by rw[vN];rw[hy] at hgy;simpa [gd,Tr.elems] using hgy)
    refine⟨.node r t' x q,⟨rfl,p1,?_,⟨i2.mB,b2,by omega,by omega⟩⟩,by grind[Tr.h],hu.to p2 (fun s hs=>by grind) (by omega)⟩
    rw[Tr.oe,i2.its,hy];simp
  ·rw[if_neg hc]
   by_cases pS:0<O.cmp e x
   ·rw[if_pos pS];obtain⟨e1,e2⟩:=Lr Z hs pS;rw[e1,e2,JY Z hs pS] at hg;rw[e1,e2,JY Z hs pS];have JE:tX O q.items:=(gB.1 hs.right).2;have ih:=II q (k:=k) (m:=aF m r) (dg.2 ho) (mf.aF _) b2 JE (fJ.1 (cf.1 hn).2.1).2 (fun y hy=>Z.right (l.elems++[x]) _ (by
     have:=hg y hy
     simp_all[gd,Tr.elems])) (by omega)
    cases hh:tW O e q.items with
    |none =>
     rw[hh] at ih;obtain⟨i1,i2⟩:=ih;rw[if_neg (by grind)]
     exact⟨i1,(gC _ m r).to i2 (fun s hs=>by simp at hs) (by omega)⟩
    |some y =>
     rw[hh] at ih;obtain⟨i1,t',i2,i3,i4⟩:=ih;rw[if_pos i1];refine⟨rfl,?_⟩;have hgy:=hg y hh;have hy:=(tQ hh).1;have hu:=(gC (zn O) m r).to i4 (S:=q.refs) (k:=6*q.h+2) (fun s hs=>by grind) (by omega)
     have tY:t'.refs=q.refs:=by rw[Tr.refs,i2.its,Tr.refs,← va e q.items,hy];simp
     have vN:t'.elems=(lo O e q.items).map aw++e::((hi O e q.items).tail).map aw:=by rw[Tr.elems,i2.its];simp
     have aab:t'.root=q.root:=i2.root.symm;obtain⟨p1,p2⟩:=D7 Z (m:=(replace O k (aF m r) q.root e).2) (rT.2 (dg.2 ho)) (r:=r) (l:=l) (q:=t') (v:=⟨x,l.root,q.root,⟨(Tr.node r l x q).items.length,S (Tr.node r l x q).elems⟩,((Tr.node r l x q).h:Nat)⟩)
      (Rp.frame hu (fun s hs rY=>ry.2.2 s hs s (eV rY) rfl) lZ) i2.rp (by rw[hu.has];exact s_) (fun h=>ry.2.2 r h r (dK rfl) rfl) (by grind) rfl aab.symm
      (by rw[vN];simpa [gd,Tr.elems] using hgy)
     refine⟨.node r l x t',⟨rfl,p1,?_,⟨b1,i2.mB,by omega,by omega⟩⟩,by grind[Tr.h],hu.to p2 (fun s hs=>by grind) (by omega)⟩
     rw[Tr.oe,i2.its];simp
   ·rw[if_neg pS];have R9:O.cmp e x=0:=by omega
    obtain⟨e1,e2⟩:=Y7 Z hs R9;rw[e1,e2,JA Z hs R9] at hg;rw[e1,e2,JA Z hs R9];have hgy:=hg _ rfl;obtain⟨p1,p2⟩:=D7 Z (m:=aF m r) (dg.2 ho) (r:=r) (l:=l) (q:=q) (v:=⟨e,l.root,q.root,⟨(Tr.node r l x q).items.length,S (Tr.node r l x q).elems⟩,((Tr.node r l x q).h:Nat)⟩)
     (lZ.aF _) (mf.aF _) (by simp[*]) (fun h=>ry.2.2 r h r (dK rfl) rfl) (fun h=>ry.2.1.1 h) rfl rfl (by simp_all[gd,Tr.elems])
    exact⟨by simp,.node r l e q,⟨rfl,p1,rfl,⟨b1,b2,b3,b4⟩⟩,by rfl,(gC _ m r).to p2 (fun s hs=>by grind) (by omega)⟩
theorem K9 {n K:Nat} {e:E}:∀ (t:Tr E) {k:Nat} {m:Po E A},fX n m->Rp O S m t->t.mB->tX O t.items->t.refs.Nodup->gd dk (lo O e t.items++(hi O e t.items).tail)->t.h<k->2*t.h<K ->
  qv O K k m t.root e/\match tW O e t.items with
  |none=>(pick O K k m t.root e).2.1=r0/\(pick O K k m t.root e).1=t.root/\iI [] (2*t.h+1) (zn O) m (pick O K k m t.root e).2.2
  |some x=>(pick O K k m t.root e).2.1=x.1/\∃ t',Is O S (pick O K k m t.root e).2.2 (pick O K k m t.root e).1 (lo O e t.items++(hi O e t.items).tail) t'/\t.h≤t'.h+1/\t'.h≤t.h /\
   iI (rf (lo O e t.items++(hi O e t.items).tail)) (120*t.h+4) (zn O) m (pick O K k m t.root e).2.2
 |t,0,m,_,_,_,_,_,_,hk,_=>by omega
 |.nil,k+1,m,ho,hr,hb,hs,hn,hg,hk,hK=>by
  have h0:(lk O m (Tr.nil (E:=E)).root).h=0:=by rw[(show Rp O S m .nil from trivial).root ho];rfl
  rw[qv,pick,if_pos h0,if_pos h0];exact⟨trivial,rfl,rfl,(gC _ _ _).mono (fun s hs=>hs) (by omega)⟩
 |.node r l x q,k+1,m,ho,⟨s_,mW,lZ,mf⟩,⟨b1,b2,b3,b4⟩,hs,hn,hg,hk,hK=>by
  have h0:¬ (lk O m r).h=0:=by grind[rn,Tr.h]
  simp only[Tr.w6];rw[Tr.oe] at hs hg ⊢;rw[Tr.jL] at hn;rw[qv,pick,if_neg h0,if_neg h0,mW,qY];simp only[Tr.h] at hk hK ⊢;have ry:=hn;simp only[cf,fJ,b5,bP,not_or] at ry
  by_cases hc:O.cmp e x<0
  ·rw[if_pos hc,if_pos hc];obtain⟨e1,e2⟩:=Tl (l:=l.items) (q:=q.items) (r:=r) hc;rw[e1,e2] at hg;rw[e1,e2,JU hc];cases hh:tW O e l.items with
   |none =>
    have Jx:gd dk (lo O e l.items++(hi O e l.items).tail):=by
     cases Kf:hi O e l.items with
     |nil =>
      rw[Kf] at hg;exact Z.left _ (q.elems) (by simp_all[gd,Tr.elems])
     |cons y tl =>
      rw[Kf] at hg;exact Z.left _ (x::q.elems) (by simp_all[gd,Tr.elems])
    have ih:=K9 (K:=K) l (k:=k) (m:=aF m r) (dg.2 ho) (lZ.aF _) b1 hs.left (cf.1 hn).1 Jx (by omega) (by omega)
    rw[hh] at ih;obtain⟨d,i1,i2,i3⟩:=ih;rw[if_pos i1];exact⟨d,i1,rfl,(gC _ m r).to i3 (fun s hs=>by simp at hs) (by omega)⟩
   |some y =>
    have hy:=(tQ hh).1;rw[hy] at hg;have ih:=K9 (K:=K) l (k:=k) (m:=aF m r) (dg.2 ho) (lZ.aF _) b1 hs.left (cf.1 hn).1 (Z.left _ (x::q.elems) (by simpa [gd,Tr.elems] using hg)) (by omega) (by omega)
    rw[hh] at ih;obtain⟨d,i1,t',i2,i3,i4,i5⟩:=ih;have hyr:y.1∈l.refs:=pb.2 ⟨y,(tQ hh).2.2,rfl⟩;have hyn:y.1≠r0:=fun Dl=>by
     have:=lZ.has _ hyr;rw[Dl,ho.z0] at this;cases this
    rw[if_neg (by grind)]
    have nj:∀ s,s∈rf (lo O e l.items++(hi O e l.items).tail)->s∈l.refs:=fun s hs=>by
     rw[Tr.refs,← va e l.items,hy]
     grind
    have hu:=(gC (zn O) m r).to i5 (S:=rf (lo O e l.items++(hi O e l.items).tail)) (k:=120*l.h+5) (fun s hs=>by grind) (by omega)
    have tY:t'.refs=rf (lo O e l.items++(hi O e l.items).tail):=by rw[Tr.refs,i2.its]
    have vN:t'.elems=(lo O e l.items++(hi O e l.items).tail).map aw:=by rw[Tr.elems,i2.its]
    have F7:(rf (lo O e l.items++(hi O e l.items).tail)).Sublist l.refs:=by
     rw[Tr.refs,← va e l.items]
     conv=>rhs;rw[hy]
     simp
    rw[i2.root];obtain⟨u,u1,u2,u3,u4,u5⟩:=yW Z (m:=(pick O K k (aF m r) l.root e).2.2) (xv.2 (dg.2 ho)) (r:=r) (l:=t') (q:=q)
     (v:=⟨x,t'.root,q.root,⟨(Tr.node r l x q).items.length,S (Tr.node r l x q).elems⟩,((Tr.node r l x q).h:Nat)⟩) i2.rp (Rp.frame hu (fun s hs rY=>ry.2.2 s (nj s rY) s (eV hs) rfl) mf)
     (by rw[hu.has];exact s_) (by grind) rfl rfl (by rw[vN];simpa [gd,Tr.elems] using hg) i2.mB b2 (by omega) (by omega)
    refine⟨d,i1,u,⟨u1.root,u1.rp,by rw[u1.its,i2.its,hy];simp,u1.mB⟩,?_,?_,hu.to u5 (fun s hs=>?_) (by omega)⟩
    ·omega
    ·omega
    ·rw[tY] at hs;simp only[rf,dG,b5,gr,bP,mw,List.tail_cons,Tr.refs] at hs ⊢
     grind
  ·rw[if_neg hc,if_neg hc]
   by_cases pS:0<O.cmp e x
   ·rw[if_pos pS,if_pos pS];obtain⟨e1,e2⟩:=Lr Z hs pS;rw[e1,e2] at hg;rw[e1,e2,JY Z hs pS];have JE:tX O q.items:=(gB.1 hs.right).2;have hgq:gd dk (lo O e q.items++(hi O e q.items).tail):=Z.right (l.elems++[x]) _ (by simp_all[gd,Tr.elems])
    have ih:=K9 (K:=K) q (k:=k) (m:=aF m r) (dg.2 ho) (mf.aF _) b2 JE (fJ.1 (cf.1 hn).2.1).2 hgq (by omega) (by omega)
    cases hh:tW O e q.items with
    |none =>
     rw[hh] at ih;obtain⟨d,i1,i2,i3⟩:=ih;rw[if_pos i1];exact⟨d,i1,rfl,(gC _ m r).to i3 (fun s hs=>by simp at hs) (by omega)⟩
    |some y =>
     have hy:=(tQ hh).1;rw[hh] at ih;obtain⟨d,i1,t',i2,i3,i4,i5⟩:=ih;have hyr:y.1∈q.refs:=pb.2 ⟨y,(tQ hh).2.2,rfl⟩;have hyn:y.1≠r0:=fun Dl=>by
      have:=mf.has _ hyr;rw[Dl,ho.z0] at this;cases this
     rw[if_neg (by grind)]
     have F7:(rf (lo O e q.items++(hi O e q.items).tail)).Sublist q.refs:=by
      rw[Tr.refs,← va e q.items]
      conv=>rhs;rw[hy]
      simp
     have hu:=(gC (zn O) m r).to i5 (S:=rf (lo O e q.items++(hi O e q.items).tail)) (k:=120*q.h+5) (fun s hs=>by grind) (by omega)
     have tY:t'.refs=rf (lo O e q.items++(hi O e q.items).tail):=by rw[Tr.refs,i2.its]
     have vN:t'.elems=(lo O e q.items++(hi O e q.items).tail).map aw:=by rw[Tr.elems,i2.its]
     rw[i2.root];obtain⟨u,u1,u2,u3,u4,u5⟩:=yW Z (m:=(pick O K k (aF m r) q.root e).2.2) (xv.2 (dg.2 ho)) (r:=r) (l:=l) (q:=t')
      (v:=⟨x,l.root,t'.root,⟨(Tr.node r l x q).items.length,S (Tr.node r l x q).elems⟩,((Tr.node r l x q).h:Nat)⟩) (Rp.frame hu (fun s hs rY=>ry.2.2 s hs s (eV (F7.subset rY)) rfl) lZ) i2.rp
      (by rw[hu.has];exact s_) (by grind) rfl rfl (by rw[vN];simpa [gd,Tr.elems] using hg) b1 i2.mB (by omega) (by omega)
     refine⟨d,i1,u,⟨u1.root,u1.rp,by rw[u1.its,i2.its];simp,u1.mB⟩,?_,?_,hu.to u5 (fun s hs=>?_) (by omega)⟩
     ·omega
     ·omega
     ·rw[tY] at hs;simp only[rf,dG,b5,gr,bP,Tr.refs] at hs ⊢
      grind
   ·rw[if_neg pS,if_neg pS];have R9:O.cmp e x=0:=by omega
    obtain⟨e1,e2⟩:=Y7 Z hs R9;rw[e1,e2] at hg;rw[e1,e2,JA Z hs R9];obtain⟨d,u,u1,u2,u3,u4⟩:=ahm Z (K:=K) (m:=aF m r) (dg.2 ho) (lZ.aF _) (mf.aF _) (acU (Wp (List.sublist_cons_self r _) _) hn) (by simp_all[gd,Tr.elems]) b1 b2 (by omega)
    refine⟨d,by simp,u,u1,by omega,by omega,(gC _ m r).to u4 (fun s hs=>?_) (by omega)⟩
    simp_all[Tr.refs]
end
end Gv
namespace Gv
open Rx
section
variable {E A:Type} (O:iL E A)
def vh:Nat->Po E A->Node E A->Int->Int->Prop
 |0,_,_,_,_=>False
 |k+1,m,n,from_,to =>
  ¬ mx from_ 0≥mn to n.all.n->¬ (mx from_ 0=0/\mn to n.all.n=n.all.n) ->
   vh k (aF m n.l) (lk O m n.l) (mx from_ 0) (mn to n.all.n) /\
   (¬ mn to n.all.n≤W ((lk O m n.l).all.n+1) ->
    vh k (aF (fW O k (aF m n.l) (lk O m n.l) (mx from_ 0) (mn to n.all.n)).2 n.r) (lk O (fW O k (aF m n.l) (lk O m n.l) (mx from_ 0) (mn to n.all.n)).2 n.r)
     (W (W (mx from_ 0-(lk O m n.l).all.n)-1)) (W (W (mn to n.all.n-(lk O m n.l).all.n)-1)))
def uc:Nat->Po E A->Node E A->E->Prop
 |0,_,_,_=>False
 |k+1,m,n,e=>n.h>0->O.cmp e n.e≠0->(O.cmp e n.e<0->uc k (aF m n.l) (lk O m n.l) e)/\(¬ O.cmp e n.e<0->uc k (aF m n.r) (lk O m n.r) e)
def tE:Nat->Po E A->Node E A->E->Int->Prop
 |0,_,_,_,_=>False
 |k+1,m,n,e,c=>n.h>0->(O.cmp e n.e≤0->tE k (aF m n.l) (lk O m n.l) e c)/\(¬ O.cmp e n.e≤0->tE k (aF m n.r) (lk O m n.r) e (W (c+W (n.all.n-(lk O m n.r).all.n))))
def BW:Nat->Po E A->Node E A->Int->Prop
 |0,_,_,_=>False
 |k+1,m,n,i=>i≠(lk O m n.l).all.n->(i<(lk O m n.l).all.n->BW k (aF m n.l) (lk O m n.l) i) /\
  (¬ i<(lk O m n.l).all.n->BW k (aF (aF m n.l) n.r) (lk O (aF m n.l) n.r) (W (i-W ((lk O m n.l).all.n+1))))
theorem p7 {O:iL E A}:∀ {k:Nat} {m m':Po E A} {r:Ref},Deep O k m r->(∀ s,lk O m' s=lk O m s)->jh O k m' (lk O m r)
 |0,_,_,_,h,_=>h
 |k+1,m,m',r,h,hl=>by
  rcases h with h|h
  ·exact .inl h
  ·exact .inr ⟨(K4 hl).2 h.1,(K4 hl).2 h.2⟩
end
end Gv
namespace Gv
open Rx
section
variable {E A:Type} (O:iL E A)
def fresh (e:E):Node E A:=⟨e,r0,r0,one O e,1⟩
def nS (K:Nat) (m:Po E A) (root:Ref) (e:E):Bool×Ref×Po E A :=
 if(replace O K m root e).1=ao then(ao,root,(replace O K m root e).2)
 else if(replace O K m root e).2.held=(replace O K m root e).2.cap then(an,root,put (zn O) (replace O K m root e).2 (fresh O e))
 else(ao,(kW O K (put (zn O) (replace O K m root e).2 (fresh O e)) root (ma (zn O) (replace O K m root e).2) e).1,(kW O K (put (zn O) (replace O K m root e).2 (fresh O e)) root (ma (zn O) (replace O K m root e).2) e).2)
def QH (K:Nat) (m:Po E A) (root:Ref) (e:E):Prop :=
 Deep O K m root/\((replace O K m root e).2.held≠(replace O K m root e).2.cap->fX 100000 (put (zn O) (replace O K m root e).2 (fresh O e))/\Deep O K (put (zn O) (replace O K m root e).2 (fresh O e)) root)
def qF (K:Nat) (m:Po E A) (root:Ref) (i:Int):(E×Bool)×Po E A :=
 if i<0∨i≥(lk O m root).all.n then((O.e0,an),aF m root)
 else(((rm O K (aF m root) (lk O m root) i).1,ao),(rm O K (aF m root) (lk O m root) i).2)
def AtD (K:Nat) (m:Po E A) (root:Ref) (i:Int):Prop:=¬ i<0->¬ i≥(lk O m root).all.n->BW O K (aF m root) (lk O m root) i
def jM (K:Nat) (m:Po E A) (root:Ref) (e:E):E×Bool×Ref×Po E A :=
 ((lk O (pick O K K m root e).2.2 (pick O K K m root e).2.1).e,has (pick O K K m root e).2.2 (pick O K K m root e).2.1,(pick O K K m root e).1,drop (zn O) (pick O K K m root e).2.2 (pick O K K m root e).2.1)
end
end Gv
namespace Gv
open Rx
set_option linter.unusedSectionVars false
set_option maxHeartbeats 4000000
section
variable {E A:Type} {O:iL E A} {S:List E->A} {dk:List E->Prop} (Z:yZ O S dk)
theorem JD {n:Nat}:∀ (t:Tr E) {k:Nat} {m:Po E A},fX n m->Rp O S m t->t.h<k->(cw O k m t.root).1=t.elems/\∃ kk,iI [] kk (zn O) m (cw O k m t.root).2
 |t,0,m,_,_,hk=>by omega
 |.nil,k+1,m,ho,hr,hk=>by
  have h0:(lk O m (Tr.nil (E:=E)).root).h=0:=by rw[(show Rp O S m .nil from trivial).root ho];rfl
  rw[cw,if_pos h0];exact⟨rfl,_,gC _ _ _⟩
 |.node r l x q,k+1,m,ho,⟨s_,mW,lZ,mf⟩,hk=>by
  have h0:¬ (lk O m r).h=0:=by grind[rn,Tr.h]
  simp only[Tr.w6];simp only[Tr.h] at hk;rw[cw,if_neg h0,mW,qY];obtain⟨i1,k1,i2⟩:=JD l (k:=k) (m:=aF m r) (dg.2 ho) (lZ.aF _) (by omega)
  have hu:=(gC (zn O) m r).to i2 (S:=[]) (fun s hs=>by simp at hs) (a_ _)
  obtain⟨j1,k2,j2⟩:=JD q (k:=k) (m:=(cw O k (aF m r) l.root).2) (qJ.2 (dg.2 ho)) (Rp.frame hu (fun s _ hs=>by cases hs) mf) (by omega)
  exact⟨by grind[Tr.gE],_,hu.to j2 (fun s hs=>by simp at hs) (a_ _)⟩
include Z
theorem UH {n K:Nat} {e:E}:∀ (t:Tr E) {k:Nat} {m:Po E A},fX n m->Rp O S m t->t.mB->tX O t.items->t.refs.Nodup->dk t.elems->t.h<k->2*t.items.length<K ->
  Ko O K k m t.root e/\∃ a b,Is O S (lX O K k m t.root e).2.2 (lX O K k m t.root e).1 (lo O e t.items) a/\Is O S (lX O K k m t.root e).2.2 (lX O K k m t.root e).2.1 (hi O e t.items) b /\
   ∃ kk,iI t.refs kk (zn O) m (lX O K k m t.root e).2.2
 |t,0,m,_,_,_,_,_,_,hk,_=>by omega
 |.nil,k+1,m,ho,hr,hb,hs,hn,hg,hk,hK=>by
  have h0:(lk O m (Tr.nil (E:=E)).root).h=0:=by rw[(show Rp O S m .nil from trivial).root ho];rfl
  rw[Ko,lX,if_pos h0,if_pos h0];exact⟨trivial,.nil,.nil,⟨rfl,trivial,rfl,trivial⟩,⟨rfl,trivial,rfl,trivial⟩,_,(gC _ _ _).mono (fun s hs=>by cases hs) (a_ _)⟩
 |.node r l x q,k+1,m,ho,⟨s_,mW,lZ,mf⟩,⟨b1,b2,b3,b4⟩,hs,hn,hg,hk,hK=>by
  have h0:¬ (lk O m r).h=0:=by grind[rn,Tr.h]
  simp only[Tr.w6];rw[Tr.oe] at hs hK ⊢;rw[Tr.jL] at hn ⊢;rw[Tr.gE] at hg;simp only[bA,cy] at hK;rw[Ko,lX,if_neg h0,if_neg h0,mW,qY];simp only[Tr.h] at hk ⊢;have ry:=hn;simp only[cf,fJ,b5,bP,not_or] at ry;have ss:=q.Aj
  by_cases hc:O.cmp x e<0
  ·rw[if_pos hc,if_pos hc];have pS:0<O.cmp e x:=(Z.swap _ _).1 hc;obtain⟨e1,e2⟩:=Lr Z hs pS;rw[e1,e2];have JE:tX O q.items:=(gB.1 hs.right).2;obtain⟨d,a,b,i1,i2,kk,i3⟩:=UH (K:=K) q (k:=k) (m:=aF m r) (dg.2 ho) (mf.aF _) b2 JE (fJ.1 (cf.1 hn).2.1).2 (Z.right (l.elems++[x]) _ (by grind)) (by omega) (by omega)
   have hu:=(gC (zn O) m r).to i3 (S:=q.refs) (fun s hs=>by grind) (a_ _)
   have OH:a.refs=au aA (lo O e q.items):=by rw[Tr.refs,i1.its]
   have qm:b.refs=au aA (hi O e q.items):=by rw[Tr.refs,i2.its]
   have hq':q.refs=a.refs++b.refs:=by rw[OH,qm,va];rfl
   have hae:q.elems=a.elems++b.elems:=by rw[Tr.elems,Tr.elems,Tr.elems,i1.its,i2.its,← dG,Ax]
   have hah:=a.Aj;have hal:a.items.length≤q.items.length:=by
    have:=congrArg ae (Ax O e q.items);rw[bA] at this;rw[i1.its];omega
   rw[hq'] at hn;have ya:((l.refs++r::a.refs)++b.refs).Nodup:=by grind
   rw[hae] at hg;have hg':dk (l.elems++x::a.elems):=Z.left _ b.elems (by grind)
   have hrx:(lk O (lX O K k (aF m r) q.root e).2.2 r).e=x:=by
    rw[show lk O (lX O K k (aF m r) q.root e).2.2 r=lk O m r from hu.look r (fun h=>ry.2.1.1 h),mW];rfl
   rw[i1.root];obtain⟨d2,u,u1,u2,u3,u4,u5⟩:=G6 Z K l a (m:=(lX O K k (aF m r) q.root e).2.2) (b:=r) (e:=x) (QY.2 (dg.2 ho)) (Rp.frame hu (fun s hs rY=>ry.2.2 s hs s (eV rY) rfl) lZ) i1.rp
    (by rw[hu.has];exact s_) hrx (cf.1 ya).1 hg' b1 i1.mB (by omega)
   refine⟨⟨d,d2⟩,u,b,⟨u1.root,u1.rp,by rw[u1.its,i1.its],u1.mB⟩,⟨i2.root,Rp.frame u5 (fun s hs rY=>(cf.1 ya).2.2 s rY s hs rfl) i2.rp,i2.its,i2.mB⟩,_,hu.to u5 (fun s hs=>?_) (a_ _)⟩
   grind
  ·rw[if_neg hc,if_neg hc];have pS:¬ 0<O.cmp e x:=fun h=>hc ((Z.swap _ _).2 h)
   obtain⟨e1,e2⟩:=aaE (l:=l.items) (q:=q.items) (r:=r) pS;rw[e1,e2];obtain⟨d,a,b,i1,i2,kk,i3⟩:=UH (K:=K) l (k:=k) (m:=aF m r) (dg.2 ho) (lZ.aF _) b1 hs.left (cf.1 hn).1 (Z.left _ _ hg) (by omega) (by omega)
   have hu:=(gC (zn O) m r).to i3 (S:=l.refs) (fun s hs=>by grind) (a_ _)
   have OH:a.refs=au aA (lo O e l.items):=by rw[Tr.refs,i1.its]
   have qm:b.refs=au aA (hi O e l.items):=by rw[Tr.refs,i2.its]
   have Bo:l.refs=a.refs++b.refs:=by rw[OH,qm,va];rfl
   have hle:l.elems=a.elems++b.elems:=by rw[Tr.elems,Tr.elems,Tr.elems,i1.its,i2.its,← dG,Ax]
   have hbh:=b.Aj;have Ay:b.items.length≤l.items.length:=by
    have:=congrArg ae (Ax O e l.items);rw[bA] at this;rw[i2.its];omega
   rw[Bo] at hn;have ya:(a.refs++(b.refs++r::q.refs)).Nodup:=by grind
   rw[hle] at hg;have hg':dk (b.elems++x::q.elems):=Z.right a.elems _ (by grind)
   have hrx:(lk O (lX O K k (aF m r) l.root e).2.2 r).e=x:=by
    rw[show lk O (lX O K k (aF m r) l.root e).2.2 r=lk O m r from hu.look r (fun h=>ry.2.2 r h r (dK rfl) rfl),mW];rfl
   rw[i2.root];obtain⟨d2,u,u1,u2,u3,u4,u5⟩:=G6 Z K b q (m:=(lX O K k (aF m r) l.root e).2.2) (b:=r) (e:=x) (QY.2 (dg.2 ho)) i2.rp (Rp.frame hu (fun s hs rY=>ry.2.2 s rY s (eV hs) rfl) mf)
    (by rw[hu.has];exact s_) hrx (cf.1 ya).2.1 hg' i2.mB b2 (by omega)
   refine⟨⟨d,d2⟩,a,u,⟨i1.root,Rp.frame u5 (fun s hs rY=>(cf.1 ya).2.2 s hs s rY rfl) i1.rp,i1.its,i1.mB⟩,⟨u1.root,u1.rp,by rw[u1.its,i2.its],u1.mB⟩,_,hu.to u5 (fun s hs=>?_) (a_ _)⟩
   grind
theorem Re {n:Nat} {e:E}:∀ (t:Tr E) {k:Nat} {m:Po E A},fX n m->Rp O S m t->tX O t.items->t.h<k ->
  uc O k m (nd O S t) e/\(find O k m (nd O S t) e).1=(match tW O e t.items with
   |none=>(O.e0,an)
   |some x=>(x.2,ao))/\iI [] t.h (zn O) m (find O k m (nd O S t) e).2
 |t,0,m,_,_,_,hk=>by omega
 |.nil,k+1,m,ho,hr,hs,hk=>by
  have h0:¬ (nd O S (Tr.nil (E:=E))).h>0:=by grind[rn,Tr.h]
  exact⟨fun h=>absurd h h0,rfl,iI.refl _ _ _ _⟩
 |.node r l x q,k+1,m,ho,⟨s_,mW,lZ,mf⟩,hs,hk=>by
  have h0:(nd O S (Tr.node r l x q)).h>0:=by grind[rn,Tr.h]
  simp only[Tr.h] at hk ⊢;rw[Tr.oe] at hs ⊢;rw[uc,find,if_pos h0,qY];have kl:lk O m l.root=nd O S l:=lZ.root ho;have kq:lk O m q.root=nd O S q:=mf.root ho;simp only[kl,kq];have il:=Re (e:=e) l (k:=k) (m:=aF m l.root) (dg.2 ho) (lZ.aF _) hs.left (by omega)
  have JE:tX O q.items:=(gB.1 hs.right).2;have iq:=Re (e:=e) q (k:=k) (m:=aF m q.root) (dg.2 ho) (mf.aF _) JE (by omega)
  refine⟨fun _ _=>⟨fun _=>il.1,fun _=>iq.1⟩,?_⟩
  by_cases hc:O.cmp e x=0
  ·rw[if_pos hc,JA Z hs hc]
   grind[iI.refl]
  ·rw[if_neg hc]
   by_cases pS:O.cmp e x<0
   ·rw[if_pos pS,JU pS];exact⟨il.2.1,(gC _ m _).to il.2.2 (fun s hs=>by simp at hs) (by omega)⟩
   ·rw[if_neg pS,JY Z hs (by omega)]
    exact⟨iq.2.1,(gC _ m _).to iq.2.2 (fun s hs=>by simp at hs) (by omega)⟩
theorem Rh {n:Nat} {e:E}:∀ (t:Tr E) {k:Nat} {m:Po E A} {c:Int},fX n m->Rp O S m t->tX O t.items->t.h<k->0≤c->c+t.items.length≤2000000 ->
  tE O k m (nd O S t) e c/\(ky O k m (nd O S t) e c).1=c+(lo O e t.items).length/\iI [] (2*t.h) (zn O) m (ky O k m (nd O S t) e c).2
 |t,0,m,c,_,_,_,hk,_,_=>by omega
 |.nil,k+1,m,c,ho,hr,hs,hk,Dl,Of=>by
  have h0:¬ (nd O S (Tr.nil (E:=E))).h>0:=by grind[rn,Tr.h]
  rw[tE,ky,if_neg h0];exact⟨fun h=>absurd h h0,by simp[lo,Tr.items],iI.refl _ _ _ _⟩
 |.node r l x q,k+1,m,c,ho,⟨s_,mW,lZ,mf⟩,hs,hk,Dl,Of=>by
  have h0:(nd O S (Tr.node r l x q)).h>0:=by grind[rn,Tr.h]
  simp only[Tr.h] at hk ⊢;have pX:=rJ (O:=O) (S:=S) Z.nil (.node r l x q);rw[Tr.oe] at hs Of ⊢;simp only[bA,cy] at Of;rw[tE,ky,if_pos h0];have kl:lk O m l.root=nd O S l:=lZ.root ho;have kq:lk O m q.root=nd O S q:=mf.root ho;have e1:(nd O S (Tr.node r l x q)).l=l.root:=rfl;have e2:(nd O S (Tr.node r l x q)).r=q.root:=rfl;have e3:(nd O S (Tr.node r l x q)).e=x:=rfl;have hv:W (c+W ((nd O S (Tr.node r l x q)).all.n-(nd O S q).all.n))=c+(l.items.length+1:Nat):=by
   rw[pX,rJ Z.nil]
   grind[Tr.oe,uD]
  rw[e1,e2,e3];simp only[kl,kq];rw[hv];have JE:tX O q.items:=(gB.1 hs.right).2;have il:=Rh (e:=e) l (k:=k) (m:=aF m l.root) (c:=c) (dg.2 ho) (lZ.aF _) hs.left (by omega) Dl (by omega)
  have iq:=Rh (e:=e) q (k:=k) (m:=aF m q.root) (c:=c+(l.items.length+1:Nat)) (dg.2 ho) (mf.aF _) JE (by omega) (by omega) (by omega)
  refine⟨fun _=>⟨fun _=>il.1,fun _=>iq.1⟩,?_⟩
  by_cases hc:O.cmp e x≤0
  ·rw[if_pos hc,(aaE (by omega)).1]
   exact⟨il.2.1,(gC _ m _).to il.2.2 (fun s hs=>by simp at hs) (by omega)⟩
  ·rw[if_neg hc,(Lr Z hs (by omega)).1]
   refine⟨?_,(gC _ m _).to iq.2.2 (fun s hs=>by simp at hs) (by omega)⟩
   grind
theorem UU {n:Nat}:∀ (t:Tr E) {k:Nat} {m:Po E A} {i:Nat},fX n m->Rp O S m t->t.items.length≤1000000->t.h<k->i<t.items.length ->
  BW O k m (nd O S t) i/\(rm O k m (nd O S t) i).1=t.elems.getD i O.e0/\iI [] (2*t.h) (zn O) m (rm O k m (nd O S t) i).2
 |t,0,m,i,_,_,_,hk,_=>by omega
 |.nil,k+1,m,i,ho,hr,hg,hk,hi=>by simp[Tr.items] at hi
 |.node r l x q,k+1,m,i,ho,⟨s_,mW,lZ,mf⟩,hg,hk,hi=>by
  simp only[Tr.h] at hk ⊢;rw[Tr.oe] at hg hi;simp only[bA,cy] at hg hi;rw[BW,rm];have kl:lk O m l.root=nd O S l:=lZ.root ho;have kq:lk O m q.root=nd O S q:=mf.root ho;have e1:(nd O S (Tr.node r l x q)).l=l.root:=rfl;have e2:(nd O S (Tr.node r l x q)).r=q.root:=rfl;have e3:(nd O S (Tr.node r l x q)).e=x:=rfl;have e4:(nd O S l).all.n=l.items.length:=by rw[rJ Z.nil]
  rw[e1,e2,e3];simp only[ik,kl,kq,e4];have w1:W (((l.items.length:Nat):Int)+1)=(l.items.length:Int)+1:=uD (by omega)
  rw[w1,Tr.gE];have hle:l.elems.length=l.items.length:=Tr.e8 l
  by_cases h1:(i:Int)=(l.items.length:Int)
  ·rw[if_pos h1];refine⟨fun h=>absurd h1 h,?_,(gC _ m _).mono (fun s hs=>hs) (by omega)⟩
   grind
  ·rw[if_neg h1]
   by_cases h2:(i:Int)<(l.items.length:Int)
   ·rw[if_pos h2];obtain⟨i1,i2,i3⟩:=UU l (k:=k) (m:=aF m l.root) (i:=i) (dg.2 ho) (lZ.aF _) (by omega) (by omega) (by omega)
    refine⟨fun _=>⟨fun _=>i1,fun h=>absurd h2 h⟩,?_,(gC _ m _).to i3 (fun s hs=>by simp at hs) (by omega)⟩
    grind
   ·rw[if_neg h2];have w2:W ((i:Int)-((l.items.length:Int)+1))=((i-(l.items.length+1):Nat):Int):=by grind[uD]
    rw[w2];obtain⟨i1,i2,i3⟩:=UU q (k:=k) (m:=aF (aF m l.root) q.root) (i:=i-(l.items.length+1)) (dg.2 (dg.2 ho)) ((mf.aF _).aF _) (by omega) (by omega) (by omega)
    refine⟨fun _=>⟨fun h=>absurd h h2,fun _=>i1⟩,?_,(tO m _ _).to i3 (fun s hs=>by simp at hs) (by omega)⟩
    grind
def sub (l:List E) (a b:Nat):List E:=(l.drop a).take (b-a)
omit Z in
theorem aef (L Q:List E) (x:E) {a b:Nat} (Jj:a≤b):sub (L++x::Q) a b=sub L a b++((if a≤L.length/\L.length<b then[x] else[])++sub Q (a-(L.length+1)) (b-(L.length+1))):=by
 unfold sub;rw[List.drop_append,List.take_append]
 congr 1
 rw[List.length_drop]
 by_cases h1:a≤L.length
 ·rw[show a-L.length=0 by omega,so,show a-(L.length+1)=0 by omega,so]
  by_cases h2:L.length<b
  ·rw[if_pos ⟨h1,h2⟩,show b-a-(L.length-a)=(b-(L.length+1))+1 by omega,List.take_succ_cons]
   rfl
  ·rw[if_neg (by omega),show b-a-(L.length-a)=0 by omega,show b-(L.length+1)-0=0 by omega]
   simp
 ·rw[if_neg (by omega),show a-L.length=(a-(L.length+1))+1 by omega,List.drop_succ_cons,pd]
  grind
theorem adE {l:List E} (a b:Nat) (h:dk l):dk (sub l a b):=by
 unfold sub;have h1:dk (l.drop a):=Z.right (l.take a) _ (by simp[*])
 exact Z.left _ ((l.drop a).drop (b-a)) (by grind[List.take_append_drop])
omit Z in
theorem Ny {l:List E} {a b:Nat} (h:b≤a∨l.length≤a):sub l a b=[]:=by
 unfold sub;rcases h with h|h
 all_goals simp[*]
omit Z in
theorem XU (l:List E) (a b:Nat):sub l a (min b l.length)=sub l a b:=by grind[sub,List.take_of_length_le]
def cost (h s:Nat) (f u:Int):Nat:=if(max f 0≥min u s)∨(f≤0/\u≥s) then 0 else if f≤0∨u≥s then 2*h else 4*h
omit Z in
theorem QE (h s:Nat) (f u:Int):cost h s f u≤4*h/\(f≤0∨u≥s->cost h s f u≤2*h)/\((max f 0≥min u s)∨(f≤0/\u≥s)->cost h s f u=0):=by
 unfold cost
 grind
omit Z in
theorem XO {h s:Nat} {f u:Int} (h1:¬ ((max f 0≥min u s)∨(f≤0/\u≥s))):cost h s f u=if f≤0∨u≥s then 2*h else 4*h:=by simp_all[cost,if_neg]
theorem H5 {n:Nat}:∀ (t:Tr E) {k:Nat} {m:Po E A} {f u:Int},fX n m->Rp O S m t->dk t.elems->t.h<k ->
  vh O k m (nd O S t) f u/\(fW O k m (nd O S t) f u).1=⟨(sub t.elems f.toNat u.toNat).length,S (sub t.elems f.toNat u.toNat)⟩/\iI [] (cost t.h t.elems.length f u) (zn O) m (fW O k m (nd O S t) f u).2
 |t,0,m,f,u,_,_,_,hk=>by omega
 |.nil,k+1,m,f,u,ho,hr,hg,hk=>by
  have pX:(nd O S (Tr.nil (E:=E))).all.n=0:=rfl;have hc:mx f 0≥mn u (nd O S (Tr.nil (E:=E))).all.n:=by grind[mx,mn]
  rw[vh,fW,if_pos hc];refine⟨fun h=>absurd hc h,?_,iI.refl _ _ _ _⟩
  rw[Ny (.inr (du _)),← Z.nil]
  rfl
 |.node r l x q,k+1,m,f,u,ho,⟨s_,mW,lZ,mf⟩,hg,hk=>by
  simp only[Tr.h] at hk ⊢;have hlen:=Z.len _ hg;have pX:=rJ (O:=O) (S:=S) Z.nil (.node r l x q);rw[← Tr.e8] at pX;have kl:lk O m l.root=nd O S l:=lZ.root ho;have kq:lk O m q.root=nd O S q:=mf.root ho;have e1:(nd O S (Tr.node r l x q)).l=l.root:=rfl;have e2:(nd O S (Tr.node r l x q)).r=q.root:=rfl;have e3:(nd O S (Tr.node r l x q)).e=x:=rfl;have e4:(nd O S l).all.n=l.elems.length:=by rw[rJ Z.nil,Tr.e8]
  rw[vh,fW,e1,e2,e3,pX];rw[Tr.gE] at hg hlen ⊢;simp only[kl,e4,Dx,ik,kq];generalize hL:(l.elems++x::q.elems)=L at *
  have RY:L.length=l.elems.length+(q.elems.length+1):=by grind
  obtain⟨a,ha⟩:∃ a:Nat,mx f 0=a:=⟨f.toNat,by grind[mx]⟩
  have OH:a=f.toNat:=by grind[mx]
  by_cases c1:mx f 0≥mn u L.length
  ·rw[if_pos c1];refine⟨fun h=>absurd c1 h,?_,iI.refl _ _ _ _⟩
   have:min u.toNat L.length≤a:=by grind[mn]
   rw[← XU,← OH,Ny (.inl this),← Z.nil]
   rfl
  ·rw[if_neg c1];obtain⟨b,hb⟩:∃ b:Nat,mn u L.length=b:=⟨min u.toNat L.length,by grind[mn]⟩
   have qm:b=min u.toNat L.length:=by grind[mn]
   have nj:sub L f.toNat u.toNat=sub L a b:=by grind[XU]
   rw[nj];rw[ha,hb] at c1 ⊢;have Jj:a<b:=by omega
   by_cases c2:(a:Int)=0/\(b:Int)=L.length
   ·rw[if_pos c2];refine⟨fun _ h=>absurd c2 h,?_,iI.refl _ _ _ _⟩
    have:sub L a b=L:=by
     unfold sub;rw[show a=0 by omega,so,show b-0=L.length by omega,List.take_length]
    rw[this]
   ·rw[if_neg c2];have Jx:dk l.elems:=Z.left _ (x::q.elems) (by grind)
    have hgq:dk q.elems:=Z.right (l.elems++[x]) _ (by grind)
    have ih1:=H5 l (k:=k) (m:=aF m l.root) (f:=a) (u:=b) (dg.2 ho) (lZ.aF _) Jx (by omega)
    simp only[iF] at ih1;obtain⟨d1,v1,u1⟩:=ih1;have hu1:=(gC (zn O) m l.root).to u1 (S:=[]) (k:=cost l.h l.elems.length a b+1) (fun s hs=>by simp at hs) (by omega)
    have w1:W ((l.elems.length:Int)+1)=(l.elems.length:Int)+1:=uD (by omega)
    have w2:W (W ((a:Int)-(l.elems.length:Int))-1)=(a:Int)-l.elems.length-1:=by grind[uD]
    have w3:W (W ((b:Int)-(l.elems.length:Int))-1)=(b:Int)-l.elems.length-1:=by grind[uD]
    rw[w1,w2,w3,v1];have hsn:=aef l.elems q.elems x (a:=a) (b:=b) (by omega)
    rw[hL] at hsn;have hgs:=adE Z a b hg;rw[hsn] at hgs ⊢
    have aec:(if(a:Int)≤(l.elems.length:Int)/\(l.elems.length:Int)<(b:Int) then dY O ⟨(sub l.elems a b).length,S (sub l.elems a b)⟩ (one O x) else⟨(sub l.elems a b).length,S (sub l.elems a b)⟩) =
      ⟨(sub l.elems a b++(if a≤l.elems.length/\l.elems.length<b then[x] else[])).length,S (sub l.elems a b++(if a≤l.elems.length/\l.elems.length<b then[x] else[]))⟩:=by
     by_cases c3:a≤l.elems.length/\l.elems.length<b
     ·rw[if_pos (by omega),if_pos c3]
      rw[if_pos c3] at hgs;rw[Bs Z,pC Z (Z.left _ (sub q.elems (a-(l.elems.length+1)) (b-(l.elems.length+1))) (by grind))]
     grind
    rw[aec]
    by_cases c4:(b:Int)≤(l.elems.length:Int)+1
    ·rw[if_pos c4];refine⟨fun _ _=>⟨d1,fun h=>absurd c4 h⟩,?_,hu1.mono (fun s hs=>hs) ?_⟩
     all_goals grind[QE,XO,Ny]
    ·rw[if_neg c4];obtain⟨d2,v2,u2⟩:=H5 q (k:=k) (m:=aF (fW O k (aF m l.root) (nd O S l) a b).2 q.root) (f:=(a:Int)-l.elems.length-1) (u:=(b:Int)-l.elems.length-1) (dg.2 (OI.2 (dg.2 ho)))
      ((Rp.frame hu1 (fun s _ hs=>by cases hs) mf).aF _) hgq (by omega)
     refine⟨fun _ _=>⟨d1,fun _=>d2⟩,?_,(hu1.to (gC _ _ q.root) (S:=[]) (k:=cost l.h l.elems.length a b+2) (fun s hs=>by simp at hs) (by omega)).to u2 (fun s hs=>by simp at hs) ?_⟩
     ·grind[pC]
     grind[QE,XO]
end
end Gv
namespace Gv
open Rx
set_option linter.unusedSectionVars false
section
variable {E A:Type} {O:iL E A} {S:List E->A} {dk:List E->Prop} (Z:yZ O S dk)
structure Asks (O:iL E A) (S:List E->A) (may:A->A->Bool) (P:Nat->Bool) (L:List E):Prop where
 at_:∀ p x q,p++x::q=L->P p.length=may (S p) (O.sum x)
 mon:∀ p l q,p++(l++q)=L->∀ i,p.length≤i->i<p.length+l.length->P i=ao->may (S p) (S l)=ao
def BS (P:Nat->Bool) (a b:Nat) (from_ r:Int):Prop :=
 (r = -1/\∀ i:Nat,a≤i->i<b->from_≤i->P i=an)∨(∃ j:Nat,r=j/\a≤j/\j<b/\from_≤j/\P j=ao/\∀ i:Nat,a≤i->i<j->from_≤i->P i=an)
def E4 (P:Nat->Bool) (a b:Nat) (to r:Int):Prop :=
 (r = -1/\∀ i:Nat,a≤i->i<b->(i:Int)<to->P i=an)∨(∃ j:Nat,r=j/\a≤j/\j<b/\(j:Int)<to/\P j=ao/\∀ i:Nat,j<i->i<b->(i:Int)<to->P i=an)
include Z
theorem HV {n:Nat} {may:A->A->Bool} {P:Nat->Bool} {L:List E} {f:Int} (hA:Asks O S may P L) (hg:dk L):∀ (t:Tr E) {k:Nat} {m:Po E A} {p s:List E},fX n m->Rp O S m t->p++(t.elems++s)=L->t.h<k ->
  BS P p.length (p.length+t.elems.length) f (first O may k m (nd O S t) ⟨p.length,S p⟩ f).1/\∃ kk,iI [] kk (zn O) m (first O may k m (nd O S t) ⟨p.length,S p⟩ f).2
 |t,0,m,p,s,_,_,_,hk=>by omega
 |.nil,k+1,m,p,s,ho,hr,hL,hk=>by
  rw[first,if_pos (.inl (by rw[rn];rfl))]
  exact⟨.inl ⟨rfl,fun i h1 h2=>by simp[Tr.elems,Tr.items] at h2;omega⟩,0,iI.refl _ _ _ _⟩
 |.node r l x q,k+1,m,p,s,ho,⟨s_,mW,lZ,mf⟩,hL,hk=>by
  simp only[Tr.h] at hk;have hlen:=Z.len _ hg;have pX:=rJ (O:=O) (S:=S) Z.nil (.node r l x q);rw[← Tr.e8] at pX;have kl:lk O m l.root=nd O S l:=lZ.root ho;have kq:lk O m q.root=nd O S q:=mf.root ho;have e1:(nd O S (Tr.node r l x q)).l=l.root:=rfl;have e2:(nd O S (Tr.node r l x q)).r=q.root:=rfl;have e3:(nd O S (Tr.node r l x q)).e=x:=rfl;have e5:¬ (nd O S (Tr.node r l x q)).h=0:=by rw[rn];simp only[Tr.h];omega
  have RY:=congrArg ae hL;rw[Tr.gE] at hL;have Va:p++(l.elems++(x::q.elems++s))=L:=by simpa using hL
  have Ou:(p++l.elems)++x::(q.elems++s)=L:=by simpa using hL
  have Kr:(p++l.elems++[x])++(q.elems++s)=L:=by simpa using hL
  have adw:=hA.mon p (Tr.node r l x q).elems s (by rw[Tr.gE];exact hL)
  rw[first,e1,e2,e3,pX]
  simp only[kl,kZ,ik,kq,rJ Z.nil,← Tr.e8];simp only[bA] at RY;have F7:(Tr.node r l x q).elems.length=l.elems.length+(q.elems.length+1):=by rw[Tr.gE];simp
  have w1:W ((p.length:Int)+((Tr.node r l x q).elems.length:Int))=(p.length:Int)+(Tr.node r l x q).elems.length:=uD (by omega)
  rw[w1]
  by_cases c1:(nd O S (Tr.node r l x q)).h=0∨(p.length:Int)+(Tr.node r l x q).elems.length≤f
  ·rw[if_pos c1];refine⟨.inl ⟨rfl,fun i h1 h2 h3=>?_⟩,0,iI.refl _ _ _ _⟩
   rcases c1 with c1|c1
   ·exact absurd c1 e5
   ·omega
  ·rw[if_neg c1]
   by_cases c2:(p.length:Int)≥f/\may (S p) (S (Tr.node r l x q).elems)=an
   ·rw[if_pos c2];refine⟨.inl ⟨rfl,fun i h1 h2 h3=>?_⟩,0,iI.refl _ _ _ _⟩
    cases hP:P i with
    |false=>rfl
    |true=>have:=adw i h1 h2 hP;rw[c2.2] at this;cases this
   ·rw[if_neg c2];obtain⟨i1,kk,i2⟩:=HV hA hg l (k:=k) (m:=aF m l.root) (p:=p) (s:=x::q.elems++s) (dg.2 ho) (lZ.aF _) Va (by omega)
    have hu:=(gC (zn O) m l.root).to i2 (S:=[]) (fun s hs=>by simp at hs) (a_ _)
    by_cases c3:(first O may k (aF m l.root) (nd O S l) ⟨p.length,S p⟩ f).1≥0
    ·rw[if_pos c3];refine⟨?_,_,hu⟩;rcases i1 with⟨h1,_⟩|⟨j,h1,h2,h3,h4,h5,h6⟩
     ·omega
     ·exact .inr ⟨j,h1,h2,by omega,h4,h5,h6⟩
    ·rw[if_neg c3];have CM:∀ i:Nat,p.length≤i->i<p.length+l.elems.length->f≤i->P i=an:=by
      rcases i1 with⟨_,h⟩|⟨j,h1,_⟩
      ·exact h
      ·omega
     have Jx:dk (p++l.elems):=Z.left _ (x::(q.elems++s)) (by rw[Ou];exact hg)
     have UB:dk ((p++l.elems)++[x]):=Z.left _ (q.elems++s) (by rw[Kr];exact hg)
     rw[pC Z Jx,Bs Z,pC Z UB];have hPx:=hA.at_ (p++l.elems) x (q.elems++s) Ou;have Jk:(p++l.elems).length=p.length+l.elems.length:=by simp
     by_cases c4:((p++l.elems).length:Int)≥f/\may (S (p++l.elems)) (O.sum x)=ao
     ·rw[if_pos c4];refine⟨.inr ⟨(p++l.elems).length,rfl,by omega,by omega,c4.1,by rw[hPx];exact c4.2,fun i h1 h2 h3=>CM i h1 (by omega) h3⟩,_,hu⟩
     ·rw[if_neg c4];obtain⟨j1,PR,j2⟩:=HV hA hg q (k:=k) (m:=aF (first O may k (aF m l.root) (nd O S l) ⟨p.length,S p⟩ f).2 q.root) (p:=p++l.elems++[x]) (s:=s) (dg.2 (MU.2 (dg.2 ho)))
       ((Rp.frame hu (fun s _ hs=>by cases hs) mf).aF _) Kr (by omega)
      refine⟨?_,_,(hu.to (gC _ _ q.root) (S:=[]) (fun s hs=>by simp at hs) (a_ _)).to j2 (fun s hs=>by simp at hs) (a_ _)⟩
      have AI:(p++l.elems++[x]).length=p.length+l.elems.length+1:=by simp;omega
      have VO:f≤(p++l.elems).length->P (p++l.elems).length=an:=fun h=>by
       rw[hPx];cases hm:may (S (p++l.elems)) (O.sum x) with
       |false=>rfl
       |true=>exact absurd ⟨h,hm⟩ c4
      have PS:∀ i:Nat,p.length≤i->i<p.length+l.elems.length+1->f≤i->P i=an:=fun i h1 h2 h3=>by
       rcases cr i (p.length+l.elems.length) with h4|h4
       ·exact CM i h1 h4 h3
       ·have:i=(p++l.elems).length:=by omega
        rw[this];exact VO (by omega)
      rcases j1 with⟨h1,h2⟩|⟨j,h1,h2,h3,h4,h5,h6⟩
      ·refine .inl ⟨h1,fun i g1 g2 g3=>?_⟩
       rcases cr i (p.length+l.elems.length+1) with h4|h4
       ·exact PS i g1 h4 g3
       ·exact h2 i (by rw[AI];exact h4) (by rw[AI];omega) g3
      ·rw[AI] at h2 h3 h6;refine .inr ⟨j,h1,by omega,by omega,h4,h5,fun i g1 g2 g3=>?_⟩
       rcases cr i (p.length+l.elems.length+1) with h7|h7
       ·exact PS i g1 h7 g3
       ·exact h6 i h7 g2 g3
theorem Lu {n:Nat} {may:A->A->Bool} {P:Nat->Bool} {L:List E} {u:Int} (hA:Asks O S may P L) (hg:dk L):∀ (t:Tr E) {k:Nat} {m:Po E A} {p s:List E},fX n m->Rp O S m t->p++(t.elems++s)=L->t.h<k ->
  E4 P p.length (p.length+t.elems.length) u (last O may k m (nd O S t) ⟨p.length,S p⟩ u).1/\∃ kk,iI [] kk (zn O) m (last O may k m (nd O S t) ⟨p.length,S p⟩ u).2
 |t,0,m,p,s,_,_,_,hk=>by omega
 |.nil,k+1,m,p,s,ho,hr,hL,hk=>by
  rw[last,if_pos (.inl (by rw[rn];rfl))]
  exact⟨.inl ⟨rfl,fun i h1 h2=>by simp[Tr.elems,Tr.items] at h2;omega⟩,0,iI.refl _ _ _ _⟩
 |.node r l x q,k+1,m,p,s,ho,⟨s_,mW,lZ,mf⟩,hL,hk=>by
  simp only[Tr.h] at hk;have hlen:=Z.len _ hg;have pX:=rJ (O:=O) (S:=S) Z.nil (.node r l x q);rw[← Tr.e8] at pX;have kl:lk O m l.root=nd O S l:=lZ.root ho;have kq:lk O m q.root=nd O S q:=mf.root ho;have e1:(nd O S (Tr.node r l x q)).l=l.root:=rfl;have e2:(nd O S (Tr.node r l x q)).r=q.root:=rfl;have e3:(nd O S (Tr.node r l x q)).e=x:=rfl;have e5:¬ (nd O S (Tr.node r l x q)).h=0:=by rw[rn];simp only[Tr.h];omega
  have RY:=congrArg ae hL;rw[Tr.gE] at hL;have Va:p++(l.elems++(x::q.elems++s))=L:=by simpa using hL
  have Ou:(p++l.elems)++x::(q.elems++s)=L:=by simpa using hL
  have Kr:(p++l.elems++[x])++(q.elems++s)=L:=by simpa using hL
  have adw:=hA.mon p (Tr.node r l x q).elems s (by rw[Tr.gE];exact hL)
  rw[last,e1,e2,e3,pX];simp only[kl,mj,ik,kq,rJ Z.nil,← Tr.e8];simp only[bA] at RY;have F7:(Tr.node r l x q).elems.length=l.elems.length+(q.elems.length+1):=by rw[Tr.gE];simp
  have w1:W ((p.length:Int)+((Tr.node r l x q).elems.length:Int))=(p.length:Int)+(Tr.node r l x q).elems.length:=uD (by omega)
  rw[w1]
  by_cases c1:(nd O S (Tr.node r l x q)).h=0∨(p.length:Int)≥u
  ·rw[if_pos c1];refine⟨.inl ⟨rfl,fun i h1 h2 h3=>?_⟩,0,iI.refl _ _ _ _⟩
   rcases c1 with c1|c1
   ·exact absurd c1 e5
   ·omega
  ·rw[if_neg c1]
   by_cases c2:(p.length:Int)+(Tr.node r l x q).elems.length≤u/\may (S p) (S (Tr.node r l x q).elems)=an
   ·rw[if_pos c2];refine⟨.inl ⟨rfl,fun i h1 h2 h3=>?_⟩,0,iI.refl _ _ _ _⟩
    cases hP:P i with
    |false=>rfl
    |true=>have:=adw i h1 h2 hP;rw[c2.2] at this;cases this
   ·rw[if_neg c2];have Jx:dk (p++l.elems):=Z.left _ (x::(q.elems++s)) (by rw[Ou];exact hg)
    have UB:dk ((p++l.elems)++[x]):=Z.left _ (q.elems++s) (by rw[Kr];exact hg)
    rw[pC Z Jx,Bs Z,pC Z UB];obtain⟨i1,kk,i2⟩:=Lu hA hg q (k:=k) (m:=aF (aF m l.root) q.root) (p:=p++l.elems++[x]) (s:=s) (dg.2 (dg.2 ho)) ((mf.aF _).aF _) Kr (by omega)
    have hu:=(tO (O:=O) m l.root q.root).to i2 (S:=[]) (fun s hs=>by simp at hs) (a_ _)
    have AI:(p++l.elems++[x]).length=p.length+l.elems.length+1:=by simp;omega
    have Jk:(p++l.elems).length=p.length+l.elems.length:=by simp
    have hPx:=hA.at_ (p++l.elems) x (q.elems++s) Ou
    by_cases c3:(last O may k (aF (aF m l.root) q.root) (nd O S q) ⟨(p++l.elems++[x]).length,S (p++l.elems++[x])⟩ u).1≥0
    ·rw[if_pos c3];refine⟨?_,_,hu⟩;rcases i1 with⟨h1,_⟩|⟨j,h1,h2,h3,h4,h5,h6⟩
     ·omega
     ·rw[AI] at h2 h3;exact .inr ⟨j,h1,by omega,by omega,h4,h5,fun i g1 g2 g3=>h6 i g1 (by rw[AI];omega) g3⟩
    ·rw[if_neg c3];have CM:∀ i:Nat,p.length+l.elems.length+1≤i->i<p.length+(Tr.node r l x q).elems.length->(i:Int)<u->P i=an:=by
      rcases i1 with⟨_,h⟩|⟨j,h1,_⟩
      ·exact fun i g1 g2 g3=>h i (by rw[AI];exact g1) (by rw[AI];omega) g3
      ·omega
     by_cases c4:((p++l.elems).length:Int)<u/\may (S (p++l.elems)) (O.sum x)=ao
     ·rw[if_pos c4];refine⟨.inr ⟨(p++l.elems).length,rfl,by omega,by omega,c4.1,by rw[hPx];exact c4.2,fun i h1 h2 h3=>CM i (by omega) h2 h3⟩,_,hu⟩
     ·rw[if_neg c4];obtain⟨j1,PR,j2⟩:=Lu hA hg l (k:=k) (m:=(last O may k (aF (aF m l.root) q.root) (nd O S q) ⟨(p++l.elems++[x]).length,S (p++l.elems++[x])⟩ u).2) (p:=p) (s:=x::q.elems++s) (QM.2 (dg.2 (dg.2 ho)))
       (Rp.frame hu (fun s _ hs=>by cases hs) lZ) Va (by omega)
      refine⟨?_,_,hu.to j2 (S:=[]) (fun s hs=>by simp at hs) (a_ _)⟩
      have VO:((p++l.elems).length:Int)<u->P (p++l.elems).length=an:=fun h=>by
       rw[hPx];cases hm:may (S (p++l.elems)) (O.sum x) with
       |false=>rfl
       |true=>exact absurd ⟨h,hm⟩ c4
      have PS:∀ i:Nat,p.length+l.elems.length≤i->i<p.length+(Tr.node r l x q).elems.length->(i:Int)<u->P i=an:=fun i h1 h2 h3=>by
       rcases cr (p.length+l.elems.length) i with h4|h4
       ·exact CM i h4 h2 h3
       ·have:i=(p++l.elems).length:=by omega
        rw[this];exact VO (by omega)
      rcases j1 with⟨h1,h2⟩|⟨j,h1,h2,h3,h4,h5,h6⟩
      ·refine .inl ⟨h1,fun i g1 g2 g3=>?_⟩
       rcases cr i (p.length+l.elems.length) with h4|h4
       ·exact h2 i g1 h4 g3
       ·exact PS i h4 g2 g3
      ·refine .inr ⟨j,h1,h2,by omega,h4,h5,fun i g1 g2 g3=>?_⟩
       rcases cr i (p.length+l.elems.length) with h7|h7
       ·exact h6 i g1 h7 g3
       ·exact PS i h7 g2 g3
end
end Gv
namespace Gv
open Rx
set_option linter.unusedSectionVars false
section
variable {E A:Type} (O:iL E A)
def ox (e:E) (l:List E):List E:=l.takeWhile fun x=>decide (0<O.cmp e x)
def sf (e:E) (l:List E):List E:=l.dropWhile fun x=>decide (0<O.cmp e x)
def jw (e:E) (l:List E):Option E :=
 match sf O e l with
 |[]=>aj
 |x::_=>if O.cmp e x=0 then aa x else aj
def uf (l:List E):Prop:=l.Pairwise fun a b=>O.cmp a b<0
def lu (e:E) (l:List E):List E :=
 match jw O e l with
 |none=>ox O e l++e::sf O e l
 |some _=>ox O e l++e::(sf O e l).tail
def ng (e:E) (l:List E):List E :=
 match jw O e l with
 |none=>l
 |some _=>ox O e l++(sf O e l).tail
variable {O}
theorem GZ (e:E) (l:List E):ox O e l++sf O e l=l:=Af
theorem Lh (e:E) (l:List (Ref×E)):(lo O e l).map aw=ox O e (l.map aw):=by
 unfold lo ox;rw[List.takeWhile_map]
 rfl
theorem Lv (e:E) (l:List (Ref×E)):(hi O e l).map aw=sf O e (l.map aw):=by
 unfold hi sf;rw[List.dropWhile_map]
 rfl
theorem MY (e:E) (l:List (Ref×E)):(tW O e l).map aw=jw O e (l.map aw):=by
 grind[tW,jw,Lv]
theorem xR {l:List (Ref×E)}:uf O (l.map aw)↔tX O l:=by simp_all[uf,tX,List.pairwise_map]
theorem Uv (e:E) (l:List (Ref×E)):(hi O e l).tail.map aw=(sf O e (l.map aw)).tail:=by
 rw[← Lv,List.map_tail]
theorem xP {e y:E} {l:List E} (h:0<O.cmp e y):ox O e (y::l)=y::ox O e l/\sf O e (y::l)=sf O e l/\jw O e (y::l)=jw O e l/\lu O e (y::l)=y::lu O e l/\ng O e (y::l)=y::ng O e l:=by
 have h1:ox O e (y::l)=y::ox O e l:=by simp_all[ox]
 have h2:sf O e (y::l)=sf O e l:=by simp_all[sf]
 have h3:jw O e (y::l)=jw O e l:=by grind[jw]
 refine⟨h1,h2,h3,?_,?_⟩
 ·unfold lu;rw[h1,h2,h3];split<;>rfl
 grind[ng]
theorem MX {e y:E} {l:List E} (h:¬ 0<O.cmp e y):ox O e (y::l)=[]/\sf O e (y::l)=y::l:=by simp_all[ox,sf]
theorem DS {e y:E} {l:List E} (h:O.cmp e y=0):jw O e (y::l)=aa y/\lu O e (y::l)=e::l/\ng O e (y::l)=l:=by simp_all[MX,jw,lu,ng]
theorem DZ {e y:E} {l:List E} (h:O.cmp e y<0):jw O e (y::l)=aj/\lu O e (y::l)=e::y::l/\ng O e (y::l)=y::l:=by
 obtain⟨h1,h2⟩:=MX (O:=O) (e:=e) (y:=y) (l:=l) (by omega)
 have h3:jw O e (y::l)=aj:=by unfold jw;grind
 grind[lu,ng]
theorem Yx {e:E}:∀ {l:List E} {x:E},x∈lu O e l->x=e∨x∈l
 |[],x,h=>by simp_all[lu,jw,sf,ox]
 |y::l,x,h=>by
  rcases rO (O.cmp e y) 0 with c|c|c
  ·simp_all[DZ]
  ·rw[(DS c).2.1] at h
   grind
  ·rw[(xP c).2.2.2.1] at h;rcases bP.1 h with h|h
   ·grind
   ·rcases Yx h with h|h
    all_goals grind
theorem U5 {e:E}:∀ {l:List E} {x:E},x∈ng O e l->x∈l
 |[],x,h=>by simp_all[ng,jw,sf]
 |y::l,x,h=>by
  rcases rO (O.cmp e y) 0 with c|c|c
  ·simp_all[DZ]
  ·simp_all[DS]
  ·rw[(xP c).2.2.2.2] at h;rcases bP.1 h with h|h
   ·grind
   ·exact ed _ (U5 h)
theorem Xt {e:E}:∀ {l:List E},(lu O e l).length=l.length+(if(jw O e l).isSome then 0 else 1)
 |[]=>by rfl
 |y::l=>by
  rcases rO (O.cmp e y) 0 with c|c|c
  ·grind[DZ]
  ·grind[DS]
  ·rw[(xP c).2.2.2.1,(xP c).2.2.1,cy,cy,Xt];omega
theorem Ul {e:E}:∀ {l:List E},(ng O e l).length+(if(jw O e l).isSome then 1 else 0)=l.length
 |[]=>by rfl
 |y::l=>by
  rcases rO (O.cmp e y) 0 with c|c|c
  ·grind[DZ]
  ·grind[DS]
  ·have:=Ul (e:=e) (l:=l);rw[(xP c).2.2.2.2,(xP c).2.2.1,cy,cy];omega
variable {S:List E->A} {dk:List E->Prop} (Z:yZ O S dk)
include Z
theorem Lc {e:E}:∀ {l:List E},uf O l->uf O (lu O e l)
 |[],h=>by simp[lu,jw,sf,ox,uf]
 |y::l,h=>by
  obtain⟨h1,h2⟩:=gB.1 h;rcases rO (O.cmp e y) 0 with c|c|c
  ·rw[(DZ c).2.1];refine gB.2 ⟨fun x hx=>?_,h⟩
   rcases bP.1 hx with hx|hx
   ·grind
   ·exact Z.trans _ _ _ c (h1 x hx)
  ·rw[(DS c).2.1];exact gB.2 ⟨fun x hx=>Z.eqv _ _ _ c (h1 x hx),h2⟩
  ·rw[(xP c).2.2.2.1];refine gB.2 ⟨fun x hx=>?_,Lc h2⟩
   rcases Yx hx with hx|hx
   ·rw[hx];exact(Z.swap _ _).2 c
   grind
omit Z in
theorem V5 {e:E}:∀ {l:List E},uf O l->uf O (ng O e l)
 |[],h=>by simp[ng,jw,sf,uf]
 |y::l,h=>by
  obtain⟨h1,h2⟩:=gB.1 h;rcases rO (O.cmp e y) 0 with c|c|c
  ·simp_all[DZ]
  ·rw[(DS c).2.2];exact h2
  ·rw[(xP c).2.2.2.2];exact gB.2 ⟨fun x hx=>h1 x (U5 hx),V5 h2⟩
end
end Gv
namespace Gv
open Rx
set_option linter.unusedSectionVars false
def m9 {N:Type} (k:Nat) (m m':PM N):Prop:=∃ j:Nat,j≤k/\(m'.cX=m.cX/\j=0∨m'.cX=W (m.cX+j))
theorem m9.trans {N:Type} {k k':Nat} {a b c:PM N} (h:m9 k a b) (h':m9 k' b c):m9 (k+k') a c:=by
 obtain⟨j,hj,e⟩:=h;obtain⟨j',Mh,e'⟩:=h';refine⟨j+j',by omega,?_⟩
 rcases e with⟨e,rfl⟩|e<;>rcases e' with⟨e',rfl⟩|e'
 ·exact .inl ⟨e'.trans e,rfl⟩
 ·right;rw[e',e];congr 1;omega
 ·right;rw[e',e];congr 1
 ·right;rw[e',e,W_W];congr 1;omega
theorem m9.mono {N:Type} {k k':Nat} {a b:PM N} (h:m9 k a b) (hk:k≤k'):m9 k' a b:=by
 obtain⟨j,hj,e⟩:=h;exact⟨j,jq hj hk,e⟩
section
variable {E A:Type} {O:iL E A} {S:List E->A} {dk:List E->Prop}
theorem iI.v {R:List Ref} {k:Nat} {z:Node E A} {m m':Po E A} (h:iI R k z m m'):m9 k m m':=h.qR
structure St (O:iL E A) (S:List E->A) (dk:List E->Prop) (n:Nat) (m:Po E A) (a b:Tr E):Prop where
 ok:fX n m
 ra:Rp O S m a
 rb:Rp O S m b
 ba:a.mB
 bb:b.mB
 sa:tX O a.items
 sb:tX O b.items
 lR:(a.refs++b.refs).Nodup
 held:m.held=a.items.length+b.items.length
 ga:dk a.elems
 gb:dk b.elems
theorem St.swap {n:Nat} {m:Po E A} {a b:Tr E} (h:St O S dk n m a b):St O S dk n m b a :=
 ⟨h.ok,h.rb,h.ra,h.bb,h.ba,h.sb,h.sa,(List.perm_append_comm.nodup_iff).1 h.lR,by rw[h.held];omega,h.gb,h.ga⟩
theorem St.Nx {n:Nat} {m:Po E A} {a b:Tr E} (h:St O S dk n m a b):a.refs.Nodup:=(cf.1 h.lR).1
theorem St.off {n:Nat} {m:Po E A} {a b:Tr E} (h:St O S dk n m a b):∀ s,s∈b.refs->s∉a.refs:=fun s hs ha=>(cf.1 h.lR).2.2 _ ha _ hs rfl
theorem St.look {n k:Nat} {m m':Po E A} {a b:Tr E} (h:St O S dk n m a b) (hu:iI [] k (zn O) m m'):St O S dk n m' a b :=
 ⟨hu.ok h.ok,Rp.frame hu (fun s _ hs=>by cases hs) h.ra,Rp.frame hu (fun s _ hs=>by cases hs) h.rb,h.ba,h.bb,h.sa,h.sb,h.lR,by rw[hu.held];exact h.held,h.ga,h.gb⟩
theorem St.aF {n:Nat} {m:Po E A} {a b:Tr E} (h:St O S dk n m a b) (r:Ref):St O S dk n (aJ m r) a b:=h.look (gC _ m r)
theorem St.mono {n k:Nat} {m:Po E A} {a b:Tr E} (h:St O S dk n m a b) (hk:n≤k):St O S dk k m a b :=
 ⟨h.ok.mono hk,h.ra,h.rb,h.ba,h.bb,h.sa,h.sb,h.lR,h.held,h.ga,h.gb⟩
theorem St.first {n k:Nat} {m m':Po E A} {a a' b:Tr E} {root:Ref} {its:List (Ref×E)} {R:List Ref} (h:St O S dk n m a b) (hi:Is O S m' root its a') (hu:iI R k (zn O) m m') (hR:∀ s,s∈R->s∈a.refs)
  (yV:∀ s,s∈a'.refs->s∈a.refs) (hnd:a'.refs.Nodup) (hlen:a'.items.length=a.items.length) (hs:uf O a'.elems) (hg:dk a'.elems):St O S dk n m' a' b :=
 ⟨hu.ok h.ok,hi.rp,Rp.frame hu (fun s hs hr=>h.off s hs (hR s hr)) h.rb,hi.mB,h.bb,xR.1 hs,h.sb,
  cf.2 ⟨hnd,(cf.1 h.lR).2.1,fun x hx y hy e=>by subst e;exact h.off x hy (yV x hx)⟩,by rw[hu.held,h.held,hlen],hg,h.gb⟩
theorem St.empty (hg:dk []) (c:Int) (n:Nat):St O S dk n ⟨[],[],[],[],0,c,0⟩ .nil .nil :=
 ⟨⟨rfl,rfl,(fun f hf=>by cases hf),RD,du _,du _,(fun g hg=>by cases hg),(fun i hi=>by simp at hi),⟨by simp only;omega,by simp only;omega⟩⟩,trivial,trivial,trivial,trivial,rP,rP,RD,rfl,hg,hg⟩
def Qp (x y:List (Ref×E)) (r:Ref):List Ref:=x.map aA++r::y.map aA
theorem ajk {e:E} {r:Ref} {x:Ref×E} {l:List (Ref×E)} (h:tW O e l=aa x):(lo O e l++(x.1,e)::(hi O e l).tail).map aA=l.map aA:=by
 have h1:=(tQ h).1
 conv=>rhs;rw[← Ax O e l,h1]
 simp
variable (Z:yZ O S dk)
include Z
theorem akg {n K:Nat} {e:E} {m:Po E A} {a b:Tr E} (h:St O S dk n m a b) (hn:n+1≤100000) (hg:dk (lu O e a.elems)) (hk:a.h<K) :
  QH O K m a.root e/\(nS O K m a.root e).1=((jw O e a.elems).isSome||decide (m.held≠m.cap)) /\
   ∃ a',(nS O K m a.root e).2.1=a'.root/\St O S dk (n+1) (nS O K m a.root e).2.2 a' b/\a'.elems=(if((jw O e a.elems).isSome||decide (m.held≠m.cap))=ao then lu O e a.elems else a.elems) /\
    m9 (32*a.h+4) m (nS O K m a.root e).2.2/\(nS O K m a.root e).2.2.cap=m.cap:=by
 have hD:=BC a h.ok h.ra hk;have hE:(tW O e a.items).map aw=jw O e a.elems:=MY e a.items;have Ag:(lo O e a.items).map aw=ox O e a.elems:=Lh e a.items;have Kf:(hi O e a.items).map aw=sf O e a.elems:=Lv e a.items;have FP:(hi O e a.items).tail.map aw=(sf O e a.elems).tail:=Uv e a.items;have R5:=Lc Z (e:=e) (xR.2 h.sa:uf O a.elems);have R:=II Z (e:=e) a (k:=K) h.ok h.ra h.ba h.sa h.Nx (fun x hx=>by
  have:jw O e a.elems=aa x.2:=by rw[← hE,hx];rfl
  unfold lu at hg;rw[this] at hg;rw[gd,dG,gr,Ag,FP];exact hg) hk
 cases hh:tW O e a.items with
 |some x =>
  rw[hh] at R hE;obtain⟨r1,a',r2,r3,r4⟩:=R;have hE:jw O e a.elems=aa x.2:=hE.symm;have e1:nS O K m a.root e=(ao,a.root,(replace O K m a.root e).2):=by rw[nS,if_pos r1]
  have e2:a'.elems=lu O e a.elems:=by
   rw[Tr.elems,r2.its,dG,gr,Ag,FP];unfold lu;rw[hE]
  have e3:a'.refs=a.refs:=by rw[Tr.refs,r2.its];exact ajk (r:=r0) hh
  refine⟨⟨hD,fun hc=>?_⟩,by rw[e1,hE];rfl,a',by rw[e1];exact r2.root,?_,?_,?_,by rw[e1];exact r4.cap⟩
  ·have hp:=tA (zn O) (r4.ok h.ok) hc (fresh O e);refine⟨hp.2.mono hn,?_⟩;have hf:∀ t:Tr E,Rp O S (replace O K m a.root e).2 t->Rp O S (put (zn O) (replace O K m a.root e).2 (fresh O e)) t:=by
    intro t
    induction t with
    |nil=>exact fun _=>trivial
    |node r l y q ihl ihq =>
     intro⟨q1,q2,q3,q4⟩;have:=hp.1.old r q1;exact⟨this.1,by rw[lk,this.2];exact q2,ihl q3,ihq q4⟩
   have:=BC a' (k:=K) hp.2 (hf a' r2.rp) (by omega)
   rw[← r2.root] at this;exact this
  ·rw[e1];refine(h.first r2 r4 (fun s hs=>hs) (fun s hs=>by rw[e3] at hs;exact hs) (by rw[e3];exact h.Nx) (by rw[← Tr.Mp,e3,Tr.Mp]) (by rw[e2];exact R5) (by rw[e2];exact hg)).mono (by omega)
  ·rw[e2,hE];rfl
  ·rw[e1];exact r4.v.mono (by omega)
 |none =>
  rw[hh] at R hE;obtain⟨r1,r2⟩:=R;have hE:jw O e a.elems=aj:=hE.symm;have h2:=h.look r2;have hup:lu O e a.elems=ox O e a.elems++e::sf O e a.elems:=by unfold lu;rw[hE]
  by_cases hc:(replace O K m a.root e).2.held=(replace O K m a.root e).2.cap
  ·have Dj:m.held=m.cap:=by rw[← r2.held,← r2.cap,hc]
   have ep:put (zn O) (replace O K m a.root e).2 (fresh O e)=(replace O K m a.root e).2:=by unfold put;rw[if_pos hc]
   have e1:nS O K m a.root e=(an,a.root,(replace O K m a.root e).2):=by rw[nS,if_neg (by rw[r1];decide),if_pos hc,ep]
   have e4:((jw O e a.elems).isSome||decide (m.held≠m.cap))=an:=by rw[hE];simpa using Dj
   refine⟨⟨hD,fun hx=>absurd hc hx⟩,by rw[e1,e4],a,by rw[e1],by rw[e1];exact h2.mono (by omega),by rw[e4,if_neg (by decide)],by rw[e1];exact r2.v.mono (by omega),by rw[e1];exact r2.cap⟩
  ·have Dj:m.held≠m.cap:=by rw[← r2.held,← r2.cap];exact hc
   obtain⟨p1,p2⟩:=tA (zn O) h2.ok hc (fresh O e);have hf:∀ t:Tr E,Rp O S (replace O K m a.root e).2 t->Rp O S (put (zn O) (replace O K m a.root e).2 (fresh O e)) t:=by
    intro t
    induction t with
    |nil=>exact fun _=>trivial
    |node r l y q ihl ihq =>
     intro⟨q1,q2,q3,q4⟩;have:=p1.old r q1;exact⟨this.1,by rw[lk,this.2];exact q2,ihl q3,ihq q4⟩
   have uo:∀ t:Tr E,Rp O S (replace O K m a.root e).2 t->ma (zn O) (replace O K m a.root e).2∉t.refs:=fun t ht hr=>by
    have:=ht.has _ hr;rw[p1.new] at this;cases this
   have hnd:(ma (zn O) (replace O K m a.root e).2::a.refs).Nodup:=fJ.2 ⟨uo a h2.ra,h.Nx⟩;obtain⟨t',t1,t2,t3,t4⟩:=Qy Z (f:=ma (zn O) (replace O K m a.root e).2) (e:=e) a (k:=K) p2 (hf a h2.ra) h.ba h.sa hnd p1.has (by rw[lk,p1.look];rfl) hh
    (by rw[gd,dG,gr,Ag,Kf,← hup];exact hg) hk
   have e1:nS O K m a.root e=(ao,(kW O K (put (zn O) (replace O K m a.root e).2 (fresh O e)) a.root (ma (zn O) (replace O K m a.root e).2) e).1,(kW O K (put (zn O) (replace O K m a.root e).2 (fresh O e)) a.root (ma (zn O) (replace O K m a.root e).2) e).2):=by
    rw[nS,if_neg (by rw[r1];decide),if_neg hc]
   have e4:((jw O e a.elems).isSome||decide (m.held≠m.cap))=ao:=by rw[hE];simpa using Dj
   have e2:t'.elems=lu O e a.elems:=by rw[Tr.elems,t1.its,dG,gr,Ag,Kf,hup]
   have e5:t'.refs=Qp (lo O e a.items) (hi O e a.items) (ma (zn O) (replace O K m a.root e).2):=by rw[Tr.refs,t1.its,dG,gr];rfl
   refine⟨⟨hD,fun _=>⟨p2.mono hn,BC a p2 (hf a h2.ra) hk⟩⟩,by rw[e1,e4],t',by rw[e1];exact t1.root,?_,by rw[e4,if_pos rfl];exact e2,?_,by rw[e1];exact t4.cap.trans (p1.cap.trans r2.cap)⟩
   ·rw[e1];have hrf:=va (O:=O) e a.items;have T6:∀ s,s∈t'.refs↔s=ma (zn O) (replace O K m a.root e).2∨s∈a.refs:=fun s=>by
     rw[e5,Tr.refs,← hrf];unfold Qp;simp only[b5,bP]
     constructor
     ·rintro (h|h|h)<;>simp[h]
     ·rintro (h|h|h)<;>simp[h]
    refine⟨t4.ok p2,t1.rp,Rp.frame t4 (fun s hs hr=>?_) (hf b h2.rb),t1.mB,h.bb,xR.1 (by rw[show t'.items.map aw=t'.elems from rfl,e2];exact R5),h.sb,?_,?_,by rw[e2];exact hg,h.gb⟩
    ·rcases bP.1 hr with hr|hr
     ·exact uo b h2.rb (by rw[← hr];exact hs)
     ·exact h.off s hs hr
    ·refine cf.2 ⟨?_,(cf.1 h.lR).2.1,fun x hx y hy e=>?_⟩
     ·rw[e5];unfold Qp;refine(ze.nodup_iff).2 ?_;rw[hrf];exact hnd
     ·subst e;rcases(T6 x).1 hx with hr|hr
      ·exact uo b h2.rb (by rw[← hr];exact hy)
      ·exact h.off x hy hr
    ·have hl:t'.items.length=a.items.length+1:=by
      have:=Xt (O:=O) (e:=e) (l:=a.elems);rw[hE] at this;rw[← Tr.e8,e2,this,Tr.e8]
      rfl
     rw[t4.held,p1.held,h2.held,hl];omega
   ·rw[e1];have:m9 0 (replace O K m a.root e).2 (put (zn O) (replace O K m a.root e).2 (fresh O e)):=⟨0,a_ _,.inl ⟨p1.qR,rfl⟩⟩;exact((r2.v.trans this).trans t4.v).mono (by omega)
end
end Gv
namespace Gv
open Rx
set_option linter.unusedSectionVars false
section
variable {E A:Type} {O:iL E A} {S:List E->A} {dk:List E->Prop}
theorem af' {e:E} {x:Ref×E} {l:List (Ref×E)} (h:tW O e l=aa x):(x.1::rf (lo O e l++(hi O e l).tail)).Perm (l.map aA):=by
 have h1:=(tQ h).1;have h2:l.map aA=(lo O e l).map aA++x.1::(hi O e l).tail.map aA:=by
  conv=>lhs;rw[← Ax O e l,h1]
  simp
 rw[h2];unfold rf;rw[dG];exact ze.symm
theorem aaQ {m:Po E A} {z:Node E A} {r:Ref} (h:has m r=an):drop z m r=m:=by unfold drop;rw[if_neg (by rw[h];decide)]
variable (Z:yZ O S dk)
include Z
theorem age {n K:Nat} {e:E} {m:Po E A} {a b:Tr E} (h:St O S dk n m a b) (hg:dk (ox O e a.elems++(sf O e a.elems).tail)) (hk:2*a.h<K) :
  qv O K K m a.root e/\(jM O K m a.root e).1=(jw O e a.elems).getD O.e0/\(jM O K m a.root e).2.1=(jw O e a.elems).isSome /\
   ∃ a',(jM O K m a.root e).2.2.1=a'.root/\St O S dk (n+1) (jM O K m a.root e).2.2.2 a' b/\a'.elems=ng O e a.elems /\
    m9 (120*a.h+5) m (jM O K m a.root e).2.2.2/\(jM O K m a.root e).2.2.2.cap=m.cap:=by
 have hE:(tW O e a.items).map aw=jw O e a.elems:=MY e a.items;have Ag:(lo O e a.items).map aw=ox O e a.elems:=Lh e a.items;have FP:(hi O e a.items).tail.map aw=(sf O e a.elems).tail:=Uv e a.items;have R5:=V5 (e:=e) (xR.2 h.sa:uf O a.elems);obtain⟨R1,R⟩:=K9 Z (K:=K) (e:=e) a (k:=K) h.ok h.ra h.ba h.sa h.Nx (by rw[gd,dG,Ag,FP];exact hg) (by omega) hk
 refine⟨R1,?_⟩;unfold jM;cases hh:tW O e a.items with
 |none =>
  rw[hh] at R hE;obtain⟨r1,r2,r3⟩:=R;have hE:jw O e a.elems=aj:=hE.symm;have h2:=h.look r3;have hz:=h2.ok.z0;have h0:lk O (pick O K K m a.root e).2.2 r0=zn O:=by unfold lk look;rw[if_neg (by rw[hz];decide)]
  rw[r1,r2,h0,hz,aaQ hz,hE];refine⟨rfl,rfl,a,rfl,h2.mono (by omega),?_,r3.v.mono (by omega),r3.cap⟩
  unfold ng;rw[hE]
 |some x =>
  rw[hh] at R hE;obtain⟨r1,t,r2,r3,r4,r5⟩:=R;have hE:jw O e a.elems=aa x.2:=hE.symm;have hp:=af' hh;have VO:x.1∉rf (lo O e a.items++(hi O e a.items).tail)/\(rf (lo O e a.items++(hi O e a.items).tail)).Nodup:=fJ.1 ((hp.nodup_iff).2 h.Nx);have T6:∀ s,s∈a.refs↔s=x.1∨s∈rf (lo O e a.items++(hi O e a.items).tail):=fun s=>by
   rw[Tr.refs,← hp.mem_iff,bP]
  have hxm:=(tQ hh).2.2;have A3:has m x.1=ao:=h.ra.has _ (List.mem_map_of_mem hxm);have aj2:has (pick O K K m a.root e).2.2 x.1=ao:=by rw[r5.has];exact A3
  have ho:=r5.ok h.ok;obtain⟨d1,d2,d3,d4,d5,d6⟩:=tu (zn O) ho aj2;have hf:∀ u:Tr E,x.1∉u.refs->Rp O S (pick O K K m a.root e).2.2 u->Rp O S (drop (zn O) (pick O K K m a.root e).2.2 x.1) u:=by
   intro u
   induction u with
   |nil=>exact fun _ _=>trivial
   |node r l y q ihl ihq =>
    intro hx ⟨q1,q2,q3,q4⟩;rw[Tr.jL] at hx;simp only[b5,bP,not_or] at hx;have:=d2 r (fun e=>hx.2.1 e.symm)
    exact⟨by rw[this.1];exact q1,by rw[lk,this.2];exact q2,ihl hx.1 q3,ihq hx.2.2 q4⟩
  have et:t.refs=rf (lo O e a.items++(hi O e a.items).tail):=by rw[Tr.refs,r2.its]
  have ee:t.elems=ng O e a.elems:=by
   rw[Tr.elems,r2.its,dG,Ag,FP];unfold ng;rw[hE]
  rw[r1];have hel:(lk O (pick O K K m a.root e).2.2 x.1).e=x.2:=by
   have:lk O (pick O K K m a.root e).2.2 x.1=lk O m x.1:=r5.look _ VO.1;rw[this];exact h.ra.elem x hxm
  refine⟨by rw[hel,hE];rfl,by rw[aj2,hE];rfl,t,r2.root,?_,ee,?_,by rw[d5];exact r5.cap⟩
  ·refine⟨d1,hf t (by rw[et];exact VO.1) r2.rp,hf b (fun hb=>h.off _ hb ((T6 _).2 (.inl rfl))) (Rp.frame r5 (fun s hs hr=>h.off s hs ((T6 s).2 (.inr hr))) h.rb),r2.mB,h.bb,
    xR.1 (by rw[show t.items.map aw=t.elems from rfl,ee];exact R5),h.sb,?_,?_,?_,h.gb⟩
   ·exact cf.2 ⟨by rw[et];exact VO.2,(cf.1 h.lR).2.1,fun y hy z hz e=>by subst e;exact h.off y hz ((T6 y).2 (.inr (by rw[← et];exact hy)))⟩
   ·have hl:=Ul (O:=O) (e:=e) (l:=a.elems);rw[hE,← ee,Tr.e8,Tr.e8] at hl;rw[d4,r5.held,h.held];simp only[C7,if_true] at hl;omega
   ·rw[Tr.elems,r2.its,dG,Ag,FP];exact hg
  ·have:m9 1 (pick O K K m a.root e).2.2 (drop (zn O) (pick O K K m a.root e).2.2 x.1):=⟨1,a_ _,.inr d6⟩;exact(r5.v.trans this).mono (by omega)
theorem adz {n K:Nat} {e:E} {m:Po E A} {a:Tr E} (h:St O S dk n m a .nil) (hk:2*a.items.length<K) :
  Ko O K K m a.root e/\∃ x y,(lX O K K m a.root e).1=x.root/\(lX O K K m a.root e).2.1=y.root/\St O S dk n (lX O K K m a.root e).2.2 x y/\x.elems=ox O e a.elems/\y.elems=sf O e a.elems/\(lX O K K m a.root e).2.2.cap=m.cap:=by
 have hh:=a.Aj;obtain⟨r1,x,y,r2,r3,kk,r4⟩:=UH Z (K:=K) (e:=e) a (k:=K) h.ok h.ra h.ba h.sa h.Nx h.ga (by omega) hk
 have ex:x.elems=ox O e a.elems:=by rw[Tr.elems,r2.its];exact Lh e a.items
 have ey:y.elems=sf O e a.elems:=by rw[Tr.elems,r3.its];exact Lv e a.items
 have R5:uf O a.elems:=xR.2 h.sa;have hle:=GZ (O:=O) e a.elems;rw[← hle] at R5;have hg:=h.ga;rw[← hle] at hg;have hrf:=va (O:=O) e a.items;refine⟨r1,x,y,r2.root,r3.root,⟨r4.ok h.ok,r2.rp,r3.rp,r2.mB,r3.mB,xR.1 ?_,xR.1 ?_,?_,?_,?_,?_⟩,ex,ey,r4.cap⟩
 ·rw[show x.items.map aw=x.elems from rfl,ex];exact(nG.1 R5).1
 ·rw[show y.items.map aw=y.elems from rfl,ey];exact(nG.1 R5).2.1
 ·rw[Tr.refs,Tr.refs,r2.its,r3.its,hrf];exact h.Nx
 ·rw[r4.held,h.held,r2.its,r3.its];have:=congrArg ae (Ax O e a.items);rw[bA] at this;simp only[Tr.items,jN];omega
 ·rw[ex];exact Z.left _ _ hg
 ·rw[ey];exact Z.right _ _ hg
end
end Gv
namespace Gv
open Rx
set_option linter.unusedSectionVars false
theorem Tr.MG {E:Type}:∀ t:Tr E,t.mB->2 ^ (t.h / 2)≤t.items.length+1
 |.nil,_=>by simp[Tr.h,Tr.items]
 |.node r l e q,⟨h1,h2,h3,h4⟩=>by
  have i1:=MG l h1;have i2:=MG q h2;simp only[Tr.h,Tr.items,bA,cy]
  by_cases c:max l.h q.h=0
  ·rw[c];simp
  ·have k1:(1+max l.h q.h) / 2=(max l.h q.h-1) / 2+1:=by omega
   rw[k1,Nat.pow_succ];have k2:(max l.h q.h-1) / 2≤l.h / 2:=by omega
   have k3:(max l.h q.h-1) / 2≤q.h / 2:=by omega
   have j1:2 ^ ((max l.h q.h-1) / 2)≤2 ^ (l.h / 2):=IV (by omega) k2
   have j2:2 ^ ((max l.h q.h-1) / 2)≤2 ^ (q.h / 2):=IV (by omega) k3
   omega
def ns (n:Nat):Nat:=2+3*N' (n+1)
theorem Tr.DC {E:Type} (t:Tr E) (h:t.mB):t.h≤ns t.items.length:=by
 have h1:=t.MG h;have h2:t.h / 2≤N' (t.items.length+1):=(Xc (by omega)).2 h1
 unfold ns;omega
theorem adC {a b:Nat} (h:a≤b):ns a≤ns b:=by
 unfold ns;have:N' (a+1)≤N' (b+1):=(Xc (by omega)).2 (jq (Nat.log2_self_le (by omega)) (by omega))
 omega
section
variable {E A:Type} {O:iL E A} {S:List E->A} {dk:List E->Prop}
def ir (O:iL E A) (e:E) (l:List E):E×Bool:=((jw O e l).getD O.e0,(jw O e l).isSome)
def pZ (O:iL E A) (i:Int) (l:List E):E×Bool:=if 0≤i/\i<l.length then(l.getD i.toNat O.e0,ao) else(O.e0,an)
structure Same (O:iL E A) (S:List E->A) (dk:List E->Prop) (n k:Nat) (m m':Po E A) (a b:Tr E):Prop where
 st:St O S dk n m' a b
 qR:m9 k m m'
 cap:m'.cap=m.cap
theorem St.up {n k:Nat} {m m':Po E A} {a b:Tr E} {r:Ref} (h:St O S dk n m a b) (hu:iI [] k (zn O) (aJ m r) m'):Same O S dk n (k+1) m m' a b:=by
 have:=(gC (zn O) m r).to hu (S:=[]) (fun s hs=>by simp at hs) (Nat.le_of_eq (Nat.add_comm 1 k))
 exact⟨h.look this,this.v,this.cap⟩
theorem St.seen {n:Nat} {m:Po E A} {a b:Tr E} (h:St O S dk n m a b) (r:Ref):Same O S dk n 1 m (aJ m r) a b:=h.up (iI.refl _ _ _ _)
theorem Same.mono {n k k':Nat} {m m':Po E A} {a b:Tr E} (h:Same O S dk n k m m' a b) (hk:k≤k'):Same O S dk n k' m m' a b:=⟨h.st,h.qR.mono hk,h.cap⟩
theorem St.lk {n:Nat} {m:Po E A} {a b:Tr E} (h:St O S dk n m a b):br O m a.root=nd O S a:=h.ra.root h.ok
theorem St.hh {n:Nat} {m:Po E A} {a b:Tr E} (h:St O S dk n m a b):(br O m a.root).h=(a.h:Int):=by rw[h.lk,rn]
variable (Z:yZ O S dk)
include Z
theorem St.nn {n:Nat} {m:Po E A} {a b:Tr E} (h:St O S dk n m a b):(br O m a.root).all.n=(a.elems.length:Int):=by rw[h.lk,rJ Z.nil,Tr.e8]
theorem ahE {n K:Nat} {e:E} {m:Po E A} {a b:Tr E} (h:St O S dk n m a b) (hk:a.h<K) :
  uc O K (aJ m a.root) (br O m a.root) e/\∃ m',find O K (aJ m a.root) (br O m a.root) e=(ir O e a.elems,m')/\Same O S dk n (a.h+1) m m' a b:=by
 have h2:=h.aF a.root;obtain⟨r1,r2,r3⟩:=Re Z (e:=e) a (k:=K) h2.ok h2.ra h.sa hk;rw[h.lk];refine⟨r1,_,kf ?_ rfl,h.up r3⟩;rw[r2];have hE:=MY (O:=O) e a.items;unfold ir;rw[show a.elems=a.items.map aw from rfl,← hE]
 cases tW O e a.items<;>rfl
theorem ag_ {n K:Nat} {e:E} {m:Po E A} {a b:Tr E} (h:St O S dk n m a b) (hk:a.h<K) :
  tE O K (aJ m a.root) (br O m a.root) e 0/\∃ m',ky O K (aJ m a.root) (br O m a.root) e 0=(((ox O e a.elems).length:Int),m')/\Same O S dk n (2*a.h+1) m m' a b:=by
 have h2:=h.aF a.root;have hl:=Z.len _ h.ga;rw[Tr.e8] at hl;obtain⟨r1,r2,r3⟩:=Rh Z (e:=e) a (k:=K) (c:=0) h2.ok h2.ra h.sa hk (Int.le_refl _) (by omega)
 rw[h.lk];refine⟨r1,_,kf ?_ rfl,h.up r3⟩;rw[r2,show a.elems=a.items.map aw from rfl,← Lh,fR]
 omega
theorem alT {n K:Nat} {i:Int} {m:Po E A} {a b:Tr E} (h:St O S dk n m a b) (hk:a.h<K) :
  AtD O K m a.root i/\∃ m',qF O K m a.root i=(pZ O i a.elems,m')/\Same O S dk n (2*a.h+1) m m' a b:=by
 have h2:=h.aF a.root;have hl:=Z.len _ h.ga;have hn:=h.nn Z;unfold AtD qF pZ;rw[hn]
 by_cases c:i<0∨i≥(a.elems.length:Int)
 ·rw[if_pos c,if_neg (by omega)]
  exact⟨fun h3 h4=>by omega,_,rfl,(h.seen _).mono (by omega)⟩
 ·rw[if_neg c,if_pos (by omega)]
  rw[Tr.e8] at hl c;obtain⟨r1,r2,r3⟩:=UU Z a (k:=K) (i:=i.toNat) h2.ok h2.ra hl hk (by omega)
  have e:((i.toNat:Nat):Int)=i:=by omega
  rw[e] at r1 r2 r3;rw[h.lk];exact⟨fun _ _=>r1,_,kf (by rw[r2]) rfl,h.up r3⟩
theorem ak4 {n K:Nat} {f u:Int} {m:Po E A} {a b:Tr E} (h:St O S dk n m a b) (hk:a.h<K) :
  vh O K (aJ m a.root) (br O m a.root) f u/\∃ m',fW O K (aJ m a.root) (br O m a.root) f u=(⟨(sub a.elems f.toNat u.toNat).length,S (sub a.elems f.toNat u.toNat)⟩,m')/\Same O S dk n (4*a.h+1) m m' a b:=by
 have h2:=h.aF a.root;obtain⟨r1,r2,r3⟩:=H5 Z (f:=f) (u:=u) a (k:=K) h2.ok h2.ra h.ga hk;rw[h.lk];exact⟨r1,_,kf r2 rfl,(h.up r3).mono (by have:=(QE a.h a.elems.length f u).1;omega)⟩
theorem ah3 {n K:Nat} {m:Po E A} {a b:Tr E} (h:St O S dk n m a b) (hk:a.h<K) :
  Deep O K m a.root/\(br O m a.root).all.n=(a.elems.length:Int)/\∃ m' kk,cw O K (aJ m a.root) a.root=(a.elems,m')/\Same O S dk n kk m m' a b:=by
 have h2:=h.aF a.root;obtain⟨r1,kk,r2⟩:=JD a (k:=K) h2.ok h2.ra hk;exact⟨BC a h.ok h.ra hk,h.nn Z,_,_,kf r1 rfl,h.up r2⟩
theorem NV {n K:Nat} {m:Po E A} {a b:Tr E} (h:St O S dk n m a b) (hk:a.h<K):jh O K (aJ m a.root) (br O m a.root) :=
 p7 (BC a h.ok h.ra hk) (fun s=>ik ..)
theorem ady {n K:Nat} {f:Int} {may:A->A->Bool} {P:Nat->Bool} {m:Po E A} {a b:Tr E} (h:St O S dk n m a b) (hA:Asks O S may P a.elems) (hk:a.h<K) :
  jh O K (aJ m a.root) (br O m a.root)/\∃ r m' kk,first O may K (aJ m a.root) (br O m a.root) ⟨0,O.a0⟩ f=(r,m')/\BS P 0 a.elems.length f r/\Same O S dk n kk m m' a b:=by
 have h2:=h.aF a.root;obtain⟨r1,kk,r2⟩:=HV Z (f:=f) hA h.ga a (k:=K) (p:=[]) (s:=[]) h2.ok h2.ra (by simp) hk
 have e0:(([]:List E).length:Int)=0:=rfl;rw[e0,Z.nil,jN,bV] at r1;rw[e0,Z.nil] at r2;refine⟨NV Z h hk,_,_,_,rfl,?_,h.up (r:=a.root) (k:=kk) ?_⟩
 ·rw[h.lk];exact r1
 ·rw[h.lk];exact r2
theorem agD {n K:Nat} {f:Int} {may:A->A->Bool} {P:Nat->Bool} {m:Po E A} {a b:Tr E} (h:St O S dk n m a b) (hA:Asks O S may P a.elems) (hk:a.h<K) :
  jh O K (aJ m a.root) (br O m a.root)/\∃ r m' kk,last O may K (aJ m a.root) (br O m a.root) ⟨0,O.a0⟩ f=(r,m')/\E4 P 0 a.elems.length f r/\Same O S dk n kk m m' a b:=by
 have h2:=h.aF a.root;obtain⟨r1,kk,r2⟩:=Lu Z (u:=f) hA h.ga a (k:=K) (p:=[]) (s:=[]) h2.ok h2.ra (by simp) hk
 have e0:(([]:List E).length:Int)=0:=rfl;rw[e0,Z.nil,jN,bV] at r1;rw[e0,Z.nil] at r2;refine⟨NV Z h hk,_,_,_,rfl,?_,h.up (r:=a.root) (k:=kk) ?_⟩
 ·rw[h.lk];exact r1
 ·rw[h.lk];exact r2
theorem agY {n K:Nat} {e:E} {m:Po E A} {a b:Tr E} (h:St O S dk n m a b) (hn:n+1≤100000) (hg:dk (lu O e a.elems)) (hk:a.h<K) :
  QH O K m a.root e/\∃ a' m',nS O K m a.root e=(((jw O e a.elems).isSome||decide (m.held≠m.cap)),a'.root,m')/\St O S dk (n+1) m' a' b /\
   a'.elems=(if((jw O e a.elems).isSome||decide (m.held≠m.cap))=ao then lu O e a.elems else a.elems)/\m9 (32*a.h+4) m m'/\m'.cap=m.cap:=by
 obtain⟨r1,r2,a',r3,r4,r5,r6,r7⟩:=akg Z h hn hg hk;exact⟨r1,a',_,kf r2 (kf r3 rfl),r4,r5,r6,r7⟩
theorem aeu {n K:Nat} {e:E} {m:Po E A} {a b:Tr E} (h:St O S dk n m a b) (hg:dk (ox O e a.elems++(sf O e a.elems).tail)) (hk:2*a.h<K) :
  qv O K K m a.root e/\∃ a' m',jM O K m a.root e=((ir O e a.elems).1,(ir O e a.elems).2,a'.root,m')/\St O S dk (n+1) m' a' b/\a'.elems=ng O e a.elems/\m9 (120*a.h+5) m m'/\m'.cap=m.cap:=by
 obtain⟨r1,r2,r3,a',r4,r5,r6,r7,r8⟩:=age Z h hg hk;exact⟨r1,a',_,kf r2 (kf r3 (kf r4 rfl)),r5,r6,r7,r8⟩
theorem aaw {n K:Nat} {e:E} {m:Po E A} {a:Tr E} (h:St O S dk n m a .nil) (hk:2*a.items.length<K) :
  Ko O K K m a.root e/\∃ x y m',lX O K K m a.root e=(x.root,y.root,m')/\St O S dk n m' x y/\x.elems=ox O e a.elems/\y.elems=sf O e a.elems/\m'.cap=m.cap:=by
 obtain⟨r1,x,y,r2,r3,r4,r5,r6,r7⟩:=adz Z (e:=e) h hk;exact⟨r1,x,y,_,kf r2 (kf r3 rfl),r4,r5,r6,r7⟩
end
end Gv
namespace Gv
open Rx
set_option linter.unusedSectionVars false
structure Kd (E A:Type) where
 O:iL E A
 S:List E->A
 dk:List E->Prop
 dec:∀ l,Decidable (dk l)
 Z:yZ O S dk
 short:∀ x,dk x->x.length≤1000
 ank:dk []
 am9:∀ x y,dk (x++y)->dk (x++y.tail)
instance {E A:Type} (k:Kd E A) (l:List E):Decidable (k.dk l):=k.dec l
theorem si {E:Type} (a:Tr E):a.h≤a.elems.length:=by rw[Tr.e8];exact a.Aj
theorem aay {E:Type} {t:Tr E} (h:t.elems=[]):t=.nil:=by
 cases t with
 |nil=>rfl
 |node r l e q=>rw[Tr.gE] at h;simp at h
section
variable {E A:Type}
def P2 (k:Kd E A) (n:Nat) (m:Po E A) (ra rb:Ref) (la lb:List E) (c:Int):Prop:=∃ a b:Tr E,a.root=ra/\b.root=rb/\St k.O k.S k.dk n m a b/\a.elems=la/\b.elems=lb/\m.cap=c
abbrev P1 (k:Kd E A) (n:Nat) (m:Po E A) (r:Ref) (l:List E) (c:Int):Prop:=P2 k n m r r0 l [] c
structure Sm (k:Kd E A) (n v:Nat) (m m':Po E A) (ra rb:Ref) (la lb:List E) (c:Int):Prop where
 p:P2 k n m' ra rb la lb c
 qR:m9 v m m'
variable {k:Kd E A} {n:Nat} {m:Po E A} {ra rb:Ref} {la lb:List E} {c:Int}
theorem F8 {v:Nat} {a b:Tr E} {m':Po E A} (h:Same k.O k.S k.dk n v m m' a b) (h6:m.cap=c):Sm k n v m m' a.root b.root a.elems b.elems c :=
 ⟨⟨a,b,rfl,rfl,h.st,rfl,rfl,h.cap.trans h6⟩,h.qR⟩
namespace P2
theorem swap (h:P2 k n m ra rb la lb c):P2 k n m rb ra lb la c:=by
 obtain⟨a,b,h1,h2,h3,h4,h5,h6⟩:=h;exact⟨b,a,h2,h1,h3.swap,h5,h4,h6⟩
theorem mono {q:Nat} (h:P2 k n m ra rb la lb c) (hk:n≤q):P2 k q m ra rb la lb c:=by
 obtain⟨a,b,h1,h2,h3,h4,h5,h6⟩:=h;exact⟨a,b,h1,h2,h3.mono hk,h4,h5,h6⟩
theorem empty (k:Kd E A) (c:Int):P1 k 0 ⟨[],[],[],[],0,c,0⟩ r0 [] c :=
 ⟨.nil,.nil,rfl,rfl,St.empty k.ank c 0,rfl,rfl,rfl⟩
theorem qn {m':Po E A} (h:P2 k n m ra rb la lb c) (hu:∃ v,iI [] v (zn k.O) m m'):P2 k n m' ra rb la lb c:=by
 obtain⟨a,b,h1,h2,h3,h4,h5,h6⟩:=h;obtain⟨v,hu⟩:=hu;exact⟨a,b,h1,h2,h3.look hu,h4,h5,hu.cap.trans h6⟩
theorem ok (h:P2 k n m ra rb la lb c) (hn:n≤100000):fX 100000 m:=by
 obtain⟨a,b,h1,h2,h3,h4,h5,h6⟩:=h;exact h3.ok.mono hn
theorem dk (h:P2 k n m ra rb la lb c):k.dk la:=by
 obtain⟨a,b,h1,h2,h3,h4,h5,h6⟩:=h;rw[← h4];exact h3.ga
theorem mK (h:P2 k n m ra rb la lb c):uf k.O la:=by
 obtain⟨a,b,h1,h2,h3,h4,h5,h6⟩:=h;rw[← h4];exact xR.2 h3.sa
theorem len (h:P2 k n m ra rb la lb c):la.length≤1000:=k.short _ h.dk
theorem held (h:P2 k n m ra rb la lb c):m.held=la.length+lb.length:=by
 obtain⟨a,b,h1,h2,h3,h4,h5,h6⟩:=h;rw[h3.held,← h4,← h5,Tr.e8,Tr.e8]
theorem cap (h:P2 k n m ra rb la lb c):m.cap=c:=by
 obtain⟨a,b,h1,h2,h3,h4,h5,h6⟩:=h;exact h6
theorem seen (h:P2 k n m ra rb la lb c) (r:Ref):Sm k n 1 m (aF m r) ra rb la lb c:=by
 obtain⟨a,b,rfl,rfl,h3,rfl,rfl,h6⟩:=h;exact F8 (h3.seen r) h6
theorem nn (h:P2 k n m ra rb la lb c):(lk k.O m ra).all.n=(la.length:Int):=by
 obtain⟨a,b,rfl,rfl,h3,rfl,rfl,h6⟩:=h;exact h3.nn k.Z
theorem akW (h:P2 k n m ra rb la lb c):∃ H:Nat,(lk k.O m ra).h=(H:Int)/\H≤ns la.length:=by
 obtain⟨a,b,rfl,rfl,h3,rfl,rfl,h6⟩:=h;refine⟨a.h,h3.hh,?_⟩;rw[Tr.e8];exact a.DC h3.ba
theorem put {K:Nat} {e:E} (h:P2 k n m ra rb la lb c) (hn:n+1≤100000) (hg:k.dk (lu k.O e la)) (hk:la.length<K) :
  QH k.O K m ra e/\∃ r' m',nS k.O K m ra e=(((jw k.O e la).isSome||decide (((la.length+lb.length:Nat):Int)≠c)),r',m') /\
   P2 k (n+1) m' r' rb (if((jw k.O e la).isSome||decide (((la.length+lb.length:Nat):Int)≠c))=ao then lu k.O e la else la) lb c/\m9 (32*ns la.length+4) m m':=by
 have hh:=h.held;obtain⟨a,b,rfl,rfl,h3,rfl,rfl,h6⟩:=h;obtain⟨d,a',m',e1,e2,e3,e4,e5⟩:=agY k.Z (e:=e) h3 hn hg (iW (si a) hk);have hb:((jw k.O e a.elems).isSome||decide (m.held≠m.cap))=((jw k.O e a.elems).isSome||decide (((a.elems.length+b.elems.length:Nat):Int)≠c)):=by
  rw[hh,h6];push_cast;rfl
 rw[hb] at e1 e3;exact⟨d,a'.root,m',e1,⟨a',b,rfl,rfl,e2,e3,rfl,e5.trans h6⟩,e4.mono (by have:=a.DC h3.ba;rw[Tr.e8];omega)⟩
theorem drop {K:Nat} {e:E} (h:P2 k n m ra rb la lb c) (hk:2*la.length<K) :
  qv k.O K K m ra e/\∃ r' m',jM k.O K m ra e=((ir k.O e la).1,(ir k.O e la).2,r',m')/\P2 k (n+1) m' r' rb (ng k.O e la) lb c/\m9 (120*ns la.length+5) m m':=by
 obtain⟨a,b,rfl,rfl,h3,rfl,rfl,h6⟩:=h;have hh:=si a;obtain⟨d,a',m',e1,e2,e3,e4,e5⟩:=aeu k.Z (K:=K) (e:=e) h3 (k.am9 _ _ (by rw[GZ];exact h3.ga)) (by omega)
 exact⟨d,a'.root,m',e1,⟨a',b,rfl,rfl,e2,e3,rfl,e5.trans h6⟩,e4.mono (by have:=a.DC h3.ba;rw[Tr.e8];omega)⟩
theorem find {K:Nat} {e:E} (h:P2 k n m ra rb la lb c) (hk:la.length<K) :
  uc k.O K (aF m ra) (lk k.O m ra) e/\∃ m',iB k.O K (aF m ra) (lk k.O m ra) e=(ir k.O e la,m')/\Sm k n (ns la.length+1) m m' ra rb la lb c:=by
 obtain⟨a,b,rfl,rfl,h3,rfl,rfl,h6⟩:=h;obtain⟨d,m',e1,e2⟩:=ahE k.Z (K:=K) (e:=e) h3 (iW (si a) hk);exact⟨d,m',e1,F8 (e2.mono (by have:=a.DC h3.ba;rw[Tr.e8];omega)) h6⟩
theorem ky {K:Nat} {e:E} (h:P2 k n m ra rb la lb c) (hk:la.length<K) :
  tE k.O K (aF m ra) (lk k.O m ra) e 0/\∃ m',lO k.O K (aF m ra) (lk k.O m ra) e 0=(((ox k.O e la).length:Int),m')/\Sm k n (2*ns la.length+1) m m' ra rb la lb c:=by
 obtain⟨a,b,rfl,rfl,h3,rfl,rfl,h6⟩:=h;obtain⟨d,m',e1,e2⟩:=ag_ k.Z (K:=K) (e:=e) h3 (iW (si a) hk);exact⟨d,m',e1,F8 (e2.mono (by have:=a.DC h3.ba;rw[Tr.e8];omega)) h6⟩
theorem at_ {K:Nat} {i:Int} (h:P2 k n m ra rb la lb c) (hk:la.length<K) :
  AtD k.O K m ra i/\∃ m',qF k.O K m ra i=(pZ k.O i la,m')/\Sm k n (2*ns la.length+1) m m' ra rb la lb c:=by
 obtain⟨a,b,rfl,rfl,h3,rfl,rfl,h6⟩:=h;obtain⟨d,m',e1,e2⟩:=alT k.Z (K:=K) (i:=i) h3 (iW (si a) hk);exact⟨d,m',e1,F8 (e2.mono (by have:=a.DC h3.ba;rw[Tr.e8];omega)) h6⟩
theorem F5 {K:Nat} {f u:Int} (h:P2 k n m ra rb la lb c) (hk:la.length<K) :
  vh k.O K (aF m ra) (lk k.O m ra) f u/\∃ m',fW k.O K (aF m ra) (lk k.O m ra) f u=(⟨(sub la f.toNat u.toNat).length,k.S (sub la f.toNat u.toNat)⟩,m')/\Sm k n (4*ns la.length+1) m m' ra rb la lb c:=by
 obtain⟨a,b,rfl,rfl,h3,rfl,rfl,h6⟩:=h;obtain⟨d,m',e1,e2⟩:=ak4 k.Z (K:=K) (f:=f) (u:=u) h3 (iW (si a) hk);exact⟨d,m',e1,F8 (e2.mono (by have:=a.DC h3.ba;rw[Tr.e8];omega)) h6⟩
theorem all {K:Nat} (h:P2 k n m ra rb la lb c) (hk:la.length<K) :
  (Deep k.O K m ra/\(lk k.O m ra).all.n=(cw k.O K (aF m ra) ra).1.length/\(cw k.O K (aF m ra) ra).1.length<900000)/\∃ m',cw k.O K (aF m ra) ra=(la,m')/\P2 k n m' ra rb la lb c:=by
 have hl:=h.len;obtain⟨a,b,rfl,rfl,h3,rfl,rfl,h6⟩:=h;obtain⟨d1,d2,m',kk,e1,e2⟩:=ah3 k.Z (K:=K) h3 (iW (si a) hk);refine⟨⟨d1,?_,?_⟩,m',e1,(F8 e2 h6).p⟩
 ·rw[e1];exact d2
 ·rw[e1];simp only;omega
theorem first {K:Nat} {f:Int} {may:A->A->Bool} {P:Nat->Bool} (h:P2 k n m ra rb la lb c) (hA:Asks k.O k.S may P la) (hk:la.length<K) :
  jh k.O K (aF m ra) (lk k.O m ra)/\∃ r m',kI k.O may K (aF m ra) (lk k.O m ra) ⟨0,k.O.a0⟩ f=(r,m')/\BS P 0 la.length f r/\P2 k n m' ra rb la lb c:=by
 obtain⟨a,b,rfl,rfl,h3,rfl,rfl,h6⟩:=h;obtain⟨d,r,m',kk,e1,e2,e3⟩:=ady k.Z (K:=K) (f:=f) h3 hA (iW (si a) hk);exact⟨d,r,m',e1,e2,(F8 e3 h6).p⟩
theorem last {K:Nat} {f:Int} {may:A->A->Bool} {P:Nat->Bool} (h:P2 k n m ra rb la lb c) (hA:Asks k.O k.S may P la) (hk:la.length<K) :
  jh k.O K (aF m ra) (lk k.O m ra)/\∃ r m',j3 k.O may K (aF m ra) (lk k.O m ra) ⟨0,k.O.a0⟩ f=(r,m')/\E4 P 0 la.length f r/\P2 k n m' ra rb la lb c:=by
 obtain⟨a,b,rfl,rfl,h3,rfl,rfl,h6⟩:=h;obtain⟨d,r,m',kk,e1,e2,e3⟩:=agD k.Z (K:=K) (f:=f) h3 hA (iW (si a) hk);exact⟨d,r,m',e1,e2,(F8 e3 h6).p⟩
theorem Ls {K:Nat} (h:P2 k n m ra rb la lb c) (hk:la.length<K):jh k.O K (aF m ra) (lk k.O m ra):=by
 obtain⟨a,b,rfl,rfl,h3,rfl,rfl,h6⟩:=h;exact NV k.Z h3 (iW (si a) hk)
theorem split {K:Nat} {e:E} {r:Ref} {l:List E} (h:P1 k n m r l c) (hk:2*l.length<K) :
  Ko k.O K K m r e/\∃ x y m',lX k.O K K m r e=(x,y,m')/\P2 k n m' x y (ox k.O e l) (sf k.O e l) c:=by
 obtain⟨a,b,rfl,h2,h3,rfl,h5,h6⟩:=h;obtain rfl:=aay h5;obtain⟨d,x,y,m',e1,e2,e3,e4,e5⟩:=aaw k.Z (K:=K) (e:=e) h3 (by rw[← Tr.e8];exact hk)
 exact⟨d,x.root,y.root,m',e1,x,y,rfl,rfl,e2,e3,e4,e5.trans h6⟩
end P2
end
theorem Ns {E A:Type} (O:iL E A) {k:Nat} {m m':Po E A} {r:Ref} (h:iI [] k (zn O) (aF m r) m'):∃ k,iI [] k (zn O) m m':=⟨_,(gC (zn O) m r).to h (S:=[]) (fun s hs=>by simp at hs) (a_ _)⟩
theorem Nt {E A:Type} (O:iL E A) {a b c:Po E A} (h:∃ k,iI [] k (zn O) a b) (h':∃ k,iI [] k (zn O) b c):∃ k,iI [] k (zn O) a c:=by
 obtain⟨k,h⟩:=h;obtain⟨k',h'⟩:=h';exact⟨_,h.to h' (S:=[]) (fun s hs=>by simp at hs) (a_ _)⟩
theorem IA {E A:Type} (O:iL E A) (may:A->A->Bool):∀ (k:Nat) (m:Po E A) (n:Node E A) (a:Part A) (f:Int),∃ kk,iI [] kk (zn O) m (first O may k m n a f).2
 |0,m,_,_,_=>⟨0,iI.refl _ _ _ _⟩
 |k+1,m,n,a,f=>by
  obtain⟨k1,h1⟩:=IA O may k (aF m n.l) (lk O m n.l) a f;have h1:=Ns O h1;rw[first]
  split
  ·exact⟨0,iI.refl _ _ _ _⟩
  ·split
   ·exact⟨0,iI.refl _ _ _ _⟩
   ·split
    ·exact h1
    ·split
     ·exact h1
     ·obtain⟨k2,h2⟩:=IA O may k (aF (first O may k (aF m n.l) (lk O m n.l) a f).2 n.r) (lk O (first O may k (aF m n.l) (lk O m n.l) a f).2 n.r) (dY O (dY O a (lk O m n.l).all) (one O n.e)) f
      exact Nt O h1 (Ns O h2)
theorem KI {E A:Type} (O:iL E A) (may:A->A->Bool):∀ (k:Nat) (m:Po E A) (n:Node E A) (a:Part A) (f:Int),∃ kk,iI [] kk (zn O) m (last O may k m n a f).2
 |0,m,_,_,_=>⟨0,iI.refl _ _ _ _⟩
 |k+1,m,n,a,f=>by
  obtain⟨k1,h1⟩:=KI O may k (aF (aF m n.l) n.r) (lk O (aF m n.l) n.r) (dY O (dY O a (lk O m n.l).all) (one O n.e)) f;have h1:=Nt O ⟨_,gC (zn O) m n.l⟩ (Ns O h1);rw[last];split
  ·exact⟨0,iI.refl _ _ _ _⟩
  ·split
   ·exact⟨0,iI.refl _ _ _ _⟩
   ·simp only;split
    ·exact h1
    ·split
     ·exact h1
     ·exact Nt O h1 (KI O may k _ _ _ _)
def KK:Nat:=5000
structure TS {E A:Type} (k:Kd E A) where
 n:Nat
 m:Po E A
 r:Ref
 l:List E
 c:Int
 ok:P1 k n m r l c
namespace TS
section
variable {E A:Type} {k:Kd E A}
theorem C4 (s:TS k):s.l.length≤1000:=s.ok.len
theorem kk (s:TS k):2*s.l.length<KK:=by have:=s.C4;unfold KK;omega
theorem k1 (s:TS k):s.l.length<KK:=by have:=s.kk;omega
def new (k:Kd E A) (c:Int):TS k:=⟨0,⟨[],[],[],[],0,min (max c 0) 16777216,0⟩,r0,[],min (max c 0) 16777216,P2.empty k _⟩
def gk (s:TS k):Prop:=s.n<100000
instance (s:TS k):Decidable s.gk:=inferInstanceAs (Decidable (_<_))
theorem pp (s:TS k) (h:s.gk):fX 100000 s.m:=s.ok.ok (Nat.le_of_lt h)
def seen (s:TS k):TS k:=⟨s.n,aF s.m s.r,s.r,s.l,s.c,(s.ok.seen s.r).p⟩
def h (s:TS k):Int:=(lk k.O s.m s.r).h
theorem Aj (s:TS k):0≤s.h/\s.h≤ns s.l.length:=by
 obtain⟨H,e,hh⟩:=s.ok.akW;unfold h;rw[e];omega
structure kV (s:TS k) (e:E):Prop where
 lT:s.n<100000
 dk:k.dk (lu k.O e s.l)
def KB (s:TS k) (e:E):Bool:=(jw k.O e s.l).isSome||decide ((s.l.length:Int)≠s.c)
def Nk (s:TS k) (e:E):List E:=if s.KB e=ao then lu k.O e s.l else s.l
theorem tA {s:TS k} {e:E} (h:s.kV e):QH k.O KK s.m s.r e/\(nS k.O KK s.m s.r e).1=s.KB e /\
  P1 k (s.n+1) (nS k.O KK s.m s.r e).2.2 (nS k.O KK s.m s.r e).2.1 (s.Nk e) s.c/\m9 (32*ns s.l.length+4) s.m (nS k.O KK s.m s.r e).2.2:=by
 obtain⟨d,r',m',e1,e2,e3⟩:=s.ok.put (K:=KK) (e:=e) h.lT h.dk s.k1;rw[e1];simp only[jN,Nat.add_zero] at e2 ⊢;exact⟨d,rfl,e2,e3⟩
instance (s:TS k) (e:E):Decidable (s.kV e):=decidable_of_iff (s.n<100000/\k.dk (lu k.O e s.l)) ⟨fun⟨a,b⟩=>⟨a,b⟩,fun⟨a,b⟩=>⟨a,b⟩⟩
def put (s:TS k) (e:E):TS k:=if h:s.kV e then⟨s.n+1,(nS k.O KK s.m s.r e).2.2,(nS k.O KK s.m s.r e).2.1,s.Nk e,s.c,(tA h).2.2.1⟩ else s
theorem put_eq {s:TS k} {e:E} (h:s.kV e):s.put e=⟨s.n+1,(nS k.O KK s.m s.r e).2.2,(nS k.O KK s.m s.r e).2.1,s.Nk e,s.c,(tA h).2.2.1⟩:=by unfold put;rw[dif_pos h]
theorem YI {s:TS k} {e:E} (h:s.kV e):(s.put e).l=s.Nk e:=by rw[put_eq h]
theorem TH {s:TS k} {e:E} (h:s.kV e):(s.put e).n=s.n+1:=by rw[put_eq h]
theorem Tj {s:TS k} {e:E} (h:s.kV e):(s.put e).c=s.c:=by rw[put_eq h]
theorem Lw {s:TS k} {e:E} (h:s.kV e):m9 (32*ns s.l.length+4) s.m (s.put e).m:=by rw[put_eq h];exact(tA h).2.2.2
theorem tu (s:TS k) (e:E):qv k.O KK KK s.m s.r e/\(jM k.O KK s.m s.r e).1=(ir k.O e s.l).1/\(jM k.O KK s.m s.r e).2.1=(ir k.O e s.l).2 /\
  P1 k (s.n+1) (jM k.O KK s.m s.r e).2.2.2 (jM k.O KK s.m s.r e).2.2.1 (ng k.O e s.l) s.c/\m9 (120*ns s.l.length+5) s.m (jM k.O KK s.m s.r e).2.2.2:=by
 obtain⟨d,r',m',e1,e2,e3⟩:=s.ok.drop (K:=KK) (e:=e) s.kk;rw[e1];exact⟨d,rfl,rfl,e2,e3⟩
def drop (s:TS k) (e:E):TS k:=⟨s.n+1,(jM k.O KK s.m s.r e).2.2.2,(jM k.O KK s.m s.r e).2.2.1,ng k.O e s.l,s.c,(s.tu e).2.2.2.1⟩
def find (s:TS k) (e:E):TS k:=⟨s.n,(iB k.O KK (aF s.m s.r) (lk k.O s.m s.r) e).2,s.r,s.l,s.c,by obtain⟨d,m',e1,e2⟩:=s.ok.find (K:=KK) (e:=e) s.k1;rw[e1];exact e2.p⟩
def ky (s:TS k) (e:E):TS k:=⟨s.n,(lO k.O KK (aF s.m s.r) (lk k.O s.m s.r) e 0).2,s.r,s.l,s.c,by obtain⟨d,m',e1,e2⟩:=s.ok.ky (K:=KK) (e:=e) s.k1;rw[e1];exact e2.p⟩
def at_ (s:TS k) (i:Int):TS k:=⟨s.n,(qF k.O KK s.m s.r i).2,s.r,s.l,s.c,by obtain⟨d,m',e1,e2⟩:=s.ok.at_ (K:=KK) (i:=i) s.k1;rw[e1];exact e2.p⟩
def F5 (s:TS k) (f u:Int):TS k:=⟨s.n,(fW k.O KK (aF s.m s.r) (lk k.O s.m s.r) f u).2,s.r,s.l,s.c,by obtain⟨d,m',e1,e2⟩:=s.ok.F5 (K:=KK) (f:=f) (u:=u) s.k1;rw[e1];exact e2.p⟩
def all (s:TS k):TS k:=⟨s.n,(cw k.O KK (aF s.m s.r) s.r).2,s.r,s.l,s.c,by obtain⟨d,m',e1,e2⟩:=s.ok.all (K:=KK) s.k1;rw[e1];exact e2⟩
theorem HW (s:TS k) (e:E):m9 (ns s.l.length+1) s.m (s.find e).m:=by
 obtain⟨d,m',e1,e2⟩:=s.ok.find (K:=KK) (e:=e) s.k1;show m9 _ s.m (iB k.O KK (aF s.m s.r) (lk k.O s.m s.r) e).2
 rw[e1];exact e2.qR
theorem adP (s:TS k) (e:E):m9 (2*ns s.l.length+1) s.m (s.ky e).m:=by
 obtain⟨d,m',e1,e2⟩:=s.ok.ky (K:=KK) (e:=e) s.k1;show m9 _ s.m (lO k.O KK (aF s.m s.r) (lk k.O s.m s.r) e 0).2
 rw[e1];exact e2.qR
theorem Lo (s:TS k) (f u:Int):m9 (4*ns s.l.length+1) s.m (s.F5 f u).m:=by
 obtain⟨d,m',e1,e2⟩:=s.ok.F5 (K:=KK) (f:=f) (u:=u) s.k1;show m9 _ s.m (fW k.O KK (aF s.m s.r) (lk k.O s.m s.r) f u).2
 rw[e1];exact e2.qR
theorem qb (s:TS k):m9 1 s.m s.seen.m:=(s.ok.seen s.r).qR
theorem NL (s:TS k) (e:E):m9 (120*ns s.l.length+5) s.m (s.drop e).m:=(s.tu e).2.2.2.2
def uI (may:A->A->Bool) (s:TS k) (f:Int):Int:=(kI k.O may KK (aF s.m s.r) (lk k.O s.m s.r) ⟨0,k.O.a0⟩ f).1
def AE (may:A->A->Bool) (s:TS k) (f:Int):Int:=(j3 k.O may KK (aF s.m s.r) (lk k.O s.m s.r) ⟨0,k.O.a0⟩ f).1
def first (may:A->A->Bool) (s:TS k) (f:Int):TS k:=⟨s.n,(kI k.O may KK (aF s.m s.r) (lk k.O s.m s.r) ⟨0,k.O.a0⟩ f).2,s.r,s.l,s.c,P2.qn (s.ok.seen s.r).p (IA k.O may KK _ _ _ _)⟩
def last (may:A->A->Bool) (s:TS k) (f:Int):TS k:=⟨s.n,(j3 k.O may KK (aF s.m s.r) (lk k.O s.m s.r) ⟨0,k.O.a0⟩ f).2,s.r,s.l,s.c,P2.qn (s.ok.seen s.r).p (KI k.O may KK _ _ _ _)⟩
theorem U2 {may:A->A->Bool} {P:Nat->Bool} {s:TS k} {f:Int} (h:Asks k.O k.S may P s.l):BS P 0 s.l.length f (s.uI may f):=by
 obtain⟨d,r,m',e1,e2,e3⟩:=s.ok.first (K:=KK) (f:=f) h s.k1
 unfold uI;rw[e1];exact e2
theorem X2 {may:A->A->Bool} {P:Nat->Bool} {s:TS k} {f:Int} (h:Asks k.O k.S may P s.l):E4 P 0 s.l.length f (s.AE may f):=by
 obtain⟨d,r,m',e1,e2,e3⟩:=s.ok.last (K:=KK) (f:=f) h s.k1;unfold AE;rw[e1];exact e2
theorem Ls (s:TS k):jh k.O KK (aF s.m s.r) (lk k.O s.m s.r):=s.ok.Ls s.k1
end
end TS
end Gv
namespace G8
open Rx
set_option maxRecDepth 100000
def k8:Gv.Kd Wv.Mk Wv.Sw:=⟨Wv.O8,Wv.S8,Wv.F0,(fun l=>inferInstanceAs (Decidable (l.length≤60))),Wv.Ty,(fun x h=>jq h (by decide)),du _,(fun x y h=>by
 unfold Wv.F0 at *
 rw[bA] at *
 rw[List.length_tail];omega)⟩
abbrev Ts:=Gv.TS k8
inductive Rt
 |tree (s:Ts)
def IG:Rt->Hp Rs
 |.tree s=>[aa (.inl (110,[.pointer (aa ⟨1,0,aj⟩),.int .i64 s.r.i,.int .i64 s.r.g])),aa (.inr (.inr (.inr (.da s.m))))]
def L2:EZ Rt Rs where
 lay:=IG
 ne x:=by cases x<;>exact sL _
 own x b X h:=by
  cases x with
  |tree s =>
   match b,h with
   |0,h=>simp only[IG,cd,ct] at h;subst h;rfl
   |1,h=>simp only[IG,List.getElem?_cons_succ,cd,ct] at h;subst h;rfl
   |b+2,h=>simp[IG] at h
 ins x:=by cases x<;>rfl
def D2:fH Rt:=F3 D L2
abbrev oT (s:Ts):Option (SB Rt):=aa (.inr (.inr (.inr (.tree s))))
def pD (n:Nat) (c:aX):Prop:=∃ l:List Int,c=⟨l,[],[]⟩/\l.length=n
def OS (n:Nat) (c:aX):Prop:=∃ l:List Bool,c=⟨[],l,[]⟩/\l.length=n
def rB (n:Nat) (gs:List Int) (lv:List Bool) (i g:Int):Bool:=decide (0≤i)&&decide (i<n)&&lv.getD i.toNat an&&decide (gs.getD i.toNat 0=g)
structure aeq (n:Nat) (c0 c1 c2 c3 c4 c5 c6 c7 c8 c9 ou oo om zJ zr zy zt zM zw zq zS zF zo zG zT zL zh zx zD zH yA yj:aX):Prop where
 Dl:pD n c0
 Of:OS n c1
 pS:pD n c2
 R9:pD n c3
 hc4:OS n c4
 hc5:OS n c5
 hc6:pD n c6
 hc7:pD n c7
 hc8:pD n c8
 hc9:pD n c9
 am_:pD n ou
 amU:pD n oo
 anb:pD n om
 apu:pD n zJ
 apS:pD n zr
 apN:pD n zy
 apQ:pD n zt
 apC:pD n zM
 aph:pD n zw
 apP:pD n zq
 apr:pD n zS
 apE:pD n zF
 aps:pD n zo
 apL:OS n zG
 apD:pD n zT
 ap1:pD n zL
 apX:OS n zh
 apz:pD n zx
 apY:pD n zD
 apc:pD n zH
 apH:pD n yA
 apG:OS n yj
def mU (n:Nat):List aX->Prop
 |[c0,c1,c2,c3,c4,c5,c6,c7,c8,c9,ou,oo,om,zJ,zr,zy,zt,zM,zw,zq,zS,zF,zo,zG,zT,zL,zh,zx,zD,zH,yA,yj]=>aeq n c0 c1 c2 c3 c4 c5 c6 c7 c8 c9 ou oo om zJ zr zy zt zM zw zq zS zF zo zG zT zL zh zx zD zH yA yj
 |_=>False
def VX:List Value->Hp Empty->Option Bool:=fun args hh=>match args,hh with
 |[.pointer (aa ⟨0,0,aj⟩),.agg ⟨[.int .i64 i,.int .i64 g]⟩],[aa (.inl (186,[.slice (aa ⟨1,0,aa 32000⟩) n cp,.slice (aa ⟨2,0,aa 1000⟩) fn fc,.int .i64 hd,.int .i64 ca,.int .i64 vi])),aa (.inr (.inl (189,⟨tm,n2,[c0,c1,c2,c3,c4,c5,c6,c7,c8,c9,ou,oo,om,zJ,zr,zy,zt,zM,zw,zq,zS,zF,zo,zG,zT,zL,zh,zx,zD,zH,yA,yj]⟩))),aa (.inr (.inl (3,⟨[.int .i64 0],f2,[⟨fr,[],[]⟩]⟩)))]=>aa (rB n yA.i yj.b i g)
 |_,_=>aj
def J6:Prim Empty:=fun args hh=>match args,hh with
 |[.pointer (aa ⟨0,0,aj⟩),.agg ⟨[.int .i64 i,.int .i64 g]⟩],[aa (.inl (186,[.slice (aa ⟨1,0,aa 32000⟩) n cp,.slice (aa ⟨2,0,aa 1000⟩) fn fc,.int .i64 hd,.int .i64 ca,.int .i64 vi])),aa (.inr (.inl (189,⟨tm,n2,[c0,c1,c2,c3,c4,c5,c6,c7,c8,c9,ou,oo,om,zJ,zr,zy,zt,zM,zw,zq,zS,zF,zo,zG,zT,zL,zh,zx,zD,zH,yA,yj]⟩))),aa (.inr (.inl (3,⟨[.int .i64 0],f2,[⟨fr,[],[]⟩]⟩)))]=>aa ⟨tm=di/\n2=n/\n<1000000/\mU n [c0,c1,c2,c3,c4,c5,c6,c7,c8,c9,ou,oo,om,zJ,zr,zy,zt,zM,zw,zq,zS,zF,zo,zG,zT,zL,zh,zx,zD,zH,yA,yj],.pointer (aa ⟨1,i.toNat,aa 32000⟩),aj,[aa (.inl (186,[.slice (aa ⟨1,0,aa 32000⟩) n cp,.slice (aa ⟨2,0,aa 1000⟩) fn fc,.int .i64 hd,.int .i64 ca,.int .i64 (ar.wrap (vi+1))])),aa (.inr (.inl (189,⟨tm,n2,[c0,c1,c2,c3,c4,c5,c6,c7,c8,c9,ou,oo,om,zJ,zr,zy,zt,zM,zw,zq,zS,zF,zo,zG,zT,zL,zh,zx,zD,zH,yA,yj]⟩))),aa (.inr (.inl (3,⟨[.int .i64 0],f2,[⟨fr,[],[]⟩]⟩)))],[],[(0,0)]⟩
 |_,_=>aj
def KF:Prim Empty:=fun args hh=>match args,hh with
 |[.pointer (aa ⟨0,0,aj⟩),.agg ⟨[.int .i64 i,.int .i64 g]⟩],[aa (.inl (186,[.slice (aa ⟨1,0,aa 32000⟩) n cp,.slice (aa ⟨2,0,aa 1000⟩) fn fc,.int .i64 hd,.int .i64 ca,.int .i64 vi])),aa (.inr (.inl (189,⟨tm,n2,[c0,c1,c2,c3,c4,c5,c6,c7,c8,c9,ou,oo,om,zJ,zr,zy,zt,zM,zw,zq,zS,zF,zo,zG,zT,zL,zh,zx,zD,zH,yA,yj]⟩))),aa (.inr (.inl (3,⟨[.int .i64 0],f2,[⟨fr,[],[]⟩]⟩)))]=>aa ⟨tm=di/\n2=n/\n<1000000/\mU n [c0,c1,c2,c3,c4,c5,c6,c7,c8,c9,ou,oo,om,zJ,zr,zy,zt,zM,zw,zq,zS,zF,zo,zG,zT,zL,zh,zx,zD,zH,yA,yj],.pointer aj,aj,hh,[],[]⟩
 |_,_=>aj
def qS:jb Empty:=⟨VX,J6,KF⟩
def VM:ez Empty:=[(1000000000,lL)]
theorem KH:cL s8 Tryz.prog VM:=⟨iu,trivial⟩
theorem KE:rK s8 Tryz.prog 145 (rZ qS ao) (qS.go ao):=by
 refine wg (fn:=Tryz.f145) (root:=dJ Tryz.f145) (by kernel_rfl) (by kernel_rfl) (by kernel_rfl) fun args hh x hx=>?_
 unfold qS jb.go J6 at hx;simp only at hx;split at hx
 ·rename_i i g n cp fn fc hd ca vi tm n2 c0 c1 c2 c3 c4 c5 c6 c7 c8 c9 ou oo om zJ zr zy zt zM zw zq zS zF zo zG zT zL zh zx zD zH yA yj f2 fr;cases hx;refine⟨a_ _,(fun b hb=>by cases hb),(fun hw=>by first|rfl|cases hw),fun mN hv=>?_⟩
  obtain⟨rfl,rfl,u_,⟨⟨l0,rfl,n9⟩,⟨l1,rfl,zk⟩,⟨l2,rfl,Bm⟩,⟨l3,rfl,yh⟩,⟨l4,rfl,yv⟩,⟨l5,rfl,Eo⟩,⟨l6,rfl,Em⟩,⟨l7,rfl,Ek⟩,⟨l8,rfl,EO⟩,⟨l9,rfl,Ed⟩,⟨qT,rfl,yL⟩,⟨nM,rfl,yP⟩,⟨mT,rfl,yS⟩,⟨CO,rfl,N6⟩,⟨CV,rfl,MW⟩,⟨CS,rfl,No⟩,⟨CT,rfl,Nh⟩,⟨CA,rfl,Nl⟩,⟨Ct,rfl,NQ⟩,⟨CI,rfl,M'⟩,⟨CJ,rfl,MN⟩,⟨CW,rfl,NH⟩,⟨Cq,rfl,MR⟩,⟨Cr,rfl,MO⟩,⟨C5,rfl,ML⟩,⟨CB,rfl,M7⟩,⟨Cz,rfl,NY⟩,⟨CN,rfl,NZ⟩,⟨Cl,rfl,Nq⟩,⟨C0,rfl,Nv⟩,⟨uy,rfl,NC⟩,⟨sD,rfl,NO⟩⟩⟩:=hv;have hw:rB n2 uy sD i g=ao:=by
   rcases mN with⟨h,_⟩|h
   ·exact(wu _ h).elim
   ·exact pa h
  clear mN;generalize hG:ch (R:=Empty) _ _=G;refine cJ (T:=VM) KH mixed 200 ?_;refine bK (q:=let Z1:=bk ar;(decide (i<(0:Int))=ao->Vc (aD (decide (i<(0:Int)))=aD ao)/\aW (G (aC aj) [aa (.inl (186,[.slice (aa ⟨1,0,aa 32000⟩) n2 cp,.slice (aa ⟨2,0,aa 1000⟩) fn fc,Z1 hd,Z1 ca,Z1 vi])),aa (.inr (.inl (189,Row.mk di n2 (cV l0 l1 l2 l3 l4 l5 l6 l7 l8 l9 qT nM mT CO CV CS CT CA Ct CI CJ CW Cq Cr C5 CB Cz CN Cl C0 uy sD)))),aa (.inr (.inl (3,Row.mk [Z1 0] f2 [aX.mk fr [] []]))),aa (.inl (108,[Z1 i,Z1 g]))]))/\(decide (i<(0:Int))=an->Vc (aD (decide (i<(0:Int)))=aD an)/\(decide (i≥(↑n2:Int))=ao->aW (G (aC aj) [aa (.inl (186,[.slice (aa ⟨1,0,aa 32000⟩) n2 cp,.slice (aa ⟨2,0,aa 1000⟩) fn fc,Z1 hd,Z1 ca,Z1 vi])),aa (.inr (.inl (189,Row.mk di n2 (cV l0 l1 l2 l3 l4 l5 l6 l7 l8 l9 qT nM mT CO CV CS CT CA Ct CI CJ CW Cq Cr C5 CB Cz CN Cl C0 uy sD)))),aa (.inr (.inl (3,Row.mk [Z1 0] f2 [aX.mk fr [] []]))),aa (.inl (108,[Z1 i,Z1 g]))]))/\(decide (i≥(↑n2:Int))=an->Vc ((0:Int)≤i/\i<(↑n2:Int)/\0+n2≤n2)/\Vc (0+aH i<n2)/\((!ax sD (0+aH i) an)=ao->Vc (0+aH i<n2)/\Vc ((aD !ax sD (0+aH i) an)=aD ao)/\aW (G (aC aj) [aa (.inl (186,[.slice (aa ⟨1,0,aa 32000⟩) n2 cp,.slice (aa ⟨2,0,aa 1000⟩) fn fc,Z1 hd,Z1 ca,Z1 vi])),aa (.inr (.inl (189,Row.mk di n2 (cV l0 l1 l2 l3 l4 l5 l6 l7 l8 l9 qT nM mT CO CV CS CT CA Ct CI CJ CW Cq Cr C5 CB Cz CN Cl C0 uy sD)))),aa (.inr (.inl (3,Row.mk [Z1 0] f2 [aX.mk fr [] []]))),aa (.inl (108,[Z1 i,Z1 g]))]))/\((!ax sD (0+aH i) an)=an->Vc (0+aH i<n2)/\Vc ((aD !ax sD (0+aH i) an)=aD an)/\Vc (0+aH i<n2)/\((ax uy (0+aH i) (0:Int) != g)=ao->aW (G (aC aj) [aa (.inl (186,[.slice (aa ⟨1,0,aa 32000⟩) n2 cp,.slice (aa ⟨2,0,aa 1000⟩) fn fc,Z1 hd,Z1 ca,Z1 vi])),aa (.inr (.inl (189,Row.mk di n2 (cV l0 l1 l2 l3 l4 l5 l6 l7 l8 l9 qT nM mT CO CV CS CT CA Ct CI CJ CW Cq Cr C5 CB Cz CN Cl C0 uy sD)))),aa (.inr (.inl (3,Row.mk [Z1 0] f2 [aX.mk fr [] []]))),aa (.inl (108,[Z1 i,Z1 g]))]))/\((ax uy (0+aH i) (0:Int) != g)=an->Vc True/\aW (G (aC (aa (RE 1 (0+aH i) (aa 32000)))) [aa (.inl (186,[.slice (aa ⟨1,0,aa 32000⟩) n2 cp,.slice (aa ⟨2,0,aa 1000⟩) fn fc,Z1 hd,Z1 ca,Z1 (ck ar (vi+(1:Int)))])),aa (.inr (.inl (189,Row.mk di n2 (cV l0 l1 l2 l3 l4 l5 l6 l7 l8 l9 qT nM mT CO CV CS CT CA Ct CI CJ CW Cq Cr C5 CB Cz CN Cl C0 uy sD)))),aa (.inr (.inl (3,Row.mk [Z1 0] f2 [aX.mk fr [] []]))),aa (.inl (108,[Z1 i,Z1 g]))])))))) ?_ (by kernel_rfl)
  intro Z1;subst Z1;have e0:0+i.toNat=i.toNat:=bV _;rw[e0];clear n9 zk Bm yh yv Eo Em Ek EO Ed yL yP yS N6 MW No Nh Nl NQ M' MN NH MR MO ML M7 NY NZ Nq Nv NC NO;subst hG;have r_:rB n2 uy sD i g=(decide (0≤i)&&decide (i<n2)&&(sD).getD i.toNat an&&decide ((uy).getD i.toNat 0=g)):=rfl;refine⟨fun h=>⟨⟨congrArg aD h⟩,⟨?_⟩⟩,fun h=>⟨⟨congrArg aD h⟩,fun h2=>⟨?_⟩,fun h2=>?_⟩⟩
  rotate_left 2
  ·have i0:=of_decide_eq_false h;have i1:=of_decide_eq_false h2;rw[decide_eq_true (by omega),decide_eq_true (by omega),je,je] at r_
   refine⟨⟨by omega,by omega,by omega⟩,⟨by omega⟩,fun h3=>⟨⟨by omega⟩,⟨congrArg aD h3⟩,⟨?_⟩⟩,fun h3=>⟨⟨by omega⟩,⟨congrArg aD h3⟩,⟨by omega⟩,fun h4=>⟨?_⟩,fun h4=>⟨⟨trivial⟩,⟨?_⟩⟩⟩⟩
   ·rw[Bool.not_eq_true'] at h3;rw[hw,h3] at r_;cases r_
   ·rw[hw,decide_eq_false (ne_of_beq_false (by simpa using h4)),uQ] at r_;cases r_
   ·exact⟨[0,1,2],rfl,rfl,⟨.inl rfl,⟨_,rfl,.inl rfl⟩,⟨_,rfl,.inl rfl⟩,trivial⟩,rfl,rfl,rfl,rfl⟩
  ·have:=of_decide_eq_true h;rw[hw,decide_eq_false (by omega)] at r_;cases r_
  ·have:=of_decide_eq_true h2;rw[hw,decide_eq_false (p:=i<n2) (by omega),uQ] at r_;cases r_
 ·cases hx
theorem J8:rK s8 Tryz.prog 145 (rZ qS an) (qS.go an):=by
 refine wg (fn:=Tryz.f145) (root:=dJ Tryz.f145) (by kernel_rfl) (by kernel_rfl) (by kernel_rfl) fun args hh x hx=>?_
 unfold qS jb.go KF at hx;simp only at hx;split at hx
 ·rename_i i g n cp fn fc hd ca vi tm n2 c0 c1 c2 c3 c4 c5 c6 c7 c8 c9 ou oo om zJ zr zy zt zM zw zq zS zF zo zG zT zL zh zx zD zH yA yj f2 fr;cases hx;refine⟨a_ _,(fun b hb=>by cases hb),(fun hw=>by first|rfl|cases hw),fun mN hv=>?_⟩
  obtain⟨rfl,rfl,u_,⟨⟨l0,rfl,n9⟩,⟨l1,rfl,zk⟩,⟨l2,rfl,Bm⟩,⟨l3,rfl,yh⟩,⟨l4,rfl,yv⟩,⟨l5,rfl,Eo⟩,⟨l6,rfl,Em⟩,⟨l7,rfl,Ek⟩,⟨l8,rfl,EO⟩,⟨l9,rfl,Ed⟩,⟨qT,rfl,yL⟩,⟨nM,rfl,yP⟩,⟨mT,rfl,yS⟩,⟨CO,rfl,N6⟩,⟨CV,rfl,MW⟩,⟨CS,rfl,No⟩,⟨CT,rfl,Nh⟩,⟨CA,rfl,Nl⟩,⟨Ct,rfl,NQ⟩,⟨CI,rfl,M'⟩,⟨CJ,rfl,MN⟩,⟨CW,rfl,NH⟩,⟨Cq,rfl,MR⟩,⟨Cr,rfl,MO⟩,⟨C5,rfl,ML⟩,⟨CB,rfl,M7⟩,⟨Cz,rfl,NY⟩,⟨CN,rfl,NZ⟩,⟨Cl,rfl,Nq⟩,⟨C0,rfl,Nv⟩,⟨uy,rfl,NC⟩,⟨sD,rfl,NO⟩⟩⟩:=hv;have hw:rB n2 uy sD i g=an:=by
   rcases mN with⟨h,_⟩|h
   ·exact(wu _ h).elim
   ·exact pa h
  clear mN;generalize hG:ch (R:=Empty) _ _=G;refine cJ (T:=VM) KH mixed 200 ?_;refine bK (q:=let Z1:=bk ar;(decide (i<(0:Int))=ao->Vc (aD (decide (i<(0:Int)))=aD ao)/\aW (G (aC aj) [aa (.inl (186,[.slice (aa ⟨1,0,aa 32000⟩) n2 cp,.slice (aa ⟨2,0,aa 1000⟩) fn fc,Z1 hd,Z1 ca,Z1 vi])),aa (.inr (.inl (189,Row.mk di n2 (cV l0 l1 l2 l3 l4 l5 l6 l7 l8 l9 qT nM mT CO CV CS CT CA Ct CI CJ CW Cq Cr C5 CB Cz CN Cl C0 uy sD)))),aa (.inr (.inl (3,Row.mk [Z1 0] f2 [aX.mk fr [] []]))),aa (.inl (108,[Z1 i,Z1 g]))]))/\(decide (i<(0:Int))=an->Vc (aD (decide (i<(0:Int)))=aD an)/\(decide (i≥(↑n2:Int))=ao->aW (G (aC aj) [aa (.inl (186,[.slice (aa ⟨1,0,aa 32000⟩) n2 cp,.slice (aa ⟨2,0,aa 1000⟩) fn fc,Z1 hd,Z1 ca,Z1 vi])),aa (.inr (.inl (189,Row.mk di n2 (cV l0 l1 l2 l3 l4 l5 l6 l7 l8 l9 qT nM mT CO CV CS CT CA Ct CI CJ CW Cq Cr C5 CB Cz CN Cl C0 uy sD)))),aa (.inr (.inl (3,Row.mk [Z1 0] f2 [aX.mk fr [] []]))),aa (.inl (108,[Z1 i,Z1 g]))]))/\(decide (i≥(↑n2:Int))=an->Vc ((0:Int)≤i/\i<(↑n2:Int)/\0+n2≤n2)/\Vc (0+aH i<n2)/\((!ax sD (0+aH i) an)=ao->Vc (0+aH i<n2)/\Vc ((aD !ax sD (0+aH i) an)=aD ao)/\aW (G (aC aj) [aa (.inl (186,[.slice (aa ⟨1,0,aa 32000⟩) n2 cp,.slice (aa ⟨2,0,aa 1000⟩) fn fc,Z1 hd,Z1 ca,Z1 vi])),aa (.inr (.inl (189,Row.mk di n2 (cV l0 l1 l2 l3 l4 l5 l6 l7 l8 l9 qT nM mT CO CV CS CT CA Ct CI CJ CW Cq Cr C5 CB Cz CN Cl C0 uy sD)))),aa (.inr (.inl (3,Row.mk [Z1 0] f2 [aX.mk fr [] []]))),aa (.inl (108,[Z1 i,Z1 g]))]))/\((!ax sD (0+aH i) an)=an->Vc (0+aH i<n2)/\Vc ((aD !ax sD (0+aH i) an)=aD an)/\Vc (0+aH i<n2)/\((ax uy (0+aH i) (0:Int) != g)=ao->aW (G (aC aj) [aa (.inl (186,[.slice (aa ⟨1,0,aa 32000⟩) n2 cp,.slice (aa ⟨2,0,aa 1000⟩) fn fc,Z1 hd,Z1 ca,Z1 vi])),aa (.inr (.inl (189,Row.mk di n2 (cV l0 l1 l2 l3 l4 l5 l6 l7 l8 l9 qT nM mT CO CV CS CT CA Ct CI CJ CW Cq Cr C5 CB Cz CN Cl C0 uy sD)))),aa (.inr (.inl (3,Row.mk [Z1 0] f2 [aX.mk fr [] []]))),aa (.inl (108,[Z1 i,Z1 g]))]))/\((ax uy (0+aH i) (0:Int) != g)=an->Vc True/\aW (G (aC (aa (RE 1 (0+aH i) (aa 32000)))) [aa (.inl (186,[.slice (aa ⟨1,0,aa 32000⟩) n2 cp,.slice (aa ⟨2,0,aa 1000⟩) fn fc,Z1 hd,Z1 ca,Z1 (ck ar (vi+(1:Int)))])),aa (.inr (.inl (189,Row.mk di n2 (cV l0 l1 l2 l3 l4 l5 l6 l7 l8 l9 qT nM mT CO CV CS CT CA Ct CI CJ CW Cq Cr C5 CB Cz CN Cl C0 uy sD)))),aa (.inr (.inl (3,Row.mk [Z1 0] f2 [aX.mk fr [] []]))),aa (.inl (108,[Z1 i,Z1 g]))])))))) ?_ (by kernel_rfl)
  intro Z1;subst Z1;have e0:0+i.toNat=i.toNat:=bV _;rw[e0];clear n9 zk Bm yh yv Eo Em Ek EO Ed yL yP yS N6 MW No Nh Nl NQ M' MN NH MR MO ML M7 NY NZ Nq Nv NC NO;subst hG;have r_:rB n2 uy sD i g=(decide (0≤i)&&decide (i<n2)&&(sD).getD i.toNat an&&decide ((uy).getD i.toNat 0=g)):=rfl;refine⟨fun h=>⟨⟨congrArg aD h⟩,⟨?_⟩⟩,fun h=>⟨⟨congrArg aD h⟩,fun h2=>⟨?_⟩,fun h2=>?_⟩⟩
  rotate_left 2
  ·have i0:=of_decide_eq_false h;have i1:=of_decide_eq_false h2;rw[decide_eq_true (by omega),decide_eq_true (by omega),je,je] at r_
   refine⟨⟨by omega,by omega,by omega⟩,⟨by omega⟩,fun h3=>⟨⟨by omega⟩,⟨congrArg aD h3⟩,⟨?_⟩⟩,fun h3=>⟨⟨by omega⟩,⟨congrArg aD h3⟩,⟨by omega⟩,fun h4=>⟨?_⟩,fun h4=>⟨⟨trivial⟩,⟨?_⟩⟩⟩⟩
   ·exact⟨[0,1,2],rfl,rfl,⟨.inl rfl,⟨_,rfl,.inl rfl⟩,⟨_,rfl,.inl rfl⟩,trivial⟩,rfl,rfl,rfl,rfl⟩
   ·exact⟨[0,1,2],rfl,rfl,⟨.inl rfl,⟨_,rfl,.inl rfl⟩,⟨_,rfl,.inl rfl⟩,trivial⟩,rfl,rfl,rfl,rfl⟩
   ·rw[hw,decide_eq_true (by simpa using h4),Bool.and_true] at r_;rw[Bool.not_eq_false'] at h3;rw[h3] at r_;cases r_
  ·exact⟨[0,1,2],rfl,rfl,⟨.inl rfl,⟨_,rfl,.inl rfl⟩,⟨_,rfl,.inl rfl⟩,trivial⟩,rfl,rfl,rfl,rfl⟩
  ·exact⟨[0,1,2],rfl,rfl,⟨.inl rfl,⟨_,rfl,.inl rfl⟩,⟨_,rfl,.inl rfl⟩,trivial⟩,rfl,rfl,rfl,rfl⟩
 ·cases hx
theorem Nr:b6 s8 Tryz.prog 145 qS:=fun b=>by cases b;exact J8;exact KE
theorem QV:Vc (fits (-1)):=⟨⟨by omega,by omega⟩⟩
theorem UK {n:Nat} (h:n<1000000):Vc (0+n≤n/\1≤1/\(n+1)*256≤140737488355328/\n+1≤140737488355328):=⟨by omega,by omega,by omega,by omega⟩
theorem Rk {n:Nat} (h:n<1000000):Vc (fits (((n+1:Nat):Int)-1)):=⟨⟨by omega,by omega⟩⟩
theorem YK (n:Nat):((n+1:Nat):Int)-1=n:=by omega
def ZJ:List Value->Hp Empty->Option Bool:=fun args hh=>match args,hh with
 |[.pointer (aa ⟨0,0,aj⟩)],[aa (.inl (186,[.slice (aa ⟨1,0,aa 32000⟩) n cp,.slice (aa ⟨2,0,aa 1000⟩) fn fc,.int .i64 hd,.int .i64 ca,.int .i64 vi])),aa (.inr (.inl (189,⟨tm,n2,[c0,c1,c2,c3,c4,c5,c6,c7,c8,c9,ou,oo,om,zJ,zr,zy,zt,zM,zw,zq,zS,zF,zo,zG,zT,zL,zh,zx,zD,zH,yA,yj]⟩))),aa (.inr (.inl (3,⟨[.int .i64 0],f2,[⟨fr,[],[]⟩]⟩)))]=>aa (decide (fn=0))
 |_,_=>aj
def PD:Prim Empty:=fun args hh=>match args,hh with
 |[.pointer (aa ⟨0,0,aj⟩)],[aa (.inl (186,[.slice (aa ⟨1,0,aa 32000⟩) n cp,.slice (aa ⟨2,0,aa 1000⟩) fn fc,.int .i64 hd,.int .i64 ca,.int .i64 vi])),aa (.inr (.inl (189,⟨tm,n2,[c0,c1,c2,c3,c4,c5,c6,c7,c8,c9,ou,oo,om,zJ,zr,zy,zt,zM,zw,zq,zS,zF,zo,zG,zT,zL,zh,zx,zD,zH,yA,yj]⟩))),aa (.inr (.inl (3,⟨[.int .i64 0],f2,[⟨fr,[],[]⟩]⟩)))]=>aa ⟨fn=0/\f2=fn/\fc=0/\cp=0/\tm=di/\n2=n/\n<1000000/\mU n [c0,c1,c2,c3,c4,c5,c6,c7,c8,c9,ou,oo,om,zJ,zr,zy,zt,zM,zw,zq,zS,zF,zo,zG,zT,zL,zh,zx,zD,zH,yA,yj],.int .i64 n,aj,[aa (.inl (186,[.slice (aa ⟨3,0,aa 32000⟩) (n+1) 0,.slice (aa ⟨2,0,aa 1000⟩) fn fc,.int .i64 hd,.int .i64 ca,.int .i64 vi])),aj,aa (.inr (.inl (3,⟨[.int .i64 0],f2,[⟨fr,[],[]⟩]⟩))),aa (.inr (.inl (189,⟨tm,(n+1),[⟨c0.i++[0],[],[]⟩,⟨[],c1.b++[an],[]⟩,⟨c2.i++[0],[],[]⟩,⟨c3.i++[0],[],[]⟩,⟨[],c4.b++[an],[]⟩,⟨[],c5.b++[an],[]⟩,⟨c6.i++[0],[],[]⟩,⟨c7.i++[0],[],[]⟩,⟨c8.i++[0],[],[]⟩,⟨c9.i++[0],[],[]⟩,⟨ou.i++[0],[],[]⟩,⟨oo.i++[0],[],[]⟩,⟨om.i++[0],[],[]⟩,⟨zJ.i++[0],[],[]⟩,⟨zr.i++[0],[],[]⟩,⟨zy.i++[0],[],[]⟩,⟨zt.i++[0],[],[]⟩,⟨zM.i++[0],[],[]⟩,⟨zw.i++[0],[],[]⟩,⟨zq.i++[0],[],[]⟩,⟨zS.i++[0],[],[]⟩,⟨zF.i++[0],[],[]⟩,⟨zo.i++[0],[],[]⟩,⟨[],zG.b++[an],[]⟩,⟨zT.i++[0],[],[]⟩,⟨zL.i++[0],[],[]⟩,⟨[],zh.b++[an],[]⟩,⟨zx.i++[0],[],[]⟩,⟨zD.i++[0],[],[]⟩,⟨zH.i++[0],[],[]⟩,⟨yA.i++[0],[],[]⟩,⟨[],yj.b++[an],[]⟩]⟩)))],[],[(0,0)]⟩
 |_,_=>aj
def Oj:Prim Empty:=fun args hh=>match args,hh with
 |[.pointer (aa ⟨0,0,aj⟩)],[aa (.inl (186,[.slice (aa ⟨1,0,aa 32000⟩) n cp,.slice (aa ⟨2,0,aa 1000⟩) fn fc,.int .i64 hd,.int .i64 ca,.int .i64 vi])),aa (.inr (.inl (189,⟨tm,n2,[c0,c1,c2,c3,c4,c5,c6,c7,c8,c9,ou,oo,om,zJ,zr,zy,zt,zM,zw,zq,zS,zF,zo,zG,zT,zL,zh,zx,zD,zH,yA,yj]⟩))),aa (.inr (.inl (3,⟨[.int .i64 0],f2,[⟨fr,[],[]⟩]⟩)))]=>aa ⟨fn≠0/\f2=fn/\fr.length=fn/\fc=0/\cp=0/\fn<1000000/\tm=di/\n2=n/\n<1000000/\mU n [c0,c1,c2,c3,c4,c5,c6,c7,c8,c9,ou,oo,om,zJ,zr,zy,zt,zM,zw,zq,zS,zF,zo,zG,zT,zL,zh,zx,zD,zH,yA,yj],.int .i64 (fr.getD (fn-1) 0),aj,[aa (.inl (186,[.slice (aa ⟨1,0,aa 32000⟩) n 0,.slice (aa ⟨2,0,aa 1000⟩) (fn-1) 0,.int .i64 hd,.int .i64 ca,.int .i64 vi])),aa (.inr (.inl (189,⟨tm,n2,[c0,c1,c2,c3,c4,c5,c6,c7,c8,c9,ou,oo,om,zJ,zr,zy,zt,zM,zw,zq,zS,zF,zo,zG,zT,zL,zh,zx,zD,zH,yA,yj]⟩))),aa (.inr (.inl (3,⟨[.int .i64 0],(fn-1),[⟨(fr.take (fn-1)),[],[]⟩]⟩)))],[],[(0,0)]⟩
 |_,_=>aj
def tH:jb Empty:=⟨ZJ,PD,Oj⟩
theorem NI:rK s8 Tryz.prog 135 (rZ tH ao) (tH.go ao):=by
 refine wg (fn:=Tryz.f135) (root:=dJ Tryz.f135) (by kernel_rfl) (by kernel_rfl) (by kernel_rfl) fun args hh x hx=>?_
 unfold tH jb.go PD at hx;simp only at hx;split at hx
 ·rename_i n cp fn fc hd ca vi tm n2 c0 c1 c2 c3 c4 c5 c6 c7 c8 c9 ou oo om zJ zr zy zt zM zw zq zS zF zo zG zT zL zh zx zD zH yA yj f2 fr;cases hx;refine⟨by first|exact a_ _|exact kO _,(fun b hb=>by cases hb),(fun hw=>by first|rfl|cases hw),fun mN hv=>?_⟩
  obtain⟨rfl,rfl,rfl,rfl,hv⟩:=hv;obtain⟨rfl,rfl,u_,⟨⟨l0,rfl,n9⟩,⟨l1,rfl,zk⟩,⟨l2,rfl,Bm⟩,⟨l3,rfl,yh⟩,⟨l4,rfl,yv⟩,⟨l5,rfl,Eo⟩,⟨l6,rfl,Em⟩,⟨l7,rfl,Ek⟩,⟨l8,rfl,EO⟩,⟨l9,rfl,Ed⟩,⟨qT,rfl,yL⟩,⟨nM,rfl,yP⟩,⟨mT,rfl,yS⟩,⟨CO,rfl,N6⟩,⟨CV,rfl,MW⟩,⟨CS,rfl,No⟩,⟨CT,rfl,Nh⟩,⟨CA,rfl,Nl⟩,⟨Ct,rfl,NQ⟩,⟨CI,rfl,M'⟩,⟨CJ,rfl,MN⟩,⟨CW,rfl,NH⟩,⟨Cq,rfl,MR⟩,⟨Cr,rfl,MO⟩,⟨C5,rfl,ML⟩,⟨CB,rfl,M7⟩,⟨Cz,rfl,NY⟩,⟨CN,rfl,NZ⟩,⟨Cl,rfl,Nq⟩,⟨C0,rfl,Nv⟩,⟨uy,rfl,NC⟩,⟨sD,rfl,NO⟩⟩⟩:=hv;clear mN;generalize hG:ch (R:=Empty) _ _=G;refine cJ (T:=[]) trivial mixed 200 ?_;refine bK (q:=let Z2:=bk ar;let Z1:=(0:Int);Vc (fits (-1:Int))/\(ao=ao->Vc (0+n2≤n2/\1≤1/\(n2+1)*256≤140737488355328/\n2+1≤140737488355328)/\Vc (fits ((↑(n2+1):Int)-(1:Int)))/\aW (G (Z2 ((↑(n2+1):Int)-(1:Int))) [aa (.inl (186,[.slice (aa ⟨4,0,aa 32000⟩) (n2+1) 0,.slice (aa ⟨2,0,aa 1000⟩) 0 0,Z2 hd,Z2 ca,Z2 vi])),aj,aa (.inr (.inl (3,Row.mk [Z2 0] 0 [aX.mk fr [] []]))),aa (.inr (.inl (189,Row.mk di 1 [aX.mk [Z1] [] [],aX.mk [] [an] [],aX.mk [Z1] [] [],aX.mk [Z1] [] [],aX.mk [] [an] [],aX.mk [] [an] [],aX.mk [Z1] [] [],aX.mk [Z1] [] [],aX.mk [Z1] [] [],aX.mk [Z1] [] [],aX.mk [Z1] [] [],aX.mk [Z1] [] [],aX.mk [Z1] [] [],aX.mk [Z1] [] [],aX.mk [Z1] [] [],aX.mk [Z1] [] [],aX.mk [Z1] [] [],aX.mk [Z1] [] [],aX.mk [Z1] [] [],aX.mk [Z1] [] [],aX.mk [Z1] [] [],aX.mk [Z1] [] [],aX.mk [Z1] [] [],aX.mk [] [an] [],aX.mk [Z1] [] [],aX.mk [Z1] [] [],aX.mk [] [an] [],aX.mk [Z1] [] [],aX.mk [Z1] [] [],aX.mk [Z1] [] [],aX.mk [Z1] [] [],aX.mk [] [an] []]))),aa (.inr (.inl (189,Row.mk di (n2+1) (cV (cut l0 0 n2++[Z1]) (cut l1 0 n2++[an]) (cut l2 0 n2++[Z1]) (cut l3 0 n2++[Z1]) (cut l4 0 n2++[an]) (cut l5 0 n2++[an]) (cut l6 0 n2++[Z1]) (cut l7 0 n2++[Z1]) (cut l8 0 n2++[Z1]) (cut l9 0 n2++[Z1]) (cut qT 0 n2++[Z1]) (cut nM 0 n2++[Z1]) (cut mT 0 n2++[Z1]) (cut CO 0 n2++[Z1]) (cut CV 0 n2++[Z1]) (cut CS 0 n2++[Z1]) (cut CT 0 n2++[Z1]) (cut CA 0 n2++[Z1]) (cut Ct 0 n2++[Z1]) (cut CI 0 n2++[Z1]) (cut CJ 0 n2++[Z1]) (cut CW 0 n2++[Z1]) (cut Cq 0 n2++[Z1]) (cut Cr 0 n2++[an]) (cut C5 0 n2++[Z1]) (cut CB 0 n2++[Z1]) (cut Cz 0 n2++[an]) (cut CN 0 n2++[Z1]) (cut Cl 0 n2++[Z1]) (cut C0 0 n2++[Z1]) (cut uy 0 n2++[Z1]) (cut sD 0 n2++[an])))))]))/\(ao=an->Vc (Z1≤(-1:Int)/\(-1:Int)<Z1/\0≤0)/\Vc (0<0)/\Vc (Z1≤(-1:Int)/\(-1:Int)≤Z1/\0≤0)/\aW (G (Z2 (ax fr 0 Z1)) [aa (.inl (186,[.slice (aa ⟨1,0,aa 32000⟩) n2 0,.slice (aa ⟨2,0,aa 1000⟩) 0 0,Z2 hd,Z2 ca,Z2 vi])),aa (.inr (.inl (189,Row.mk di n2 (cV l0 l1 l2 l3 l4 l5 l6 l7 l8 l9 qT nM mT CO CV CS CT CA Ct CI CJ CW Cq Cr C5 CB Cz CN Cl C0 uy sD)))),aa (.inr (.inl (3,Row.mk [Z2 0] 0 [aX.mk fr [] []])))]))) ?_ (by kernel_rfl)
  intro Z2 Z1;subst Z1 Z2;subst hG;refine⟨QV,fun _=>⟨UK u_,Rk u_,⟨?_⟩⟩,fun h=>by cases h⟩
  simp only[fF n9,fF zk,fF Bm,fF yh,fF yv,fF Eo,fF Em,fF Ek,fF EO,fF Ed,fF yL,fF yP,fF yS,fF N6,fF MW,fF No,fF Nh,fF Nl,fF NQ,fF M',fF MN,fF NH,fF MR,fF MO,fF ML,fF M7,fF NY,fF NZ,fF Nq,fF Nv,fF NC,fF NO,YK];exact⟨[0,1,2,4],rfl,rfl,⟨.inl rfl,⟨_,rfl,.inl rfl⟩,⟨_,rfl,.inl rfl⟩,trivial⟩,rfl,rfl,rfl,(by kernel_rfl)⟩
 ·cases hx
theorem Nw:rK s8 Tryz.prog 135 (rZ tH an) (tH.go an):=by
 refine wg (fn:=Tryz.f135) (root:=dJ Tryz.f135) (by kernel_rfl) (by kernel_rfl) (by kernel_rfl) fun args hh x hx=>?_
 unfold tH jb.go Oj at hx;simp only at hx;split at hx
 ·rename_i n cp fn fc hd ca vi tm n2 c0 c1 c2 c3 c4 c5 c6 c7 c8 c9 ou oo om zJ zr zy zt zM zw zq zS zF zo zG zT zL zh zx zD zH yA yj f2 fr;cases hx;refine⟨by first|exact a_ _|exact kO _,(fun b hb=>by cases hb),(fun hw=>by first|rfl|cases hw),fun mN hv=>?_⟩
  obtain⟨h0,rfl,hf,rfl,rfl,Ub,hv⟩:=hv;obtain⟨rfl,rfl,u_,⟨⟨l0,rfl,n9⟩,⟨l1,rfl,zk⟩,⟨l2,rfl,Bm⟩,⟨l3,rfl,yh⟩,⟨l4,rfl,yv⟩,⟨l5,rfl,Eo⟩,⟨l6,rfl,Em⟩,⟨l7,rfl,Ek⟩,⟨l8,rfl,EO⟩,⟨l9,rfl,Ed⟩,⟨qT,rfl,yL⟩,⟨nM,rfl,yP⟩,⟨mT,rfl,yS⟩,⟨CO,rfl,N6⟩,⟨CV,rfl,MW⟩,⟨CS,rfl,No⟩,⟨CT,rfl,Nh⟩,⟨CA,rfl,Nl⟩,⟨Ct,rfl,NQ⟩,⟨CI,rfl,M'⟩,⟨CJ,rfl,MN⟩,⟨CW,rfl,NH⟩,⟨Cq,rfl,MR⟩,⟨Cr,rfl,MO⟩,⟨C5,rfl,ML⟩,⟨CB,rfl,M7⟩,⟨Cz,rfl,NY⟩,⟨CN,rfl,NZ⟩,⟨Cl,rfl,Nq⟩,⟨C0,rfl,Nv⟩,⟨uy,rfl,NC⟩,⟨sD,rfl,NO⟩⟩⟩:=hv;clear mN;generalize hG:ch (R:=Empty) _ _=G;refine cJ (T:=[]) trivial mixed 200 ?_;refine bK (q:=let Z2:=bk ar;let Z1:=(0:Int);Vc (fits ((↑f2:Int)-(1:Int)))/\(decide ((↑f2:Int)-(1:Int)<Z1)=ao->Vc (0+n2≤n2/\1≤1/\(n2+1)*256≤140737488355328/\n2+1≤140737488355328)/\Vc (fits ((↑(n2+1):Int)-(1:Int)))/\aW (G (Z2 ((↑(n2+1):Int)-(1:Int))) [aa (.inl (186,[.slice (aa ⟨4,0,aa 32000⟩) (n2+1) 0,.slice (aa ⟨2,0,aa 1000⟩) f2 0,Z2 hd,Z2 ca,Z2 vi])),aj,aa (.inr (.inl (3,Row.mk [Z2 0] f2 [aX.mk fr [] []]))),aa (.inr (.inl (189,Row.mk di 1 [aX.mk [Z1] [] [],aX.mk [] [an] [],aX.mk [Z1] [] [],aX.mk [Z1] [] [],aX.mk [] [an] [],aX.mk [] [an] [],aX.mk [Z1] [] [],aX.mk [Z1] [] [],aX.mk [Z1] [] [],aX.mk [Z1] [] [],aX.mk [Z1] [] [],aX.mk [Z1] [] [],aX.mk [Z1] [] [],aX.mk [Z1] [] [],aX.mk [Z1] [] [],aX.mk [Z1] [] [],aX.mk [Z1] [] [],aX.mk [Z1] [] [],aX.mk [Z1] [] [],aX.mk [Z1] [] [],aX.mk [Z1] [] [],aX.mk [Z1] [] [],aX.mk [Z1] [] [],aX.mk [] [an] [],aX.mk [Z1] [] [],aX.mk [Z1] [] [],aX.mk [] [an] [],aX.mk [Z1] [] [],aX.mk [Z1] [] [],aX.mk [Z1] [] [],aX.mk [Z1] [] [],aX.mk [] [an] []]))),aa (.inr (.inl (189,Row.mk di (n2+1) (cV (cut l0 0 n2++[Z1]) (cut l1 0 n2++[an]) (cut l2 0 n2++[Z1]) (cut l3 0 n2++[Z1]) (cut l4 0 n2++[an]) (cut l5 0 n2++[an]) (cut l6 0 n2++[Z1]) (cut l7 0 n2++[Z1]) (cut l8 0 n2++[Z1]) (cut l9 0 n2++[Z1]) (cut qT 0 n2++[Z1]) (cut nM 0 n2++[Z1]) (cut mT 0 n2++[Z1]) (cut CO 0 n2++[Z1]) (cut CV 0 n2++[Z1]) (cut CS 0 n2++[Z1]) (cut CT 0 n2++[Z1]) (cut CA 0 n2++[Z1]) (cut Ct 0 n2++[Z1]) (cut CI 0 n2++[Z1]) (cut CJ 0 n2++[Z1]) (cut CW 0 n2++[Z1]) (cut Cq 0 n2++[Z1]) (cut Cr 0 n2++[an]) (cut C5 0 n2++[Z1]) (cut CB 0 n2++[Z1]) (cut Cz 0 n2++[an]) (cut CN 0 n2++[Z1]) (cut Cl 0 n2++[Z1]) (cut C0 0 n2++[Z1]) (cut uy 0 n2++[Z1]) (cut sD 0 n2++[an])))))]))/\(decide ((↑f2:Int)-(1:Int)<Z1)=an->Vc (Z1≤(↑f2:Int)-(1:Int)/\(↑f2:Int)-(1:Int)<(↑f2:Int)/\0+f2≤f2)/\Vc (0+aH ((↑f2:Int)-(1:Int))<f2)/\Vc (Z1≤(↑f2:Int)-(1:Int)/\(↑f2:Int)-(1:Int)≤(↑f2:Int)/\0+f2≤f2)/\aW (G (Z2 (ax fr (0+aH ((↑f2:Int)-(1:Int))) Z1)) [aa (.inl (186,[.slice (aa ⟨1,0,aa 32000⟩) n2 0,.slice (aa ⟨2,0,aa 1000⟩) (aH ((↑f2:Int)-(1:Int))) 0,Z2 hd,Z2 ca,Z2 vi])),aa (.inr (.inl (189,Row.mk di n2 (cV l0 l1 l2 l3 l4 l5 l6 l7 l8 l9 qT nM mT CO CV CS CT CA Ct CI CJ CW Cq Cr C5 CB Cz CN Cl C0 uy sD)))),aa (.inr (.inl (3,Row.mk [Z2 0] f2 [aX.mk fr [] []])))]))) ?_ (by kernel_rfl)
  intro Z2 Z1;subst Z1 Z2;subst hG;clear n9 zk Bm yh yv Eo Em Ek EO Ed yL yP yS N6 MW No Nh Nl NQ M' MN NH MR MO ML M7 NY NZ Nq Nv NC NO;have e1:((f2:Int)-1).toNat=f2-1:=by omega
  simp only[e1,bV];refine⟨⟨by omega,by omega⟩,fun h=>absurd (of_decide_eq_true h) (by omega),fun _=>⟨⟨by omega,by omega,by omega⟩,⟨by omega⟩,⟨by omega,by omega,by omega⟩,⟨?_⟩⟩⟩
  exact⟨[0,1,2],rfl,rfl,⟨.inl rfl,⟨_,rfl,.inl rfl⟩,⟨_,rfl,.inr ⟨rfl,Bc _ _,by simp[B1]⟩⟩,trivial⟩,rfl,rfl,rfl,(by kernel_rfl)⟩
 ·cases hx
theorem Rw:b6 s8 Tryz.prog 135 tH:=fun b=>by cases b;exact Nw;exact NI
def TA:ez Empty:=[(135,bJ zN 2 tH),(145,bJ zN 2 qS)]
theorem xI:cL s8 Tryz.prog TA:=⟨aT _ _ Rw,aT _ _ Nr,trivial⟩
abbrev PP (m:Pl):Prop:=Gv.fX 100000 m
theorem BY (m:Pl) (i g:Int):rB m.vs.length m.dE m.live i g=yE m ⟨i,g⟩:=rfl
theorem En {m:Pl} {i g:Int} (h:yE m ⟨i,g⟩=ao):0≤i/\i<m.vs.length/\m.live.getD i.toNat an=ao/\m.dE.getD i.toNat 0=g:=Gv.sy h
theorem gP {α:Type} (f:Nd->α) (m:Pl) (k:Nat) (a:α) (ha:f zd=a):(m.vs.map f).getD k a=f (m.vs.getD k zd):=by
 subst ha;simp only[av,fh];cases m.vs[k]?<;>rfl
theorem G3 (m:Pl) (k:Nat):gM m.vs k=bj (m.vs.getD k zd):=by
 unfold gM bj;simp only[gP (fun n:Nd=>n.e.t) m _ 0 rfl,gP (fun n:Nd=>n.e.ins) m _ an rfl,gP (fun n:Nd=>n.e.it.k) m _ 0 rfl,gP (fun n:Nd=>n.e.it.i) m _ 0 rfl,gP (fun n:Nd=>n.e.here) m _ an rfl,gP (fun n:Nd=>n.e.tf) m _ an rfl,gP (fun n:Nd=>n.e.tk.k) m _ 0 rfl,gP (fun n:Nd=>n.e.tk.i) m _ 0 rfl,gP (fun n:Nd=>n.l.i) m _ 0 rfl,gP (fun n:Nd=>n.l.g) m _ 0 rfl,gP (fun n:Nd=>n.r.i) m _ 0 rfl,gP (fun n:Nd=>n.r.g) m _ 0 rfl,gP (fun n:Nd=>n.all.n) m _ 0 rfl,gP (fun n:Nd=>n.all.sum.c.n) m _ 0 rfl,gP (fun n:Nd=>n.all.sum.c.s) m _ 0 rfl,gP (fun n:Nd=>n.all.sum.c.l) m _ 0 rfl,gP (fun n:Nd=>n.all.sum.w.n) m _ 0 rfl,gP (fun n:Nd=>n.all.sum.w.s) m _ 0 rfl,gP (fun n:Nd=>n.all.sum.w.l) m _ 0 rfl,gP (fun n:Nd=>n.all.sum.d) m _ 0 rfl,gP (fun n:Nd=>n.all.sum.f) m _ 0 rfl,gP (fun n:Nd=>n.all.sum.m.k) m _ 0 rfl,gP (fun n:Nd=>n.all.sum.m.i) m _ 0 rfl,gP (fun n:Nd=>n.all.sum.gf) m _ an rfl,gP (fun n:Nd=>n.all.sum.g.k) m _ 0 rfl,gP (fun n:Nd=>n.all.sum.g.i) m _ 0 rfl,gP (fun n:Nd=>n.all.sum.lf) m _ an rfl,gP (fun n:Nd=>n.all.sum.l.k) m _ 0 rfl,gP (fun n:Nd=>n.all.sum.l.i) m _ 0 rfl,gP (fun n:Nd=>n.h) m _ 0 rfl]
theorem Bq (m:Pl) (k:Nat) (x:Nd) (g:List Int) (b:List Bool):(⟨di,m.vs.length,cS m.vs k x g b⟩:Row)=⟨di,(m.vs.set k x).length,cM (m.vs.set k x) g b⟩:=by
 unfold cS cM;simp only[Fq,fa]
theorem gQ {α:Type} (f:Nd->α) (m:Pl):(m.vs.map f).length=m.vs.length:=fR ..
theorem Bt {m:Pl} (hv:PP m):mU m.vs.length (cM m.vs m.dE m.live):=⟨⟨_,rfl,gQ _ m⟩,⟨_,rfl,gQ _ m⟩,⟨_,rfl,gQ _ m⟩,⟨_,rfl,gQ _ m⟩,⟨_,rfl,gQ _ m⟩,⟨_,rfl,gQ _ m⟩,⟨_,rfl,gQ _ m⟩,⟨_,rfl,gQ _ m⟩,⟨_,rfl,gQ _ m⟩,⟨_,rfl,gQ _ m⟩,⟨_,rfl,gQ _ m⟩,⟨_,rfl,gQ _ m⟩,⟨_,rfl,gQ _ m⟩,⟨_,rfl,gQ _ m⟩,⟨_,rfl,gQ _ m⟩,⟨_,rfl,gQ _ m⟩,⟨_,rfl,gQ _ m⟩,⟨_,rfl,gQ _ m⟩,⟨_,rfl,gQ _ m⟩,⟨_,rfl,gQ _ m⟩,⟨_,rfl,gQ _ m⟩,⟨_,rfl,gQ _ m⟩,⟨_,rfl,gQ _ m⟩,⟨_,rfl,gQ _ m⟩,⟨_,rfl,gQ _ m⟩,⟨_,rfl,gQ _ m⟩,⟨_,rfl,gQ _ m⟩,⟨_,rfl,gQ _ m⟩,⟨_,rfl,gQ _ m⟩,⟨_,rfl,gQ _ m⟩,⟨_,rfl,hv.dE⟩,⟨_,rfl,hv.live⟩⟩
theorem uk {m:Pl} (hv:PP m):True/\True/\m.vs.length<1000000/\mU m.vs.length (cM m.vs m.dE m.live):=⟨trivial,trivial,by have:=hv.cells;omega,Bt hv⟩
def MF:Prim Rs:=fun args hh=>match args,hh with
 |[.int .i64 c],[]=>aa ⟨True,.pointer (aa ⟨0,0,aj⟩),aj,[aa (.inr (.inr (.inr (.da ⟨[],[],[],[],0,min (max c 0) 16777216,0⟩))))],[],[(0,0)]⟩
 |_,_=>aj
theorem Wd:b6 D Tryz.prog 130 (a9 MF):=by
 refine qa (rA (L:=L) (D0:=s8) (fn:=Tryz.f130) (root:=dJ Tryz.f130) (by kernel_rfl) (by kernel_rfl) (by kernel_rfl) fun args hh x hx=>?_)
 unfold MF at hx;split at hx
 ·rename_i c;cases hx;refine q4 fun _ hv=>?_
  generalize hG:xG (R:=Rs) (R0:=Empty) _ _ _=G;refine cJ (T:=TA) xI mixed 200 ?_;refine bK (q:=aW (G (aC (aa ⟨0,0,aj⟩)) [aa (.inl (186,[.slice aj 0 0,.slice aj 0 0,.int ar 0,.int ar (if(16777216:Int)<if(0:Int)>c then(0:Int) else c then(16777216:Int) else if(0:Int)>c then(0:Int) else c),.int ar 0]))])) ?_ (by kernel_rfl)
  subst hG;have e:(if 16777216<if 0>c then 0 else c then 16777216 else if 0>c then 0 else c)=min (max c 0) 16777216:=by
   by_cases h1:0>c
   ·rw[if_pos h1];simp;omega
   ·rw[if_neg h1];split<;>omega
  rw[e];refine⟨⟨[0,1,1],rfl,rfl,⟨.inl rfl,⟨rfl,sL _,rfl⟩,⟨rfl,sL _,rfl⟩,trivial⟩,rfl,rfl,rfl,rfl,rfl⟩⟩
 ·cases hx
def M0:Prim Rs:=fun args hh=>match args,hh with
 |[.pointer (aa ⟨0,0,aj⟩),.agg ⟨[.int .i64 i,.int .i64 g]⟩],[aa (.inr (.inr (.inr (.da m))))]=>aa ⟨PP m,.tuple #[.agg ⟨bj (jQ zd m ⟨i,g⟩)⟩,.bool (yE m ⟨i,g⟩)],aj,[aa (.inr (.inr (.inr (.da (aJ m ⟨i,g⟩)))))],[],[(0,0)]⟩
 |_,_=>aj
theorem T4:b6 D Tryz.prog 121 (a9 M0):=by
 refine qa (rA (L:=L) (D0:=s8) (fn:=Tryz.f121) (root:=dJ Tryz.f121) (by kernel_rfl) (by kernel_rfl) (by kernel_rfl) fun args hh x hx=>?_)
 unfold M0 at hx;split at hx
 ·rename_i i g m;cases hx;refine q4 fun _ hv=>?_
  generalize hG:xG (R:=Rs) (R0:=Empty) _ _ _=G;refine cJ (T:=TA) xI mixed 200 ?_;refine bK (q:=let Z3:=bk ar;let Z1:=(ae (cH m));let Z2:=(bj (fy (Wv.Mk.mk 0 an (cW 0 0) an an (cW 0 0)) (aN 0 0) (aN 0 0) (my 0 (Wv.Sw.mk (iM 0 0 0) (iM 0 0 0) 0 0 (cW 0 0) an (cW 0 0) an (cW 0 0))) 0));(rB Z1 (dM m) (eM m) i g=ao->Vc (di=di/\ae (cH m)=ae (cH m)/\ae (cH m)<1000000/\mU Z1 (cM (cH m) (dM m) (eM m)))/\Vc (aH i<ae (cH m))/\aW (G (cq (aO [.agg (aO (gM (cH m) (aH i))),.bool ao])) [aa (.inl (186,[.slice (aa ⟨1,0,aa 32000⟩) Z1 0,.slice (aa ⟨2,0,aa 1000⟩) (ae (dR m)) 0,Z3 (fM m),Z3 (ib m),Z3 (ck ar (gV m+(1:Int)))])),aa (.inr (.inl (189,Row.mk di Z1 (cM (cH m) (dM m) (eM m))))),aa (.inr (.inl (3,Row.mk [Z3 0] (ae (dR m)) [aX.mk (dR m) [] []]))),aa (.inl (108,[Z3 i,Z3 g])),aa (.inl (136,(gM (cH m) (aH i))))]))/\(rB Z1 (dM m) (eM m) i g=an->Vc (di=di/\ae (cH m)=ae (cH m)/\ae (cH m)<1000000/\mU Z1 (cM (cH m) (dM m) (eM m)))/\aW (G (cq (aO [.agg (aO Z2),.bool an])) [aa (.inl (186,[.slice (aa ⟨1,0,aa 32000⟩) Z1 0,.slice (aa ⟨2,0,aa 1000⟩) (ae (dR m)) 0,Z3 (fM m),Z3 (ib m),Z3 (gV m)])),aa (.inr (.inl (189,Row.mk di Z1 (cM (cH m) (dM m) (eM m))))),aa (.inr (.inl (3,Row.mk [Z3 0] (ae (dR m)) [aX.mk (dR m) [] []]))),aa (.inl (108,[Z3 i,Z3 g])),aa (.inl (136,Z2)),aa (.inl (136,Z2))]))) ?_ (by kernel_rfl)
  intro Z3 Z1 Z2;subst Z2 Z1 Z3;subst hG;simp only[BY,bV];refine⟨fun h=>⟨⟨uk hv⟩,⟨by have:=En h;omega⟩,⟨?_⟩⟩,fun h=>⟨⟨uk hv⟩,⟨?_⟩⟩⟩
  ·have e1:jQ zd m ⟨i,g⟩=m.vs.getD i.toNat zd:=by unfold jQ;rw[if_pos h]
   have e2:aJ m ⟨i,g⟩=HJ m:=by unfold aJ;rw[if_pos h]
   rw[G3 m i.toNat,e1,e2,h];exact⟨[0,1,2],rfl,rfl,⟨.inl rfl,⟨_,rfl,.inl rfl⟩,⟨_,rfl,.inl rfl⟩,trivial⟩,rfl,rfl,rfl,rfl,rfl⟩
  ·have e1:jQ zd m ⟨i,g⟩=zd:=by unfold jQ;rw[if_neg (by rw[h];decide)]
   have e2:aJ m ⟨i,g⟩=m:=by unfold aJ;rw[if_neg (by rw[h];decide)]
   rw[e1,e2,h];exact⟨[0,1,2],rfl,rfl,⟨.inl rfl,⟨_,rfl,.inl rfl⟩,⟨_,rfl,.inl rfl⟩,trivial⟩,rfl,rfl,rfl,rfl,rfl⟩
 ·cases hx
def M2:Prim Rs:=fun args hh=>match args,hh with
 |[.pointer (aa ⟨0,0,aj⟩),.agg ⟨[.int .i64 i,.int .i64 g]⟩,.agg ⟨xN⟩],[aa (.inr (.inr (.inr (.da m))))]=>aa ⟨xN=bj (fU xN)/\PP m,.bool (yE m ⟨i,g⟩),aj,[aa (.inr (.inr (.inr (.da (tx m ⟨i,g⟩ (fU xN))))))],[],[(0,0)]⟩
 |_,_=>aj
theorem Vp:b6 D Tryz.prog 173 (a9 M2):=by
 refine qa (rA (L:=L) (D0:=s8) (fn:=Tryz.f173) (root:=dJ Tryz.f173) (by kernel_rfl) (by kernel_rfl) (by kernel_rfl) fun args hh x hx=>?_)
 unfold M2 at hx;split at hx
 ·rename_i i g xN m;cases hx;refine q4 fun _ hv=>?_
  obtain⟨hq,hv⟩:=hv;generalize fU xN=x at *;subst hq
  generalize hG:xG (R:=Rs) (R0:=Empty) _ _ _=G;refine cJ (T:=TA) xI mixed 200 ?_;refine bK (q:=let Z2:=bk ar;let Z1:=(ae (cH m));(rB Z1 (dM m) (eM m) i g=ao->Vc (di=di/\ae (cH m)=ae (cH m)/\ae (cH m)<1000000/\mU Z1 (cM (cH m) (dM m) (eM m)))/\Vc (aH i<ae (cH m))/\aW (G (aD ao) [aa (.inl (186,[.slice (aa ⟨1,0,aa 32000⟩) Z1 0,.slice (aa ⟨2,0,aa 1000⟩) (ae (dR m)) 0,Z2 (fM m),Z2 (ib m),Z2 (ck ar (gV m+(1:Int)))])),aa (.inr (.inl (189,Row.mk di Z1 (cS (cH m) (aH i) x (dM m) (eM m))))),aa (.inr (.inl (3,Row.mk [Z2 0] (ae (dR m)) [aX.mk (dR m) [] []]))),aa (.inl (108,[Z2 i,Z2 g])),aa (.inl (136,(bj x)))]))/\(rB Z1 (dM m) (eM m) i g=an->Vc (di=di/\ae (cH m)=ae (cH m)/\ae (cH m)<1000000/\mU Z1 (cM (cH m) (dM m) (eM m)))/\aW (G (aD an) [aa (.inl (186,[.slice (aa ⟨1,0,aa 32000⟩) Z1 0,.slice (aa ⟨2,0,aa 1000⟩) (ae (dR m)) 0,Z2 (fM m),Z2 (ib m),Z2 (gV m)])),aa (.inr (.inl (189,Row.mk di Z1 (cM (cH m) (dM m) (eM m))))),aa (.inr (.inl (3,Row.mk [Z2 0] (ae (dR m)) [aX.mk (dR m) [] []]))),aa (.inl (108,[Z2 i,Z2 g])),aa (.inl (136,(bj x)))]))) ?_ (by kernel_rfl)
  intro Z2 Z1;subst Z1 Z2;subst hG;simp only[BY,bV];refine⟨fun h=>⟨⟨uk hv⟩,⟨by have:=En h;omega⟩,⟨?_⟩⟩,fun h=>⟨⟨uk hv⟩,⟨?_⟩⟩⟩
  ·have e2:∀ y,tx m ⟨i,g⟩ y={ HJ m with vs:=m.vs.set i.toNat y }:=fun y=>by unfold tx;rw[if_pos h]
   rw[e2,h];exact⟨[0,1,2],rfl,rfl,⟨.inl (by rw[fa];rfl),⟨_,rfl,.inl (Bq m i.toNat x _ _).symm⟩,⟨_,rfl,.inl rfl⟩,trivial⟩,rfl,rfl,rfl,rfl,rfl⟩
  ·have e2:∀ y,tx m ⟨i,g⟩ y=m:=fun y=>by unfold tx;rw[if_neg (by rw[h];decide)]
   rw[e2,h];exact⟨[0,1,2],rfl,rfl,⟨.inl rfl,⟨_,rfl,.inl rfl⟩,⟨_,rfl,.inl rfl⟩,trivial⟩,rfl,rfl,rfl,rfl,rfl⟩
 ·cases hx
def Bu:Prim Rs:=fun args hh=>match args,hh with
 |[.pointer (aa ⟨0,0,aj⟩)],[aa (.inr (.inr (.inr (.da m))))]=>aa ⟨True,.int .i64 m.cX,aj,hh,[],[]⟩
 |_,_=>aj
theorem JG:b6 D Tryz.prog 117 (a9 Bu):=by
 refine qa (rA (L:=L) (D0:=s8) (fn:=Tryz.f117) (root:=dJ Tryz.f117) (by kernel_rfl) (by kernel_rfl) (by kernel_rfl) fun args hh x hx=>?_)
 unfold Bu at hx;split at hx
 ·rename_i m;cases hx;refine q4 fun _ hv=>?_
  generalize hG:xG (R:=Rs) (R0:=Empty) _ _ _=G;refine cJ (T:=TA) xI mixed 200 ?_;refine bK (q:=let Z1:=bk ar;aW (G (Z1 (gV m)) [aa (.inl (186,[.slice (aa ⟨1,0,aa 32000⟩) (ae (cH m)) 0,.slice (aa ⟨2,0,aa 1000⟩) (ae (dR m)) 0,Z1 (fM m),Z1 (ib m),Z1 (gV m)])),aa (.inr (.inl (189,Row.mk di (ae (cH m)) (cM (cH m) (dM m) (eM m))))),aa (.inr (.inl (3,Row.mk [Z1 0] (ae (dR m)) [aX.mk (dR m) [] []])))])) ?_ (by kernel_rfl)
  intro Z1;subst Z1;subst hG;exact⟨⟨[0,1,2],rfl,rfl,⟨.inl rfl,⟨_,rfl,.inl rfl⟩,⟨_,rfl,.inl rfl⟩,trivial⟩,rfl,rfl,rfl,rfl,rfl⟩⟩
 ·cases hx
def Cc:Prim Rs:=fun args hh=>match args,hh with
 |[.pointer (aa ⟨0,0,aj⟩),.agg ⟨[.int .i64 i,.int .i64 g]⟩],[aa (.inr (.inr (.inr (.da m))))]=>aa ⟨PP m,.tuple #[.agg ⟨bj (jQ zd m ⟨i,g⟩)⟩,.bool (yE m ⟨i,g⟩)],aj,[aa (.inr (.inr (.inr (.da (wh zd m ⟨i,g⟩)))))],[],[(0,0)]⟩
 |_,_=>aj
theorem tu:b6 D Tryz.prog 114 (a9 Cc):=by
 refine qa (rA (L:=L) (D0:=s8) (fn:=Tryz.f114) (root:=dJ Tryz.f114) (by kernel_rfl) (by kernel_rfl) (by kernel_rfl) fun args hh x hx=>?_)
 unfold Cc at hx;split at hx
 ·rename_i i g m;cases hx;refine q4 fun _ hv=>?_
  generalize hG:xG (R:=Rs) (R0:=Empty) _ _ _=G;refine cJ (T:=TA) xI mixed 200 ?_;refine bK (q:=let Z7:=bk ar;let Z1:=(ae (cH m));let Z2:=(aH i<ae (cH m));let Z3:=(ax (dM m) (aH i) (0:Int)<(4294967295:Int));let Z4:=(cq (aO [.agg (aO (gM (cH m) (aH i))),.bool ao]));let Z5:=(bj (fy (Wv.Mk.mk 0 an (cW 0 0) an an (cW 0 0)) (aN 0 0) (aN 0 0) (my 0 (Wv.Sw.mk (iM 0 0 0) (iM 0 0 0) 0 0 (cW 0 0) an (cW 0 0) an (cW 0 0))) 0));let Z6:=(ae (dR m));(rB Z1 (dM m) (eM m) i g=ao->Vc (di=di/\ae (cH m)=ae (cH m)/\ae (cH m)<1000000/\mU Z1 (cM (cH m) (dM m) (eM m)))/\Vc Z2/\Vc Z2/\Vc Z2/\Vc (fits (fM m-(1:Int)))/\Vc Z2/\(decide Z3=ao->Vc (0+ae (dR m)≤ae (dR m)/\1≤1/\(ae (dR m)+1)*8≤140737488355328/\ae (dR m)+1≤140737488355328)/\aW (G Z4 [aa (.inl (186,[.slice (aa ⟨1,0,aa 32000⟩) Z1 0,.slice (aa ⟨8,0,aa 1000⟩) (ae (dR m)+1) 0,Z7 (fM m-(1:Int)),Z7 (ib m),Z7 (ck ar (gV m+(1:Int)))])),aa (.inr (.inl (189,Row.mk di Z1 (cS (cH m) (aH i) zd (dM m) (qf (eM m) (aH i) an))))),aj,aa (.inl (108,[Z7 i,Z7 g])),aa (.inl (136,(gM (cH m) (aH i)))),aa (.inl (136,Z5)),aa (.inl (136,(gM (cH m) (aH i)))),aa (.inr (.inl (3,Row.mk [Z7 0] 1 [aX.mk [i] [] []]))),aa (.inr (.inl (3,Row.mk [Z7 0] (ae (dR m)+1) [aX.mk (cut (dR m) 0 Z6++cut [i] 0 1) [] []])))]))/\(decide Z3=an->aW (G Z4 [aa (.inl (186,[.slice (aa ⟨1,0,aa 32000⟩) Z1 0,.slice (aa ⟨2,0,aa 1000⟩) Z6 0,Z7 (fM m-(1:Int)),Z7 (ib m),Z7 (ck ar (gV m+(1:Int)))])),aa (.inr (.inl (189,Row.mk di Z1 (cS (cH m) (aH i) zd (dM m) (qf (eM m) (aH i) an))))),aa (.inr (.inl (3,Row.mk [Z7 0] Z6 [aX.mk (dR m) [] []]))),aa (.inl (108,[Z7 i,Z7 g])),aa (.inl (136,(gM (cH m) (aH i)))),aa (.inl (136,Z5)),aa (.inl (136,(gM (cH m) (aH i))))])))/\(rB Z1 (dM m) (eM m) i g=an->Vc (di=di/\ae (cH m)=ae (cH m)/\ae (cH m)<1000000/\mU Z1 (cM (cH m) (dM m) (eM m)))/\aW (G (cq (aO [.agg (aO Z5),.bool an])) [aa (.inl (186,[.slice (aa ⟨1,0,aa 32000⟩) Z1 0,.slice (aa ⟨2,0,aa 1000⟩) Z6 0,Z7 (fM m),Z7 (ib m),Z7 (gV m)])),aa (.inr (.inl (189,Row.mk di Z1 (cM (cH m) (dM m) (eM m))))),aa (.inr (.inl (3,Row.mk [Z7 0] Z6 [aX.mk (dR m) [] []]))),aa (.inl (108,[Z7 i,Z7 g])),aa (.inl (136,Z5)),aa (.inl (136,Z5))]))) ?_ (by kernel_rfl)
  intro Z7 Z1 Z2 Z3 Z4 Z5 Z6;subst Z6 Z5 Z4 Z3 Z2 Z1 Z7;subst hG;simp only[BY,bV];have hgb:=Df (i:=i.toNat) hv.gen;have hhl:=hv.Sj;have hfr:=hv.pK;refine⟨fun h=>?_,fun h=>⟨⟨uk hv⟩,⟨?_⟩⟩⟩
  ·have cj:i.toNat<m.vs.length:=by have:=En h;omega
   have g3:m.dE.getD i.toNat 0<4294967295:=by omega
   have e1:jQ zd m ⟨i,g⟩=m.vs.getD i.toNat zd:=by unfold jQ;rw[if_pos h]
   have e2:wh zd m ⟨i,g⟩={ HJ m with vs:=m.vs.set i.toNat zd,live:=m.live.set i.toNat an,held:=m.held-1,free:=m.free++[i] }:=by unfold wh;rw[if_pos h,if_pos g3]
   have ec:cut m.free 0 m.free.length++cut [i] 0 1=m.free++[i]:=by rw[fF rfl];rfl
   rw[ec];refine⟨⟨uk hv⟩,⟨cj⟩,⟨cj⟩,⟨cj⟩,⟨⟨by omega,by omega⟩⟩,⟨cj⟩,fun _=>⟨⟨by omega,by omega,by omega,by omega⟩,⟨?_⟩⟩,fun h2=>absurd g3 (of_decide_eq_false h2)⟩
   rw[G3 m i.toNat,e1,e2,h];exact⟨[0,1,8],rfl,rfl,⟨.inl (by rw[fa,bA];rfl),⟨_,rfl,.inl (Bq m i.toNat zd _ _).symm⟩,⟨_,rfl,.inl (by rw[bA];rfl)⟩,trivial⟩,rfl,rfl,rfl,rfl,rfl⟩
  ·have e1:jQ zd m ⟨i,g⟩=zd:=by unfold jQ;rw[if_neg (by rw[h];decide)]
   have e2:wh zd m ⟨i,g⟩=m:=by unfold wh;rw[if_neg (by rw[h];decide)]
   rw[e1,e2,h];exact⟨[0,1,2],rfl,rfl,⟨.inl rfl,⟨_,rfl,.inl rfl⟩,⟨_,rfl,.inl rfl⟩,trivial⟩,rfl,rfl,rfl,rfl,rfl⟩
 ·cases hx
theorem Q8 (m:Pl) (k:Nat) (x:Nd) (g:List Int) (b:List Bool):(⟨di,m.vs.length+1,cG m.vs k x g b⟩:Row)=⟨di,((m.vs++[zd]).set k x).length,cM ((m.vs++[zd]).set k x) g b⟩:=by
 unfold cG cM;simp only[Fq,dG,fa,bA,gr,List.map_nil,cy,jN]
 rfl
theorem Fc {m:Pl} (h0:m.held=m.cap) (x:Nd):tK zd m x=m/\lp zd m=⟨0,0⟩:=by
 unfold tK lp;rw[if_pos h0,if_pos h0];exact⟨rfl,rfl⟩
theorem Ex {m:Pl} (h0:¬ m.held=m.cap) (hf:m.free.length=0) (x:Nd):tK zd m x=⟨(m.vs++[zd]).set m.vs.length x,(m.dE++[0]).set m.vs.length ((m.dE++[0]).getD m.vs.length 0+1),(m.live++[an]).set m.vs.length ao,m.free,m.held+1,m.cap,m.cX⟩/\lp zd m=⟨m.vs.length,(m.dE++[0]).getD m.vs.length 0+1⟩:=by
 have en:vz m=m.vs.length:=by rw[vz,if_pos hf]
 unfold tK lp Gv.Ai KT;rw[if_neg h0,if_neg h0];simp only[if_pos hf,en,iF]
 constructor<;>first|rfl|trivial
theorem Es {m:Pl} (h0:¬ m.held=m.cap) (hf:¬ m.free.length=0) (x:Nd):tK zd m x=⟨m.vs.set (m.free.getD (m.free.length-1) 0).toNat x,m.dE.set (m.free.getD (m.free.length-1) 0).toNat (m.dE.getD (m.free.getD (m.free.length-1) 0).toNat 0+1),m.live.set (m.free.getD (m.free.length-1) 0).toNat ao,m.free.take (m.free.length-1),m.held+1,m.cap,m.cX⟩/\lp zd m=⟨m.free.getD (m.free.length-1) 0,m.dE.getD (m.free.getD (m.free.length-1) 0).toNat 0+1⟩:=by
 have en:vz m=m.free.getD (m.free.length-1) 0:=by rw[vz,if_neg hf]
 unfold tK lp Gv.Ai KT;rw[if_neg h0,if_neg h0];simp only[if_neg hf,en]
 constructor<;>first|rfl|trivial
structure Bds (m:Pl):Prop where
 dE:m.dE.length=m.vs.length
 cells:m.vs.length<1000000
 pK:m.free.length<1000000
 held:-1000000≤m.held/\m.held<1000000
 gen:∀ i,0≤m.dE.getD i 0/\m.dE.getD i 0≤100000
 last:¬ m.free.length=0->0≤m.free.getD (m.free.length-1) 0/\m.free.getD (m.free.length-1) 0<m.vs.length
theorem bds {m:Pl} (hv:PP m):Bds m:=by
 have v1:=hv.dE;have v3:=hv.cells;have v4:=hv.pK;have v5:=hv.Sj;refine⟨v1,by omega,by omega,by omega,fun i=>?_,fun h=>?_⟩
 ·have:=Df (i:=i) hv.gen;omega
 ·have:=hv.inn _ (yY (d:=0) (l:=m.free) (i:=m.free.length-1) (by omega))
  exact⟨this.1,this.2.1⟩
theorem E5 (l:List Int) (k:Nat) (x:Int) (h:k<l.length):(l.set k x).getD k 0=x:=by
 rw[ot,if_pos ⟨rfl,h⟩]
def Ic:Prim Rs:=fun args hh=>match args,hh with
 |[.pointer (aa ⟨0,0,aj⟩),.agg ⟨xN⟩],[aa (.inr (.inr (.inr (.da m))))]=>aa ⟨xN=bj (fU xN)/\PP m,.tuple #[.agg ⟨[.int .i64 (lp zd m).i,.int .i64 (lp zd m).g]⟩,.bool (!decide (m.held=m.cap))],aj,[aa (.inr (.inr (.inr (.da (tK zd m (fU xN))))))],[],[(0,0)]⟩
 |_,_=>aj
theorem tA:b6 D Tryz.prog 97 (a9 Ic):=by
 refine qa (rA (L:=L) (D0:=s8) (fn:=Tryz.f97) (root:=dJ Tryz.f97) (by kernel_rfl) (by kernel_rfl) (by kernel_rfl) fun args hh x hx=>?_)
 unfold Ic at hx;split at hx
 ·rename_i xN m;cases hx;refine q4 fun _ hv=>?_
  obtain⟨hq,hv⟩:=hv;generalize fU xN=x at *;subst hq
  generalize hG:xG (R:=Rs) (R0:=Empty) _ _ _=G;refine cJ (T:=TA) xI mixed 200 ?_;refine bK (q:=let cx:=bk ar;let Z1:=(cH m);let Z2:=(ae Z1);let Z3:=(dR m);let Z4:=(cM Z1 (dM m) (eM m));let Z5:=(ax (dM m++[(0:Int)]) (0+(Z2:Int).toNat) (0:Int)+(1:Int));let Z6:=(qf (dM m++[(0:Int)]) (0+(Z2:Int).toNat) Z5);let Z7:=(ae Z3-1);let Z8:=(ax Z3 Z7 (0:Int));let Z9:=(ax (dM m) (0+aH Z8) (0:Int)+(1:Int));let dX:=(ax (qf (dM m) (0+aH Z8) Z9) (0+aH Z8) (0:Int));((fM m==ib m)=ao->aW (G (cq (aO [.agg (aO [cx 0,cx 0]),.bool an])) [aa (.inl (186,[.slice (aa ⟨1,0,aa 32000⟩) Z2 0,.slice (aa ⟨2,0,aa 1000⟩) (ae Z3) 0,cx (fM m),cx (ib m),cx (gV m)])),aa (.inr (.inl (189,Row.mk di Z2 Z4))),aa (.inr (.inl (3,Row.mk [cx 0] (ae Z3) [aX.mk Z3 [] []]))),aa (.inl (136,(bj x))),aa (.inl (108,[cx 0,cx 0]))]))/\((fM m==ib m)=an->(decide (ae Z3=0)=ao->Vc (ae Z3=0/\ae Z3=ae Z3/\0=0/\0=0/\di=di/\ae Z1=ae Z1/\ae Z1<1000000/\mU Z2 Z4)/\Vc ((0:Int)≤(↑Z2:Int)/\(↑Z2:Int)<(↑(ae Z1+1):Int)/\0+(ae Z1+1)≤ae Z1+1)/\Vc (0+(Z2:Int).toNat<ae Z1+1)/\Vc (0+(Z2:Int).toNat<ae Z1+1)/\Vc (0+(Z2:Int).toNat<ae Z1+1)/\Vc (fits Z5)/\Vc (0+(Z2:Int).toNat<ae Z1+1)/\Vc (fits (fM m+(1:Int)))/\Vc (0+(Z2:Int).toNat<ae Z1+1)/\aW (G (cq (aO [.agg (aO [cx (↑Z2:Int),cx (ax Z6 (0+(Z2:Int).toNat) (0:Int))]),.bool ao])) [aa (.inl (186,[.slice (aa ⟨5,0,aa 32000⟩) (ae Z1+1) 0,.slice (aa ⟨2,0,aa 1000⟩) (ae Z3) 0,cx (fM m+(1:Int)),cx (ib m),cx (gV m)])),aj,aa (.inr (.inl (3,Row.mk [cx 0] (ae Z3) [aX.mk Z3 [] []]))),aa (.inl (136,(bj x))),aa (.inl (108,[cx (↑Z2:Int),cx (ax Z6 (0+(Z2:Int).toNat) (0:Int))])),aa (.inr (.inl (189,Row.mk di (ae Z1+1) (cG Z1 (0+(Z2:Int).toNat) x Z6 (qf (eM m++[an]) (0+(Z2:Int).toNat) ao)))))]))/\(decide (ae Z3=0)=an->Vc (ae Z3≠0/\ae Z3=ae Z3/\ae Z3=ae Z3/\0=0/\0=0/\ae Z3<1000000/\di=di/\ae Z1=ae Z1/\ae Z1<1000000/\mU Z2 Z4)/\Vc ((0:Int)≤ax Z3 Z7 (0:Int)/\ax Z3 Z7 (0:Int)<(↑Z2:Int)/\0+ae Z1≤ae Z1)/\Vc (0+aH Z8<ae Z1)/\Vc (0+aH Z8<ae Z1)/\Vc (0+aH Z8<ae Z1)/\Vc (fits Z9)/\Vc (0+aH Z8<ae Z1)/\Vc (fits (fM m+(1:Int)))/\Vc (0+aH Z8<ae Z1)/\aW (G (cq (aO [.agg (aO [cx Z8,cx dX]),.bool ao])) [aa (.inl (186,[.slice (aa ⟨1,0,aa 32000⟩) Z2 0,.slice (aa ⟨2,0,aa 1000⟩) Z7 0,cx (fM m+(1:Int)),cx (ib m),cx (gV m)])),aa (.inr (.inl (189,Row.mk di Z2 (cS Z1 (0+aH Z8) x (qf (dM m) (0+aH Z8) Z9) (qf (eM m) (0+aH Z8) ao))))),aa (.inr (.inl (3,Row.mk [cx 0] Z7 [aX.mk (List.take Z7 Z3) [] []]))),aa (.inl (136,(bj x))),aa (.inl (108,[cx Z8,cx dX]))])))) ?_ (by kernel_rfl)
  intro cx Z1 Z2 Z3 Z4 Z5 Z6 Z7 Z8 Z9 dX;subst dX Z9 Z8 Z7 Z6 Z5 Z4 Z3 Z2 Z1 cx;subst hG;simp only[bV,iF];have hb:=bds hv;refine⟨fun h=>?_,fun h=>⟨fun hf=>?_,fun hf=>?_⟩⟩
  ·have h0:m.held=m.cap:=eq_of_beq h;rw[(Fc h0 x).1,(Fc h0 x).2,decide_eq_true h0];exact⟨⟨[0,1,2],rfl,rfl,⟨.inl rfl,⟨_,rfl,.inl rfl⟩,⟨_,rfl,.inl rfl⟩,trivial⟩,rfl,rfl,rfl,rfl,rfl⟩⟩
  ·have h0:¬ m.held=m.cap:=fun c=>by rw[c,beq_self_eq_true] at h;cases h
   have h1:m.free.length=0:=of_decide_eq_true hf;have hk:m.vs.length<(m.dE++[0]).length:=by rw[bA,hb.dE];exact fC _
   have e1:(m.dE++[0]).getD m.vs.length 0=0:=by rw[ur,if_pos hb.dE.symm]
   rw[(Ex h0 h1 x).1,(Ex h0 h1 x).2,decide_eq_false h0,E5 _ _ _ hk];refine⟨⟨h1,trivial,trivial,trivial,trivial,trivial,hb.cells,Bt hv⟩,⟨by omega,by omega,a_ _⟩,⟨fC _⟩,⟨fC _⟩,⟨fC _⟩,⟨by rw[e1];exact⟨by omega,by omega⟩⟩,⟨fC _⟩,⟨by have:=hb.held;exact⟨by omega,by omega⟩⟩,⟨fC _⟩,⟨[0,5,2],rfl,rfl,?_,rfl,rfl,rfl,rfl,rfl⟩⟩
   exact⟨.inl (by rw[fa,bA];rfl),⟨_,rfl,.inl (Q8 m m.vs.length x _ _).symm⟩,⟨_,rfl,.inl rfl⟩,trivial⟩
  ·have h0:¬ m.held=m.cap:=fun c=>by rw[c,beq_self_eq_true] at h;cases h
   have h1:¬ m.free.length=0:=of_decide_eq_false hf;have hl:=hb.last h1;have hk:(m.free.getD (m.free.length-1) 0).toNat<m.vs.length:=by omega
   rw[(Es h0 h1 x).1,(Es h0 h1 x).2,decide_eq_false h0,E5 _ _ _ (by rw[hb.dE];exact hk)]
   refine⟨⟨h1,trivial,trivial,trivial,trivial,hb.pK,trivial,trivial,hb.cells,Bt hv⟩,⟨hl.1,hl.2,a_ _⟩,⟨hk⟩,⟨hk⟩,⟨hk⟩,⟨by have:=hb.gen (m.free.getD (m.free.length-1) 0).toNat;exact⟨by omega,by omega⟩⟩,⟨hk⟩,⟨by have:=hb.held;exact⟨by omega,by omega⟩⟩,⟨hk⟩,⟨[0,1,2],rfl,rfl,?_,rfl,rfl,rfl,rfl,rfl⟩⟩
   exact⟨.inl (by rw[fa,dZ,tL (Bc _ _)];rfl),⟨_,rfl,.inl (Bq m _ x _ _).symm⟩,⟨_,rfl,.inl (by rw[dZ,tL (Bc _ _)])⟩,trivial⟩
 ·cases hx
end G8
namespace Rx
open Go.RowKit State
theorem ow {R:Type} {D:fH R} {P:Program} {T:ez R} (hT:cL D P T) (Mw:P.follows .mixedOrders=ao) {root:Code} {n0:Nat} {k:Exit->SS R->Prop} (n:Nat) {todo:List (It R)} {σ:SS R} {q:Prop} (hq:q)
  (e:rx D P T root n0 k n todo σ=q):At D P root n0 k todo σ:=cJ hT Mw n (by rw[e];exact hq)
end Rx
namespace Wv
open Rx
set_option maxRecDepth 100000
def ad9 {R:Type}:Prim R:=fun args hh=>match args,hh with
 |[.int .i64 a],[]=>aa ⟨True,.bool an,aj,hh,[],[]⟩
 |_,_=>aj
theorem ajO {R:Type} {D:fH R}:b6 D Tryz.prog 176 (a9 ad9):=by
 refine fj Tryz.f176 fun args hh x hx=>?_
 unfold ad9 at hx;split at hx
 ·rename_i a;cases hx;refine q4 fun _ hv=>?_
  generalize hG:ch (R:=R) _ _=G;refine ow (T:=[]) trivial mixed 200 (q:=aW (G (aD (a != a)) [])) ?_ (by kernel_rfl)
  subst hG
  repeat' (first|apply cY|apply Vc.mk|apply fits.mk|intro h|apply aW.mk)
  all_goals (try simp only[sB] at *)
  all_goals first|contradiction|omega|exact jm ‹_›|exact jo ‹_›|exact jk ‹_›|exact⟨rfl,by omega⟩|exact rfl|(simp[*,-av];done)|skip
  rw[show(a != a)=an by simp]
  exact⟨[],rfl,rfl,trivial,rfl,rfl,rfl,rfl⟩
 ·cases hx
def ajC {R:Type}:ez R:=[(176,bJ zN 2 (a9 ad9))]
theorem ag1 {R:Type} {D:fH R}:cL D Tryz.prog (ajC:ez R):=⟨aT _ _ ajO,trivial⟩
def Tk {R:Type}:Prim R:=fun args hh=>match args,hh with
 |[.int .i64 a,.int .i64 b],[]=>aa ⟨True,.int .i64 (Cx a b),aj,hh,[],[]⟩
 |_,_=>aj
theorem Xn {R:Type} {D:fH R}:b6 D Tryz.prog 162 (a9 Tk):=by
 refine fj Tryz.f162 fun args hh x hx=>?_
 unfold Tk at hx;split at hx
 ·rename_i a b;cases hx;refine q4 fun _ hv=>?_
  generalize hG:ch (R:=R) _ _=G;refine ow (T:=ajC) ag1 mixed 200 (q:=let Z1:=bk ar;Vc True/\Vc True/\(an=ao->(an=ao->aW (G (Z1 0) []))/\(an=an->aW (G (Z1 (-1:Int)) [])))/\(an=an->(an=ao->aW (G (Z1 1) []))/\(an=an->(decide (a<b)=ao->aW (G (Z1 (-1:Int)) []))/\(decide (a<b)=an->(decide (a>b)=ao->aW (G (Z1 1) []))/\(decide (a>b)=an->aW (G (Z1 0) [])))))) ?_ (by kernel_rfl)
  intro Z1;subst Z1;have fin:∀ (t:Int) (hp:Hp R),t=Cx a b->G (.int .i64 t) hp:=by
   intro t hp ht;subst ht;subst hG;exact⟨⟨[],rfl,rfl,trivial,rfl,rfl,rfl,rfl⟩⟩
  clear hG
  repeat' (first|apply cY|apply Vc.mk|apply fits.mk|intro h|apply aW.mk)
  all_goals (try simp only[sB] at *)
  all_goals first|contradiction|omega|exact jm ‹_›|exact jo ‹_›|exact jk ‹_›|exact⟨rfl,by omega⟩|exact rfl|(simp[*,-av];done)|skip
  ·have h:a<b:=by assumption
   exact fin _ _ (by rw[Cx,if_pos h])
  ·have h2:a>b:=by assumption
   exact fin _ _ (by rw[Cx,if_neg (by omega),if_pos h2])
  ·exact fin _ _ (by rw[Cx,if_neg (by omega),if_neg (by omega)])
 ·cases hx
def R8 (a b:Int):Int:=if a≠0 then a else b
def ad8 {R:Type}:Prim R:=fun args hh=>match args,hh with
 |[.slice (aa ⟨0,0,aa 1000⟩) n c],[aa (.inr (.inr (.inl ⟨[.int .i64 0],n',[⟨[a,b],[],[]⟩]⟩)))]=>aa ⟨n=2/\n'=2,.int .i64 (R8 a b),aj,hh,[],[]⟩
 |_,_=>aj
theorem ajT {R:Type} {D:fH R}:b6 D Tryz.prog 161 (a9 ad8):=by
 refine fj Tryz.f161 fun args hh x hx=>?_
 unfold ad8 at hx;split at hx
 ·rename_i n c n' a b;cases hx;refine q4 fun _ hv=>?_
  obtain⟨rfl,rfl⟩:=hv;generalize hG:ch (R:=R) _ _=G;refine ow (T:=[]) trivial mixed 200 (q:=let Z1:=bk ar;At D Tryz.prog (dJ Tryz.f161) 1 (iE Tryz.prog (dA (dC Tryz.f161)) G) [df [1,1,0,1,0],kn (df 0),df [1,1,1]] (SS.mk (aa (bx (aa ⟨0,0,aa 1000⟩) 2 c)::aj::aa (Z1 0)::aa (Z1 0)::aj::aj::aa (bx (aa ⟨0,0,aa 1000⟩) 2 c)::aa (Z1 2)::aa (Z1 0)::n4 (n4 (aj::[]))) [] [aa (kn (kn (df (Row.mk [Z1 0] 2 [aX.mk [a,b] [] []]))))])) ?_ (by kernel_rfl)
  intro Z1;subst Z1;refine kH (by kernel_rfl) (ι:=Nat) (fun x=>x≤2/\(1≤x->a=0)/\(2≤x->b=0)) [2,3,6,7,8] (fun x=>[.int .i64 0,.int .i64 0,.slice (aa ⟨0,0,aa 1000⟩) 2 c,.int .i64 2,.int .i64 x]) (fun x=>[aa (.inr (.inr (.inl ⟨[.int .i64 0],2,[⟨[a,b],[],[]⟩]⟩)))]) (fun x=>2-x) 18 (fun x hx=>⟨rfl,rfl,by simp⟩) ⟨0,⟨du _,fun h=>by omega,fun h=>by omega⟩,⟨[0],rfl,⟨rfl,trivial⟩,rfl,rfl,rfl,rfl⟩⟩ fun x hx=>?_
  refine ow (T:=[]) trivial mixed 200 (q:=let Z2:=bk ar;let Z1:=(ax [a,b] (0+(x:Int).toNat) (0:Int) != (0:Int));(decide ((↑x:Int)<(2:Int))=ao->Vc ((0:Int)≤(↑x:Int)/\(↑x:Int)<(2:Int)/\2≤2)/\Vc (0+(x:Int).toNat<2)/\(Z1=ao->aW (G (Z2 (ax [a,b] (0+(x:Int).toNat) (0:Int))) [aa (kn (kn (df (Row.mk [Z2 0] 2 [aX.mk [a,b] [] []]))))]))/\(Z1=an->Vc (fits ((↑x:Int)+(1:Int)))/\aW (∃ j,(j≤2/\(1≤j->a=(0:Int))/\(2≤j->b=(0:Int)))/\2-j<2-x/\j6 R 1 18 [2,3,6,7,8] [Z2 0,Z2 0,.slice (aa ⟨0,0,aa 1000⟩) 2 c,Z2 2,Z2 (↑j:Int)] [aa (kn (kn (df (Row.mk [Z2 0] 2 [aX.mk [a,b] [] []]))))] [aa (Z2 0),aa (Z2 0),aa (bx (aa ⟨0,0,aa 1000⟩) 2 c),aa (Z2 2),aa (Z2 ((↑x:Int)+(1:Int)))] [aa (kn (kn (df (Row.mk [Z2 0] 2 [aX.mk [a,b] [] []]))))] 18)))/\(decide ((↑x:Int)<(2:Int))=an->aW (G (Z2 0) [aa (kn (kn (df (Row.mk [Z2 0] 2 [aX.mk [a,b] [] []]))))]))) ?_ (by kernel_rfl)
  intro Z2 Z1;subst Z1 Z2;obtain⟨h1,h2,h3⟩:=hx;have fin:∀ (t:Int) (rest:Hp R),t=R8 a b->G (.int .i64 t) ([aa (.inr (.inr (.inl ⟨[.int .i64 0],2,[⟨[a,b],[],[]⟩]⟩)))]++rest):=by
   intro t hp ht;subst ht;subst hG;exact⟨⟨[0],rfl,rfl,⟨rfl,trivial⟩,rfl,rfl,rfl,rfl⟩⟩
  clear hG;rcases(show x=0∨x=1∨x=2 by omega) with e|e|e<;>subst e
  ·have g0:[a,b].getD (0+((0:Nat):Int).toNat) 0=a:=rfl;rw[g0]
   repeat' (first|apply cY|apply Vc.mk|apply fits.mk|intro h|apply aW.mk)
   all_goals (try simp only[sB] at *)
   all_goals first|contradiction|omega|exact jm ‹_›|exact jo ‹_›|exact jk ‹_›|exact⟨rfl,by omega⟩|exact rfl|(simp[*,-av];done)|skip
   ·have h:a≠0:=by assumption
    exact fin _ [] (by rw[R8,if_pos h])
   ·have h:a=0:=by assumption
    exact⟨1,⟨by omega,fun _=>h,fun h=>by omega⟩,by omega,⟨[0],rfl,⟨rfl,trivial⟩,rfl,rfl,rfl,rfl⟩⟩
  ·have g0:[a,b].getD (0+((1:Nat):Int).toNat) 0=b:=rfl;rw[g0];have h0:=h2 (a_ _)
   repeat' (first|apply cY|apply Vc.mk|apply fits.mk|intro h|apply aW.mk)
   all_goals (try simp only[sB] at *)
   all_goals first|contradiction|omega|exact jm ‹_›|exact jo ‹_›|exact jk ‹_›|exact⟨rfl,by omega⟩|exact rfl|(simp[*,-av];done)|skip
   ·exact fin _ [] (by rw[R8,if_neg (by omega)])
   ·have h:b=0:=by assumption
    exact⟨2,⟨by omega,fun _=>h0,fun _=>h⟩,by omega,⟨[0],rfl,⟨rfl,trivial⟩,rfl,rfl,rfl,rfl⟩⟩
  ·have h0:=h2 (by omega)
   have h1:=h3 (by omega)
   repeat' (first|apply cY|apply Vc.mk|apply fits.mk|intro h|apply aW.mk)
   all_goals (try simp only[sB] at *)
   all_goals first|contradiction|omega|exact jm ‹_›|exact jo ‹_›|exact jk ‹_›|exact⟨rfl,by omega⟩|exact rfl|(simp[*,-av];done)|skip
   all_goals first|(exfalso;omega)|skip
   exact fin _ [] (by rw[R8,if_neg (by omega),h1])
 ·cases hx
def z0:Nat->Bool:=fun j=>fb j 0
def TCm {R:Type}:ez R:=[(162,bJ zN 2 (a9 Tk)),(161,tG z0 2 (a9 ad8))]
theorem akV {R:Type} {D:fH R}:cL D Tryz.prog (TCm:ez R):=⟨aT _ _ Xn,nU _ _ ajT,trivial⟩
theorem af6 (a b c d:Int):R8 (Cx a c) (Cx b d)=kM ⟨a,b⟩ ⟨c,d⟩:=by
 unfold R8 Cx kM;simp only
 repeat' split
 all_goals omega
def Zp {R:Type}:Prim R:=fun args hh=>match args,hh with
 |[.agg ⟨[.int .i64 a,.int .i64 b]⟩,.agg ⟨[.int .i64 c,.int .i64 d]⟩],[]=>aa ⟨True,.int .i64 (kM ⟨a,b⟩ ⟨c,d⟩),aj,hh,[],[]⟩
 |_,_=>aj
theorem abB {R:Type} {D:fH R}:b6 D Tryz.prog 140 (a9 Zp):=by
 refine fj Tryz.f140 fun args hh x hx=>?_
 unfold Zp at hx;split at hx
 ·rename_i a b c d;cases hx;refine q4 fun _ hv=>?_
  generalize hG:ch (R:=R) _ _=G;refine ow (T:=TCm) akV mixed 200 (q:=let Z1:=bk ar;Vc True/\Vc True/\Vc ((2≤2/\True)/\2=2/\2=2)/\aW (G (Z1 (R8 (Cx a c) (Cx b d))) [aa (df (31,[Z1 a,Z1 b])),aa (df (31,[Z1 c,Z1 d])),aa (kn (df (3,Row.mk [Z1 0] 2 [aX.mk [Cx a c,Cx b d] [] []])))])) ?_ (by kernel_rfl)
  intro Z1;subst Z1;subst hG;simp only[← af6]
  repeat' (first|apply cY|apply Vc.mk|apply fits.mk|intro h|apply aW.mk)
  all_goals (try simp only[sB] at *)
  all_goals first|contradiction|omega|exact jm ‹_›|exact jo ‹_›|exact jk ‹_›|exact⟨rfl,by omega⟩|exact rfl|(simp[*,-av];done)|skip
  exact⟨[],rfl,rfl,trivial,rfl,rfl,rfl,rfl⟩
 ·cases hx
def TCc {R:Type}:ez R:=[(162,bJ zN 2 (a9 Tk))]
theorem ajX {R:Type} {D:fH R}:cL D Tryz.prog (TCc:ez R):=⟨aT _ _ Xn,trivial⟩
def TPl {R:Type}:ez R:=[(227,bJ zN 2 (a9 Ti.dY))]
theorem ab4 {R:Type} {D:fH R}:cL D Tryz.prog TPl:=⟨aT _ _ Ti.uz,trivial⟩
def adU {R:Type}:Prim R:=fun args hh=>match args,hh with
 |[.slice (aa ⟨0,0,aa 1000⟩) n c],[aa (.inr (.inr (.inl ⟨[.int .i64 0],n',[⟨[w],[],[]⟩]⟩)))]=>aa ⟨n=1/\n'=1,.agg ⟨[.int .i64 1,.int .i64 w,.int .i64 w]⟩,aj,hh,[],[]⟩
 |_,_=>aj
theorem aiT {R:Type} {D:fH R}:b6 D Tryz.prog 226 (a9 adU):=by
 refine fj Tryz.f226 fun args hh x hx=>?_
 unfold adU at hx;split at hx
 ·rename_i n c n' w;cases hx;refine q4 fun _ hv=>?_
  obtain⟨rfl,rfl⟩:=hv;generalize hG:ch (R:=R) _ _=G;refine ow (T:=TPl) ab4 mixed 200 (q:=let Z1:=bk ar;At D Tryz.prog (dJ Tryz.f226) 1 (iE Tryz.prog (dA (dC Tryz.f226)) G) [df [1,1,0,1,0],kn (df 0),df [1,1,1]] (SS.mk (aa (bx (aa ⟨0,0,aa 1000⟩) 1 c)::aj::aa (aC (aa ⟨1,0,aj⟩))::aa (aC (aa ⟨2,0,aj⟩))::aj::aj::aa (bx (aa ⟨0,0,aa 1000⟩) 1 c)::aa (Z1 1)::aa (Z1 0)::n4 (n4 (aj::aj::[]))) [] [aa (kn (kn (df (Row.mk [Z1 0] 1 [aX.mk [w] [] []])))),aa (df (51,[Z1 0,Z1 0,Z1 0])),aa (df (51,[Z1 0,Z1 0,Z1 0]))])) ?_ (by kernel_rfl)
  intro Z1;subst Z1;refine kH (by kernel_rfl) (ι:=Nat×Ti.Td) (fun x=>x.1≤1/\x.2=if x.1=0 then⟨0,0,0⟩ else⟨1,w,w⟩) [2,3,6,7,8] (fun x=>[.pointer (aa ⟨1,0,aj⟩),.pointer (aa ⟨2,0,aj⟩),.slice (aa ⟨0,0,aa 1000⟩) 1 c,.int .i64 1,.int .i64 x.1]) (fun x=>[aa (.inr (.inr (.inl ⟨[.int .i64 0],1,[⟨[w],[],[]⟩]⟩))),aa (.inl (51,[.int .i64 0,.int .i64 0,.int .i64 0])),aa (.inl (51,[.int .i64 x.2.n,.int .i64 x.2.s,.int .i64 x.2.l]))]) (fun x=>1-x.1) 19 (fun x hx=>⟨rfl,rfl,by simp⟩) ⟨(0,⟨0,0,0⟩),⟨du _,rfl⟩,⟨[0,1,2],rfl,⟨rfl,.inl rfl,.inl rfl,trivial⟩,rfl,rfl,rfl,rfl⟩⟩ fun x hx=>?_
  refine ow (T:=TPl) ab4 mixed 200 (q:=let Z3:=bk ar;let Z1:=(↑(aA x):Int);let Z2:=(Qd (aw x) (iM (1:Int) (ax [w] (0+aH Z1) (0:Int)) (ax [w] (0+aH Z1) (0:Int))));(decide (Z1<(1:Int))=ao->Vc ((0:Int)≤Z1/\Z1<(1:Int)/\1≤1)/\Vc (0+aH Z1<1)/\Vc True/\Vc (fits (Z1+(1:Int)))/\aW (∃ j,(aA j≤1/\aw j=if aA j=0 then iM (0:Int) (0:Int) (0:Int) else iM (1:Int) w w)/\1-aA j<1-aA x/\j6 R 1 19 [2,3,6,7,8] [.pointer (aa ⟨1,0,aj⟩),.pointer (aa ⟨2,0,aj⟩),.slice (aa ⟨0,0,aa 1000⟩) 1 c,Z3 1,Z3 (↑(aA j):Int)] [aa (kn (kn (df (Row.mk [Z3 0] 1 [aX.mk [w] [] []])))),aa (df ((51:TypeId),[Z3 0,Z3 0,Z3 0])),aa (df ((51:TypeId),[Z3 (pt (aw j)),Z3 (pv (aw j)),Z3 (pw (aw j))]))] [aa (aC (aa ⟨1,0,aj⟩)),aa (aC (aa ⟨2,0,aj⟩)),aa (bx (aa ⟨0,0,aa 1000⟩) 1 c),aa (Z3 1),aa (Z3 (Z1+(1:Int)))] [aa (kn (kn (df (Row.mk [Z3 0] 1 [aX.mk [w] [] []])))),aa (df (51,[Z3 0,Z3 0,Z3 0])),aa (df (51,[Z3 (pt Z2),Z3 (pv Z2),Z3 (pw Z2)]))] 19))/\(decide (Z1<(1:Int))=an->aW (G (bE (aO [Z3 (pt (aw x)),Z3 (pv (aw x)),Z3 (pw (aw x))])) [aa (kn (kn (df (Row.mk [Z3 0] 1 [aX.mk [w] [] []])))),aa (df (51,[Z3 (pt (aw x)),Z3 (pv (aw x)),Z3 (pw (aw x))])),aa (df (51,[Z3 (pt (aw x)),Z3 (pv (aw x)),Z3 (pw (aw x))]))]))) ?_ (by kernel_rfl)
  intro Z3 Z1 Z2;subst Z2 Z1 Z3;obtain⟨i,t⟩:=x;obtain⟨h1,h2⟩:=hx;rcases(show i=0∨i=1 by omega) with hi|hi
  ·have ht:t=⟨0,0,0⟩:=h2.trans (if_pos hi);rw[hi,ht];refine⟨fun h=>⟨⟨by omega,by omega,a_ _⟩,⟨Qe⟩,⟨trivial⟩,⟨⟨by omega,by omega⟩⟩,⟨(1,⟨1,w,w⟩),⟨a_ _,rfl⟩,Qe,⟨[0,1,2],rfl,⟨rfl,.inl rfl,.inl rfl,trivial⟩,rfl,rfl,rfl,rfl⟩⟩⟩,fun h=>by simp at h⟩
  ·have ht:t=⟨1,w,w⟩:=h2.trans (if_neg (show ¬ i=0 by omega))
   rw[hi,ht];refine⟨fun h=>by simp at h,fun h=>⟨?_⟩⟩
   subst hG;exact⟨⟨[0],rfl,rfl,⟨rfl,trivial⟩,rfl,rfl,rfl,rfl⟩⟩
 ·cases hx
def TOf {R:Type}:ez R:=[(226,tG z0 2 (a9 adU))]
theorem abx {R:Type} {D:fH R}:cL D Tryz.prog (TOf:ez R):=⟨nU _ _ aiT,trivial⟩
def Y1 {R:Type}:Prim R:=fun args hh=>match args,hh with
 |[.agg ⟨[.int .i64 a,.int .i64 b]⟩,.bool hr],[]=>aa ⟨True,.agg ⟨[.int .i64 (sA ⟨a,b⟩ hr).c.n,.int .i64 (sA ⟨a,b⟩ hr).c.s,.int .i64 (sA ⟨a,b⟩ hr).c.l,.int .i64 (sA ⟨a,b⟩ hr).w.n,.int .i64 (sA ⟨a,b⟩ hr).w.s,.int .i64 (sA ⟨a,b⟩ hr).w.l,.int .i64 (sA ⟨a,b⟩ hr).d,.int .i64 (sA ⟨a,b⟩ hr).f,.int .i64 (sA ⟨a,b⟩ hr).m.k,.int .i64 (sA ⟨a,b⟩ hr).m.i,.bool (sA ⟨a,b⟩ hr).gf,.int .i64 (sA ⟨a,b⟩ hr).g.k,.int .i64 (sA ⟨a,b⟩ hr).g.i,.bool (sA ⟨a,b⟩ hr).lf,.int .i64 (sA ⟨a,b⟩ hr).l.k,.int .i64 (sA ⟨a,b⟩ hr).l.i]⟩,aj,hh,[],[]⟩
 |_,_=>aj
theorem ahw {R:Type} {D:fH R}:b6 D Tryz.prog 224 (a9 Y1):=by
 refine fj Tryz.f224 fun args hh x hx=>?_
 unfold Y1 at hx;split at hx
 ·rename_i a b hr;cases hx;refine q4 fun _ hv=>?_
  generalize hG:ch (R:=R) _ _=G;refine ow (T:=TOf) abx mixed 200 (q:=let Z1:=bk ar;(hr=ao->Vc ((1≤1/\True)/\1=1/\1=1)/\Vc ((1≤1/\True)/\1=1/\1=1)/\aW (G (bE (aO [Z1 1,Z1 1,Z1 1,Z1 1,Z1 0,Z1 0,Z1 0,Z1 0,Z1 0,Z1 0,.bool an,Z1 0,Z1 0,.bool ao,Z1 a,Z1 b])) [aa (df (31,[Z1 a,Z1 b])),aa (df (53,[Z1 1,Z1 1,Z1 1,Z1 1,Z1 0,Z1 0,Z1 0,Z1 0,Z1 0,Z1 0,.bool an,Z1 0,Z1 0,.bool ao,Z1 a,Z1 b])),aa (df (47,[.bool ao,Z1 a,Z1 b])),aa (kn (df (3,Row.mk [Z1 0] 1 [aX.mk [(1:Int)] [] []]))),aa (kn (df (3,Row.mk [Z1 0] 1 [aX.mk [(0:Int)] [] []])))]))/\(hr=an->Vc ((1≤1/\True)/\1=1/\1=1)/\Vc ((1≤1/\True)/\1=1/\1=1)/\aW (G (bE (aO [Z1 1,Z1 1,Z1 1,Z1 1,Z1 1,Z1 1,Z1 0,Z1 0,Z1 0,Z1 0,.bool ao,Z1 a,Z1 b,.bool an,Z1 0,Z1 0])) [aa (df (31,[Z1 a,Z1 b])),aa (df (53,[Z1 1,Z1 1,Z1 1,Z1 1,Z1 1,Z1 1,Z1 0,Z1 0,Z1 0,Z1 0,.bool ao,Z1 a,Z1 b,.bool an,Z1 0,Z1 0])),aa (df (47,[.bool ao,Z1 a,Z1 b])),aa (kn (df (3,Row.mk [Z1 0] 1 [aX.mk [(1:Int)] [] []]))),aa (kn (df (3,Row.mk [Z1 0] 1 [aX.mk [(1:Int)] [] []])))]))) ?_ (by kernel_rfl)
  intro Z1;subst Z1;have fin:∀ (z:Sw) (hp:Hp R),z=sA ⟨a,b⟩ hr->G (.agg ⟨[.int .i64 z.c.n,.int .i64 z.c.s,.int .i64 z.c.l,.int .i64 z.w.n,.int .i64 z.w.s,.int .i64 z.w.l,.int .i64 z.d,.int .i64 z.f,.int .i64 z.m.k,.int .i64 z.m.i,.bool z.gf,.int .i64 z.g.k,.int .i64 z.g.i,.bool z.lf,.int .i64 z.l.k,.int .i64 z.l.i]⟩) hp:=by
   intro z hp ht;subst ht;subst hG;exact⟨⟨[],rfl,rfl,trivial,rfl,rfl,rfl,rfl⟩⟩
  clear hG
  repeat' (first|apply cY|apply Vc.mk|apply fits.mk|intro h|apply aW.mk)
  all_goals (try simp only[sB] at *)
  all_goals first|contradiction|omega|exact jm ‹_›|exact jo ‹_›|exact jk ‹_›|exact⟨rfl,by omega⟩|exact rfl|(simp[*,-av];done)|skip
  ·have h:hr=ao:=by assumption
   exact fin ⟨⟨1,1,1⟩,⟨1,0,0⟩,0,0,⟨0,0⟩,an,⟨0,0⟩,ao,⟨a,b⟩⟩ _ (by rw[sA,if_pos h])
  ·have h:hr=an:=by assumption
   exact fin ⟨⟨1,1,1⟩,⟨1,1,1⟩,0,0,⟨0,0⟩,ao,⟨a,b⟩,an,⟨0,0⟩⟩ _ (by rw[sA,if_neg (by rw[h];decide)])
 ·cases hx
def Y5 {R:Type}:Prim R:=fun args hh=>match args,hh with
 |[.agg ⟨[.bool a,.int .i64 b,.int .i64 c]⟩],[]=>aa ⟨True,.agg ⟨[.int .i64 (sr a ⟨b,c⟩).c.n,.int .i64 (sr a ⟨b,c⟩).c.s,.int .i64 (sr a ⟨b,c⟩).c.l,.int .i64 (sr a ⟨b,c⟩).w.n,.int .i64 (sr a ⟨b,c⟩).w.s,.int .i64 (sr a ⟨b,c⟩).w.l,.int .i64 (sr a ⟨b,c⟩).d,.int .i64 (sr a ⟨b,c⟩).f,.int .i64 (sr a ⟨b,c⟩).m.k,.int .i64 (sr a ⟨b,c⟩).m.i,.bool (sr a ⟨b,c⟩).gf,.int .i64 (sr a ⟨b,c⟩).g.k,.int .i64 (sr a ⟨b,c⟩).g.i,.bool (sr a ⟨b,c⟩).lf,.int .i64 (sr a ⟨b,c⟩).l.k,.int .i64 (sr a ⟨b,c⟩).l.i]⟩,aj,hh,[],[]⟩
 |_,_=>aj
theorem agJ {R:Type} {D:fH R}:b6 D Tryz.prog 225 (a9 Y5):=by
 refine fj Tryz.f225 fun args hh x hx=>?_
 unfold Y5 at hx;split at hx
 ·rename_i a b c;cases hx;refine q4 fun _ hv=>?_
  generalize hG:ch (R:=R) _ _=G;refine ow (T:=TOf) abx mixed 200 (q:=let Z1:=bk ar;Vc ((1≤1/\True)/\1=1/\1=1)/\Vc ((1≤1/\True)/\1=1/\1=1)/\(a=ao->aW (G (bE (aO [Z1 1,Z1 (-1:Int),Z1 (-1:Int),Z1 1,Z1 (-1:Int),Z1 (-1:Int),Z1 1,Z1 0,Z1 b,Z1 c,.bool an,Z1 0,Z1 0,.bool an,Z1 0,Z1 0])) [aa (df (47,[.bool a,Z1 b,Z1 c])),aa (df (53,[Z1 1,Z1 (-1:Int),Z1 (-1:Int),Z1 1,Z1 (-1:Int),Z1 (-1:Int),Z1 1,Z1 0,Z1 b,Z1 c,.bool an,Z1 0,Z1 0,.bool an,Z1 0,Z1 0])),aa (kn (df (3,Row.mk [Z1 0] 1 [aX.mk [(-1:Int)] [] []]))),aa (kn (df (3,Row.mk [Z1 0] 1 [aX.mk [(-1:Int)] [] []]))),aa (df (53,[Z1 1,Z1 (-1:Int),Z1 (-1:Int),Z1 1,Z1 (-1:Int),Z1 (-1:Int),Z1 1,Z1 0,Z1 b,Z1 c,.bool an,Z1 0,Z1 0,.bool an,Z1 0,Z1 0]))]))/\(a=an->aW (G (bE (aO [Z1 1,Z1 (-1:Int),Z1 (-1:Int),Z1 1,Z1 (-1:Int),Z1 (-1:Int),Z1 1,Z1 1,Z1 0,Z1 0,.bool an,Z1 0,Z1 0,.bool an,Z1 0,Z1 0])) [aa (df (47,[.bool a,Z1 b,Z1 c])),aa (df (53,[Z1 1,Z1 (-1:Int),Z1 (-1:Int),Z1 1,Z1 (-1:Int),Z1 (-1:Int),Z1 1,Z1 1,Z1 0,Z1 0,.bool an,Z1 0,Z1 0,.bool an,Z1 0,Z1 0])),aa (kn (df (3,Row.mk [Z1 0] 1 [aX.mk [(-1:Int)] [] []]))),aa (kn (df (3,Row.mk [Z1 0] 1 [aX.mk [(-1:Int)] [] []]))),aa (df (53,[Z1 1,Z1 (-1:Int),Z1 (-1:Int),Z1 1,Z1 (-1:Int),Z1 (-1:Int),Z1 1,Z1 1,Z1 0,Z1 0,.bool an,Z1 0,Z1 0,.bool an,Z1 0,Z1 0]))]))) ?_ (by kernel_rfl)
  intro Z1;subst Z1;have fin:∀ (z:Sw) (hp:Hp R),z=sr a ⟨b,c⟩->G (.agg ⟨[.int .i64 z.c.n,.int .i64 z.c.s,.int .i64 z.c.l,.int .i64 z.w.n,.int .i64 z.w.s,.int .i64 z.w.l,.int .i64 z.d,.int .i64 z.f,.int .i64 z.m.k,.int .i64 z.m.i,.bool z.gf,.int .i64 z.g.k,.int .i64 z.g.i,.bool z.lf,.int .i64 z.l.k,.int .i64 z.l.i]⟩) hp:=by
   intro z hp ht;subst ht;subst hG;exact⟨⟨[],rfl,rfl,trivial,rfl,rfl,rfl,rfl⟩⟩
  clear hG
  repeat' (first|apply cY|apply Vc.mk|apply fits.mk|intro h|apply aW.mk)
  all_goals (try simp only[sB] at *)
  all_goals first|contradiction|omega|exact jm ‹_›|exact jo ‹_›|exact jk ‹_›|exact⟨rfl,by omega⟩|exact rfl|(simp[*,-av];done)|skip
  ·have h:a=ao:=by assumption
   exact fin ⟨⟨1,-1,-1⟩,⟨1,-1,-1⟩,1,0,⟨b,c⟩,an,⟨0,0⟩,an,⟨0,0⟩⟩ _ (by rw[sr,if_pos h])
  ·have h:a=an:=by assumption
   exact fin ⟨⟨1,-1,-1⟩,⟨1,-1,-1⟩,1,1,⟨0,0⟩,an,⟨0,0⟩,an,⟨0,0⟩⟩ _ (by rw[sr,if_neg (by rw[h];decide)])
 ·cases hx
def aj_ {R:Type}:ez R:=[(224,bJ zN 2 (a9 Y1)),(225,bJ zN 2 (a9 Y5))]
theorem ahz {R:Type} {D:fH R}:cL D Tryz.prog (aj_:ez R):=⟨aT _ _ ahw,aT _ _ agJ,trivial⟩
def ZA {R:Type}:Prim R:=fun args hh=>match args,hh with
 |[.agg ⟨[.int .i64 k0,.bool k1,.int .i64 k2,.int .i64 k3,.bool k4,.bool k5,.int .i64 k6,.int .i64 k7]⟩],[]=>aa ⟨True,.agg ⟨[.int .i64 (O8.sum (⟨k0,k1,⟨k2,k3⟩,k4,k5,⟨k6,k7⟩⟩:Mk)).c.n,.int .i64 (O8.sum (⟨k0,k1,⟨k2,k3⟩,k4,k5,⟨k6,k7⟩⟩:Mk)).c.s,.int .i64 (O8.sum (⟨k0,k1,⟨k2,k3⟩,k4,k5,⟨k6,k7⟩⟩:Mk)).c.l,.int .i64 (O8.sum (⟨k0,k1,⟨k2,k3⟩,k4,k5,⟨k6,k7⟩⟩:Mk)).w.n,.int .i64 (O8.sum (⟨k0,k1,⟨k2,k3⟩,k4,k5,⟨k6,k7⟩⟩:Mk)).w.s,.int .i64 (O8.sum (⟨k0,k1,⟨k2,k3⟩,k4,k5,⟨k6,k7⟩⟩:Mk)).w.l,.int .i64 (O8.sum (⟨k0,k1,⟨k2,k3⟩,k4,k5,⟨k6,k7⟩⟩:Mk)).d,.int .i64 (O8.sum (⟨k0,k1,⟨k2,k3⟩,k4,k5,⟨k6,k7⟩⟩:Mk)).f,.int .i64 (O8.sum (⟨k0,k1,⟨k2,k3⟩,k4,k5,⟨k6,k7⟩⟩:Mk)).m.k,.int .i64 (O8.sum (⟨k0,k1,⟨k2,k3⟩,k4,k5,⟨k6,k7⟩⟩:Mk)).m.i,.bool (O8.sum (⟨k0,k1,⟨k2,k3⟩,k4,k5,⟨k6,k7⟩⟩:Mk)).gf,.int .i64 (O8.sum (⟨k0,k1,⟨k2,k3⟩,k4,k5,⟨k6,k7⟩⟩:Mk)).g.k,.int .i64 (O8.sum (⟨k0,k1,⟨k2,k3⟩,k4,k5,⟨k6,k7⟩⟩:Mk)).g.i,.bool (O8.sum (⟨k0,k1,⟨k2,k3⟩,k4,k5,⟨k6,k7⟩⟩:Mk)).lf,.int .i64 (O8.sum (⟨k0,k1,⟨k2,k3⟩,k4,k5,⟨k6,k7⟩⟩:Mk)).l.k,.int .i64 (O8.sum (⟨k0,k1,⟨k2,k3⟩,k4,k5,⟨k6,k7⟩⟩:Mk)).l.i]⟩,aj,hh,[],[]⟩
 |_,_=>aj
theorem agt {R:Type} {D:fH R}:b6 D Tryz.prog 223 (a9 ZA):=by
 refine fj Tryz.f223 fun args hh x hx=>?_
 unfold ZA at hx;split at hx
 ·rename_i k0 k1 k2 k3 k4 k5 k6 k7;cases hx;refine q4 fun _ hv=>?_
  generalize hG:ch (R:=R) _ _=G;refine ow (T:=aj_) ahz mixed 200 (q:=let Z3:=bk ar;let Z1:=(sA (It.mk k2 k3) k4);let Z2:=(sr k5 (It.mk k6 k7));(k1=ao->Vc True/\aW (G (bE (aO [Z3 (pt (Sw.c Z1)),Z3 (pv (Sw.c Z1)),Z3 (pw (Sw.c Z1)),Z3 (pt (Sw.w Z1)),Z3 (pv (Sw.w Z1)),Z3 (pw (Sw.w Z1)),Z3 (Sw.d Z1),Z3 (Sw.f Z1),Z3 (It.k (Sw.m Z1)),Z3 (It.i (Sw.m Z1)),.bool (Sw.gf Z1),Z3 (It.k (Sw.g Z1)),Z3 (It.i (Sw.g Z1)),.bool (Sw.lf Z1),Z3 (It.k (Sw.l Z1)),Z3 (It.i (Sw.l Z1))])) [aa (df (49,[Z3 k0,.bool k1,Z3 k2,Z3 k3,.bool k4,.bool k5,Z3 k6,Z3 k7])),aa (df (53,[Z3 (pt (Sw.c Z1)),Z3 (pv (Sw.c Z1)),Z3 (pw (Sw.c Z1)),Z3 (pt (Sw.w Z1)),Z3 (pv (Sw.w Z1)),Z3 (pw (Sw.w Z1)),Z3 (Sw.d Z1),Z3 (Sw.f Z1),Z3 (It.k (Sw.m Z1)),Z3 (It.i (Sw.m Z1)),.bool (Sw.gf Z1),Z3 (It.k (Sw.g Z1)),Z3 (It.i (Sw.g Z1)),.bool (Sw.lf Z1),Z3 (It.k (Sw.l Z1)),Z3 (It.i (Sw.l Z1))]))]))/\(k1=an->Vc True/\aW (G (bE (aO [Z3 (pt (Sw.c Z2)),Z3 (pv (Sw.c Z2)),Z3 (pw (Sw.c Z2)),Z3 (pt (Sw.w Z2)),Z3 (pv (Sw.w Z2)),Z3 (pw (Sw.w Z2)),Z3 (Sw.d Z2),Z3 (Sw.f Z2),Z3 (It.k (Sw.m Z2)),Z3 (It.i (Sw.m Z2)),.bool (Sw.gf Z2),Z3 (It.k (Sw.g Z2)),Z3 (It.i (Sw.g Z2)),.bool (Sw.lf Z2),Z3 (It.k (Sw.l Z2)),Z3 (It.i (Sw.l Z2))])) [aa (df (49,[Z3 k0,.bool k1,Z3 k2,Z3 k3,.bool k4,.bool k5,Z3 k6,Z3 k7])),aa (df (53,[Z3 (pt (Sw.c Z2)),Z3 (pv (Sw.c Z2)),Z3 (pw (Sw.c Z2)),Z3 (pt (Sw.w Z2)),Z3 (pv (Sw.w Z2)),Z3 (pw (Sw.w Z2)),Z3 (Sw.d Z2),Z3 (Sw.f Z2),Z3 (It.k (Sw.m Z2)),Z3 (It.i (Sw.m Z2)),.bool (Sw.gf Z2),Z3 (It.k (Sw.g Z2)),Z3 (It.i (Sw.g Z2)),.bool (Sw.lf Z2),Z3 (It.k (Sw.l Z2)),Z3 (It.i (Sw.l Z2))]))]))) ?_ (by kernel_rfl)
  intro Z3 Z1 Z2;subst Z2 Z1 Z3;have fin:∀ (z:Sw) (hp:Hp R),z=O8.sum (⟨k0,k1,⟨k2,k3⟩,k4,k5,⟨k6,k7⟩⟩:Mk)->G (.agg ⟨[.int .i64 z.c.n,.int .i64 z.c.s,.int .i64 z.c.l,.int .i64 z.w.n,.int .i64 z.w.s,.int .i64 z.w.l,.int .i64 z.d,.int .i64 z.f,.int .i64 z.m.k,.int .i64 z.m.i,.bool z.gf,.int .i64 z.g.k,.int .i64 z.g.i,.bool z.lf,.int .i64 z.l.k,.int .i64 z.l.i]⟩) hp:=by
   intro z hp ht;subst ht;subst hG;exact⟨⟨[],rfl,rfl,trivial,rfl,rfl,rfl,rfl⟩⟩
  clear hG
  repeat' (first|apply cY|apply Vc.mk|apply fits.mk|intro h|apply aW.mk)
  all_goals (try simp only[sB] at *)
  all_goals first|contradiction|omega|exact jm ‹_›|exact jo ‹_›|exact jk ‹_›|exact⟨rfl,by omega⟩|exact rfl|(simp[*,-av];done)|skip
  ·have h:k1=ao:=by assumption
   exact fin (sA ⟨k2,k3⟩ k4) _ (by show _=if k1=ao then _ else _;rw[if_pos h])
  ·have h:k1=an:=by assumption
   exact fin (sr k5 ⟨k6,k7⟩) _ (by show _=if k1=ao then _ else _;rw[if_neg (by rw[h];decide)])
 ·cases hx
def Im {R:Type}:Prim R:=fun args hh=>match args,hh with
 |[.agg ⟨[.int .i64 k0,.bool k1,.int .i64 k2,.int .i64 k3,.bool k4,.bool k5,.int .i64 k6,.int .i64 k7]⟩,.agg ⟨[.int .i64 x0,.bool x1,.int .i64 x2,.int .i64 x3,.bool x4,.bool x5,.int .i64 x6,.int .i64 x7]⟩],[]=>aa ⟨True,.int .i64 (O8.cmp (⟨k0,k1,⟨k2,k3⟩,k4,k5,⟨k6,k7⟩⟩:Mk) (⟨x0,x1,⟨x2,x3⟩,x4,x5,⟨x6,x7⟩⟩:Mk)),aj,hh,[],[]⟩
 |_,_=>aj
theorem BU {R:Type} {D:fH R}:b6 D Tryz.prog 222 (a9 Im):=by
 refine fj Tryz.f222 fun args hh x hx=>?_
 unfold Im at hx;split at hx
 ·rename_i k0 k1 k2 k3 k4 k5 k6 k7 x0 x1 x2 x3 x4 x5 x6 x7;cases hx;refine q4 fun _ hv=>?_
  generalize hG:ch (R:=R) _ _=G;refine ow (T:=TCc) ajX mixed 200 (q:=let Z1:=bk ar;Vc True/\aW (G (Z1 (Cx k0 x0)) [aa (df (49,[Z1 k0,.bool k1,Z1 k2,Z1 k3,.bool k4,.bool k5,Z1 k6,Z1 k7])),aa (df (49,[Z1 x0,.bool x1,Z1 x2,Z1 x3,.bool x4,.bool x5,Z1 x6,Z1 x7]))])) ?_ (by kernel_rfl)
  intro Z1;subst Z1;subst hG
  repeat' (first|apply cY|apply Vc.mk|apply fits.mk|intro h|apply aW.mk)
  all_goals (try simp only[sB] at *)
  all_goals first|contradiction|omega|exact jm ‹_›|exact jo ‹_›|exact jk ‹_›|exact⟨rfl,by omega⟩|exact rfl|(simp[*,-av];done)|skip
  exact⟨[],rfl,rfl,trivial,rfl,rfl,rfl,rfl⟩
 ·cases hx
def ZW {R:Type}:Prim R:=fun args hh=>match args,hh with
 |[.int .i64 a],[]=>aa ⟨True,.agg ⟨[.int .i64 a,.bool an,.int .i64 0,.int .i64 0,.bool an,.bool an,.int .i64 0,.int .i64 0]⟩,aj,hh,[],[]⟩
 |_,_=>aj
theorem aaV {R:Type} {D:fH R}:b6 D Tryz.prog 66 (a9 ZW):=by
 refine fj Tryz.f66 fun args hh x hx=>?_
 unfold ZW at hx;split at hx
 ·rename_i a;cases hx;refine q4 fun _ hv=>?_
  generalize hG:ch (R:=R) _ _=G;refine ow (T:=[]) trivial mixed 200 (q:=let Z1:=bk ar;aW (G (bE (aO [Z1 a,.bool an,Z1 0,Z1 0,.bool an,.bool an,Z1 0,Z1 0])) [aa (df (49,[Z1 a,.bool an,Z1 0,Z1 0,.bool an,.bool an,Z1 0,Z1 0]))])) ?_ (by kernel_rfl)
  intro Z1;subst Z1;subst hG
  repeat' (first|apply cY|apply Vc.mk|apply fits.mk|intro h|apply aW.mk)
  all_goals (try simp only[sB] at *)
  all_goals first|contradiction|omega|exact jm ‹_›|exact jo ‹_›|exact jk ‹_›|exact⟨rfl,by omega⟩|exact rfl|(simp[*,-av];done)|skip
  exact⟨[],rfl,rfl,trivial,rfl,rfl,rfl,rfl⟩
 ·cases hx
def aez {R:Type}:Prim R:=fun args hh=>match args,hh with
 |[.agg ⟨[.int .i64 x0,.int .i64 x1,.int .i64 x2,.int .i64 x3,.int .i64 x4,.int .i64 x5,.int .i64 x6,.int .i64 x7,.int .i64 x8,.int .i64 x9,.bool rE,.int .i64 rH,.int .i64 rL,.bool rG,.int .i64 rI,.int .i64 rF]⟩],[]=>aa ⟨True,.bool (x6 != x7),aj,hh,[],[]⟩
 |_,_=>aj
theorem akP {R:Type} {D:fH R}:b6 D Tryz.prog 230 (a9 aez):=by
 refine fj Tryz.f230 fun args hh x hx=>?_
 unfold aez at hx;split at hx
 ·rename_i x0 x1 x2 x3 x4 x5 x6 x7 x8 x9 rE rH rL rG rI rF;cases hx;refine q4 fun _ hv=>?_
  generalize hG:ch (R:=R) _ _=G;refine ow (T:=[]) trivial mixed 200 (q:=let Z1:=bk ar;aW (G (aD (x6 != x7)) [aa (df (53,[Z1 x0,Z1 x1,Z1 x2,Z1 x3,Z1 x4,Z1 x5,Z1 x6,Z1 x7,Z1 x8,Z1 x9,.bool rE,Z1 rH,Z1 rL,.bool rG,Z1 rI,Z1 rF]))])) ?_ (by kernel_rfl)
  intro Z1;subst Z1;subst hG
  repeat' (first|apply cY|apply Vc.mk|apply fits.mk|intro h|apply aW.mk)
  all_goals (try simp only[sB] at *)
  all_goals first|contradiction|omega|exact jm ‹_›|exact jo ‹_›|exact jk ‹_›|exact⟨rfl,by omega⟩|exact rfl|(simp[*,-av];done)|skip
  exact⟨[],rfl,rfl,trivial,rfl,rfl,rfl,rfl⟩
 ·cases hx
def TMo {R:Type}:ez R:=[(230,bJ zN 2 (a9 aez)),(140,bJ zN 2 (a9 Zp))]
theorem acQ {R:Type} {D:fH R}:cL D Tryz.prog (TMo:ez R):=⟨aT _ _ akP,aT _ _ abB,trivial⟩
def YX {R:Type}:Prim R:=fun args hh=>match args,hh with
 |[.agg ⟨[.int .i64 x0,.int .i64 x1,.int .i64 x2,.int .i64 x3,.int .i64 x4,.int .i64 x5,.int .i64 x6,.int .i64 x7,.int .i64 x8,.int .i64 x9,.bool rE,.int .i64 rH,.int .i64 rL,.bool rG,.int .i64 rI,.int .i64 rF]⟩,.agg ⟨[.int .i64 y0,.int .i64 y1,.int .i64 y2,.int .i64 y3,.int .i64 y4,.int .i64 y5,.int .i64 y6,.int .i64 y7,.int .i64 y8,.int .i64 y9,.bool s9,.int .i64 sZ,.int .i64 sX,.bool s0,.int .i64 sW,.int .i64 sY]⟩],[]=>aa ⟨True,.agg ⟨[.int .i64 (D' (⟨⟨x0,x1,x2⟩,⟨x3,x4,x5⟩,x6,x7,⟨x8,x9⟩,rE,⟨rH,rL⟩,rG,⟨rI,rF⟩⟩:Sw) (⟨⟨y0,y1,y2⟩,⟨y3,y4,y5⟩,y6,y7,⟨y8,y9⟩,s9,⟨sZ,sX⟩,s0,⟨sW,sY⟩⟩:Sw)).k,.int .i64 (D' (⟨⟨x0,x1,x2⟩,⟨x3,x4,x5⟩,x6,x7,⟨x8,x9⟩,rE,⟨rH,rL⟩,rG,⟨rI,rF⟩⟩:Sw) (⟨⟨y0,y1,y2⟩,⟨y3,y4,y5⟩,y6,y7,⟨y8,y9⟩,s9,⟨sZ,sX⟩,s0,⟨sW,sY⟩⟩:Sw)).i]⟩,aj,hh,[],[]⟩
 |_,_=>aj
theorem agx {R:Type} {D:fH R}:b6 D Tryz.prog 231 (a9 YX):=by
 refine fj Tryz.f231 fun args hh x hx=>?_
 unfold YX at hx;split at hx
 ·rename_i x0 x1 x2 x3 x4 x5 x6 x7 x8 x9 rE rH rL rG rI rF y0 y1 y2 y3 y4 y5 y6 y7 y8 y9 s9 sZ sX s0 sW sY;cases hx;refine q4 fun _ hv=>?_
  generalize hG:ch (R:=R) _ _=G;refine ow (T:=TMo) acQ mixed 200 (q:=let Z1:=bk ar;Vc True/\((!y6 != y7)=ao->aW (G (bE (aO [Z1 x8,Z1 x9])) [aa (df (53,[Z1 x0,Z1 x1,Z1 x2,Z1 x3,Z1 x4,Z1 x5,Z1 x6,Z1 x7,Z1 x8,Z1 x9,.bool rE,Z1 rH,Z1 rL,.bool rG,Z1 rI,Z1 rF])),aa (df (53,[Z1 y0,Z1 y1,Z1 y2,Z1 y3,Z1 y4,Z1 y5,Z1 y6,Z1 y7,Z1 y8,Z1 y9,.bool s9,Z1 sZ,Z1 sX,.bool s0,Z1 sW,Z1 sY])),aa (df (31,[Z1 x8,Z1 x9]))]))/\((!y6 != y7)=an->Vc True/\((!x6 != x7)=an->Vc True/\(decide (kM (It.mk y8 y9) (It.mk x8 x9)>(0:Int))=ao->aW (G (bE (aO [Z1 y8,Z1 y9])) [aa (df (53,[Z1 x0,Z1 x1,Z1 x2,Z1 x3,Z1 x4,Z1 x5,Z1 x6,Z1 x7,Z1 x8,Z1 x9,.bool rE,Z1 rH,Z1 rL,.bool rG,Z1 rI,Z1 rF])),aa (df (53,[Z1 y0,Z1 y1,Z1 y2,Z1 y3,Z1 y4,Z1 y5,Z1 y6,Z1 y7,Z1 y8,Z1 y9,.bool s9,Z1 sZ,Z1 sX,.bool s0,Z1 sW,Z1 sY])),aa (df (31,[Z1 y8,Z1 y9]))]))/\(decide (kM (It.mk y8 y9) (It.mk x8 x9)>(0:Int))=an->aW (G (bE (aO [Z1 x8,Z1 x9])) [aa (df (53,[Z1 x0,Z1 x1,Z1 x2,Z1 x3,Z1 x4,Z1 x5,Z1 x6,Z1 x7,Z1 x8,Z1 x9,.bool rE,Z1 rH,Z1 rL,.bool rG,Z1 rI,Z1 rF])),aa (df (53,[Z1 y0,Z1 y1,Z1 y2,Z1 y3,Z1 y4,Z1 y5,Z1 y6,Z1 y7,Z1 y8,Z1 y9,.bool s9,Z1 sZ,Z1 sX,.bool s0,Z1 sW,Z1 sY])),aa (df (31,[Z1 x8,Z1 x9]))])))/\((!x6 != x7)=ao->aW (G (bE (aO [Z1 y8,Z1 y9])) [aa (df (53,[Z1 x0,Z1 x1,Z1 x2,Z1 x3,Z1 x4,Z1 x5,Z1 x6,Z1 x7,Z1 x8,Z1 x9,.bool rE,Z1 rH,Z1 rL,.bool rG,Z1 rI,Z1 rF])),aa (df (53,[Z1 y0,Z1 y1,Z1 y2,Z1 y3,Z1 y4,Z1 y5,Z1 y6,Z1 y7,Z1 y8,Z1 y9,.bool s9,Z1 sZ,Z1 sX,.bool s0,Z1 sW,Z1 sY])),aa (df (31,[Z1 y8,Z1 y9]))])))) ?_ (by kernel_rfl)
  intro Z1;subst Z1;have fin:∀ (z:It) (hp:Hp R),z=D' (⟨⟨x0,x1,x2⟩,⟨x3,x4,x5⟩,x6,x7,⟨x8,x9⟩,rE,⟨rH,rL⟩,rG,⟨rI,rF⟩⟩:Sw) (⟨⟨y0,y1,y2⟩,⟨y3,y4,y5⟩,y6,y7,⟨y8,y9⟩,s9,⟨sZ,sX⟩,s0,⟨sW,sY⟩⟩:Sw)->G (.agg ⟨[.int .i64 z.k,.int .i64 z.i]⟩) hp:=by
   intro z hp ht;subst ht;subst hG;exact⟨⟨[],rfl,rfl,trivial,rfl,rfl,rfl,rfl⟩⟩
  clear hG
  repeat' (first|apply cY|apply Vc.mk|apply fits.mk|intro h|apply aW.mk)
  all_goals (try simp only[sB] at *)
  all_goals first|contradiction|omega|exact jm ‹_›|exact jo ‹_›|exact jk ‹_›|exact⟨rfl,by omega⟩|exact rfl|(simp[*,-av];done)|skip
  all_goals first
   |exact fin ⟨x8,x9⟩ _ (by simp only[D'];rw[if_pos (by assumption)])
   |exact fin ⟨y8,y9⟩ _ (by simp only[D'];rw[if_neg (by assumption),if_pos (by first|exact .inl (by assumption)|exact .inr ((wW _ _).1 (by assumption)))])
   |exact fin ⟨x8,x9⟩ _ (by simp only[D'];rw[if_neg (by assumption),if_neg (by rintro (h|h);contradiction;have:=(wW ⟨y8,y9⟩ ⟨x8,x9⟩).2 h;omega)])
 ·cases hx
def YO {R:Type}:Prim R:=fun args hh=>match args,hh with
 |[.agg ⟨[.bool x0,.int .i64 x1,.int .i64 x2]⟩,.agg ⟨[.bool y0,.int .i64 y1,.int .i64 y2]⟩,.int .i64 sd],[]=>aa ⟨True,.agg ⟨[.bool (vm sd x0 ⟨x1,x2⟩ y0 ⟨y1,y2⟩).1,.int .i64 (vm sd x0 ⟨x1,x2⟩ y0 ⟨y1,y2⟩).2.k,.int .i64 (vm sd x0 ⟨x1,x2⟩ y0 ⟨y1,y2⟩).2.i]⟩,aj,hh,[],[]⟩
 |_,_=>aj
theorem aha {R:Type} {D:fH R}:b6 D Tryz.prog 232 (a9 YO):=by
 refine fj Tryz.f232 fun args hh x hx=>?_
 unfold YO at hx;split at hx
 ·rename_i x0 x1 x2 y0 y1 y2 sd;cases hx;refine q4 fun _ hv=>?_
  generalize hG:ch (R:=R) _ _=G;refine ow (T:=TMo) acQ mixed 200 (q:=let Z1:=bk ar;(y0=ao->((!x0)=an->Vc True/\((kM (It.mk y1 y2) (It.mk x1 x2)==sd)=ao->aW (G (bE (aO [.bool y0,Z1 y1,Z1 y2])) [aa (df (47,[.bool x0,Z1 x1,Z1 x2])),aa (df (47,[.bool y0,Z1 y1,Z1 y2])),aa (df (47,[.bool y0,Z1 y1,Z1 y2]))]))/\((kM (It.mk y1 y2) (It.mk x1 x2)==sd)=an->((!x0)=ao->aW (G (bE (aO [.bool an,Z1 0,Z1 0])) [aa (df (47,[.bool x0,Z1 x1,Z1 x2])),aa (df (47,[.bool y0,Z1 y1,Z1 y2])),aa (df (47,[.bool an,Z1 0,Z1 0]))]))/\((!x0)=an->aW (G (bE (aO [.bool x0,Z1 x1,Z1 x2])) [aa (df (47,[.bool x0,Z1 x1,Z1 x2])),aa (df (47,[.bool y0,Z1 y1,Z1 y2])),aa (df (47,[.bool x0,Z1 x1,Z1 x2]))]))))/\((!x0)=ao->aW (G (bE (aO [.bool y0,Z1 y1,Z1 y2])) [aa (df (47,[.bool x0,Z1 x1,Z1 x2])),aa (df (47,[.bool y0,Z1 y1,Z1 y2])),aa (df (47,[.bool y0,Z1 y1,Z1 y2]))])))/\(y0=an->((!x0)=ao->aW (G (bE (aO [.bool an,Z1 0,Z1 0])) [aa (df (47,[.bool x0,Z1 x1,Z1 x2])),aa (df (47,[.bool y0,Z1 y1,Z1 y2])),aa (df (47,[.bool an,Z1 0,Z1 0]))]))/\((!x0)=an->aW (G (bE (aO [.bool x0,Z1 x1,Z1 x2])) [aa (df (47,[.bool x0,Z1 x1,Z1 x2])),aa (df (47,[.bool y0,Z1 y1,Z1 y2])),aa (df (47,[.bool x0,Z1 x1,Z1 x2]))])))) ?_ (by kernel_rfl)
  intro Z1;subst Z1;have fin:∀ (z:Bool×It) (hp:Hp R),z=vm sd x0 ⟨x1,x2⟩ y0 ⟨y1,y2⟩->G (.agg ⟨[.bool z.1,.int .i64 z.2.k,.int .i64 z.2.i]⟩) hp:=by
   intro z hp ht;subst ht;subst hG;exact⟨⟨[],rfl,rfl,trivial,rfl,rfl,rfl,rfl⟩⟩
  clear hG
  repeat' (first|apply cY|apply Vc.mk|apply fits.mk|intro h|apply aW.mk)
  all_goals (try simp only[sB] at *)
  all_goals first|contradiction|omega|exact jm ‹_›|exact jo ‹_›|exact jk ‹_›|exact⟨rfl,by omega⟩|exact rfl|(simp[*,-av];done)|skip
  all_goals first
   |(exfalso;simp_all;done)
   |exact fin (y0,⟨y1,y2⟩) _ (by simp[vm, *];done)
   |exact fin (an,⟨0,0⟩) _ (by simp[vm, *];done)
   |exact fin (x0,⟨x1,x2⟩) _ (by simp[vm, *];done)
 ·cases hx
def TPs {R:Type}:ez R:=[(1000000000,lL),(227,bJ zN 2 (a9 Ti.dY)),(231,bJ zN 2 (a9 YX)),(232,bJ zN 2 (a9 YO))]
theorem akd {R:Type} {D:fH R}:cL D Tryz.prog (TPs:ez R):=⟨iu,aT _ _ Ti.uz,aT _ _ agx,aT _ _ aha,trivial⟩
def U4 {R:Type}:Prim R:=fun args hh=>match args,hh with
 |[.agg ⟨[.int .i64 x0,.int .i64 x1,.int .i64 x2,.int .i64 x3,.int .i64 x4,.int .i64 x5,.int .i64 x6,.int .i64 x7,.int .i64 x8,.int .i64 x9,.bool rE,.int .i64 rH,.int .i64 rL,.bool rG,.int .i64 rI,.int .i64 rF]⟩,.agg ⟨[.int .i64 y0,.int .i64 y1,.int .i64 y2,.int .i64 y3,.int .i64 y4,.int .i64 y5,.int .i64 y6,.int .i64 y7,.int .i64 y8,.int .i64 y9,.bool s9,.int .i64 sZ,.int .i64 sX,.bool s0,.int .i64 sW,.int .i64 sY]⟩],[]=>aa ⟨True,.agg ⟨[.int .i64 (O8.plus (⟨⟨x0,x1,x2⟩,⟨x3,x4,x5⟩,x6,x7,⟨x8,x9⟩,rE,⟨rH,rL⟩,rG,⟨rI,rF⟩⟩:Sw) (⟨⟨y0,y1,y2⟩,⟨y3,y4,y5⟩,y6,y7,⟨y8,y9⟩,s9,⟨sZ,sX⟩,s0,⟨sW,sY⟩⟩:Sw)).c.n,.int .i64 (O8.plus (⟨⟨x0,x1,x2⟩,⟨x3,x4,x5⟩,x6,x7,⟨x8,x9⟩,rE,⟨rH,rL⟩,rG,⟨rI,rF⟩⟩:Sw) (⟨⟨y0,y1,y2⟩,⟨y3,y4,y5⟩,y6,y7,⟨y8,y9⟩,s9,⟨sZ,sX⟩,s0,⟨sW,sY⟩⟩:Sw)).c.s,.int .i64 (O8.plus (⟨⟨x0,x1,x2⟩,⟨x3,x4,x5⟩,x6,x7,⟨x8,x9⟩,rE,⟨rH,rL⟩,rG,⟨rI,rF⟩⟩:Sw) (⟨⟨y0,y1,y2⟩,⟨y3,y4,y5⟩,y6,y7,⟨y8,y9⟩,s9,⟨sZ,sX⟩,s0,⟨sW,sY⟩⟩:Sw)).c.l,.int .i64 (O8.plus (⟨⟨x0,x1,x2⟩,⟨x3,x4,x5⟩,x6,x7,⟨x8,x9⟩,rE,⟨rH,rL⟩,rG,⟨rI,rF⟩⟩:Sw) (⟨⟨y0,y1,y2⟩,⟨y3,y4,y5⟩,y6,y7,⟨y8,y9⟩,s9,⟨sZ,sX⟩,s0,⟨sW,sY⟩⟩:Sw)).w.n,.int .i64 (O8.plus (⟨⟨x0,x1,x2⟩,⟨x3,x4,x5⟩,x6,x7,⟨x8,x9⟩,rE,⟨rH,rL⟩,rG,⟨rI,rF⟩⟩:Sw) (⟨⟨y0,y1,y2⟩,⟨y3,y4,y5⟩,y6,y7,⟨y8,y9⟩,s9,⟨sZ,sX⟩,s0,⟨sW,sY⟩⟩:Sw)).w.s,.int .i64 (O8.plus (⟨⟨x0,x1,x2⟩,⟨x3,x4,x5⟩,x6,x7,⟨x8,x9⟩,rE,⟨rH,rL⟩,rG,⟨rI,rF⟩⟩:Sw) (⟨⟨y0,y1,y2⟩,⟨y3,y4,y5⟩,y6,y7,⟨y8,y9⟩,s9,⟨sZ,sX⟩,s0,⟨sW,sY⟩⟩:Sw)).w.l,.int .i64 (O8.plus (⟨⟨x0,x1,x2⟩,⟨x3,x4,x5⟩,x6,x7,⟨x8,x9⟩,rE,⟨rH,rL⟩,rG,⟨rI,rF⟩⟩:Sw) (⟨⟨y0,y1,y2⟩,⟨y3,y4,y5⟩,y6,y7,⟨y8,y9⟩,s9,⟨sZ,sX⟩,s0,⟨sW,sY⟩⟩:Sw)).d,.int .i64 (O8.plus (⟨⟨x0,x1,x2⟩,⟨x3,x4,x5⟩,x6,x7,⟨x8,x9⟩,rE,⟨rH,rL⟩,rG,⟨rI,rF⟩⟩:Sw) (⟨⟨y0,y1,y2⟩,⟨y3,y4,y5⟩,y6,y7,⟨y8,y9⟩,s9,⟨sZ,sX⟩,s0,⟨sW,sY⟩⟩:Sw)).f,.int .i64 (O8.plus (⟨⟨x0,x1,x2⟩,⟨x3,x4,x5⟩,x6,x7,⟨x8,x9⟩,rE,⟨rH,rL⟩,rG,⟨rI,rF⟩⟩:Sw) (⟨⟨y0,y1,y2⟩,⟨y3,y4,y5⟩,y6,y7,⟨y8,y9⟩,s9,⟨sZ,sX⟩,s0,⟨sW,sY⟩⟩:Sw)).m.k,.int .i64 (O8.plus (⟨⟨x0,x1,x2⟩,⟨x3,x4,x5⟩,x6,x7,⟨x8,x9⟩,rE,⟨rH,rL⟩,rG,⟨rI,rF⟩⟩:Sw) (⟨⟨y0,y1,y2⟩,⟨y3,y4,y5⟩,y6,y7,⟨y8,y9⟩,s9,⟨sZ,sX⟩,s0,⟨sW,sY⟩⟩:Sw)).m.i,.bool (O8.plus (⟨⟨x0,x1,x2⟩,⟨x3,x4,x5⟩,x6,x7,⟨x8,x9⟩,rE,⟨rH,rL⟩,rG,⟨rI,rF⟩⟩:Sw) (⟨⟨y0,y1,y2⟩,⟨y3,y4,y5⟩,y6,y7,⟨y8,y9⟩,s9,⟨sZ,sX⟩,s0,⟨sW,sY⟩⟩:Sw)).gf,.int .i64 (O8.plus (⟨⟨x0,x1,x2⟩,⟨x3,x4,x5⟩,x6,x7,⟨x8,x9⟩,rE,⟨rH,rL⟩,rG,⟨rI,rF⟩⟩:Sw) (⟨⟨y0,y1,y2⟩,⟨y3,y4,y5⟩,y6,y7,⟨y8,y9⟩,s9,⟨sZ,sX⟩,s0,⟨sW,sY⟩⟩:Sw)).g.k,.int .i64 (O8.plus (⟨⟨x0,x1,x2⟩,⟨x3,x4,x5⟩,x6,x7,⟨x8,x9⟩,rE,⟨rH,rL⟩,rG,⟨rI,rF⟩⟩:Sw) (⟨⟨y0,y1,y2⟩,⟨y3,y4,y5⟩,y6,y7,⟨y8,y9⟩,s9,⟨sZ,sX⟩,s0,⟨sW,sY⟩⟩:Sw)).g.i,.bool (O8.plus (⟨⟨x0,x1,x2⟩,⟨x3,x4,x5⟩,x6,x7,⟨x8,x9⟩,rE,⟨rH,rL⟩,rG,⟨rI,rF⟩⟩:Sw) (⟨⟨y0,y1,y2⟩,⟨y3,y4,y5⟩,y6,y7,⟨y8,y9⟩,s9,⟨sZ,sX⟩,s0,⟨sW,sY⟩⟩:Sw)).lf,.int .i64 (O8.plus (⟨⟨x0,x1,x2⟩,⟨x3,x4,x5⟩,x6,x7,⟨x8,x9⟩,rE,⟨rH,rL⟩,rG,⟨rI,rF⟩⟩:Sw) (⟨⟨y0,y1,y2⟩,⟨y3,y4,y5⟩,y6,y7,⟨y8,y9⟩,s9,⟨sZ,sX⟩,s0,⟨sW,sY⟩⟩:Sw)).l.k,.int .i64 (O8.plus (⟨⟨x0,x1,x2⟩,⟨x3,x4,x5⟩,x6,x7,⟨x8,x9⟩,rE,⟨rH,rL⟩,rG,⟨rI,rF⟩⟩:Sw) (⟨⟨y0,y1,y2⟩,⟨y3,y4,y5⟩,y6,y7,⟨y8,y9⟩,s9,⟨sZ,sX⟩,s0,⟨sW,sY⟩⟩:Sw)).l.i]⟩,aj,hh,[],[]⟩
 |_,_=>aj
theorem aeD {R:Type} {D:fH R}:b6 D Tryz.prog 229 (a9 U4):=by
 refine fj Tryz.f229 fun args hh x hx=>?_
 unfold U4 at hx;split at hx
 ·rename_i x0 x1 x2 x3 x4 x5 x6 x7 x8 x9 rE rH rL rG rI rF y0 y1 y2 y3 y4 y5 y6 y7 y8 y9 s9 sZ sX s0 sW sY;cases hx;refine q4 fun _ hv=>?_
  generalize hG:ch (R:=R) _ _=G;refine ow (T:=TPs) akd mixed 200 (q:=let Z8:=bk ar;let Z1:=(Qd (iM x0 x1 x2) (iM y0 y1 y2));let Z2:=(Qd (iM x3 x4 x5) (iM y3 y4 y5));let Z3:=(D' (Sw.mk (iM x0 x1 x2) (iM x3 x4 x5) x6 x7 (It.mk x8 x9) rE (It.mk rH rL) rG (It.mk rI rF)) (Sw.mk (iM y0 y1 y2) (iM y3 y4 y5) y6 y7 (It.mk y8 y9) s9 (It.mk sZ sX) s0 (It.mk sW sY)));let Z4:=(aA (vm (1:Int) rE (It.mk rH rL) s9 (It.mk sZ sX)));let Z5:=(aw (vm (1:Int) rE (It.mk rH rL) s9 (It.mk sZ sX)));let Z6:=(aA (vm (-1:Int) rG (It.mk rI rF) s0 (It.mk sW sY)));let Z7:=(aw (vm (-1:Int) rG (It.mk rI rF) s0 (It.mk sW sY)));Vc True/\Vc True/\Vc True/\Vc True/\Vc True/\Vc True/\Vc True/\aW (G (bE (aO [Z8 (pt Z1),Z8 (pv Z1),Z8 (pw Z1),Z8 (pt Z2),Z8 (pv Z2),Z8 (pw Z2),Z8 (ck ar (x6+y6)),Z8 (ck ar (x7+y7)),Z8 (It.k Z3),Z8 (It.i Z3),.bool Z4,Z8 (It.k Z5),Z8 (It.i Z5),.bool Z6,Z8 (It.k Z7),Z8 (It.i Z7)])) [aa (df (53,[Z8 x0,Z8 x1,Z8 x2,Z8 x3,Z8 x4,Z8 x5,Z8 x6,Z8 x7,Z8 x8,Z8 x9,.bool rE,Z8 rH,Z8 rL,.bool rG,Z8 rI,Z8 rF])),aa (df (53,[Z8 y0,Z8 y1,Z8 y2,Z8 y3,Z8 y4,Z8 y5,Z8 y6,Z8 y7,Z8 y8,Z8 y9,.bool s9,Z8 sZ,Z8 sX,.bool s0,Z8 sW,Z8 sY])),aa (df (53,[Z8 (pt Z1),Z8 (pv Z1),Z8 (pw Z1),Z8 (pt Z2),Z8 (pv Z2),Z8 (pw Z2),Z8 (ck ar (x6+y6)),Z8 (ck ar (x7+y7)),Z8 (It.k Z3),Z8 (It.i Z3),.bool Z4,Z8 (It.k Z5),Z8 (It.i Z5),.bool Z6,Z8 (It.k Z7),Z8 (It.i Z7)]))])) ?_ (by kernel_rfl)
  intro Z8 Z1 Z2 Z3 Z4 Z5 Z6 Z7;subst Z7 Z6 Z5 Z4 Z3 Z2 Z1 Z8;subst hG
  repeat' (first|apply cY|apply Vc.mk|apply fits.mk|intro h|apply aW.mk)
  all_goals (try simp only[sB] at *)
  all_goals first|contradiction|omega|exact jm ‹_›|exact jo ‹_›|exact jk ‹_›|exact⟨rfl,by omega⟩|exact rfl|(simp[*,-av];done)|skip
  exact⟨[],rfl,rfl,trivial,rfl,rfl,rfl,rfl⟩
 ·cases hx
end Wv
namespace G8
open Rx
set_option maxRecDepth 100000
abbrev dD (b:Nat) (i g:Int):Option (SB Rs):=aa (.inl (110,[.pointer (aa ⟨b,0,aj⟩),.int .i64 i,.int .i64 g]))
abbrev oP (m:Pl):Option (SB Rs):=aa (.inr (.inr (.inr (.da m))))
def TQ {R:Type}:ez R:=[(223,bJ zN 2 (a9 Wv.ZA))]
theorem QN {R:Type} {D:fH R}:cL D Tryz.prog (TQ:ez R):=⟨aT _ _ Wv.agt,trivial⟩
def Pb {R:Type}:ez R:=[(1000000000,lL),(229,bJ zN 2 (a9 Wv.U4))]
theorem N3 {R:Type} {D:fH R}:cL D Tryz.prog (Pb:ez R):=⟨iu,aT _ _ Wv.aeD,trivial⟩
def AB {R:Type}:Prim R:=fun args hh=>match args,hh with
 |[.agg ⟨kE⟩],[]=>aa ⟨kE=dr (fP kE)/\(True),.agg ⟨bW (nN Wv.O8 (fP kE))⟩,aj,hh,[],[]⟩
 |_,_=>aj
theorem yw {R:Type} {D:fH R}:b6 D Tryz.prog 98 (a9 AB):=by
 refine fj Tryz.f98 fun args hh x hx=>?_
 unfold AB at hx;split at hx
 ·rename_i kE;cases hx;refine q4 fun _ hv=>?_
  obtain⟨jU,hv⟩:=hv;generalize fP kE=ke at *;subst jU
  generalize hG:ch (R:=R) _ _=G;refine cJ (T:=TQ) QN mixed 200 ?_;refine bK (q:=Vc True/\Vc True/\aW (G (bE (aO (bW (my 1 (IW Wv.O8 ke))))) [aa (.inl (49,(dr ke))),aa (.inl (134,(bW (my 1 (IW Wv.O8 ke)))))])) ?_ (by kernel_rfl)
  subst hG
  repeat' (first|apply cY|apply Vc.mk|apply fits.mk|intro h|apply aW.mk)
  all_goals (try simp only[sB] at *)
  all_goals first|contradiction|omega|exact jm ‹_›|exact jo ‹_›|exact jk ‹_›|exact⟨rfl,by omega⟩|exact rfl|(simp[*,-av];done)|skip
  exact⟨[],rfl,rfl,trivial,rfl,rfl,rfl,rfl⟩
 ·cases hx
def dY {R:Type}:Prim R:=fun args hh=>match args,hh with
 |[.agg ⟨pP⟩,.agg ⟨qP⟩],[]=>aa ⟨pP=bW (o_ pP)/\qP=bW (o_ qP)/\(True),.agg ⟨bW (ew Wv.O8 (o_ pP) (o_ qP))⟩,aj,hh,[],[]⟩
 |_,_=>aj
theorem uz {R:Type} {D:fH R}:b6 D Tryz.prog 148 (a9 dY):=by
 refine fj Tryz.f148 fun args hh x hx=>?_
 unfold dY at hx;split at hx
 ·rename_i pP qP;cases hx;refine q4 fun _ hv=>?_
  obtain⟨jU,ss,hv⟩:=hv;generalize o_ pP=pp at *;subst jU;generalize o_ qP=qp at *;subst ss
  generalize hG:ch (R:=R) _ _=G;refine cJ (T:=Pb) N3 mixed 200 ?_;refine bK (q:=let Z1:=(bW (my (ck ar (bM pp+bM qp)) (Gv.iL.plus Wv.O8 (bG pp) (bG qp))));((bM pp==(0:Int))=ao->aW (G (bE (aO (bW qp))) [aa (.inl (134,(bW pp))),aa (.inl (134,(bW qp))),aa (.inl (134,(bW qp)))]))/\((bM pp==(0:Int))=an->((bM qp==(0:Int))=ao->aW (G (bE (aO (bW pp))) [aa (.inl (134,(bW pp))),aa (.inl (134,(bW qp))),aa (.inl (134,(bW pp)))]))/\((bM qp==(0:Int))=an->Vc True/\Vc True/\Vc True/\aW (G (bE (aO Z1)) [aa (.inl (134,(bW pp))),aa (.inl (134,(bW qp))),aa (.inl (134,Z1))])))) ?_ (by kernel_rfl)
  intro Z1;subst Z1;have done:∀ (p:HI Wv.Sw) (hp:Hp R),p=ew Wv.O8 pp qp->G (.agg ⟨bW p⟩) hp:=by
   intro p hp e;subst e;subst hG;exact⟨⟨[],rfl,rfl,trivial,rfl,rfl,rfl,rfl⟩⟩
  clear hG
  repeat' (first|apply cY|apply Vc.mk|apply fits.mk|intro h|apply aW.mk)
  all_goals (try simp only[sB] at *)
  all_goals first|contradiction|omega|exact jm ‹_›|exact jo ‹_›|exact jk ‹_›|exact⟨rfl,by omega⟩|exact rfl|(simp[*,-av];done)|skip
  ·have h:pp.n=0:=by assumption
   exact done qp _ (by rw[ew,if_pos h])
  ·have h:pp.n≠0:=by assumption
   have h2:qp.n=0:=by assumption
   exact done pp _ (by rw[ew,if_neg h,if_pos h2])
  ·have h:pp.n≠0:=by assumption
   have h2:qp.n≠0:=by assumption
   exact done ⟨Gv.W (pp.n+qp.n),Wv.O8.plus pp.sum qp.sum⟩ _ (by rw[ew,if_neg h,if_neg h2])
 ·cases hx
def Ps:ez Rs:=[(121,bJ zN 2 (a9 M0))]
theorem NT:cL D Tryz.prog Ps:=⟨aT _ _ T4,trivial⟩
def j9:Prim Rs:=fun args hh=>match args,hh with
 |[.pointer (aa ⟨0,0,aj⟩),.agg ⟨[.int .i64 ri,.int .i64 rg]⟩],[aa (.inl (110,[.pointer (aa ⟨1,0,aj⟩),.int .i64 ti,.int .i64 tg])),aa (.inr (.inr (.inr (.da m))))]=>aa ⟨PP m,.agg ⟨bj (br Wv.O8 m ⟨ri,rg⟩)⟩,aj,[aa (.inl (110,[.pointer (aa ⟨1,0,aj⟩),.int .i64 ti,.int .i64 tg])),aa (.inr (.inr (.inr (.da (aJ m ⟨ri,rg⟩)))))],[],[(0,0)]⟩
 |_,_=>aj
theorem look_ok:b6 D Tryz.prog 80 (a9 j9):=by
 refine fj Tryz.f80 fun args hh x hx=>?_
 unfold j9 at hx;split at hx
 ·rename_i ri rg ti tg m;cases hx;refine q4 fun _ hv=>?_
  generalize hG:ch (R:=Rs) _ _=G;refine cJ (T:=Ps) NT mixed 200 ?_;refine bK (q:=Vc (PP m)/\aW (G (bE (aO (bj (jQ zd m (aN ri rg))))) [dD 1 ti tg,oP (aJ m (aN ri rg)),aa (.inl (108,[.int ar ri,.int ar rg])),aa (.inl (136,(bj (jQ zd m (aN ri rg))))),aa (.inl (136,(bj (jQ zd m (aN ri rg)))))])) ?_ (by kernel_rfl)
  subst hG;exact⟨⟨hv⟩,⟨⟨[0,1],rfl,rfl,⟨.inl rfl,rfl,trivial⟩,rfl,rfl,rfl,rfl⟩⟩⟩
 ·cases hx
def T3:ez Rs:=[(1000000000,lL),(98,bJ zN 2 (a9 AB)),(148,bJ zN 2 (a9 dY)),(173,bJ zN 2 (a9 M2))]
theorem QD:cL D Tryz.prog T3:=⟨iu,aT _ _ yw,aT _ _ uz,aT _ _ Vp,trivial⟩
def AZ:Prim Rs:=fun args hh=>match args,hh with
 |[.pointer (aa ⟨0,0,aj⟩),.agg ⟨[.int .i64 ri,.int .i64 rg]⟩,.agg ⟨xN⟩,.agg ⟨yN⟩,.agg ⟨zN⟩],[aa (.inl (110,[.pointer (aa ⟨1,0,aj⟩),.int .i64 ti,.int .i64 tg])),aa (.inr (.inr (.inr (.da m))))]=>aa ⟨xN=bj (fU xN)/\yN=bj (fU yN)/\zN=bj (fU zN)/\(PP m),.agg ⟨[.int .i64 ri,.int .i64 rg]⟩,aj,[aa (.inl (110,[.pointer (aa ⟨1,0,aj⟩),.int .i64 ti,.int .i64 tg])),aa (.inr (.inr (.inr (.da (Gv.sI Wv.O8 m ⟨ri,rg⟩ (fU xN) (fU yN) (fU zN))))))],[],[(0,0)]⟩
 |_,_=>aj
theorem xy:b6 D Tryz.prog 155 (a9 AZ):=by
 refine fj Tryz.f155 fun args hh x hx=>?_
 unfold AZ at hx;split at hx
 ·rename_i ri rg xN yN zN ti tg m;cases hx;refine q4 fun _ hv=>?_
  obtain⟨jU,ss,FW,hv⟩:=hv;generalize fU xN=xn at *;subst jU;generalize fU yN=yn at *;subst ss;generalize fU zN=zn at *;subst FW
  generalize hG:ch (R:=Rs) _ _=G;refine cJ (T:=T3) QD mixed 200 ?_;refine bK (q:=let Z3:=bk ar;let Z1:=(ew Wv.O8 (bt yn) (nN Wv.O8 (bZ xn)));let Z2:=(fy (bZ xn) (Gv.Node.l xn) (Gv.Node.r xn) (ew Wv.O8 Z1 (bt zn)) (ck ar ((1:Int)+if cu zn>cu yn then cu zn else cu yn)));Vc True/\Vc ((dr (bZ xn))=dr (bZ xn)/\True)/\Vc ((bW (bt yn))=bW (bt yn)/\(bW (nN Wv.O8 (bZ xn)))=bW (nN Wv.O8 (bZ xn))/\True)/\Vc ((bW Z1)=bW Z1/\(bW (bt zn))=bW (bt zn)/\True)/\Vc ((bj Z2)=bj Z2/\PP m)/\aW (G (bE (aO [Z3 ri,Z3 rg])) [dD 1 ti tg,oP (tx m (aN ri rg) Z2),aa (.inl (108,[Z3 ri,Z3 rg])),aa (.inl (136,(bj Z2))),aa (.inl (136,(bj yn))),aa (.inl (136,(bj zn))),aa (.inl (108,[Z3 ri,Z3 rg]))])) ?_ (by kernel_rfl)
  intro Z3 Z1 Z2;subst Z2 Z1 Z3;subst hG
  repeat' (first|apply cY|apply Vc.mk|apply fits.mk|intro h|apply aW.mk)
  all_goals (try simp only[sB] at *)
  all_goals first|contradiction|omega|exact jm ‹_›|exact jo ‹_›|exact jk ‹_›|exact⟨rfl,by omega⟩|exact rfl|(simp[*,-av];done)|skip
  all_goals first|assumption|exact⟨[0,1],rfl,rfl,⟨.inl rfl,rfl,trivial⟩,rfl,rfl,rfl,rfl⟩
 ·cases hx
end G8
end Go.Proofs.YtjlomlgdgpoepaaGreat
