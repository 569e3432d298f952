import Derived.Test.YtjlomlgdgpoepaaGreatZmb
set_option linter.unusedVariables false
set_option linter.unusedSimpArgs false
namespace Go.Proofs.YtjlomlgdgpoepaaGreat
open Gv renaming Ae→C9,Part→HA,aH→aK,cH→b7,dZ→eG,drop→v_,fW→gW,find→iB,first→kD,has→yA,jD→KN,kv→lK,l_→lg,last→jX,lk→bt,look→jN,nextIdx→vr,one→nN,pF→te,put→tF,seen→HB
open Gv.Node renaming all→bw,e→b8,h→cw,mk→fy
open Gv.PM renaming cY→gY,cap→ic,dD→dP,free→dV,held→fP,live→eV,vs→cK
open Gv.Part renaming mk→mr,n→bP,sum→bG
open Gv.Ref renaming mk→aN
open Gv.iL renaming sum→IQ
open Rx renaming Ends→ct
open Ti renaming GH→Wd,R4→We,qC→xf,uc→ZZ
open Ti.Td renaming l→po,mk→iN,n→pk,plus→P9,s→pn
open Wv.It renaming mk→cX
open _root_.And renaming intro→cZ
open _root_.Array renaming mk→aO,toList→dF
open _root_.Bool renaming and_false→uM,false→ao,true_and→ji,true→aq
open _root_.Go.Addr renaming mk→RD
open _root_.Go.Func renaming results→dG
open _root_.Go.IntKind renaming i64→av,wrap→cr
open _root_.Go.Value renaming agg→bE,bool→aD,int→bs,pointer→aE,slice→bK,tuple→cv
open _root_.Iff renaming rfl→r_
open _root_.Int renaming lt_trichotomy→rE,toNat_natCast→iF,toNat→aI
open _root_.List renaming cons_append→mo,dropWhile_cons→sJ,drop_zero→sf,filter_append→oN,getD_eq_getElem?_getD→ax,getD→ay,getElem?_cons_zero→cf,getElem?_map→gh,length_append→bJ,length_cons→cI,length_filter_le→uL,length_map→gX,length_nil→ky,length_set→e_,length_take→eu,length→ae,map_append→dT,map_cons→gC,map_set→Fl,map→au,mem_append→b9,mem_cons_of_mem→eo,mem_cons_self→bO,mem_cons→bR,mem_map→o_,nil_append→pb,nodup_append→ch,nodup_cons→fI,nodup_nil→RC,pairwise_append→nE,pairwise_cons→gB,perm_middle→yZ,set→qc,takeWhile_append_dropWhile→Ad,takeWhile_cons→sI
open _root_.List.Pairwise renaming nil→rF
open _root_.List.Sublist renaming append_left→Wf,nodup→acD
open _root_.Nat renaming beq→fo,le_log2→W3,le_refl→bc,le_succ→mH,le_trans→iY,log2→N4,lt_of_le_of_lt→iZ,lt_or_ge→cx,lt_succ_self→fC,min_eq_left→qX,pow_le_pow_right→IP,sub_le→A',succ_pos→sD,zero_add→b5,zero_le→dx,zero_lt_one→P_
open _root_.Option renaming getD_some→lG,isSome_some→C1,none→aj,some_ne_none→wk,some→aa
open _root_.Option.some renaming injEq→cu,inj→o9
open _root_.Or renaming inl→dN,inr→eY
open _root_.Prod renaming ext→kb,fst→aB,snd→aw
open _root_.Sum renaming inl→dh,inr→km
namespace Gv
open Rx
set_option linter.unusedSectionVars false
section
variable {N:Type}
structure dy (m m':PM N):Prop where
 dD:m'.dD=m.dD
 live:m'.live=m.live
 free:m'.free=m.free
 held:m'.held=m.held
 cap:m'.cap=m.cap
 len:m'.vs.length=m.vs.length
theorem dy.refl (m:PM N):dy m m:=⟨rfl,rfl,rfl,rfl,rfl,rfl⟩
theorem dy.trans {a b c:PM N} (h:dy a b) (k:dy b c):dy a c:=⟨k.dD.trans h.dD,k.live.trans h.live,k.free.trans h.free,k.held.trans h.held,k.cap.trans h.cap,k.len.trans h.len⟩
theorem dy.ok {n:Nat} {m m':PM N} (h:dy m m'):fX n m'↔fX n m:=by
 constructor
 ·intro⟨h1,h2,h3,xb,h4,h5,h6,Ja,h8⟩;exact⟨by rw[← h.dD,← h.len,h1],by rw[← h.live,← h.len,h2],by rw[← h.free,← h.len,← h.live];exact h3,by rw[← h.free];exact xb,by rw[← h.len];exact h4,by rw[← h.free];exact h5,by rw[← h.dD];exact h6,by rw[← h.dD,← h.live];exact Ja,by rw[← h.held];exact h8⟩
 ·intro⟨h1,h2,h3,xb,h4,h5,h6,Ja,h8⟩;exact⟨by rw[h.dD,h.len,h1],by rw[h.live,h.len,h2],by rw[h.free,h.len,h.live];exact h3,by rw[h.free];exact xb,by rw[h.len];exact h4,by rw[h.free];exact h5,by rw[h.dD];exact h6,by rw[h.dD,h.live];exact Ja,by rw[h.held];exact h8⟩
theorem dy.aH (m:PM N) (r:Ref):dy m (aH m r):=by unfold aK;split<;>exact⟨rfl,rfl,rfl,rfl,rfl,rfl⟩
theorem dy.pF (m:PM N) (r:Ref) (n:N):dy m (pF m r n):=by
 unfold te;split
 ·exact⟨rfl,rfl,rfl,rfl,rfl,by simp⟩
 ·exact dy.refl m
end
section
variable {E A:Type} (O:iL E A)
theorem dy.sw (m:Po E A) (r:Ref) (n l q:Node E A):dy m (sw O m r n l q):=dy.pF _ _ _
theorem dy.tie (m:Po E A) (r:Ref) (n:Node E A):dy m (tie O m r n):=((dy.aH _ _).trans (dy.aH _ _)).trans (dy.sw O _ _ _ _ _)
theorem dy.oV (m:Po E A) (r:Ref) (n:Node E A):dy m (oV O m r n):=((dy.aH _ _).trans (dy.tie O _ _ _)).trans (dy.tie O _ _ _)
theorem dy.oW (m:Po E A) (r:Ref) (n:Node E A):dy m (oW O m r n):=((dy.aH _ _).trans (dy.tie O _ _ _)).trans (dy.tie O _ _ _)
theorem dy.B1 (m:PM (Node E A)) (a b c d:Ref):dy m (aK (aK (aK (aK m a) b) c) d):=(((dy.aH _ _).trans (dy.aH _ _)).trans (dy.aH _ _)).trans (dy.aH _ _)
theorem dy.level (m:Po E A) (r:Ref) (n:Node E A):dy m (level O m r n).2:=by
 unfold Gv.level;split
 ·split
  ·exact((dy.B1 _ _ _ _ _).trans (dy.oV O _ _ _)).trans (dy.oW O _ _ _)
  ·exact(dy.B1 _ _ _ _ _).trans (dy.oW O _ _ _)
 ·split
  ·split
   ·exact((dy.B1 _ _ _ _ _).trans (dy.oW O _ _ _)).trans (dy.oV O _ _ _)
   ·exact(dy.B1 _ _ _ _ _).trans (dy.oV O _ _ _)
  ·exact((dy.aH _ _).trans (dy.aH _ _)).trans (dy.sw O _ _ _ _ _)
theorem dy.replace:∀ (k:Nat) (m:Po E A) (r:Ref) (e:E),dy m (replace O k m r e).2
 |0,m,_,_=>dy.refl m
 |k+1,m,r,e=>by
  unfold Gv.replace;split
  ·exact dy.aH _ _
  ·split
   ·split
    ·exact((dy.aH _ _).trans (dy.replace k _ _ _)).trans (dy.tie O _ _ _)
    ·exact(dy.aH _ _).trans (dy.replace k _ _ _)
   ·split
    ·split
     ·exact((dy.aH _ _).trans (dy.replace k _ _ _)).trans (dy.tie O _ _ _)
     ·exact(dy.aH _ _).trans (dy.replace k _ _ _)
    ·exact(dy.aH _ _).trans (dy.tie O _ _ _)
theorem dy.kV:∀ (k:Nat) (m:Po E A) (r f:Ref) (e:E),dy m (kV O k m r f e).2
 |0,m,_,_,_=>dy.refl m
 |k+1,m,r,f,e=>by
  unfold Gv.kV;split
  ·exact dy.aH _ _
  ·split
   ·exact((dy.aH _ _).trans (dy.kV k _ _ _ _)).trans (dy.level O _ _ _)
   ·exact((dy.aH _ _).trans (dy.kV k _ _ _ _)).trans (dy.level O _ _ _)
theorem dy.link:∀ (k:Nat) (m:Po E A) (a b c:Ref),dy m (link O k m a b c).2
 |0,m,_,_,_=>dy.refl m
 |k+1,m,a,b,c=>by
  unfold Gv.link;split
  ·exact(((dy.aH _ _).trans (dy.aH _ _)).trans (dy.link k _ _ _ _)).trans (dy.level O _ _ _)
  ·split
   ·exact(((dy.aH _ _).trans (dy.aH _ _)).trans (dy.link k _ _ _ _)).trans (dy.level O _ _ _)
   ·exact(((dy.aH _ _).trans (dy.aH _ _)).trans (dy.aH _ _)).trans (dy.sw O _ _ _ _ _)
theorem dy.iH:∀ (k:Nat) (m:Po E A) (r:Ref),dy m (iH O k m r).2.2
 |0,m,_=>dy.refl m
 |k+1,m,r=>by
  unfold Gv.iH;split
  ·exact dy.aH _ _
  ·exact((dy.aH _ _).trans (dy.iH k _ _)).trans (dy.level O _ _ _)
theorem dy.glue (k:Nat) (m:Po E A) (a c:Ref):dy m (glue O k m a c).2:=by
 unfold Gv.glue;split
 ·exact dy.refl m
 ·exact(dy.iH O _ _ _).trans (dy.link O _ _ _ _ _)
theorem dy.pick (K:Nat):∀ (k:Nat) (m:Po E A) (r:Ref) (e:E),dy m (pick O K k m r e).2.2
 |0,m,_,_=>dy.refl m
 |k+1,m,r,e=>by
  unfold Gv.pick;split
  ·exact dy.aH _ _
  ·split
   ·split
    ·exact(dy.aH _ _).trans (dy.pick K k _ _ _)
    ·exact((dy.aH _ _).trans (dy.pick K k _ _ _)).trans (dy.level O _ _ _)
   ·split
    ·split
     ·exact(dy.aH _ _).trans (dy.pick K k _ _ _)
     ·exact((dy.aH _ _).trans (dy.pick K k _ _ _)).trans (dy.level O _ _ _)
    ·exact(dy.aH _ _).trans (dy.glue O _ _ _ _)
theorem dy.lW (K:Nat):∀ (k:Nat) (m:Po E A) (r:Ref) (e:E),dy m (lW O K k m r e).2.2
 |0,m,_,_=>dy.refl m
 |k+1,m,r,e=>by
  unfold Gv.lW;split
  ·exact dy.aH _ _
  ·split
   ·exact((dy.aH _ _).trans (dy.lW K k _ _ _)).trans (dy.link O _ _ _ _ _)
   ·exact((dy.aH _ _).trans (dy.lW K k _ _ _)).trans (dy.link O _ _ _ _ _)
theorem dy.cH:∀ (k:Nat) (m:Po E A) (r:Ref),dy m (cH O k m r).2
 |0,m,_=>dy.refl m
 |k+1,m,r=>by
  unfold b7;split
  ·exact dy.aH _ _
  ·exact((dy.aH _ _).trans (dy.cH k _ _)).trans (dy.cH k _ _)
theorem dy.fW:∀ (k:Nat) (m:Po E A) (n:Node E A) (a b:Int),dy m (fW O k m n a b).2
 |0,m,_,_,_=>dy.refl m
 |k+1,m,n,a,b=>by
  unfold gW;split
  ·exact dy.refl m
  ·split
   ·exact dy.refl m
   ·dsimp only
    split
    ·exact(dy.aH _ _).trans (dy.fW k _ _ _ _)
    ·exact(((dy.aH _ _).trans (dy.fW k _ _ _ _)).trans (dy.aH _ _)).trans (dy.fW k _ _ _ _)
theorem dy.first (may:A->A->Bool):∀ (k:Nat) (m:Po E A) (n:Node E A) (a:Part A) (f:Int),dy m (first O may k m n a f).2
 |0,m,_,_,_=>dy.refl m
 |k+1,m,n,a,f=>by
  unfold kD
  split
  ·exact dy.refl m
  ·split
   ·exact dy.refl m
   ·split
    ·exact(dy.aH _ _).trans (dy.first may k _ _ _ _)
    ·split
     ·exact(dy.aH _ _).trans (dy.first may k _ _ _ _)
     ·exact(((dy.aH _ _).trans (dy.first may k _ _ _ _)).trans (dy.aH _ _)).trans (dy.first may k _ _ _ _)
theorem dy.last (may:A->A->Bool):∀ (k:Nat) (m:Po E A) (n:Node E A) (a:Part A) (f:Int),dy m (last O may k m n a f).2
 |0,m,_,_,_=>dy.refl m
 |k+1,m,n,a,f=>by
  unfold jX;split
  ·exact dy.refl m
  ·split
   ·exact dy.refl m
   ·dsimp only
    split
    ·exact((dy.aH _ _).trans (dy.aH _ _)).trans (dy.last may k _ _ _ _)
    ·split
     ·exact((dy.aH _ _).trans (dy.aH _ _)).trans (dy.last may k _ _ _ _)
     ·exact(((dy.aH _ _).trans (dy.aH _ _)).trans (dy.last may k _ _ _ _)).trans (dy.last may k _ _ _ _)
end
section
variable {N E A:Type} {O:iL E A} {n:Nat}
theorem dp {m:PM N} {r:Ref}:fX n (aH m r)↔fX n m:=(dy.aH _ _).ok
theorem ag1 {m:PM N} {r:Ref} {v:N}:fX n (pF m r v)↔fX n m:=(dy.pF _ _ _).ok
theorem xq {m:Po E A} {r:Ref} {v l q:Node E A}:fX n (sw O m r v l q)↔fX n m:=(dy.sw O _ _ _ _ _).ok
theorem Ai {m:Po E A} {r:Ref} {v:Node E A}:fX n (tie O m r v)↔fX n m:=(dy.tie O _ _ _).ok
theorem Bx {m:Po E A} {r:Ref} {v:Node E A}:fX n (oV O m r v)↔fX n m:=(dy.oV O _ _ _).ok
theorem Bo {m:Po E A} {r:Ref} {v:Node E A}:fX n (oW O m r v)↔fX n m:=(dy.oW O _ _ _).ok
theorem sq {m:Po E A} {r:Ref} {v:Node E A}:fX n (level O m r v).2↔fX n m:=(dy.level O _ _ _).ok
theorem rN {k:Nat} {m:Po E A} {r:Ref} {e:E}:fX n (replace O k m r e).2↔fX n m:=(dy.replace O _ _ _ _).ok
theorem xK {k:Nat} {m:Po E A} {r f:Ref} {e:E}:fX n (kV O k m r f e).2↔fX n m:=(dy.kV O _ _ _ _ _).ok
theorem xF {k:Nat} {m:Po E A} {a b c:Ref}:fX n (link O k m a b c).2↔fX n m:=(dy.link O _ _ _ _ _).ok
theorem vj {k:Nat} {m:Po E A} {r:Ref}:fX n (iH O k m r).2.2↔fX n m:=(dy.iH O _ _ _).ok
theorem Hb {k:Nat} {m:Po E A} {a c:Ref}:fX n (glue O k m a c).2↔fX n m:=(dy.glue O _ _ _ _).ok
theorem xv {K k:Nat} {m:Po E A} {r:Ref} {e:E}:fX n (pick O K k m r e).2.2↔fX n m:=(dy.pick O K _ _ _ _).ok
theorem Rf {K k:Nat} {m:Po E A} {r:Ref} {e:E}:fX n (lW O K k m r e).2.2↔fX n m:=(dy.lW O K _ _ _ _).ok
theorem rQ {k:Nat} {m:Po E A} {r:Ref}:fX n (cH O k m r).2↔fX n m:=(dy.cH O _ _ _).ok
theorem Ow {k:Nat} {m:Po E A} {v:Node E A} {a b:Int}:fX n (fW O k m v a b).2↔fX n m:=(dy.fW O _ _ _ _ _).ok
theorem Nb {may:A->A->Bool} {k:Nat} {m:Po E A} {v:Node E A} {a:Part A} {f:Int}:fX n (first O may k m v a f).2↔fX n m:=(dy.first O may _ _ _ _ _).ok
theorem Qz {may:A->A->Bool} {k:Nat} {m:Po E A} {v:Node E A} {a:Part A} {f:Int}:fX n (last O may k m v a f).2↔fX n m:=(dy.last O may _ _ _ _ _).ok
theorem mT:(∀ {N:Type} {n:Nat} {m:PM N} {r:Ref},fX n (aH m r)↔fX n m)/\(∀ {N:Type} {n:Nat} {m:PM N} {r:Ref} {v:N},fX n (pF m r v)↔fX n m)/\(∀ {E A:Type} {O:iL E A} {n:Nat} {m:Po E A} {r:Ref} {v l q:Node E A},fX n (sw O m r v l q)↔fX n m)/\(∀ {E A:Type} {O:iL E A} {n:Nat} {m:Po E A} {r:Ref} {v:Node E A},fX n (tie O m r v)↔fX n m)/\(∀ {E A:Type} {O:iL E A} {n:Nat} {m:Po E A} {r:Ref} {v:Node E A},fX n (oV O m r v)↔fX n m)/\(∀ {E A:Type} {O:iL E A} {n:Nat} {m:Po E A} {r:Ref} {v:Node E A},fX n (oW O m r v)↔fX n m)/\(∀ {E A:Type} {O:iL E A} {n:Nat} {m:Po E A} {r:Ref} {v:Node E A},fX n (level O m r v).2↔fX n m)/\(∀ {E A:Type} {O:iL E A} {n:Nat} {k:Nat} {m:Po E A} {r:Ref} {e:E},fX n (replace O k m r e).2↔fX n m)/\(∀ {E A:Type} {O:iL E A} {n:Nat} {k:Nat} {m:Po E A} {r f:Ref} {e:E},fX n (kV O k m r f e).2↔fX n m)/\(∀ {E A:Type} {O:iL E A} {n:Nat} {k:Nat} {m:Po E A} {a b c:Ref},fX n (link O k m a b c).2↔fX n m)/\(∀ {E A:Type} {O:iL E A} {n:Nat} {k:Nat} {m:Po E A} {r:Ref},fX n (iH O k m r).2.2↔fX n m)/\(∀ {E A:Type} {O:iL E A} {n:Nat} {k:Nat} {m:Po E A} {a c:Ref},fX n (glue O k m a c).2↔fX n m)/\(∀ {E A:Type} {O:iL E A} {n:Nat} {K k:Nat} {m:Po E A} {r:Ref} {e:E},fX n (pick O K k m r e).2.2↔fX n m)/\(∀ {E A:Type} {O:iL E A} {n:Nat} {K k:Nat} {m:Po E A} {r:Ref} {e:E},fX n (lW O K k m r e).2.2↔fX n m)/\(∀ {E A:Type} {O:iL E A} {n:Nat} {k:Nat} {m:Po E A} {r:Ref},fX n (cH O k m r).2↔fX n m)/\(∀ {E A:Type} {O:iL E A} {n:Nat} {k:Nat} {m:Po E A} {v:Node E A} {a b:Int},fX n (fW O k m v a b).2↔fX n m)/\(∀ {E A:Type} {O:iL E A} {n:Nat} {may:A->A->Bool} {k:Nat} {m:Po E A} {v:Node E A} {a:Part A} {f:Int},fX n (first O may k m v a f).2↔fX n m)/\(∀ {E A:Type} {O:iL E A} {n:Nat} {may:A->A->Bool} {k:Nat} {m:Po E A} {v:Node E A} {a:Part A} {f:Int},fX n (last O may k m v a f).2↔fX n m):=⟨dp,ag1,xq,Ai,Bx,Bo,sq,rN,xK,xF,vj,Hb,xv,Rf,rQ,Ow,Nb,Qz⟩
@[simp] theorem ir (m:Po E A) (s r:Ref):lk O (aH m s) r=lk O m r:=UD _ _ _ _
theorem DG (r:Ref):(⟨r.i,r.g⟩:Ref)=r:=rfl
theorem Yc (i g:Int):(if ao=aq then !(i==0&&(g==0&&aq)) else i==0&&(g==0&&aq))=decide ((⟨i,g⟩:Ref)=r0):=by
 rw[if_neg (by simp)]
 by_cases h:(⟨i,g⟩:Ref)=r0
 ·rw[decide_eq_true h];cases h
  rfl
 ·rw[decide_eq_false h];cases hb:(i==0&&(g==0&&aq)) with
  |false=>rfl
  |true =>
   simp only[Bool.and_eq_true,beq_iff_eq,and_true] at hb;obtain⟨rfl,rfl⟩:=hb;exact absurd rfl h
theorem sm:∀ {k:Nat} {m:Po E A} {s r:Ref},Deep O k (aH m s) r↔Deep O k m r
 |0,_,_,_=>r_
 |k+1,m,s,r=>by simp only[Deep,ir,sm]
theorem Aw:∀ {k:Nat} {m:Po E A} {s r:Ref},sj O k (aH m s) r↔sj O k m r
 |0,_,_,_=>r_
 |k+1,m,s,r=>by simp only[sj,ir,Aw]
theorem Ki:∀ (k:Nat) (m:Po E A) (r s:Ref),lk O (cH O k m r).2 s=lk O m s
 |0,m,_,_=>rfl
 |k+1,m,r,s=>by
  unfold b7;split
  ·exact ir _ _ _
  ·dsimp only
   rw[Ki k,Ki k,ir]
theorem Dn:∀ (k:Nat) (m:Po E A) (n:Node E A) (a b:Int) (s:Ref),lk O (fW O k m n a b).2 s=lk O m s
 |0,m,_,_,_,_=>rfl
 |k+1,m,n,a,b,s=>by
  rw[gW];split
  ·rfl
  ·split
   ·rfl
   ·dsimp only
    split
    ·dsimp only
     rw[Dn k,ir]
    ·dsimp only
     rw[Dn k,ir,Dn k,ir]
theorem kU (may:A->A->Bool):∀ (k:Nat) (m:Po E A) (n:Node E A) (a:Part A) (f:Int) (s:Ref),lk O (first O may k m n a f).2 s=lk O m s
 |0,m,_,_,_,_=>rfl
 |k+1,m,n,a,f,s=>by
  rw[kD]
  split
  ·rfl
  ·split
   ·rfl
   ·split
    ·rw[kU may k,ir]
    ·split
     ·dsimp only
      rw[kU may k,ir]
     ·rw[kU may k,ir,kU may k,ir]
theorem me (may:A->A->Bool):∀ (k:Nat) (m:Po E A) (n:Node E A) (a:Part A) (f:Int) (s:Ref),lk O (last O may k m n a f).2 s=lk O m s
 |0,m,_,_,_,_=>rfl
 |k+1,m,n,a,f,s=>by
  rw[jX];split
  ·rfl
  ·split
   ·rfl
   ·dsimp only
    split
    ·rw[me may k,ir,ir]
    ·split
     ·dsimp only
      rw[me may k,ir,ir]
     ·rw[me may k,me may k,ir,ir]
theorem KY:∀ {k:Nat} {m m':Po E A} {r:Ref},(∀ s,lk O m' s=lk O m s)->(Deep O k m' r↔Deep O k m r)
 |0,_,_,_,_=>r_
 |k+1,m,m',r,h=>by simp only[Deep,h,KY h]
theorem LX {k j:Nat} {m:Po E A} {q r:Ref}:Deep O k (cH O j m q).2 r↔Deep O k m r:=KY (Ki j m q)
end
end Gv
namespace Gv
open Rx
set_option linter.unusedSectionVars false
inductive Tr (E:Type)
 |nil
 |node (r:Ref) (l:Tr E) (e:E) (q:Tr E)
namespace Tr
variable {E:Type}
def root:Tr E->Ref
 |nil=>r0
 |node r _ _ _=>r
def items:Tr E->List (Ref×E)
 |nil=>[]
 |node r l e q=>l.items++(r,e)::q.items
def h:Tr E->Nat
 |nil=>0
 |node _ l _ q=>1+max l.h q.h
def elems (t:Tr E):List E:=t.items.map aw
def refs (t:Tr E):List Ref:=t.items.map aB
def mw:Tr E->Prop
 |nil=>True
 |node _ l _ q=>l.mw/\q.mw/\l.h≤q.h+1/\q.h≤l.h+1
theorem Af:∀ t:Tr E,t.h≤t.items.length
 |nil=>bc _
 |node r l e q=>by
  have h1:=Af l;have h2:=Af q;simp only[h,items,bJ,cI];omega
theorem gJ (r:Ref) (l:Tr E) (e:E) (q:Tr E):(node r l e q).elems=l.elems++e::q.elems:=by simp[elems,items]
theorem jI (r:Ref) (l:Tr E) (e:E) (q:Tr E):(node r l e q).refs=l.refs++r::q.refs:=by simp[refs,items]
theorem e8 (t:Tr E):t.elems.length=t.items.length:=by simp[elems]
theorem L4 (t:Tr E):t.refs.length=t.items.length:=by simp[refs]
end Tr
structure yH {E A:Type} (O:iL E A) (S:List E->A) (dm:List E->Prop):Prop where
 nil:S []=O.a0
 one:∀ e,S [e]=O.sum e
 plus:∀ x y,dm (x++y)->x≠[]->y≠[]->O.plus (S x) (S y)=S (x++y)
 left:∀ x y,dm (x++y)->dm x
 right:∀ x y,dm (x++y)->dm y
 len:∀ x,dm x->x.length≤1000000
 swap:∀ a b,O.cmp a b<0↔0<O.cmp b a
 trans:∀ a b c,O.cmp a b<0->O.cmp b c<0->O.cmp a c<0
 eqv:∀ a b c,O.cmp a b=0->O.cmp b c<0->O.cmp a c<0
 ZN:∀ a b c,O.cmp a b=0->O.cmp c b<0->O.cmp c a<0
section
variable {E A:Type} (O:iL E A) (S:List E->A)
def nd (t:Tr E):Node E A :=
 match t with
 |.nil=>zn O
 |.node r l e q=>⟨e,l.root,q.root,⟨(Tr.node r l e q).items.length,S (Tr.node r l e q).elems⟩,(Tr.node r l e q).h⟩
def Rp (m:Po E A):Tr E->Prop
 |.nil=>True
 |.node r l e q=>has m r=aq/\lk O m r=nd O S (.node r l e q)/\Rp m l/\Rp m q
variable {O S} {dm:List E->Prop} (Z:yH O S dm)
theorem r9 (r:Ref) (l:Tr E) (e:E) (q:Tr E):nd O S (.node r l e q)=⟨e,l.root,q.root,⟨(Tr.node r l e q).items.length,S (Tr.node r l e q).elems⟩,(Tr.node r l e q).h⟩:=rfl
theorem tK (m:Po E A) (a b:Ref):iJ [] 2 (zn O) m (aH (aH m a) b):=(gN _ m a).to (gN _ _ b) (fun r hr=>by simp at hr) (bc _)
theorem VW (m:Po E A) (a b c d:Ref):iJ [] 4 (zn O) m (aH (aH (aH (aH m a) b) c) d):=(tK m a b).to (tK _ c d) (fun r hr=>by simp at hr) (bc _)
theorem rJ (t:Tr E):(nd O S t).h=(t.h:Int):=by cases t<;>rfl
theorem rm (hZ:S []=O.a0) (t:Tr E):(nd O S t).all=⟨t.items.length,S t.elems⟩:=by
 cases t with
 |nil=>simp[nd,zn,Tr.items,Tr.elems,hZ]
 |node r l e q=>rfl
theorem Rp.root {n:Nat} {m:Po E A} (ho:fX n m) {t:Tr E} (h:Rp O S m t):lk O m t.root=nd O S t:=by
 cases t with
 |nil =>
  show look (zn O) m r0=_
  unfold look;rw[ho.z0]
  rfl
 |node r l e q=>exact h.2.1
theorem Rp.frame {R:List Ref} {k:Nat} {m m':Po E A} (hu:iJ R k (zn O) m m'):∀ {t:Tr E},(∀ s,s∈t.refs->s∉R)->Rp O S m t->Rp O S m' t
 |.nil,_,_=>trivial
 |.node r l e q,hd,h=>by
  obtain⟨h1,h2,h3,h4⟩:=h;rw[Tr.jI] at hd;refine⟨by rw[hu.has];exact h1,?_,Rp.frame hu (fun s hs=>hd s (by simp[hs])) h3,Rp.frame hu (fun s hs=>hd s (by simp[hs])) h4⟩
  rw[← h2];exact hu.look r (hd r (by simp))
theorem Rp.aH {m:Po E A} {t:Tr E} (s:Ref) (h:Rp O S m t):Rp O S (aH m s) t:=Rp.frame (gN _ m s) (fun _ _ hs=>by cases hs) h
theorem Rp.has {m:Po E A}:∀ {t:Tr E},Rp O S m t->∀ s,s∈t.refs->has m s=aq
 |.nil,_,s,hs=>by cases hs
 |.node r l e q,h,s,hs=>by
  obtain⟨h1,h2,h3,h4⟩:=h;rw[Tr.jI,b9,bR] at hs;rcases hs with hs|rfl|hs
  ·exact Rp.has h3 s hs
  ·exact h1
  ·exact Rp.has h4 s hs
theorem afZ {n:Nat} {m:Po E A} (ho:fX n m) {t:Tr E} (h:Rp O S m t) (hn:t≠.nil):t.root≠r0:=by
 cases t with
 |nil=>exact absurd rfl hn
 |node r l e q =>
  intro e0;have:=h.1;simp only[Tr.root] at e0;rw[e0,ho.z0] at this;cases this
include Z
theorem pB {x y:List E} (hg:dm (x++y)):dZ O ⟨x.length,S x⟩ ⟨y.length,S y⟩=⟨(x++y).length,S (x++y)⟩:=by
 unfold dZ;cases x with
 |nil=>simp
 |cons a x =>
  cases y with
  |nil =>
   simp only[List.append_nil,ky];rw[if_neg (by simp;omega),if_pos (by rfl)]
  |cons b y =>
   have hl:=Z.len _ hg;simp only[bJ,cI] at hl;rw[if_neg (by simp;omega),if_neg (by simp;omega),Z.plus _ _ hg (by simp) (by simp),uv (by simp only[cI];omega)]
   simp only[bJ,cI]
   congr 1
theorem BO (e:E):one O e=⟨([e]:List E).length,S [e]⟩:=by rw[one,Z.one];rfl
theorem acd {x y:List E} {e:E} (hg:dm (x++e::y)):dZ O (dZ O ⟨x.length,S x⟩ (one O e)) ⟨y.length,S y⟩=⟨(x++e::y).length,S (x++e::y)⟩:=by
 have e1:x++e::y=(x++[e])++y:=by simp
 rw[e1] at hg ⊢;rw[BO Z,pB Z (Z.left _ _ hg),pB Z hg]
theorem QL {n:Nat} {m:Po E A} (ho:fX n m) {r:Ref} {l q:Tr E} {v:Node E A} (hl:Rp O S m l) (hq:Rp O S m q) (hr:has m r=aq) (Xs:r∉l.refs) (hnq:r∉q.refs)
  (e1:v.l=l.root) (e2:v.r=q.root) (hg:dm (l.elems++v.e::q.elems)) :
  Rp O S (sw O m r v (nd O S l) (nd O S q)) (.node r l v.e q)/\iJ [r] 1 (zn O) m (sw O m r v (nd O S l) (nd O S q)):=by
 have hu:=VX (zn O) m r ⟨v.e,v.l,v.r,dZ O (dZ O (nd O S l).all (one O v.e)) (nd O S q).all,W (1+mx (nd O S l).h (nd O S q).h)⟩;refine⟨⟨by rw[sw,hu.has];exact hr,?_,Rp.frame hu (fun s hs=>by simp;rintro rfl;exact Xs hs) hl,Rp.frame hu (fun s hs=>by simp;rintro rfl;exact hnq hs) hq⟩,hu⟩
 show look (zn O) _ r=_
 rw[sw,abQ (zn O) _ hr];have hlen:=Z.len _ hg;have h1:=l.Af;have h2:=q.Af;simp only[bJ,cI,Tr.e8] at hlen;rw[rm Z.nil,rm Z.nil,rJ,rJ,← Tr.e8,← Tr.e8,acd Z hg];simp only[nd,e1,e2,Tr.gJ,Tr.items,Tr.h];have e3:W (1+mx (l.h:Int) (q.h:Int))=((1+max l.h q.h:Nat):Int):=by
  unfold mx;rw[uv (by split<;>omega)]
  split<;>omega
 rw[e3];simp[Tr.elems]
theorem Eo {n:Nat} {m:Po E A} (ho:fX n m) {r:Ref} {l q:Tr E} {v:Node E A} (hl:Rp O S m l) (hq:Rp O S m q) (hr:has m r=aq) (Xs:r∉l.refs) (hnq:r∉q.refs)
  (e1:v.l=l.root) (e2:v.r=q.root) (hg:dm (l.elems++v.e::q.elems)) :
  Rp O S (tie O m r v) (.node r l v.e q)/\iJ [r] 3 (zn O) m (tie O m r v):=by
 unfold tie;have k1:lk O m v.l=nd O S l:=by rw[e1];exact hl.root ho
 have k2:lk O (aH m v.l) v.r=nd O S q:=by rw[ir,e2];exact hq.root ho
 rw[k1,k2];obtain⟨p1,p2⟩:=QL Z (m:=aH (aH m v.l) v.r) (dp.2 (dp.2 ho)) ((hl.aH _).aH _) ((hq.aH _).aH _) (by simpa using hr) Xs hnq e1 e2 hg
 exact⟨p1,(tK m v.l v.r).to p2 (fun r hr=>by simpa using hr) (by omega)⟩
omit Z in
structure Is (O:iL E A) (S:List E->A) (m:Po E A) (root:Ref) (its:List (Ref×E)) (t:Tr E):Prop where
 root:root=t.root
 rp:Rp O S m t
 its:t.items=its
 mw:t.mw
theorem Nw {n:Nat} {m:Po E A} (ho:fX n m) {r u:Ref} {a b c:Tr E} {y:E} {v:Node E A} (ha:Rp O S m a) (hb:Rp O S m (.node u b y c)) (hr:has m r=aq)
  (lL:(a.refs++r::(b.refs++u::c.refs)).Nodup) (e1:v.l=a.root) (e2:v.r=u) (hg:dm (a.elems++v.e::(b.elems++y::c.elems))) :
  Rp O S (oV O m r v) (.node u (.node r a v.e b) y c)/\iJ [r,u] 7 (zn O) m (oV O m r v):=by
 obtain⟨b1,b2,b3,b4⟩:=hb;have k1:lk O m v.r=nd O S (.node u b y c):=by rw[e2];exact b2
 unfold oV;rw[k1,e2];simp only[nd];simp only[ch,fI,b9,bR,not_or] at lL;have O7:dm (a.elems++v.e::b.elems):=Z.left _ (y::c.elems) (by simpa using hg)
 obtain⟨p1,p2⟩:=Eo Z (m:=aH m u) (r:=r) (v:=⟨v.e,v.l,b.root,v.all,v.h⟩) (dp.2 ho) (ha.aH _) (b3.aH _) (by simpa using hr)
  (fun h=>lL.2.2 r h r (dN rfl) rfl) (fun h=>lL.2.1.1.1 h) e1 rfl O7
 have q1:=(gN (zn O) m u).to p2 (S:=[r]) (k:=4) (fun r hr=>by simpa using hr) (by omega)
 obtain⟨s1,s2⟩:=Eo Z (m:=tie O (aH m u) r ⟨v.e,v.l,b.root,v.all,v.h⟩) (r:=u) (l:=.node r a v.e b) (q:=c) (v:=⟨y,r,c.root,⟨(Tr.node u b y c).items.length,S (Tr.node u b y c).elems⟩,(Tr.node u b y c).h⟩)
  (Ai.2 (dp.2 ho)) p1 (Rp.frame q1 (fun s hs=>by simp;rintro rfl;exact lL.2.1.1.2.2 hs) b4) (by rw[q1.has];exact b1)
  (by
   rw[Tr.jI];simp only[b9,bR,not_or];exact⟨fun h=>lL.2.2 u h u (eY (eY (dN rfl))) rfl,fun h=>lL.2.1.1.2.1 h.symm,fun h=>lL.2.1.2.2.2 u h u (dN rfl) rfl⟩)
  (fun h=>lL.2.1.2.2.1.1 h) rfl rfl (by rw[Tr.gJ];simpa using hg)
 exact⟨s1,q1.to s2 (fun s hs=>by simp at hs;rcases hs with rfl|rfl<;>simp) (by omega)⟩
theorem NI {n:Nat} {m:Po E A} (ho:fX n m) {r u:Ref} {a b c:Tr E} {y:E} {v:Node E A} (hb:Rp O S m (.node u a y b)) (hc:Rp O S m c) (hr:has m r=aq)
  (lL:((a.refs++u::b.refs)++r::c.refs).Nodup) (e1:v.l=u) (e2:v.r=c.root) (hg:dm ((a.elems++y::b.elems)++v.e::c.elems)) :
  Rp O S (oW O m r v) (.node u a y (.node r b v.e c))/\iJ [r,u] 7 (zn O) m (oW O m r v):=by
 obtain⟨b1,b2,b3,b4⟩:=hb;have k1:lk O m v.l=nd O S (.node u a y b):=by rw[e1];exact b2
 unfold oW;rw[k1,e1];simp only[nd];simp only[ch,fI,b9,bR,not_or] at lL;have O7:dm (b.elems++v.e::c.elems):=Z.right (a.elems++[y]) _ (by simpa using hg)
 have nu:r≠u:=fun h=>lL.2.2 u (eY (dN rfl)) r (dN rfl) h.symm
 obtain⟨p1,p2⟩:=Eo Z (m:=aH m u) (r:=r) (v:=⟨v.e,b.root,v.r,v.all,v.h⟩) (dp.2 ho) (b4.aH _) (hc.aH _) (by simpa using hr)
  (fun h=>lL.2.2 r (eY (eY h)) r (dN rfl) rfl) (fun h=>lL.2.1.1 h) rfl e2 O7
 have q1:=(gN (zn O) m u).to p2 (S:=[r]) (k:=4) (fun r hr=>by simpa using hr) (by omega)
 obtain⟨s1,s2⟩:=Eo Z (m:=tie O (aH m u) r ⟨v.e,b.root,v.r,v.all,v.h⟩) (r:=u) (l:=a) (q:=.node r b v.e c) (v:=⟨y,a.root,r,⟨(Tr.node u a y b).items.length,S (Tr.node u a y b).elems⟩,(Tr.node u a y b).h⟩)
  (Ai.2 (dp.2 ho)) (Rp.frame q1 (fun s hs=>by simp;rintro rfl;exact lL.2.2 s (dN hs) s (dN rfl) rfl) b3) p1 (by rw[q1.has];exact b1)
  (fun h=>lL.1.2.2 u h u (dN rfl) rfl)
  (by
   rw[Tr.jI];simp only[b9,bR,not_or];exact⟨fun h=>lL.1.2.1.1 h,fun h=>nu h.symm,fun h=>lL.2.2 u (eY (dN rfl)) u (eY h) rfl⟩)
  rfl rfl (by simpa [Tr.gJ] using hg)
 exact⟨s1,q1.to s2 (fun s hs=>by simp at hs;rcases hs with rfl|rfl<;>simp) (by omega)⟩
omit Z in
theorem Rp.B1 {m:Po E A} {t:Tr E} (a b c d:Ref) (h:Rp O S m t):Rp O S (aK (aK (aK (aK m a) b) c) d) t:=(((h.aH _).aH _).aH _).aH _
theorem yS {n:Nat} {m:Po E A} (ho:fX n m) {r:Ref} {l q:Tr E} {v:Node E A} (hl:Rp O S m l) (hq:Rp O S m q) (hr:has m r=aq)
  (lL:(l.refs++r::q.refs).Nodup) (e1:v.l=l.root) (e2:v.r=q.root) (hg:dm (l.elems++v.e::q.elems)) (bl:l.mw) (bq:q.mw) (d1:l.h≤q.h+2) (d2:q.h≤l.h+2) :
  ∃ t,Is O S (level O m r v).2 (level O m r v).1 (l.items++(r,v.e)::q.items) t/\max l.h q.h≤t.h/\t.h≤max l.h q.h+1/\(l.h≤q.h+1->q.h≤l.h+1->t.h=max l.h q.h+1) /\
   iJ (l.refs++r::q.refs) 20 (zn O) m (level O m r v).2:=by
 have k1:lk O m v.l=nd O S l:=by rw[e1];exact hl.root ho
 have k2:lk O m v.r=nd O S q:=by rw[e2];exact hq.root ho
 have hlen:=Z.len _ hg;have h1:=l.Af;have h2:=q.Af;simp only[bJ,cI,Tr.e8] at hlen;have w1:W ((q.h:Int)+1)=(q.h:Int)+1:=uv (by omega)
 have w2:W ((l.h:Int)+1)=(l.h:Int)+1:=uv (by omega)
 unfold level;simp only[ir,k1,k2,rJ,w1,w2];have rk:=lL;simp only[ch,fI,b9,bR,not_or] at rk;split
 ·rename_i nk;cases l with
  |nil=>simp only[Tr.h] at nk;omega
  |node a ll x lr =>
   obtain⟨zW,Bj,yr,yb⟩:=hl;obtain⟨bl1,bl2,bl3,bl4⟩:=bl;have k3:lk O m lr.root=nd O S lr:=yb.root ho;have k4:lk O m ll.root=nd O S ll:=yr.root ho;simp only[r9,k3,k4,rJ,Tr.h] at nk d1 ⊢;rw[Tr.jI] at lL;rw[Tr.gJ] at hg;have HU:=VW (O:=O) m v.l v.r lr.root ll.root;have UB:fX n (aH (aH (aH (aH m v.l) v.r) lr.root) ll.root):=dp.2 (dp.2 (dp.2 (dp.2 ho)));split
   ·rename_i j5;cases lr with
    |nil=>simp only[Tr.h] at j5;omega
    |node b p y c =>
     obtain⟨tw,nw,mv,mD⟩:=yb;obtain⟨br1,br2,br3,br4⟩:=bl2;simp only[Tr.h] at j5 nk d1 bl3 bl4 ⊢;rw[Tr.jI] at lL;rw[Tr.gJ] at hg;have aee:(ll.refs++a::(p.refs++b::c.refs)).Nodup:=(ch.1 lL).1;obtain⟨p1,p2⟩:=Nw Z UB (r:=a) (u:=b) (a:=ll) (b:=p) (c:=c) (y:=y) (v:=⟨x,ll.root,b,⟨(Tr.node a ll x (.node b p y c)).items.length,S (Tr.node a ll x (.node b p y c)).elems⟩,((Tr.node a ll x (.node b p y c)).h:Nat)⟩)
      (Rp.B1 _ _ _ _ yr) (Rp.B1 _ _ _ _ ⟨tw,nw,mv,mD⟩) (by simpa using zW) aee rfl rfl (Z.left _ _ hg)
     have q1:=HU.to p2 (S:=[a,b]) (k:=11) (fun s hs=>by simpa using hs) (by omega)
     have amq:(((ll.refs++a::p.refs)++b::c.refs)++r::q.refs).Nodup:=by simpa using lL
     have dq:∀ s,s∈q.refs->s∉[a,b]:=fun s hs Jd=>by
      have:=(ch.1 lL).2.2 s (by simp at Jd;rcases Jd with rfl|rfl<;>simp) s (by simp[hs])
      exact this rfl
     obtain⟨s1,s2⟩:=NI Z (Bx.2 UB) (r:=r) (u:=b) (a:=.node a ll x p) (b:=c) (c:=q) (y:=y) (v:=⟨v.e,b,v.r,v.all,v.h⟩) p1 (Rp.frame q1 dq hq) (by rw[q1.has];exact hr)
      (by rw[Tr.jI];exact amq) rfl e2 (by rw[Tr.gJ];simpa using hg)
     rw[e1] at *
     refine⟨.node b (.node a ll x p) y (.node r c v.e q),⟨rfl,s1,by simp[Tr.items],?_⟩,?_,?_,?_,(q1.to s2 (fun s hs=>by simp at hs;rw[Tr.jI,Tr.jI];rcases hs with(rfl|rfl)|rfl|rfl<;>simp) (by omega))⟩
     ·simp only[Tr.mw,Tr.h];refine⟨⟨bl1,br1,by omega,by omega⟩,⟨br2,bq,by omega,by omega⟩,by omega,by omega⟩
     ·simp only[Tr.h];omega
     ·simp only[Tr.h];omega
     ·intro _ _;omega
   ·rename_i j5;obtain⟨s1,s2⟩:=NI Z UB (r:=r) (u:=a) (a:=ll) (b:=lr) (c:=q) (y:=x) (v:=v) (Rp.B1 _ _ _ _ ⟨zW,Bj,yr,yb⟩) (Rp.B1 _ _ _ _ hq) (by simpa using hr)
     lL e1 e2 hg
    rw[e1] at *
    refine⟨.node a ll x (.node r lr v.e q),⟨rfl,s1,by simp[Tr.items],?_⟩,?_,?_,?_,(HU.to s2 (fun s hs=>by simp at hs;rw[Tr.jI];rcases hs with rfl|rfl<;>simp) (by omega))⟩
    ·simp only[Tr.mw,Tr.h];refine⟨bl1,⟨bl2,bq,by omega,by omega⟩,by omega,by omega⟩
    ·simp only[Tr.h];omega
    ·simp only[Tr.h];omega
    ·intro _ _;omega
 ·split
  ·rename_i apd nk;cases q with
   |nil=>simp only[Tr.h] at nk;omega
   |node a ql x qr =>
    obtain⟨sr,FW,Xu,hq4⟩:=hq;obtain⟨bq1,bq2,bq3,bq4⟩:=bq;have k3:lk O m ql.root=nd O S ql:=Xu.root ho;have k4:lk O m qr.root=nd O S qr:=hq4.root ho;simp only[r9,k3,k4,rJ,Tr.h] at nk d2 ⊢;rw[Tr.jI] at lL;rw[Tr.gJ] at hg;have HU:=VW (O:=O) m v.l v.r ql.root qr.root;have UB:fX n (aH (aH (aH (aH m v.l) v.r) ql.root) qr.root):=dp.2 (dp.2 (dp.2 (dp.2 ho)));split
    ·rename_i j5;cases ql with
     |nil=>simp only[Tr.h] at j5;omega
     |node b p y c =>
      obtain⟨tw,nw,mv,mD⟩:=Xu;obtain⟨br1,br2,br3,br4⟩:=bq1;simp only[Tr.h] at j5 nk d2 bq3 bq4 ⊢;rw[Tr.jI] at lL;rw[Tr.gJ] at hg;have aee:((p.refs++b::c.refs)++a::qr.refs).Nodup:=(fI.1 (ch.1 lL).2.1).2;have O7:dm ((p.elems++y::c.elems)++x::qr.elems):=Z.right (l.elems++[v.e]) _ (by simpa using hg)
      obtain⟨p1,p2⟩:=NI Z UB (r:=a) (u:=b) (a:=p) (b:=c) (c:=qr) (y:=y) (v:=⟨x,b,qr.root,⟨(Tr.node a (.node b p y c) x qr).items.length,S (Tr.node a (.node b p y c) x qr).elems⟩,((Tr.node a (.node b p y c) x qr).h:Nat)⟩)
       (Rp.B1 _ _ _ _ ⟨tw,nw,mv,mD⟩) (Rp.B1 _ _ _ _ hq4) (by simpa using sr) aee rfl rfl O7
      have q1:=HU.to p2 (S:=[a,b]) (k:=11) (fun s hs=>by simpa using hs) (by omega)
      have dl:∀ s,s∈l.refs->s∉[a,b]:=fun s hs Jd=>by
       have:=(ch.1 lL).2.2 s hs s (by simp at Jd;rcases Jd with rfl|rfl<;>simp)
       exact this rfl
      obtain⟨s1,s2⟩:=Nw Z (Bo.2 UB) (r:=r) (u:=b) (a:=l) (b:=p) (c:=.node a c x qr) (y:=y) (v:=⟨v.e,v.l,b,v.all,v.h⟩) (Rp.frame q1 dl hl) p1 (by rw[q1.has];exact hr)
       (by rw[Tr.jI];simpa using lL) e1 rfl (by rw[Tr.gJ];simpa using hg)
      rw[e2] at *
      refine⟨.node b (.node r l v.e p) y (.node a c x qr),⟨rfl,s1,by simp[Tr.items],?_⟩,?_,?_,?_,(q1.to s2 (fun s hs=>by simp at hs;rw[Tr.jI,Tr.jI];rcases hs with(rfl|rfl)|rfl|rfl<;>simp) (by omega))⟩
      ·simp only[Tr.mw,Tr.h];refine⟨⟨bl,br1,by omega,by omega⟩,⟨br2,bq2,by omega,by omega⟩,by omega,by omega⟩
      ·simp only[Tr.h];omega
      ·simp only[Tr.h];omega
      ·intro _ _;omega
    ·rename_i j5;obtain⟨s1,s2⟩:=Nw Z UB (r:=r) (u:=a) (a:=l) (b:=ql) (c:=qr) (y:=x) (v:=v) (Rp.B1 _ _ _ _ hl) (Rp.B1 _ _ _ _ ⟨sr,FW,Xu,hq4⟩) (by simpa using hr)
      lL e1 e2 hg
     rw[e2] at *
     refine⟨.node a (.node r l v.e ql) x qr,⟨rfl,s1,by simp[Tr.items],?_⟩,?_,?_,?_,(HU.to s2 (fun s hs=>by simp at hs;rw[Tr.jI];rcases hs with rfl|rfl<;>simp) (by omega))⟩
     ·simp only[Tr.mw,Tr.h];refine⟨⟨bl,bq1,by omega,by omega⟩,bq2,by omega,by omega⟩
     ·simp only[Tr.h];omega
     ·simp only[Tr.h];omega
     ·intro _ _;omega
  ·rename_i hn1 hn2;obtain⟨s1,s2⟩:=QL Z (m:=aH (aH m v.l) v.r) (dp.2 (dp.2 ho)) ((hl.aH _).aH _) ((hq.aH _).aH _) (by simpa using hr) (fun h=>rk.2.2 r h r (dN rfl) rfl) (fun h=>rk.2.1.1 h) e1 e2 hg
   refine⟨.node r l v.e q,⟨rfl,s1,rfl,⟨bl,bq,by omega,by omega⟩⟩,?_,?_,?_,(tK m v.l v.r).to s2 (fun s hs=>by simp at hs;subst hs;simp) (by omega)⟩
   ·simp only[Tr.h];omega
   ·simp only[Tr.h];omega
   ·intro _ _;simp only[Tr.h];omega
end
end Gv
namespace Wv
open Rx
structure Mk where
 t:Int
 ins:Bool
 it:It
 here:Bool
 tf:Bool
 tk:It
structure Sw where
 c:Ti.Td
 w:Ti.Td
 d:Int
 f:Int
 m:It
 gf:Bool
 g:It
 lf:Bool
 l:It
def mz:Mk:=⟨0,ao,⟨0,0⟩,ao,ao,⟨0,0⟩⟩
def sz:Sw:=⟨⟨0,0,0⟩,⟨0,0,0⟩,0,0,⟨0,0⟩,ao,⟨0,0⟩,ao,⟨0,0⟩⟩
def ss (x:It) (here:Bool):Sw:=if here=aq then⟨⟨1,1,1⟩,⟨1,0,0⟩,0,0,⟨0,0⟩,ao,⟨0,0⟩,aq,x⟩ else⟨⟨1,1,1⟩,⟨1,1,1⟩,0,0,⟨0,0⟩,aq,x,ao,⟨0,0⟩⟩
def sh (tf:Bool) (tk:It):Sw:=if tf=aq then⟨⟨1,-1,-1⟩,⟨1,-1,-1⟩,1,0,tk,ao,⟨0,0⟩,ao,⟨0,0⟩⟩ else⟨⟨1,-1,-1⟩,⟨1,-1,-1⟩,1,1,⟨0,0⟩,ao,⟨0,0⟩,ao,⟨0,0⟩⟩
def Mk.sum (m:Mk):Sw:=if m.ins=aq then ss m.it m.here else sh m.tf m.tk
def Fa (s o:Sw):It:=if o.d=o.f then s.m else if s.d=s.f∨ah s.m o.m then o.m else s.m
def vd (side:Int) (af:Bool) (a:It) (bf:Bool) (b:It):Bool×It:=if bf=aq/\(¬ af=aq∨kK b a=side) then(bf,b) else if ¬ af=aq then(ao,⟨0,0⟩) else(af,a)
def Sw.plus (s o:Sw):Sw:=⟨s.c.plus o.c,s.w.plus o.w,Wd (s.d+o.d),Wd (s.f+o.f),Fa s o,(vd 1 s.gf s.g o.gf o.g).1,(vd 1 s.gf s.g o.gf o.g).2,(vd (-1) s.lf s.l o.lf o.l).1,(vd (-1) s.lf s.l o.lf o.l).2⟩
def O8:Gv.iL Mk Sw:=⟨mz,sz,fun a b=>CQ a.t b.t,Mk.sum,Sw.plus⟩
def OD (m:Mk):Int:=if m.ins=aq then 1 else -1
def ue (m:Mk):Int:=if m.ins=aq/\m.here=aq then 0 else OD m
def wb (l:List Mk):List Mk:=l.filter fun m=>!m.ins
def pG (l:List Mk):List Mk:=l.filter fun m=>!m.ins && !m.tf
def vl (l:List Mk):List It:=(l.filter fun m=>!m.ins&&m.tf).map Mk.tk
def lX (h:Bool) (l:List Mk):List It:=(l.filter fun m=>m.ins&&(m.here==h)).map Mk.it
def S8 (l:List Mk):Sw:=⟨xf (l.map OD),xf (l.map ue),(wb l).length,(pG l).length,(hi (vl l)).getD iz,(hi (lX ao l)).isSome,(hi (lX ao l)).getD iz,(lo (lX aq l)).isSome,(lo (lX aq l)).getD iz⟩
def FC (l:List Mk):Prop:=l.length≤60
theorem aeO (m:Mk):-1≤OD m/\OD m≤1:=by unfold OD;split<;>omega
theorem Zy (m:Mk):-1≤ue m/\ue m≤1:=by unfold ue;split;omega;exact aeO m
theorem FK {l:List Mk} {f:Mk->Int} (hf:∀ m,-1≤f m/\f m≤1) (h:l.length≤60):Ti.Small (l.map f):=by
 have hb:∀ i,i<(l.map f).length->-1≤(l.map f).getD i 0/\(l.map f).getD i 0≤1:=fun i hi=>by
  have lR:i<l.length:=by simpa using hi
  rw[ax,gh,List.getElem?_eq_getElem lR];exact hf _
 refine⟨by simpa using h,fun i hi=>?_,fun i hi=>?_⟩
 ·have:=hb i hi;omega
 ·have:=hb i hi;omega
theorem ake (a b:Option It):vd 1 a.isSome (a.getD iz) b.isSome (b.getD iz)=((up a b).isSome,(up a b).getD iz):=by
 unfold vd;simp only[aej];cases a with
 |none=>cases b<;>simp[up]
 |some a =>
  cases b with
  |none=>simp[up]
  |some b=>simp only[C1,lG,up];by_cases h:ah a b<;>simp[h]
theorem aki (a b:Option It):vd (-1) a.isSome (a.getD iz) b.isSome (b.getD iz)=((dn a b).isSome,(dn a b).getD iz):=by
 unfold vd;simp only[aek];cases a with
 |none=>cases b<;>simp[dn]
 |some a =>
  cases b with
  |none=>simp[dn]
  |some b=>simp only[C1,lG,dn];by_cases h:ah b a<;>simp[h]
theorem aef (l:List Mk):(wb l).length=(pG l).length+(vl l).length:=by
 unfold wb pG vl;rw[gX]
 induction l with
 |nil=>rfl
 |cons m l ih =>
  simp only[List.filter_cons];cases m.ins<;>cases m.tf<;>simp at *<;>omega
theorem RS (l:List Mk):((wb l).length:Int)=(pG l).length↔hi (vl l)=aj:=by
 rw[aef];have h:=Ye (vl l)
 constructor
 ·intro h1;have:vl l=[]:=List.eq_nil_of_length_eq_zero (by omega)
  rw[this];rfl
 ·intro h1;rw[h1] at h;have:vl l=[]:=by
   by_cases c:vl l=[]
   ·exact c
   ·have:=h.2 c;cases this
  rw[this];simp
theorem ahF {x y:List Mk}:Fa (S8 x) (S8 y)=(up (hi (vl x)) (hi (vl y))).getD iz:=by
 have hx:=RS x;have hy:=RS y;unfold Fa S8;simp only[hx,hy];cases hi (vl x) with
 |none=>cases hi (vl y)<;>simp[up]
 |some a =>
  cases hi (vl y) with
  |none=>simp[up]
  |some b=>by_cases h:ah a b<;>simp[up,h]
theorem U9 (m:Mk):S8 [m]=m.sum:=by
 unfold S8 Mk.sum ss sh wb pG vl lX;obtain⟨t,ins,it,here,tf,tk⟩:=m;cases ins<;>cases here<;>cases tf<;>rfl
theorem afL (x y:List Mk) (h:FC (x++y)):(S8 x).plus (S8 y)=S8 (x++y):=by
 have hl:=h;unfold FC at hl;have h1:(xf (x.map OD)).plus (xf (y.map OD))=xf ((x++y).map OD):=by
  rw[dT];exact We (by rw[← dT];exact FK aeO hl)
 have h2:(xf (x.map ue)).plus (xf (y.map ue))=xf ((x++y).map ue):=by
  rw[dT];exact We (by rw[← dT];exact FK Zy hl)
 have e1:wb (x++y)=wb x++wb y:=oN ..;have e2:pG (x++y)=pG x++pG y:=oN ..;have e3:vl (x++y)=vl x++vl y:=by unfold vl;rw[oN,dT]
 have e4:∀ b,lX b (x++y)=lX b x++lX b y:=fun b=>by unfold lX;rw[oN,dT]
 have l1:(wb x).length+(wb y).length≤60:=by
  have:=uL (fun m:Mk=>!m.ins) (x++y)
  rw[← bJ,← e1];exact iY this hl
 have l2:(pG x).length+(pG y).length≤60:=by
  have:=uL (fun m:Mk=>!m.ins && !m.tf) (x++y)
  rw[← bJ,← e2];exact iY this hl
 have h3:Wd (((wb x).length:Int)+((wb y).length:Int))=((wb (x++y)).length:Int):=by
  rw[e1,bJ,Ti.Ju (by omega)];push_cast;rfl
 have h4:Wd (((pG x).length:Int)+((pG y).length:Int))=((pG (x++y)).length:Int):=by
  rw[e2,bJ,Ti.Ju (by omega)];push_cast;rfl
 have h5:Fa (S8 x) (S8 y)=(hi (vl (x++y))).getD iz:=by rw[ahF,e3,JK]
 have h6:=ake (hi (lX ao x)) (hi (lX ao y));have h7:=aki (lo (lX aq x)) (lo (lX aq y));rw[← JK,← e4] at h6;rw[← RL,← e4] at h7;unfold Sw.plus;rw[h5];unfold S8;simp only;rw[h1,h2,h3,h4,h6,h7]
theorem DK (e x:Mk):O8.cmp e x<0↔e.t<x.t:=by simp only[O8,CQ];split<;>(try split)<;>omega
theorem BP (e x:Mk):O8.cmp e x=0↔e.t=x.t:=by simp only[O8,CQ];split<;>(try split)<;>omega
theorem QY (e x:Mk):(0<O8.cmp e x)↔x.t<e.t:=by simp only[O8,CQ];split<;>(try split)<;>omega
theorem SY:Gv.yH O8 S8 FC where
 nil:=rfl
 one e:=U9 e
 plus x y h _ _:=afL x y h
 left x y h:=by unfold FC at *;rw[bJ] at h;omega
 right x y h:=by unfold FC at *;rw[bJ] at h;omega
 len x h:=by unfold FC at h;omega
 swap a b:=by rw[DK,QY]
 trans a b c:=by simp only[DK];omega
 eqv a b c:=by simp only[DK,BP];omega
 ZN a b c:=by simp only[DK,BP];omega
end Wv
namespace G8
open Rx
set_option maxRecDepth 100000
abbrev Nd:=Gv.Node Wv.Mk Wv.Sw
abbrev Pl:=Gv.PM Nd
def bk (n:Nd):List Value:=[.int .i64 n.e.t,.bool n.e.ins,.int .i64 n.e.it.k,.int .i64 n.e.it.i,.bool n.e.here,.bool n.e.tf,.int .i64 n.e.tk.k,.int .i64 n.e.tk.i,.int .i64 n.l.i,.int .i64 n.l.g,.int .i64 n.r.i,.int .i64 n.r.g,.int .i64 n.all.n,.int .i64 n.all.sum.c.n,.int .i64 n.all.sum.c.s,.int .i64 n.all.sum.c.l,.int .i64 n.all.sum.w.n,.int .i64 n.all.sum.w.s,.int .i64 n.all.sum.w.l,.int .i64 n.all.sum.d,.int .i64 n.all.sum.f,.int .i64 n.all.sum.m.k,.int .i64 n.all.sum.m.i,.bool n.all.sum.gf,.int .i64 n.all.sum.g.k,.int .i64 n.all.sum.g.i,.bool n.all.sum.lf,.int .i64 n.all.sum.l.k,.int .i64 n.all.sum.l.i,.int .i64 n.h]
def b6 (p:HA Wv.Sw):List Value:=[.int .i64 p.n,.int .i64 p.sum.c.n,.int .i64 p.sum.c.s,.int .i64 p.sum.c.l,.int .i64 p.sum.w.n,.int .i64 p.sum.w.s,.int .i64 p.sum.w.l,.int .i64 p.sum.d,.int .i64 p.sum.f,.int .i64 p.sum.m.k,.int .i64 p.sum.m.i,.bool p.sum.gf,.int .i64 p.sum.g.k,.int .i64 p.sum.g.i,.bool p.sum.lf,.int .i64 p.sum.l.k,.int .i64 p.sum.l.i]
def du (e:Wv.Mk):List Value:=[.int .i64 e.t,.bool e.ins,.int .i64 e.it.k,.int .i64 e.it.i,.bool e.here,.bool e.tf,.int .i64 e.tk.k,.int .i64 e.tk.i]
def kj (s:Wv.Sw):List Value:=[.int .i64 s.c.n,.int .i64 s.c.s,.int .i64 s.c.l,.int .i64 s.w.n,.int .i64 s.w.s,.int .i64 s.w.l,.int .i64 s.d,.int .i64 s.f,.int .i64 s.m.k,.int .i64 s.m.i,.bool s.gf,.int .i64 s.g.k,.int .i64 s.g.i,.bool s.lf,.int .i64 s.l.k,.int .i64 s.l.i]
def fR (l:List Value):Wv.Mk:=⟨(vI (gj l 0)),(vB (gj l 1)),⟨(vI (gj l 2)),(vI (gj l 3))⟩,(vB (gj l 4)),(vB (gj l 5)),⟨(vI (gj l 6)),(vI (gj l 7))⟩⟩
def wa (l:List Value):Wv.Sw:=⟨⟨(vI (gj l 0)),(vI (gj l 1)),(vI (gj l 2))⟩,⟨(vI (gj l 3)),(vI (gj l 4)),(vI (gj l 5))⟩,(vI (gj l 6)),(vI (gj l 7)),⟨(vI (gj l 8)),(vI (gj l 9))⟩,(vB (gj l 10)),⟨(vI (gj l 11)),(vI (gj l 12))⟩,(vB (gj l 13)),⟨(vI (gj l 14)),(vI (gj l 15))⟩⟩
def o6 (l:List Value):HA Wv.Sw:=⟨(vI (gj l 0)),⟨⟨(vI (gj l 1)),(vI (gj l 2)),(vI (gj l 3))⟩,⟨(vI (gj l 4)),(vI (gj l 5)),(vI (gj l 6))⟩,(vI (gj l 7)),(vI (gj l 8)),⟨(vI (gj l 9)),(vI (gj l 10))⟩,(vB (gj l 11)),⟨(vI (gj l 12)),(vI (gj l 13))⟩,(vB (gj l 14)),⟨(vI (gj l 15)),(vI (gj l 16))⟩⟩⟩
def fS (l:List Value):Nd:=⟨⟨(vI (gj l 0)),(vB (gj l 1)),⟨(vI (gj l 2)),(vI (gj l 3))⟩,(vB (gj l 4)),(vB (gj l 5)),⟨(vI (gj l 6)),(vI (gj l 7))⟩⟩,⟨(vI (gj l 8)),(vI (gj l 9))⟩,⟨(vI (gj l 10)),(vI (gj l 11))⟩,⟨(vI (gj l 12)),⟨⟨(vI (gj l 13)),(vI (gj l 14)),(vI (gj l 15))⟩,⟨(vI (gj l 16)),(vI (gj l 17)),(vI (gj l 18))⟩,(vI (gj l 19)),(vI (gj l 20)),⟨(vI (gj l 21)),(vI (gj l 22))⟩,(vB (gj l 23)),⟨(vI (gj l 24)),(vI (gj l 25))⟩,(vB (gj l 26)),⟨(vI (gj l 27)),(vI (gj l 28))⟩⟩⟩,(vI (gj l 29))⟩
def dj:List Value:=[.int .i64 0,.bool ao,.int .i64 0,.int .i64 0,.bool ao,.bool ao,.int .i64 0,.int .i64 0,.int .i64 0,.int .i64 0,.int .i64 0,.int .i64 0,.int .i64 0,.int .i64 0,.int .i64 0,.int .i64 0,.int .i64 0,.int .i64 0,.int .i64 0,.int .i64 0,.int .i64 0,.int .i64 0,.int .i64 0,.bool ao,.int .i64 0,.int .i64 0,.bool ao,.int .i64 0,.int .i64 0,.int .i64 0,.int .i64 0,.bool ao]
abbrev zd:Nd:=Gv.zn Wv.O8
def cV (a:List Int) (b:List Bool) (c:List Int) (d:List Int) (e:List Bool) (f:List Bool) (g:List Int) (h:List Int) (i:List Int) (j:List Int) (k:List Int) (l:List Int) (m:List Int) (n:List Int) (o:List Int) (p:List Int) (q:List Int) (r:List Int) (s:List Int) (t:List Int) (u:List Int) (v:List Int) (w:List Int) (x:List Bool) (y:List Int) (z:List Int) (A:List Bool) (B:List Int) (C:List Int) (D:List Int) (E:List Int) (F:List Bool):List aT:=[⟨a,[],[]⟩,⟨[],b,[]⟩,⟨c,[],[]⟩,⟨d,[],[]⟩,⟨[],e,[]⟩,⟨[],f,[]⟩,⟨g,[],[]⟩,⟨h,[],[]⟩,⟨i,[],[]⟩,⟨j,[],[]⟩,⟨k,[],[]⟩,⟨l,[],[]⟩,⟨m,[],[]⟩,⟨n,[],[]⟩,⟨o,[],[]⟩,⟨p,[],[]⟩,⟨q,[],[]⟩,⟨r,[],[]⟩,⟨s,[],[]⟩,⟨t,[],[]⟩,⟨u,[],[]⟩,⟨v,[],[]⟩,⟨w,[],[]⟩,⟨[],x,[]⟩,⟨y,[],[]⟩,⟨z,[],[]⟩,⟨[],A,[]⟩,⟨B,[],[]⟩,⟨C,[],[]⟩,⟨D,[],[]⟩,⟨E,[],[]⟩,⟨[],F,[]⟩]
def cM (v:List Nd) (g:List Int) (b:List Bool):List aT:=cV (v.map fun n:Nd=>n.e.t) (v.map fun n:Nd=>n.e.ins) (v.map fun n:Nd=>n.e.it.k) (v.map fun n:Nd=>n.e.it.i) (v.map fun n:Nd=>n.e.here) (v.map fun n:Nd=>n.e.tf) (v.map fun n:Nd=>n.e.tk.k) (v.map fun n:Nd=>n.e.tk.i) (v.map fun n:Nd=>n.l.i) (v.map fun n:Nd=>n.l.g) (v.map fun n:Nd=>n.r.i) (v.map fun n:Nd=>n.r.g) (v.map fun n:Nd=>n.all.n) (v.map fun n:Nd=>n.all.sum.c.n) (v.map fun n:Nd=>n.all.sum.c.s) (v.map fun n:Nd=>n.all.sum.c.l) (v.map fun n:Nd=>n.all.sum.w.n) (v.map fun n:Nd=>n.all.sum.w.s) (v.map fun n:Nd=>n.all.sum.w.l) (v.map fun n:Nd=>n.all.sum.d) (v.map fun n:Nd=>n.all.sum.f) (v.map fun n:Nd=>n.all.sum.m.k) (v.map fun n:Nd=>n.all.sum.m.i) (v.map fun n:Nd=>n.all.sum.gf) (v.map fun n:Nd=>n.all.sum.g.k) (v.map fun n:Nd=>n.all.sum.g.i) (v.map fun n:Nd=>n.all.sum.lf) (v.map fun n:Nd=>n.all.sum.l.k) (v.map fun n:Nd=>n.all.sum.l.i) (v.map fun n:Nd=>n.h) g b
def cS (v:List Nd) (k:Nat) (x:Nd) (g:List Int) (b:List Bool):List aT:=cV ((v.map fun n:Nd=>n.e.t).set k x.e.t) ((v.map fun n:Nd=>n.e.ins).set k x.e.ins) ((v.map fun n:Nd=>n.e.it.k).set k x.e.it.k) ((v.map fun n:Nd=>n.e.it.i).set k x.e.it.i) ((v.map fun n:Nd=>n.e.here).set k x.e.here) ((v.map fun n:Nd=>n.e.tf).set k x.e.tf) ((v.map fun n:Nd=>n.e.tk.k).set k x.e.tk.k) ((v.map fun n:Nd=>n.e.tk.i).set k x.e.tk.i) ((v.map fun n:Nd=>n.l.i).set k x.l.i) ((v.map fun n:Nd=>n.l.g).set k x.l.g) ((v.map fun n:Nd=>n.r.i).set k x.r.i) ((v.map fun n:Nd=>n.r.g).set k x.r.g) ((v.map fun n:Nd=>n.all.n).set k x.all.n) ((v.map fun n:Nd=>n.all.sum.c.n).set k x.all.sum.c.n) ((v.map fun n:Nd=>n.all.sum.c.s).set k x.all.sum.c.s) ((v.map fun n:Nd=>n.all.sum.c.l).set k x.all.sum.c.l) ((v.map fun n:Nd=>n.all.sum.w.n).set k x.all.sum.w.n) ((v.map fun n:Nd=>n.all.sum.w.s).set k x.all.sum.w.s) ((v.map fun n:Nd=>n.all.sum.w.l).set k x.all.sum.w.l) ((v.map fun n:Nd=>n.all.sum.d).set k x.all.sum.d) ((v.map fun n:Nd=>n.all.sum.f).set k x.all.sum.f) ((v.map fun n:Nd=>n.all.sum.m.k).set k x.all.sum.m.k) ((v.map fun n:Nd=>n.all.sum.m.i).set k x.all.sum.m.i) ((v.map fun n:Nd=>n.all.sum.gf).set k x.all.sum.gf) ((v.map fun n:Nd=>n.all.sum.g.k).set k x.all.sum.g.k) ((v.map fun n:Nd=>n.all.sum.g.i).set k x.all.sum.g.i) ((v.map fun n:Nd=>n.all.sum.lf).set k x.all.sum.lf) ((v.map fun n:Nd=>n.all.sum.l.k).set k x.all.sum.l.k) ((v.map fun n:Nd=>n.all.sum.l.i).set k x.all.sum.l.i) ((v.map fun n:Nd=>n.h).set k x.h) g b
def cG (v:List Nd) (k:Nat) (x:Nd) (g:List Int) (b:List Bool):List aT:=cV (((v.map fun n:Nd=>n.e.t)++[0]).set k x.e.t) (((v.map fun n:Nd=>n.e.ins)++[ao]).set k x.e.ins) (((v.map fun n:Nd=>n.e.it.k)++[0]).set k x.e.it.k) (((v.map fun n:Nd=>n.e.it.i)++[0]).set k x.e.it.i) (((v.map fun n:Nd=>n.e.here)++[ao]).set k x.e.here) (((v.map fun n:Nd=>n.e.tf)++[ao]).set k x.e.tf) (((v.map fun n:Nd=>n.e.tk.k)++[0]).set k x.e.tk.k) (((v.map fun n:Nd=>n.e.tk.i)++[0]).set k x.e.tk.i) (((v.map fun n:Nd=>n.l.i)++[0]).set k x.l.i) (((v.map fun n:Nd=>n.l.g)++[0]).set k x.l.g) (((v.map fun n:Nd=>n.r.i)++[0]).set k x.r.i) (((v.map fun n:Nd=>n.r.g)++[0]).set k x.r.g) (((v.map fun n:Nd=>n.all.n)++[0]).set k x.all.n) (((v.map fun n:Nd=>n.all.sum.c.n)++[0]).set k x.all.sum.c.n) (((v.map fun n:Nd=>n.all.sum.c.s)++[0]).set k x.all.sum.c.s) (((v.map fun n:Nd=>n.all.sum.c.l)++[0]).set k x.all.sum.c.l) (((v.map fun n:Nd=>n.all.sum.w.n)++[0]).set k x.all.sum.w.n) (((v.map fun n:Nd=>n.all.sum.w.s)++[0]).set k x.all.sum.w.s) (((v.map fun n:Nd=>n.all.sum.w.l)++[0]).set k x.all.sum.w.l) (((v.map fun n:Nd=>n.all.sum.d)++[0]).set k x.all.sum.d) (((v.map fun n:Nd=>n.all.sum.f)++[0]).set k x.all.sum.f) (((v.map fun n:Nd=>n.all.sum.m.k)++[0]).set k x.all.sum.m.k) (((v.map fun n:Nd=>n.all.sum.m.i)++[0]).set k x.all.sum.m.i) (((v.map fun n:Nd=>n.all.sum.gf)++[ao]).set k x.all.sum.gf) (((v.map fun n:Nd=>n.all.sum.g.k)++[0]).set k x.all.sum.g.k) (((v.map fun n:Nd=>n.all.sum.g.i)++[0]).set k x.all.sum.g.i) (((v.map fun n:Nd=>n.all.sum.lf)++[ao]).set k x.all.sum.lf) (((v.map fun n:Nd=>n.all.sum.l.k)++[0]).set k x.all.sum.l.k) (((v.map fun n:Nd=>n.all.sum.l.i)++[0]).set k x.all.sum.l.i) (((v.map fun n:Nd=>n.h)++[0]).set k x.h) g b
def gM (v:List Nd) (k:Nat):List Value:=[.int .i64 ((v.map fun n:Nd=>n.e.t).getD k 0),.bool ((v.map fun n:Nd=>n.e.ins).getD k ao),.int .i64 ((v.map fun n:Nd=>n.e.it.k).getD k 0),.int .i64 ((v.map fun n:Nd=>n.e.it.i).getD k 0),.bool ((v.map fun n:Nd=>n.e.here).getD k ao),.bool ((v.map fun n:Nd=>n.e.tf).getD k ao),.int .i64 ((v.map fun n:Nd=>n.e.tk.k).getD k 0),.int .i64 ((v.map fun n:Nd=>n.e.tk.i).getD k 0),.int .i64 ((v.map fun n:Nd=>n.l.i).getD k 0),.int .i64 ((v.map fun n:Nd=>n.l.g).getD k 0),.int .i64 ((v.map fun n:Nd=>n.r.i).getD k 0),.int .i64 ((v.map fun n:Nd=>n.r.g).getD k 0),.int .i64 ((v.map fun n:Nd=>n.all.n).getD k 0),.int .i64 ((v.map fun n:Nd=>n.all.sum.c.n).getD k 0),.int .i64 ((v.map fun n:Nd=>n.all.sum.c.s).getD k 0),.int .i64 ((v.map fun n:Nd=>n.all.sum.c.l).getD k 0),.int .i64 ((v.map fun n:Nd=>n.all.sum.w.n).getD k 0),.int .i64 ((v.map fun n:Nd=>n.all.sum.w.s).getD k 0),.int .i64 ((v.map fun n:Nd=>n.all.sum.w.l).getD k 0),.int .i64 ((v.map fun n:Nd=>n.all.sum.d).getD k 0),.int .i64 ((v.map fun n:Nd=>n.all.sum.f).getD k 0),.int .i64 ((v.map fun n:Nd=>n.all.sum.m.k).getD k 0),.int .i64 ((v.map fun n:Nd=>n.all.sum.m.i).getD k 0),.bool ((v.map fun n:Nd=>n.all.sum.gf).getD k ao),.int .i64 ((v.map fun n:Nd=>n.all.sum.g.k).getD k 0),.int .i64 ((v.map fun n:Nd=>n.all.sum.g.i).getD k 0),.bool ((v.map fun n:Nd=>n.all.sum.lf).getD k ao),.int .i64 ((v.map fun n:Nd=>n.all.sum.l.k).getD k 0),.int .i64 ((v.map fun n:Nd=>n.all.sum.l.i).getD k 0),.int .i64 ((v.map fun n:Nd=>n.h).getD k 0)]
def QH (m:Pl):Hp Empty :=
 [aa (.inl (186,[.slice (aa ⟨1,0,aa 32000⟩) m.vs.length 0,.slice (aa ⟨2,0,aa 1000⟩) m.free.length 0,.int .i64 m.held,.int .i64 m.cap,.int .i64 m.cY])),
 aa (.inr (.inl (189,⟨dj,m.vs.length,cM m.vs m.dD m.live⟩))),
 aa (.inr (.inl (3,⟨[.int .i64 0],m.free.length,[⟨m.free,[],[]⟩]⟩)))]
end G8
namespace G8
open Rx
inductive Rs
 |dd (m:Pl)
def lay:Rs->Hp Empty
 |.dd m=>QH m
def L:EF Rs Empty where
 lay:=lay
 ne x:=by cases x<;>exact sD _
 own x b X h:=by cases x<;>exact Ce rfl h
 ins x:=by cases x<;>rfl
def D:fK Rs:=FA sT L
end G8
namespace Rx
open Go.RowKit State
section
variable {R R0:Type} {D0:fK R0} {L:EF R R0} {P:Program}
structure Up (L:EF R R0) (c:je R0) (args:List Value) (hh:Hp R) (x:Out R):Prop where
 ex:∃ x0,rW c aq (lQ (off L hh) args) (xV L hh)/\c.go aq (lQ (off L hh) args) (xV L hh)=aa x0/\x0.vc/\x0.hp=xV L x.hp/\x0.v=gg (off L x.hp) x.v
 off:F6 (fun b=>fo (Rx.off L x.hp b) (Rx.off L hh b)) hh.length=aq
 ins:sZ x.hp.length x.hp=aq
theorem nc {f:FuncId} {c:je R0} {spec:Prim R} (hc:ck D0 P f c)
  (H:∀ args hh x,spec args hh=aa x->hh.length≤x.hp.length/\(∀ b,x.lit=aa b->x.v=.bool b)/\(x.wr=[]->x.hp=hh)/\(x.vc->Up L c args hh x)) :
  ck (FA D0 L) P f (a9 spec):=by
 refine pY ⟨(hc aq).known,fun args hh x _ hx C ρ ft w hm hv hi=>?_,fun args hh x hx=>(H args hh x hx).1,fun args hh x hx=>(H args hh x hx).2.1,fun args hh x hx=>(H args hh x hx).2.2.1⟩
 obtain⟨_,_,_,h4⟩:=H args hh x hx;obtain⟨⟨x0,q0,q1,q2,q3,q4⟩,q5,q6⟩:=h4 hv;obtain⟨ρ1,ft1,o1,o2⟩:=hm.open_;have hargs:args.map (bW ρ)=(lQ (off L hh) args).map (bW ρ1):=by
  rw[rH,← k_,← k_];exact(qi (n:=hh.length) (fun b hb=>o1 b hb) args hi).symm
 rw[hargs];have j5:ix (xV L hh).length (lQ (off L hh) args)=aq:=v7 (n:=hh.length) (fun b hb=>by
  have:=GY (L:=L) hh (b:=b) (i:=0) hb (u0 _)
  simpa using this) args hi
 refine((hc aq).run _ _ x0 q0 q1 C ρ1 ft1 w o2 q2 j5).mono fun e w' ⟨gv,ks,g1,g2,g3⟩=>?_
 rw[q3] at g3;refine⟨_,_,fun b hb=>?_,?_,g3.close_ q6⟩
 ·show gv (off L x.hp b)=ρ b
  have h6:off L hh b<(xV L hh).length:=by
   have:=GY (L:=L) hh (b:=b) (i:=0) hb (u0 _)
   simpa using this
  have:=zE q5 hb;rw[Nat.eq_of_beq_eq_true this,g1 _ h6,o1 b hb]
 ·rw[g2,q4,CX]
end
end Rx
namespace Gv
open Rx
set_option linter.unusedSectionVars false
section
variable {E A:Type} (O:iL E A)
def lo (e:E) (l:List (Ref×E)):List (Ref×E):=l.takeWhile fun x=>decide (0<O.cmp e x.2)
def hi (e:E) (l:List (Ref×E)):List (Ref×E):=l.dropWhile fun x=>decide (0<O.cmp e x.2)
def tS (e:E) (l:List (Ref×E)):Option (Ref×E) :=
 match hi O e l with
 |[]=>aj
 |x::_=>if O.cmp e x.2=0 then aa x else aj
def tR (l:List (Ref×E)):Prop:=l.Pairwise fun a b=>O.cmp a.2 b.2<0
theorem AB (e:E) (l:List (Ref×E)):lo O e l++hi O e l=l:=Ad
variable {O} {S:List E->A} {dm:List E->Prop} (Z:yH O S dm)
theorem J2 {α:Type} (p:α->Bool):∀ (l q:List α),(∀ x∈l,p x=aq)->(l++q).takeWhile p=l++q.takeWhile p/\(l++q).dropWhile p=q.dropWhile p
 |[],q,_=>⟨rfl,rfl⟩
 |a::l,q,h=>by
  obtain⟨h1,h2⟩:=J2 p l q fun x hx=>h x (eo _ hx)
  have ha:=h a bO;simp[sI,sJ,ha,h1,h2]
theorem Ru {α:Type} (p:α->Bool) (a:α) (q:List α) (ha:p a=ao):∀ l:List α,(l++a::q).takeWhile p=l.takeWhile p/\(l++a::q).dropWhile p=l.dropWhile p++a::q
 |[]=>by simp[sI,sJ,ha]
 |b::l=>by
  obtain⟨h1,h2⟩:=Ru p a q ha l;simp only[mo,sI,sJ];split
  ·exact⟨by rw[h1],h2⟩
  ·exact⟨rfl,rfl⟩
theorem SW {e:E} {l q:List (Ref×E)} {r:Ref} {x:E} (h:O.cmp e x<0):lo O e (l++(r,x)::q)=lo O e l/\hi O e (l++(r,x)::q)=hi O e l++(r,x)::q :=
 Ru _ _ _ (by simp;omega) _
include Z in
theorem tR.ahead {l q:List (Ref×E)} {r:Ref} {x e:E} (hs:tR O (l++(r,x)::q)) (h:0≤O.cmp e x):∀ y∈l,decide (0<O.cmp e y.2)=aq:=by
 intro y hy;have h1:O.cmp y.2 x<0:=(nE.1 hs).2.2 y hy (r,x) bO;refine decide_eq_true ((Z.swap _ _).1 ?_);rcases Int.lt_or_eq_of_le h with h2|h2
 ·exact Z.trans _ _ _ h1 ((Z.swap _ _).2 h2)
 ·exact Z.ZN _ _ _ h2.symm h1
include Z in
theorem K4 {e:E} {l q:List (Ref×E)} {r:Ref} {x:E} (hs:tR O (l++(r,x)::q)) (h:0<O.cmp e x):lo O e (l++(r,x)::q)=l++(r,x)::lo O e q/\hi O e (l++(r,x)::q)=hi O e q:=by
 obtain⟨h1,h2⟩:=J2 (fun y:Ref×E=>decide (0<O.cmp e y.2)) l ((r,x)::q) (hs.ahead Z (by omega))
 have hx:decide (0<O.cmp e x)=aq:=decide_eq_true h;unfold lo hi;rw[h1,h2,sI,sJ,if_pos hx,if_pos hx];exact⟨rfl,rfl⟩
include Z in
theorem ZQ {e:E} {l q:List (Ref×E)} {r:Ref} {x:E} (hs:tR O (l++(r,x)::q)) (h:O.cmp e x=0):lo O e (l++(r,x)::q)=l/\hi O e (l++(r,x)::q)=(r,x)::q:=by
 obtain⟨h1,h2⟩:=J2 (fun y:Ref×E=>decide (0<O.cmp e y.2)) l ((r,x)::q) (hs.ahead Z (by omega))
 have hx:¬ decide (0<O.cmp e x)=aq:=by simp;omega
 unfold lo hi;rw[h1,h2,sI,sJ,if_neg hx,if_neg hx];simp
theorem Kx {e:E} {l q:List (Ref×E)} {r:Ref} {x:E} (h:O.cmp e x<0):tS O e (l++(r,x)::q)=tS O e l:=by
 unfold tS;rw[(SW h).2];cases hl:hi O e l with
 |nil=>simp only[pb];rw[if_neg (by omega)]
 |cons y tl=>rfl
include Z in
theorem JO {e:E} {l q:List (Ref×E)} {r:Ref} {x:E} (hs:tR O (l++(r,x)::q)) (h:0<O.cmp e x):tS O e (l++(r,x)::q)=tS O e q:=by
 unfold tS;rw[(K4 Z hs h).2]
include Z in
theorem Ke {e:E} {l q:List (Ref×E)} {r:Ref} {x:E} (hs:tR O (l++(r,x)::q)) (h:O.cmp e x=0):tS O e (l++(r,x)::q)=aa (r,x):=by
 unfold tS;rw[(ZQ Z hs h).2];simp only;rw[if_pos h]
theorem tJ {e:E} {l:List (Ref×E)} {x:Ref×E} (h:tS O e l=aa x):hi O e l=x::(hi O e l).tail/\O.cmp e x.2=0/\x∈l:=by
 unfold tS at h;split at h
 ·cases h
 ·rename_i y tl hy;split at h
  ·rename_i hc;injection h with h
   subst h;rw[hy];refine⟨rfl,hc,?_⟩;rw[← AB O e l,hy];simp
  ·cases h
theorem tR.left {l q:List (Ref×E)} (h:tR O (l++q)):tR O l:=(nE.1 h).1
theorem tR.right {l q:List (Ref×E)} (h:tR O (l++q)):tR O q:=(nE.1 h).2.1
abbrev gd (dm:List E->Prop) (l:List (Ref×E)):Prop:=dm (l.map aw)
abbrev rf (l:List (Ref×E)):List Ref:=l.map aB
theorem Tr.ob (r:Ref) (l:Tr E) (e:E) (q:Tr E):(Tr.node r l e q).items=l.items++(r,e)::q.items:=rfl
include Z
theorem QW {n:Nat} {f:Ref} {e:E}:∀ (t:Tr E) {k:Nat} {m:Po E A},fX n m->Rp O S m t->t.mw->tR O t.items->(f::t.refs).Nodup->has m f=aq ->
  lk O m f=⟨e,r0,r0,one O e,1⟩->tS O e t.items=aj->gd dm (lo O e t.items++(f,e)::hi O e t.items)->t.h<k ->
  ∃ t',Is O S (kV O k m t.root f e).2 (kV O k m t.root f e).1 (lo O e t.items++(f,e)::hi O e t.items) t'/\t.h≤t'.h/\t'.h≤t.h+1/\iJ (f::t.refs) (30*t.h+1) (zn O) m (kV O k m t.root f e).2
 |t,0,m,_,_,_,_,_,_,_,_,_,hk=>by omega
 |.nil,k+1,m,ho,hr,hb,hs,hn,hf,XY,hh,hg,hk=>by
  have h0:(lk O m (Tr.nil (E:=E)).root).h=0:=by rw[(show Rp O S m .nil from trivial).root ho];rfl
  rw[kV,if_pos h0];refine⟨.node f .nil e .nil,⟨rfl,⟨by simpa using hf,?_,trivial,trivial⟩,rfl,⟨trivial,trivial,by simp[Tr.h],by simp[Tr.h]⟩⟩,by simp[Tr.h],by simp[Tr.h],(gN _ _ _).mono (fun s hs=>by cases hs) (by omega)⟩
  rw[ir,XY,r9];simp[Tr.items,Tr.elems,Tr.h,Tr.root,one,Z.one]
 |.node r l x q,k+1,m,ho,hr,hb,hs,hn,hf,XY,hh,hg,hk=>by
  have hrt:=hr.root ho;obtain⟨tw,nw,mv,mD⟩:=hr;obtain⟨b1,b2,b3,b4⟩:=hb;have h0:¬ (lk O m r).h=0:=by rw[nw,rJ];simp only[Tr.h];omega
  simp only[Tr.root];rw[Tr.ob] at hs hh hg ⊢;rw[Tr.jI] at hn ⊢;rw[kV,if_neg h0,nw,r9];simp only[Tr.h] at hk ⊢;have kt:O.cmp e x≠0:=fun hx=>by rw[Ke Z hs hx] at hh;cases hh
  by_cases hc:O.cmp e x<0
  ·rw[if_pos hc];obtain⟨e1,e2⟩:=SW (l:=l.items) (q:=q.items) (r:=r) hc;rw[e1,e2] at hg ⊢;rw[Kx hc] at hh;have O7:gd dm (lo O e l.items++(f,e)::hi O e l.items):=Z.left _ ((x::q.elems)) (by simpa [gd,Tr.elems] using hg)
   have hn1:(f::l.refs).Nodup:=(ch (l₂:=r::q.refs).1 (by simpa using hn)).1
   obtain⟨t',h1,h2,h3,h4⟩:=QW l (k:=k) (m:=aH m r) (dp.2 ho) (mv.aH _) b1 hs.left hn1 (by simpa using hf) (by rw[ir];exact XY) hh O7 (by omega)
   have hu:iJ (f::l.refs) (30*l.h+2) (zn O) m (kV O k (aH m r) l.root f e).2:=(gN _ m r).to h4 (fun s hs=>by simpa using hs) (by omega)
   have hrefs:t'.refs=rf (lo O e l.items)++f::rf (hi O e l.items):=by simp[Tr.refs,h1.its]
   have V2:l.refs=rf (lo O e l.items)++rf (hi O e l.items):=by rw[Tr.refs];conv=>lhs;rw[← AB O e l.items];simp
   have hnd:(t'.refs++r::q.refs).Nodup:=by
    rw[hrefs];rw[V2] at hn;have:(rf (lo O e l.items)++f::(rf (hi O e l.items)++r::q.refs)).Nodup:=yZ.nodup_iff.2 (by simpa using hn)
    simpa using this
   have hni:∀ s,s∈r::q.refs->s∉f::l.refs:=fun s hs rS=>(ch (l₁:=f::l.refs) (l₂:=r::q.refs).1 (by simpa using hn)).2.2 s rS s hs rfl
   rw[h1.root];obtain⟨u,u1,u2,u3,u4,u5⟩:=yS Z (m:=(kV O k (aH m r) l.root f e).2) (xK.2 (dp.2 ho)) (r:=r) (l:=t') (q:=q)
    (v:=⟨x,t'.root,q.root,⟨(Tr.node r l x q).items.length,S (Tr.node r l x q).elems⟩,((Tr.node r l x q).h:Nat)⟩) h1.rp (Rp.frame hu (fun s hs=>hni s (by simp[hs])) mD) (by rw[hu.has];exact tw) hnd rfl rfl
    (by rw[Tr.elems,h1.its];simpa [gd,Tr.elems] using hg) h1.mw b2 (by omega) (by omega)
   refine⟨u,⟨u1.root,u1.rp,by rw[u1.its,h1.its];simp,u1.mw⟩,?_,by omega,hu.to u5 (fun s hs=>?_) (by omega)⟩
   ·rcases cx (q.h+1) t'.h with hx|hx
    ·omega
    ·have:=u4 hx (by omega);omega
   ·rw[hrefs] at hs;rw[V2] at hs ⊢;simp only[bR,b9] at hs ⊢;rcases hs with(h|h|h)|(h|h|h)|h|h<;>simp[h]
  ·rw[if_neg hc];have pS:0<O.cmp e x:=by omega
   obtain⟨e1,e2⟩:=K4 Z hs pS;rw[e1,e2] at hg ⊢;rw[JO Z hs pS] at hh;have O7:gd dm (lo O e q.items++(f,e)::hi O e q.items):=Z.right (l.elems++[x]) _ (by simpa [gd,Tr.elems] using hg)
   have uA:=fI.1 hn;have hn1:(f::q.refs).Nodup:=fI.2 ⟨fun h=>uA.1 (by simp[h]),(fI.1 (ch.1 uA.2).2.1).2⟩
   have JT:tR O q.items:=(gB.1 hs.right).2;obtain⟨t',h1,h2,h3,h4⟩:=QW q (k:=k) (m:=aH m r) (dp.2 ho) (mD.aH _) b2 JT hn1 (by simpa using hf) (by rw[ir];exact XY) hh O7 (by omega)
   have hu:iJ (f::q.refs) (30*q.h+2) (zn O) m (kV O k (aH m r) q.root f e).2:=(gN _ m r).to h4 (fun s hs=>by simpa using hs) (by omega)
   have hrefs:t'.refs=rf (lo O e q.items)++f::rf (hi O e q.items):=by simp[Tr.refs,h1.its]
   have V2:q.refs=rf (lo O e q.items)++rf (hi O e q.items):=by rw[Tr.refs];conv=>lhs;rw[← AB O e q.items];simp
   have hnd:(l.refs++r::t'.refs).Nodup:=by
    rw[hrefs];rw[V2] at hn;have:((l.refs++r::rf (lo O e q.items))++f::rf (hi O e q.items)).Nodup:=yZ.nodup_iff.2 (by simpa using hn)
    simpa using this
   have hni:∀ s,s∈l.refs++[r]->s∉f::q.refs:=fun s hs rS=>by
    rcases bR.1 rS with rfl|rS
    ·refine uA.1 ?_;rcases b9.1 hs with h|h
     ·simp[h]
     ·simp at h;simp[h]
    ·have:((l.refs++[r])++q.refs).Nodup:=by simpa using uA.2
     exact(ch.1 this).2.2 s hs s rS rfl
   rw[h1.root];obtain⟨u,u1,u2,u3,u4,u5⟩:=yS Z (m:=(kV O k (aH m r) q.root f e).2) (xK.2 (dp.2 ho)) (r:=r) (l:=l) (q:=t')
    (v:=⟨x,l.root,t'.root,⟨(Tr.node r l x q).items.length,S (Tr.node r l x q).elems⟩,((Tr.node r l x q).h:Nat)⟩) (Rp.frame hu (fun s hs=>hni s (by simp[hs])) mv) h1.rp (by rw[hu.has];exact tw) hnd rfl rfl
    (by rw[show t'.elems=t'.items.map aw from rfl,h1.its];simpa [gd,Tr.elems] using hg) b1 h1.mw (by omega) (by omega)
   refine⟨u,⟨u1.root,u1.rp,by rw[u1.its,h1.its];simp,u1.mw⟩,?_,by omega,hu.to u5 (fun s hs=>?_) (by omega)⟩
   ·rcases cx (l.h+1) t'.h with hx|hx
    ·omega
    ·have:=u4 (by omega) hx;omega
   ·rw[hrefs] at hs;rw[V2] at hs ⊢;simp only[bR,b9] at hs ⊢;rcases hs with(h|h|h)|h|h|h|h|h<;>simp[h]
end
end Gv
namespace Gv
open Rx
set_option linter.unusedSectionVars false
section
variable {E A:Type} {O:iL E A} {S:List E->A} {dm:List E->Prop} (Z:yH O S dm)
theorem Tr.z4 (r:Ref) (l:Tr E) (e:E) (q:Tr E):(Tr.node r l e q).root=r:=rfl
theorem By {n:Nat}:∀ (t:Tr E) {k:Nat} {m:Po E A},fX n m->Rp O S m t->t.h<k->Deep O k m t.root
 |t,0,m,_,_,hk=>by omega
 |.nil,k+1,m,ho,hr,hk=>.inl (by rw[hr.root ho];rfl)
 |.node r l x q,k+1,m,ho,⟨tw,nw,mv,mD⟩,hk=>by
  simp only[Tr.h] at hk;refine .inr ?_;simp only[Tr.root];rw[nw,r9];exact⟨By l ho mv (by omega),By q ho mD (by omega)⟩
theorem Rp.elem {m:Po E A}:∀ {t:Tr E},Rp O S m t->∀ p,p∈t.items->(lk O m p.1).e=p.2
 |.nil,_,p,hp=>by cases hp
 |.node r l x q,⟨h1,h2,h3,h4⟩,p,hp=>by
  rw[Tr.ob,b9,bR] at hp;rcases hp with hp|rfl|hp
  ·exact Rp.elem h3 p hp
  ·rw[h2];rfl
  ·exact Rp.elem h4 p hp
theorem aak {e:E} {l q:List (Ref×E)} {r:Ref} {x:E} (h:¬ 0<O.cmp e x):lo O e (l++(r,x)::q)=lo O e l/\hi O e (l++(r,x)::q)=hi O e l++(r,x)::q :=
 Ru _ _ _ (by grind) _
theorem Mq {n:Nat} {m:Po E A} (ho:fX n m) {t:Tr E} (h:Rp O S m t) (hr:t.root=r0):t=.nil:=by grind[afZ]
theorem acO (m:Po E A) (a b c:Ref):iJ [] 3 (zn O) m (aH (aH (aH m a) b) c):=(tK m a b).to (gN _ _ c) (fun r hr=>by simp at hr) (bc _)
include Z
theorem GS {n:Nat} {b:Ref} {e:E}:∀ (k:Nat) (l q:Tr E) {m:Po E A},fX n m->Rp O S m l->Rp O S m q->has m b=aq->(lk O m b).e=e->(l.refs++b::q.refs).Nodup->dm (l.elems++e::q.elems)->l.mw->q.mw->l.h+q.h<k ->
  tC O k m l.root b q.root/\∃ t,Is O S (link O k m l.root b q.root).2 (link O k m l.root b q.root).1 (l.items++(b,e)::q.items) t/\max l.h q.h≤t.h/\t.h≤max l.h q.h+1/\(l.h≤q.h+1->q.h≤l.h+1->t.h=max l.h q.h+1) /\
   iJ (l.refs++b::q.refs) (30*(l.h+q.h)+4) (zn O) m (link O k m l.root b q.root).2
 |0,l,q,m,_,_,_,_,_,_,_,_,_,hk=>by omega
 |k+1,l,q,m,ho,hl,hq,hb,he,lL,hg,bl,bq,hk=>by
  have k1:lk O m l.root=nd O S l:=hl.root ho;have k2:lk O m q.root=nd O S q:=hq.root ho;have hlen:=Z.len _ hg;have h1:=l.Af;have h2:=q.Af;simp only[bJ,cI,Tr.e8] at hlen;have w1:W ((q.h:Int)+1)=(q.h:Int)+1:=uv (by omega)
  have w2:W ((l.h:Int)+1)=(l.h:Int)+1:=uv (by omega)
  have ho2:fX n (aH (aH m l.root) q.root):=dp.2 (dp.2 ho);have rk:=lL;simp only[ch,fI,b9,bR,not_or] at rk;rw[tC,link];simp only[ir,k1,k2,rJ,w1,w2]
  by_cases c1:(l.h:Int)>q.h+1
  ·rw[if_pos c1,if_pos c1];cases l with
   |nil=>simp only[Tr.h] at c1;omega
   |node a ll x lr =>
    obtain⟨zW,Bj,yr,yb⟩:=hl;obtain⟨bl1,bl2,bl3,bl4⟩:=bl;simp only[Tr.h] at c1 hk;simp only[r9,Tr.z4,Tr.h];rw[Tr.jI] at lL ⊢;rw[Tr.gJ] at hg;have HS:(ll.refs++a::(lr.refs++b::q.refs)).Nodup:=by simpa using lL
    obtain⟨d,t',i1,i2,i3,i4,i5⟩:=GS k lr q (m:=aH (aH m a) q.root) (dp.2 (dp.2 ho)) ((yb.aH _).aH _) ((hq.aH _).aH _) (by simpa using hb) (by simpa using he) (fI.1 (ch.1 HS).2.1).2
     (Z.right (ll.elems++[x]) _ (by simpa using hg)) bl2 bq (by omega)
    have hu:=(tK (O:=O) m a q.root).to i5 (S:=lr.refs++b::q.refs) (k:=30*(lr.h+q.h)+6) (fun s hs=>by simpa using hs) (by omega)
    have uX:t'.refs=lr.refs++b::q.refs:=by rw[Tr.refs,i1.its];simp[Tr.refs]
    have vQ:t'.elems=lr.elems++e::q.elems:=by rw[Tr.elems,i1.its];simp[Tr.elems]
    have UH:∀ s,s∈ll.refs++[a]->s∉lr.refs++b::q.refs:=fun s hs rS=>by
     have:((ll.refs++[a])++(lr.refs++b::q.refs)).Nodup:=by simpa using HS
     exact(ch.1 this).2.2 s hs s rS rfl
    refine⟨d,?_⟩;rw[i1.root];obtain⟨u,u1,u2,u3,u4,u5⟩:=yS Z (m:=(link O k (aH (aH m a) q.root) lr.root b q.root).2) (xF.2 (dp.2 (dp.2 ho))) (r:=a) (l:=ll) (q:=t')
     (v:=⟨x,ll.root,t'.root,⟨(Tr.node a ll x lr).items.length,S (Tr.node a ll x lr).elems⟩,((Tr.node a ll x lr).h:Nat)⟩) (Rp.frame hu (fun s hs=>UH s (by simp[hs])) yr) i1.rp (by rw[hu.has];exact zW)
     (by rw[uX];exact HS) rfl rfl (by rw[vQ];simpa using hg) bl1 i1.mw (by omega) (by omega)
    simp only[Tr.h] at u4 u5 ⊢;refine⟨u,⟨u1.root,u1.rp,by rw[u1.its,i1.its];simp[Tr.items],u1.mw⟩,?_,?_,fun _ _=>by omega,hu.to u5 (fun s hs=>?_) (by omega)⟩
    ·rcases cx (ll.h+1) t'.h with hx|hx
     ·omega
     ·have:=u4 (by omega) hx;omega
    ·rcases cx (ll.h+1) t'.h with hx|hx
     ·omega
     ·have:=u4 (by omega) hx;omega
    ·rw[uX] at hs;simp only[b9,bR] at hs ⊢;rcases hs with(h|h|h)|h|h|h|h|h<;>simp[h]
  ·rw[if_neg c1,if_neg c1]
   by_cases c2:(q.h:Int)>l.h+1
   ·rw[if_pos c2,if_pos c2];cases q with
    |nil=>simp only[Tr.h] at c2;omega
    |node a ql x qr =>
     obtain⟨sr,FW,Xu,hq4⟩:=hq;obtain⟨bq1,bq2,bq3,bq4⟩:=bq;simp only[Tr.h] at c2 hk;simp only[r9,Tr.z4,Tr.h];rw[Tr.jI] at lL ⊢;rw[Tr.gJ] at hg;have HS:((l.refs++b::ql.refs)++a::qr.refs).Nodup:=by simpa using lL
     obtain⟨d,t',i1,i2,i3,i4,i5⟩:=GS k l ql (m:=aH (aH m l.root) a) (dp.2 (dp.2 ho)) ((hl.aH _).aH _) ((Xu.aH _).aH _) (by simpa using hb) (by simpa using he) (ch.1 HS).1
      (Z.left _ (x::qr.elems) (by simpa using hg)) bl bq1 (by omega)
     have hu:=(tK (O:=O) m l.root a).to i5 (S:=l.refs++b::ql.refs) (k:=30*(l.h+ql.h)+6) (fun s hs=>by simpa using hs) (by omega)
     have uX:t'.refs=l.refs++b::ql.refs:=by rw[Tr.refs,i1.its];simp[Tr.refs]
     have vQ:t'.elems=l.elems++e::ql.elems:=by rw[Tr.elems,i1.its];simp[Tr.elems]
     have UH:∀ s,s∈a::qr.refs->s∉l.refs++b::ql.refs:=fun s hs rS=>(ch.1 HS).2.2 s rS s hs rfl
     refine⟨d,?_⟩;rw[i1.root];obtain⟨u,u1,u2,u3,u4,u5⟩:=yS Z (m:=(link O k (aH (aH m l.root) a) l.root b ql.root).2) (xF.2 (dp.2 (dp.2 ho))) (r:=a) (l:=t') (q:=qr)
      (v:=⟨x,t'.root,qr.root,⟨(Tr.node a ql x qr).items.length,S (Tr.node a ql x qr).elems⟩,((Tr.node a ql x qr).h:Nat)⟩) i1.rp (Rp.frame hu (fun s hs=>UH s (by simp[hs])) hq4) (by rw[hu.has];exact sr)
      (by rw[uX];exact HS) rfl rfl (by rw[vQ];simpa using hg) i1.mw bq2 (by omega) (by omega)
     simp only[Tr.h] at u4 u5 ⊢;refine⟨u,⟨u1.root,u1.rp,by rw[u1.its,i1.its];simp[Tr.items],u1.mw⟩,?_,?_,fun _ _=>by omega,hu.to u5 (fun s hs=>?_) (by omega)⟩
     ·rcases cx (qr.h+1) t'.h with hx|hx
      ·omega
      ·have:=u4 hx (by omega);omega
     ·rcases cx (qr.h+1) t'.h with hx|hx
      ·omega
      ·have:=u4 hx (by omega);omega
     ·rw[uX] at hs;simp only[b9,bR] at hs ⊢;rcases hs with(h|h|h)|(h|h|h)|h|h<;>simp[h]
   ·rw[if_neg c2,if_neg c2];refine⟨trivial,?_⟩;obtain⟨s1,s2⟩:=QL Z (m:=aH (aH (aH m l.root) q.root) b) (r:=b) (l:=l) (q:=q) (v:=⟨(lk O m b).e,l.root,q.root,(lk O m b).all,(lk O m b).h⟩) (dp.2 ho2) (((hl.aH _).aH _).aH _) (((hq.aH _).aH _).aH _) (by simpa using hb)
     (fun h=>rk.2.2 b h b (dN rfl) rfl) (fun h=>rk.2.1.1 h) rfl rfl (by simpa [he] using hg)
    simp only[he] at s1 s2 ⊢;refine⟨.node b l e q,⟨rfl,s1,rfl,⟨bl,bq,by omega,by omega⟩⟩,?_,?_,?_,(acO m l.root q.root b).to s2 (fun s hs=>by simp at hs;subst hs;simp) (by omega)⟩
    ·simp only[Tr.h];omega
    ·simp only[Tr.h];omega
    ·intro _ _;simp only[Tr.h];omega
theorem Uu {n:Nat}:∀ (t:Tr E) {k:Nat} {m:Po E A},fX n m->Rp O S m t->t.mw->t.refs.Nodup->dm t.elems->t≠.nil->t.h≤k ->
  sj O k m t.root/\∃ f x tl t',t.items=(f,x)::tl/\Is O S (iH O k m t.root).2.2 (iH O k m t.root).1 tl t'/\(iH O k m t.root).2.1=f/\t.h≤t'.h+1/\t'.h≤t.h/\iJ (rf tl) (30*t.h) (zn O) m (iH O k m t.root).2.2
 |.nil,k,m,_,_,_,_,_,hn,_=>absurd rfl hn
 |.node r l x q,0,m,_,_,_,_,_,_,hk=>by grind[Tr.h]
 |.node r l x q,k+1,m,ho,⟨tw,nw,mv,mD⟩,⟨b1,b2,b3,b4⟩,lL,hg,_,hk=>by
  simp only[Tr.h] at hk;simp only[Tr.root];rw[sj,iH,nw,r9];rw[Tr.jI] at lL;rw[Tr.gJ] at hg
  by_cases c:l.root=r0
  ·have hl:=Mq ho mv c;subst hl;exact⟨trivial,r,x,q.items,q,rfl,⟨rfl,mD.aH _,rfl,b2⟩,rfl,by grind[Tr.h],by grind[Tr.h],(gN _ _ _).mono (fun s hs=>by cases hs) (by grind[Tr.h])⟩
  ·rw[if_neg c,if_neg c];have hln:l≠.nil:=fun h=>c (by rw[h];rfl)
   obtain⟨d,f,y,tl,t',i0,i1,i2,i3,i4,i5⟩:=Uu l (k:=k) (m:=aH m r) (dp.2 ho) (mv.aH _) b1 (ch.1 lL).1 (Z.left _ _ hg) hln (by omega)
   have hu:=(gN (zn O) m r).to i5 (S:=rf tl) (k:=30*l.h+1) (fun s hs=>by grind) (by omega)
   have V2:l.refs=f::rf tl:=by grind[Tr.refs]
   have hle:l.elems=y::tl.map aw:=by grind[Tr.elems]
   rw[V2] at lL;rw[hle] at hg;have HS:(rf tl++r::q.refs).Nodup:=(fI.1 lL).2;have uX:t'.refs=rf tl:=by rw[Tr.refs,i1.its]
   have vQ:t'.elems=tl.map aw:=by rw[Tr.elems,i1.its]
   have UH:∀ s,s∈r::q.refs->s∉rf tl:=fun s hs rS=>(ch.1 HS).2.2 s rS s hs rfl
   rw[i1.root];obtain⟨u,u1,u2,u3,u4,u5⟩:=yS Z (m:=(iH O k (aH m r) l.root).2.2) (vj.2 (dp.2 ho)) (r:=r) (l:=t') (q:=q)
    (v:=⟨x,t'.root,q.root,⟨(Tr.node r l x q).items.length,S (Tr.node r l x q).elems⟩,((Tr.node r l x q).h:Nat)⟩) i1.rp (Rp.frame hu (fun s hs=>UH s (by simp[hs])) mD) (by rw[hu.has];exact tw)
    (by grind) rfl rfl (by rw[vQ];exact Z.right [y] _ hg) i1.mw b2 (by omega) (by omega)
   refine⟨d,f,y,tl++(r,x)::q.items,u,by grind[Tr.ob],⟨u1.root,u1.rp,by rw[u1.its,i1.its],u1.mw⟩,i2,?_,?_,hu.to u5 (fun s hs=>?_) (by grind[Tr.h])⟩
   ·grind[Tr.h]
   ·grind[Tr.h]
   ·rw[uX] at hs;simp only[b9,bR,dT,gC,rf] at hs ⊢;rcases hs with h|h|h|h
    ·grind
    ·grind
    ·grind
    ·exact .inr (.inr h)
theorem agQ {n K:Nat} {l q:Tr E} {m:Po E A} (ho:fX n m) (hl:Rp O S m l) (hq:Rp O S m q) (lL:(l.refs++q.refs).Nodup) (hg:dm (l.elems++q.elems)) (bl:l.mw) (bq:q.mw) (hk:l.h+q.h<K) :
  Dl O K m l.root q.root/\∃ t,Is O S (glue O K m l.root q.root).2 (glue O K m l.root q.root).1 (l.items++q.items) t/\(l.h≤q.h+1->q.h≤l.h+1->max l.h q.h≤t.h)/\t.h≤max l.h q.h+1 /\
   iJ (l.refs++q.refs) (30*(l.h+q.h+q.h)+4) (zn O) m (glue O K m l.root q.root).2:=by
 unfold Dl glue
 by_cases c:q.root=r0
 ·have hqn:=Mq ho hq c;subst hqn;exact⟨trivial,l,⟨rfl,hl,by simp[Tr.items],bl⟩,fun _ _=>by grind[Tr.h],by omega,iJ.refl _ _ _ _⟩
 ·rw[if_neg c,if_neg c];have hqn:q≠.nil:=fun h=>c (by rw[h];rfl)
  obtain⟨d,f,x,tl,t',i0,i1,i2,i3,i4,i5⟩:=Uu Z q (k:=K) (m:=m) ho hq bq (ch.1 lL).2.1 (Z.right _ _ hg) hqn (by omega)
  have hqr:q.refs=f::rf tl:=by grind[Tr.refs]
  have hqe:q.elems=x::tl.map aw:=by grind[Tr.elems]
  have hf:has m f=aq:=hq.has f (by grind)
  have XY:(lk O m f).e=x:=hq.elem (f,x) (by grind)
  rw[hqr] at lL ⊢;rw[hqe] at hg;have uX:t'.refs=rf tl:=by rw[Tr.refs,i1.its]
  have vQ:t'.elems=tl.map aw:=by rw[Tr.elems,i1.its]
  have Xv:f∉rf tl:=(fI.1 (ch.1 lL).2.1).1;have UH:∀ s,s∈l.refs->s∉rf tl:=fun s hs rS=>(ch.1 lL).2.2 s hs s (by simp[rS]) rfl
  rw[i1.root,i2];obtain⟨d2,u,u1,u2,u3,u4,u5⟩:=GS Z K l t' (m:=(iH O K m q.root).2.2) (b:=f) (e:=x) (vj.2 ho) (Rp.frame i5 UH hl) i1.rp (by rw[i5.has];exact hf) (by rw[show lk O (iH O K m q.root).2.2 f=lk O m f from i5.look f Xv];exact XY)
   (by grind) (by grind) bl i1.mw (by omega)
  refine⟨⟨d,d2⟩,u,⟨u1.root,u1.rp,by rw[u1.its,i1.its,i0],u1.mw⟩,fun h1 h2=>?_,by omega,i5.to u5 (fun s hs=>?_) (by omega)⟩
  all_goals grind
end
end Gv
namespace Gv
open Rx
set_option linter.unusedSectionVars false
section
variable {E A:Type} {O:iL E A} {S:List E->A} {dm:List E->Prop} (Z:yH O S dm)
theorem vg (e:E) (l:List (Ref×E)):au aB (lo O e l)++au aB (hi O e l)=au aB l:=by grind[AB]
include Z
theorem Ia {n:Nat} {e:E}:∀ (t:Tr E) {k:Nat} {m:Po E A},fX n m->Rp O S m t->t.mw->tR O t.items->t.refs.Nodup->(∀ x,tS O e t.items=aa x->gd dm (lo O e t.items++(x.1,e)::(hi O e t.items).tail))->t.h<k ->
  match tS O e t.items with
  |none=>(replace O k m t.root e).1=ao/\iJ [] (2*t.h+1) (zn O) m (replace O k m t.root e).2
  |some x=>(replace O k m t.root e).1=aq/\∃ t',Is O S (replace O k m t.root e).2 t.root (lo O e t.items++(x.1,e)::(hi O e t.items).tail) t'/\t'.h=t.h/\iJ t.refs (6*t.h+1) (zn O) m (replace O k m t.root e).2
 |t,0,m,_,_,_,_,_,_,hk=>by omega
 |.nil,k+1,m,ho,hr,hb,hs,hn,hg,hk=>by
  have h0:(lk O m (Tr.nil (E:=E)).root).h=0:=by rw[(show Rp O S m .nil from trivial).root ho];rfl
  rw[replace,if_pos h0];exact⟨rfl,(gN _ _ _).mono (fun s hs=>hs) (by omega)⟩
 |.node r l x q,k+1,m,ho,⟨tw,nw,mv,mD⟩,⟨b1,b2,b3,b4⟩,hs,hn,hg,hk=>by
  have h0:¬ (lk O m r).h=0:=by grind[rJ,Tr.h]
  simp only[Tr.z4];rw[Tr.ob] at hs hg ⊢;rw[Tr.jI] at hn ⊢;rw[replace,if_neg h0,nw,r9];simp only[Tr.h] at hk ⊢;have rk:=hn;simp only[ch,fI,b9,bR,not_or] at rk
  by_cases hc:O.cmp e x<0
  ·rw[if_pos hc];obtain⟨e1,e2⟩:=SW (l:=l.items) (q:=q.items) (r:=r) hc;rw[e1,e2,Kx hc] at hg;rw[e1,e2,Kx hc];have ih:=Ia l (k:=k) (m:=aH m r) (dp.2 ho) (mv.aH _) b1 hs.left (ch.1 hn).1 (fun y hy=>Z.left _ (x::q.elems) (by
    have:=hg y hy;rw[(tJ hy).1] at this
    simp_all[gd,Tr.elems])) (by omega)
   cases hh:tS O e l.items with
   |none =>
    rw[hh] at ih;obtain⟨i1,i2⟩:=ih;rw[if_neg (by grind)]
    exact⟨i1,(gN _ m r).to i2 (fun s hs=>by simp at hs) (by omega)⟩
   |some y =>
    rw[hh] at ih;obtain⟨i1,t',i2,i3,i4⟩:=ih;rw[if_pos i1];refine⟨rfl,?_⟩;have hgy:=hg y hh;have hy:=(tJ hh).1;have hu:=(gN (zn O) m r).to i4 (S:=l.refs) (k:=6*l.h+2) (fun s hs=>by grind) (by omega)
    have uX:t'.refs=l.refs:=by rw[Tr.refs,i2.its,Tr.refs,← vg e l.items,hy];simp
    have vQ:t'.elems=(lo O e l.items).map aw++e::((hi O e l.items).tail).map aw:=by rw[Tr.elems,i2.its];simp
    have Za:t'.root=l.root:=i2.root.symm;obtain⟨p1,p2⟩:=Eo Z (m:=(replace O k (aH m r) l.root e).2) (rN.2 (dp.2 ho)) (r:=r) (l:=t') (q:=q) (v:=⟨x,l.root,q.root,⟨(Tr.node r l x q).items.length,S (Tr.node r l x q).elems⟩,((Tr.node r l x q).h:Nat)⟩) i2.rp
     (Rp.frame hu (fun s hs rS=>rk.2.2 s rS s (eY hs) rfl) mD) (by rw[hu.has];exact tw) (by grind) (fun h=>rk.2.1.1 h) Za.symm rfl
     (by rw[vQ];rw[hy] at hgy;simpa [gd,Tr.elems] using hgy)
    refine⟨.node r t' x q,⟨rfl,p1,?_,⟨i2.mw,b2,by omega,by omega⟩⟩,by grind[Tr.h],hu.to p2 (fun s hs=>by grind) (by omega)⟩
    rw[Tr.ob,i2.its,hy];simp
  ·rw[if_neg hc]
   by_cases pS:0<O.cmp e x
   ·rw[if_pos pS];obtain⟨e1,e2⟩:=K4 Z hs pS;rw[e1,e2,JO Z hs pS] at hg;rw[e1,e2,JO Z hs pS];have JT:tR O q.items:=(gB.1 hs.right).2;have ih:=Ia q (k:=k) (m:=aH m r) (dp.2 ho) (mD.aH _) b2 JT (fI.1 (ch.1 hn).2.1).2 (fun y hy=>Z.right (l.elems++[x]) _ (by
     have:=hg y hy
     simp_all[gd,Tr.elems])) (by omega)
    cases hh:tS O e q.items with
    |none =>
     rw[hh] at ih;obtain⟨i1,i2⟩:=ih;rw[if_neg (by grind)]
     exact⟨i1,(gN _ m r).to i2 (fun s hs=>by simp at hs) (by omega)⟩
    |some y =>
     rw[hh] at ih;obtain⟨i1,t',i2,i3,i4⟩:=ih;rw[if_pos i1];refine⟨rfl,?_⟩;have hgy:=hg y hh;have hy:=(tJ hh).1;have hu:=(gN (zn O) m r).to i4 (S:=q.refs) (k:=6*q.h+2) (fun s hs=>by grind) (by omega)
     have uX:t'.refs=q.refs:=by rw[Tr.refs,i2.its,Tr.refs,← vg e q.items,hy];simp
     have vQ:t'.elems=(lo O e q.items).map aw++e::((hi O e q.items).tail).map aw:=by rw[Tr.elems,i2.its];simp
     have Za:t'.root=q.root:=i2.root.symm;obtain⟨p1,p2⟩:=Eo Z (m:=(replace O k (aH m r) q.root e).2) (rN.2 (dp.2 ho)) (r:=r) (l:=l) (q:=t') (v:=⟨x,l.root,q.root,⟨(Tr.node r l x q).items.length,S (Tr.node r l x q).elems⟩,((Tr.node r l x q).h:Nat)⟩)
      (Rp.frame hu (fun s hs rS=>rk.2.2 s hs s (eY rS) rfl) mv) i2.rp (by rw[hu.has];exact tw) (fun h=>rk.2.2 r h r (dN rfl) rfl) (by grind) rfl Za.symm
      (by rw[vQ];simpa [gd,Tr.elems] using hgy)
     refine⟨.node r l x t',⟨rfl,p1,?_,⟨b1,i2.mw,by omega,by omega⟩⟩,by grind[Tr.h],hu.to p2 (fun s hs=>by grind) (by omega)⟩
     rw[Tr.ob,i2.its];simp
   ·rw[if_neg pS];have R6:O.cmp e x=0:=by omega
    obtain⟨e1,e2⟩:=ZQ Z hs R6;rw[e1,e2,Ke Z hs R6] at hg;rw[e1,e2,Ke Z hs R6];have hgy:=hg _ rfl;obtain⟨p1,p2⟩:=Eo Z (m:=aH m r) (dp.2 ho) (r:=r) (l:=l) (q:=q) (v:=⟨e,l.root,q.root,⟨(Tr.node r l x q).items.length,S (Tr.node r l x q).elems⟩,((Tr.node r l x q).h:Nat)⟩)
     (mv.aH _) (mD.aH _) (by simp[*]) (fun h=>rk.2.2 r h r (dN rfl) rfl) (fun h=>rk.2.1.1 h) rfl rfl (by simp_all[gd,Tr.elems])
    exact⟨by simp,.node r l e q,⟨rfl,p1,rfl,⟨b1,b2,b3,b4⟩⟩,by rfl,(gN _ m r).to p2 (fun s hs=>by grind) (by omega)⟩
theorem Ls {n K:Nat} {e:E}:∀ (t:Tr E) {k:Nat} {m:Po E A},fX n m->Rp O S m t->t.mw->tR O t.items->t.refs.Nodup->gd dm (lo O e t.items++(hi O e t.items).tail)->t.h<k->2*t.h<K ->
  qk O K k m t.root e/\match tS O e t.items with
  |none=>(pick O K k m t.root e).2.1=r0/\(pick O K k m t.root e).1=t.root/\iJ [] (2*t.h+1) (zn O) m (pick O K k m t.root e).2.2
  |some x=>(pick O K k m t.root e).2.1=x.1/\∃ t',Is O S (pick O K k m t.root e).2.2 (pick O K k m t.root e).1 (lo O e t.items++(hi O e t.items).tail) t'/\t.h≤t'.h+1/\t'.h≤t.h /\
   iJ (rf (lo O e t.items++(hi O e t.items).tail)) (120*t.h+4) (zn O) m (pick O K k m t.root e).2.2
 |t,0,m,_,_,_,_,_,_,hk,_=>by omega
 |.nil,k+1,m,ho,hr,hb,hs,hn,hg,hk,hK=>by
  have h0:(lk O m (Tr.nil (E:=E)).root).h=0:=by rw[(show Rp O S m .nil from trivial).root ho];rfl
  rw[qk,pick,if_pos h0,if_pos h0];exact⟨trivial,rfl,rfl,(gN _ _ _).mono (fun s hs=>hs) (by omega)⟩
 |.node r l x q,k+1,m,ho,⟨tw,nw,mv,mD⟩,⟨b1,b2,b3,b4⟩,hs,hn,hg,hk,hK=>by
  have h0:¬ (lk O m r).h=0:=by grind[rJ,Tr.h]
  simp only[Tr.z4];rw[Tr.ob] at hs hg ⊢;rw[Tr.jI] at hn;rw[qk,pick,if_neg h0,if_neg h0,nw,r9];simp only[Tr.h] at hk hK ⊢;have rk:=hn;simp only[ch,fI,b9,bR,not_or] at rk
  by_cases hc:O.cmp e x<0
  ·rw[if_pos hc,if_pos hc];obtain⟨e1,e2⟩:=SW (l:=l.items) (q:=q.items) (r:=r) hc;rw[e1,e2] at hg;rw[e1,e2,Kx hc];cases hh:tS O e l.items with
   |none =>
    have Kf:gd dm (lo O e l.items++(hi O e l.items).tail):=by
     cases Kv:hi O e l.items with
     |nil =>
      rw[Kv] at hg;exact Z.left _ (q.elems) (by simp_all[gd,Tr.elems])
     |cons y tl =>
      rw[Kv] at hg;exact Z.left _ (x::q.elems) (by simp_all[gd,Tr.elems])
    have ih:=Ls (K:=K) l (k:=k) (m:=aH m r) (dp.2 ho) (mv.aH _) b1 hs.left (ch.1 hn).1 Kf (by omega) (by omega)
    rw[hh] at ih;obtain⟨d,i1,i2,i3⟩:=ih;rw[if_pos i1];exact⟨d,i1,rfl,(gN _ m r).to i3 (fun s hs=>by simp at hs) (by omega)⟩
   |some y =>
    have hy:=(tJ hh).1;rw[hy] at hg;have ih:=Ls (K:=K) l (k:=k) (m:=aH m r) (dp.2 ho) (mv.aH _) b1 hs.left (ch.1 hn).1 (Z.left _ (x::q.elems) (by simpa [gd,Tr.elems] using hg)) (by omega) (by omega)
    rw[hh] at ih;obtain⟨d,i1,t',i2,i3,i4,i5⟩:=ih;have hyr:y.1∈l.refs:=o_.2 ⟨y,(tJ hh).2.2,rfl⟩;have hyn:y.1≠r0:=fun Df=>by
     have:=mv.has _ hyr;rw[Df,ho.z0] at this;cases this
    rw[if_neg (by grind)]
    have m_:∀ s,s∈rf (lo O e l.items++(hi O e l.items).tail)->s∈l.refs:=fun s hs=>by
     rw[Tr.refs,← vg e l.items,hy]
     grind
    have hu:=(gN (zn O) m r).to i5 (S:=rf (lo O e l.items++(hi O e l.items).tail)) (k:=120*l.h+5) (fun s hs=>by grind) (by omega)
    have uX:t'.refs=rf (lo O e l.items++(hi O e l.items).tail):=by rw[Tr.refs,i2.its]
    have vQ:t'.elems=(lo O e l.items++(hi O e l.items).tail).map aw:=by rw[Tr.elems,i2.its]
    have F0:(rf (lo O e l.items++(hi O e l.items).tail)).Sublist l.refs:=by
     rw[Tr.refs,← vg e l.items]
     conv=>rhs;rw[hy]
     simp
    rw[i2.root];obtain⟨u,u1,u2,u3,u4,u5⟩:=yS Z (m:=(pick O K k (aH m r) l.root e).2.2) (xv.2 (dp.2 ho)) (r:=r) (l:=t') (q:=q)
     (v:=⟨x,t'.root,q.root,⟨(Tr.node r l x q).items.length,S (Tr.node r l x q).elems⟩,((Tr.node r l x q).h:Nat)⟩) i2.rp (Rp.frame hu (fun s hs rS=>rk.2.2 s (m_ s rS) s (eY hs) rfl) mD)
     (by rw[hu.has];exact tw) (by grind) rfl rfl (by rw[vQ];simpa [gd,Tr.elems] using hg) i2.mw b2 (by omega) (by omega)
    refine⟨d,i1,u,⟨u1.root,u1.rp,by rw[u1.its,i2.its,hy];simp,u1.mw⟩,?_,?_,hu.to u5 (fun s hs=>?_) (by omega)⟩
    ·omega
    ·omega
    ·rw[uX] at hs;simp only[rf,dT,b9,gC,bR,mo,List.tail_cons,Tr.refs] at hs ⊢
     grind
  ·rw[if_neg hc,if_neg hc]
   by_cases pS:0<O.cmp e x
   ·rw[if_pos pS,if_pos pS];obtain⟨e1,e2⟩:=K4 Z hs pS;rw[e1,e2] at hg;rw[e1,e2,JO Z hs pS];have JT:tR O q.items:=(gB.1 hs.right).2;have hgq:gd dm (lo O e q.items++(hi O e q.items).tail):=Z.right (l.elems++[x]) _ (by simp_all[gd,Tr.elems])
    have ih:=Ls (K:=K) q (k:=k) (m:=aH m r) (dp.2 ho) (mD.aH _) b2 JT (fI.1 (ch.1 hn).2.1).2 hgq (by omega) (by omega)
    cases hh:tS O e q.items with
    |none =>
     rw[hh] at ih;obtain⟨d,i1,i2,i3⟩:=ih;rw[if_pos i1];exact⟨d,i1,rfl,(gN _ m r).to i3 (fun s hs=>by simp at hs) (by omega)⟩
    |some y =>
     have hy:=(tJ hh).1;rw[hh] at ih;obtain⟨d,i1,t',i2,i3,i4,i5⟩:=ih;have hyr:y.1∈q.refs:=o_.2 ⟨y,(tJ hh).2.2,rfl⟩;have hyn:y.1≠r0:=fun Df=>by
      have:=mD.has _ hyr;rw[Df,ho.z0] at this;cases this
     rw[if_neg (by grind)]
     have F0:(rf (lo O e q.items++(hi O e q.items).tail)).Sublist q.refs:=by
      rw[Tr.refs,← vg e q.items]
      conv=>rhs;rw[hy]
      simp
     have hu:=(gN (zn O) m r).to i5 (S:=rf (lo O e q.items++(hi O e q.items).tail)) (k:=120*q.h+5) (fun s hs=>by grind) (by omega)
     have uX:t'.refs=rf (lo O e q.items++(hi O e q.items).tail):=by rw[Tr.refs,i2.its]
     have vQ:t'.elems=(lo O e q.items++(hi O e q.items).tail).map aw:=by rw[Tr.elems,i2.its]
     rw[i2.root];obtain⟨u,u1,u2,u3,u4,u5⟩:=yS Z (m:=(pick O K k (aH m r) q.root e).2.2) (xv.2 (dp.2 ho)) (r:=r) (l:=l) (q:=t')
      (v:=⟨x,l.root,t'.root,⟨(Tr.node r l x q).items.length,S (Tr.node r l x q).elems⟩,((Tr.node r l x q).h:Nat)⟩) (Rp.frame hu (fun s hs rS=>rk.2.2 s hs s (eY (F0.subset rS)) rfl) mv) i2.rp
      (by rw[hu.has];exact tw) (by grind) rfl rfl (by rw[vQ];simpa [gd,Tr.elems] using hg) b1 i2.mw (by omega) (by omega)
     refine⟨d,i1,u,⟨u1.root,u1.rp,by rw[u1.its,i2.its];simp,u1.mw⟩,?_,?_,hu.to u5 (fun s hs=>?_) (by omega)⟩
     ·omega
     ·omega
     ·rw[uX] at hs;simp only[rf,dT,b9,gC,bR,Tr.refs] at hs ⊢
      grind
   ·rw[if_neg pS,if_neg pS];have R6:O.cmp e x=0:=by omega
    obtain⟨e1,e2⟩:=ZQ Z hs R6;rw[e1,e2] at hg;rw[e1,e2,Ke Z hs R6];obtain⟨d,u,u1,u2,u3,u4⟩:=agQ Z (K:=K) (m:=aH m r) (dp.2 ho) (mv.aH _) (mD.aH _) (acD (Wf (List.sublist_cons_self r _) _) hn) (by simp_all[gd,Tr.elems]) b1 b2 (by omega)
    refine⟨d,by simp,u,u1,by omega,by omega,(gN _ m r).to u4 (fun s hs=>?_) (by omega)⟩
    simp_all[Tr.refs]
end
end Gv
namespace Gv
open Rx
section
variable {E A:Type} (O:iL E A)
def vh:Nat->Po E A->Node E A->Int->Int->Prop
 |0,_,_,_,_=>False
 |k+1,m,n,from_,to =>
  ¬ mx from_ 0≥mn to n.all.n->¬ (mx from_ 0=0/\mn to n.all.n=n.all.n) ->
   vh k (aH m n.l) (lk O m n.l) (mx from_ 0) (mn to n.all.n) /\
   (¬ mn to n.all.n≤W ((lk O m n.l).all.n+1) ->
    vh k (aH (fW O k (aH m n.l) (lk O m n.l) (mx from_ 0) (mn to n.all.n)).2 n.r) (lk O (fW O k (aH m n.l) (lk O m n.l) (mx from_ 0) (mn to n.all.n)).2 n.r)
     (W (W (mx from_ 0-(lk O m n.l).all.n)-1)) (W (W (mn to n.all.n-(lk O m n.l).all.n)-1)))
def tV:Nat->Po E A->Node E A->E->Prop
 |0,_,_,_=>False
 |k+1,m,n,e=>n.h>0->O.cmp e n.e≠0->(O.cmp e n.e<0->tV k (aH m n.l) (lk O m n.l) e)/\(¬ O.cmp e n.e<0->tV k (aH m n.r) (lk O m n.r) e)
def tx:Nat->Po E A->Node E A->E->Int->Prop
 |0,_,_,_,_=>False
 |k+1,m,n,e,c=>n.h>0->(O.cmp e n.e≤0->tx k (aH m n.l) (lk O m n.l) e c)/\(¬ O.cmp e n.e≤0->tx k (aH m n.r) (lk O m n.r) e (W (c+W (n.all.n-(lk O m n.r).all.n))))
def BD:Nat->Po E A->Node E A->Int->Prop
 |0,_,_,_=>False
 |k+1,m,n,i=>i≠(lk O m n.l).all.n->(i<(lk O m n.l).all.n->BD k (aH m n.l) (lk O m n.l) i) /\
  (¬ i<(lk O m n.l).all.n->BD k (aH (aH m n.l) n.r) (lk O (aH m n.l) n.r) (W (i-W ((lk O m n.l).all.n+1))))
theorem pW {O:iL E A}:∀ {k:Nat} {m m':Po E A} {r:Ref},Deep O k m r->(∀ s,lk O m' s=lk O m s)->jj O k m' (lk O m r)
 |0,_,_,_,h,_=>h
 |k+1,m,m',r,h,hl=>by
  rcases h with h|h
  ·exact .inl h
  ·exact .inr ⟨(KY hl).2 h.1,(KY hl).2 h.2⟩
end
end Gv
namespace Gv
open Rx
section
variable {E A:Type} (O:iL E A)
def fresh (e:E):Node E A:=⟨e,r0,r0,one O e,1⟩
def nO (K:Nat) (m:Po E A) (root:Ref) (e:E):Bool×Ref×Po E A :=
 if(replace O K m root e).1=aq then(aq,root,(replace O K m root e).2)
 else if(replace O K m root e).2.held=(replace O K m root e).2.cap then(ao,root,put (zn O) (replace O K m root e).2 (fresh O e))
 else(aq,(kV O K (put (zn O) (replace O K m root e).2 (fresh O e)) root (l_ (zn O) (replace O K m root e).2) e).1,(kV O K (put (zn O) (replace O K m root e).2 (fresh O e)) root (l_ (zn O) (replace O K m root e).2) e).2)
def Qi (K:Nat) (m:Po E A) (root:Ref) (e:E):Prop :=
 Deep O K m root/\((replace O K m root e).2.held≠(replace O K m root e).2.cap->fX 100000 (put (zn O) (replace O K m root e).2 (fresh O e))/\Deep O K (put (zn O) (replace O K m root e).2 (fresh O e)) root)
def qH (K:Nat) (m:Po E A) (root:Ref) (i:Int):(E×Bool)×Po E A :=
 if i<0∨i≥(lk O m root).all.n then((O.e0,ao),aH m root)
 else(((re O K (aH m root) (lk O m root) i).1,aq),(re O K (aH m root) (lk O m root) i).2)
def AtD (K:Nat) (m:Po E A) (root:Ref) (i:Int):Prop:=¬ i<0->¬ i≥(lk O m root).all.n->BD O K (aH m root) (lk O m root) i
def jK (K:Nat) (m:Po E A) (root:Ref) (e:E):E×Bool×Ref×Po E A :=
 ((lk O (pick O K K m root e).2.2 (pick O K K m root e).2.1).e,has (pick O K K m root e).2.2 (pick O K K m root e).2.1,(pick O K K m root e).1,drop (zn O) (pick O K K m root e).2.2 (pick O K K m root e).2.1)
end
end Gv
namespace Gv
open Rx
set_option linter.unusedSectionVars false
set_option maxHeartbeats 4000000
section
variable {E A:Type} {O:iL E A} {S:List E->A} {dm:List E->Prop} (Z:yH O S dm)
theorem JE {n:Nat}:∀ (t:Tr E) {k:Nat} {m:Po E A},fX n m->Rp O S m t->t.h<k->(cH O k m t.root).1=t.elems/\∃ kk,iJ [] kk (zn O) m (cH O k m t.root).2
 |t,0,m,_,_,hk=>by omega
 |.nil,k+1,m,ho,hr,hk=>by
  have h0:(lk O m (Tr.nil (E:=E)).root).h=0:=by rw[(show Rp O S m .nil from trivial).root ho];rfl
  rw[cH,if_pos h0];exact⟨rfl,_,gN _ _ _⟩
 |.node r l x q,k+1,m,ho,⟨tw,nw,mv,mD⟩,hk=>by
  have h0:¬ (lk O m r).h=0:=by grind[rJ,Tr.h]
  simp only[Tr.z4];simp only[Tr.h] at hk;rw[cH,if_neg h0,nw,r9];obtain⟨i1,k1,i2⟩:=JE l (k:=k) (m:=aH m r) (dp.2 ho) (mv.aH _) (by omega)
  have hu:=(gN (zn O) m r).to i2 (S:=[]) (fun s hs=>by simp at hs) (bc _)
  obtain⟨j1,k2,j2⟩:=JE q (k:=k) (m:=(cH O k (aH m r) l.root).2) (rQ.2 (dp.2 ho)) (Rp.frame hu (fun s _ hs=>by cases hs) mD) (by omega)
  exact⟨by grind[Tr.gJ],_,hu.to j2 (fun s hs=>by simp at hs) (bc _)⟩
include Z
theorem Ur {n K:Nat} {e:E}:∀ (t:Tr E) {k:Nat} {m:Po E A},fX n m->Rp O S m t->t.mw->tR O t.items->t.refs.Nodup->dm t.elems->t.h<k->2*t.items.length<K ->
  J5 O K k m t.root e/\∃ a b,Is O S (lW O K k m t.root e).2.2 (lW O K k m t.root e).1 (lo O e t.items) a/\Is O S (lW O K k m t.root e).2.2 (lW O K k m t.root e).2.1 (hi O e t.items) b /\
   ∃ kk,iJ t.refs kk (zn O) m (lW O K k m t.root e).2.2
 |t,0,m,_,_,_,_,_,_,hk,_=>by omega
 |.nil,k+1,m,ho,hr,hb,hs,hn,hg,hk,hK=>by
  have h0:(lk O m (Tr.nil (E:=E)).root).h=0:=by rw[(show Rp O S m .nil from trivial).root ho];rfl
  rw[J5,lW,if_pos h0,if_pos h0];exact⟨trivial,.nil,.nil,⟨rfl,trivial,rfl,trivial⟩,⟨rfl,trivial,rfl,trivial⟩,_,(gN _ _ _).mono (fun s hs=>by cases hs) (bc _)⟩
 |.node r l x q,k+1,m,ho,⟨tw,nw,mv,mD⟩,⟨b1,b2,b3,b4⟩,hs,hn,hg,hk,hK=>by
  have h0:¬ (lk O m r).h=0:=by grind[rJ,Tr.h]
  simp only[Tr.z4];rw[Tr.ob] at hs hK ⊢;rw[Tr.jI] at hn ⊢;rw[Tr.gJ] at hg;simp only[bJ,cI] at hK;rw[J5,lW,if_neg h0,if_neg h0,nw,r9];simp only[Tr.h] at hk ⊢;have rk:=hn;simp only[ch,fI,b9,bR,not_or] at rk;have sr:=q.Af
  by_cases hc:O.cmp x e<0
  ·rw[if_pos hc,if_pos hc];have pS:0<O.cmp e x:=(Z.swap _ _).1 hc;obtain⟨e1,e2⟩:=K4 Z hs pS;rw[e1,e2];have JT:tR O q.items:=(gB.1 hs.right).2;obtain⟨d,a,b,i1,i2,kk,i3⟩:=Ur (K:=K) q (k:=k) (m:=aH m r) (dp.2 ho) (mD.aH _) b2 JT (fI.1 (ch.1 hn).2.1).2 (Z.right (l.elems++[x]) _ (by grind)) (by omega) (by omega)
   have hu:=(gN (zn O) m r).to i3 (S:=q.refs) (fun s hs=>by grind) (bc _)
   have OX:a.refs=au aB (lo O e q.items):=by rw[Tr.refs,i1.its]
   have qf:b.refs=au aB (hi O e q.items):=by rw[Tr.refs,i2.its]
   have hq':q.refs=a.refs++b.refs:=by rw[OX,qf,vg];rfl
   have hae:q.elems=a.elems++b.elems:=by rw[Tr.elems,Tr.elems,Tr.elems,i1.its,i2.its,← dT,AB]
   have hah:=a.Af;have hal:a.items.length≤q.items.length:=by
    have:=congrArg ae (AB O e q.items);rw[bJ] at this;rw[i1.its];omega
   rw[hq'] at hn;have xU:((l.refs++r::a.refs)++b.refs).Nodup:=by grind
   rw[hae] at hg;have hg':dm (l.elems++x::a.elems):=Z.left _ b.elems (by grind)
   have hrx:(lk O (lW O K k (aH m r) q.root e).2.2 r).e=x:=by
    rw[show lk O (lW O K k (aH m r) q.root e).2.2 r=lk O m r from hu.look r (fun h=>rk.2.1.1 h),nw];rfl
   rw[i1.root];obtain⟨d2,u,u1,u2,u3,u4,u5⟩:=GS Z K l a (m:=(lW O K k (aH m r) q.root e).2.2) (b:=r) (e:=x) (Rf.2 (dp.2 ho)) (Rp.frame hu (fun s hs rS=>rk.2.2 s hs s (eY rS) rfl) mv) i1.rp
    (by rw[hu.has];exact tw) hrx (ch.1 xU).1 hg' b1 i1.mw (by omega)
   refine⟨⟨d,d2⟩,u,b,⟨u1.root,u1.rp,by rw[u1.its,i1.its],u1.mw⟩,⟨i2.root,Rp.frame u5 (fun s hs rS=>(ch.1 xU).2.2 s rS s hs rfl) i2.rp,i2.its,i2.mw⟩,_,hu.to u5 (fun s hs=>?_) (bc _)⟩
   grind
  ·rw[if_neg hc,if_neg hc];have pS:¬ 0<O.cmp e x:=fun h=>hc ((Z.swap _ _).2 h)
   obtain⟨e1,e2⟩:=aak (l:=l.items) (q:=q.items) (r:=r) pS;rw[e1,e2];obtain⟨d,a,b,i1,i2,kk,i3⟩:=Ur (K:=K) l (k:=k) (m:=aH m r) (dp.2 ho) (mv.aH _) b1 hs.left (ch.1 hn).1 (Z.left _ _ hg) (by omega) (by omega)
   have hu:=(gN (zn O) m r).to i3 (S:=l.refs) (fun s hs=>by grind) (bc _)
   have OX:a.refs=au aB (lo O e l.items):=by rw[Tr.refs,i1.its]
   have qf:b.refs=au aB (hi O e l.items):=by rw[Tr.refs,i2.its]
   have Bf:l.refs=a.refs++b.refs:=by rw[OX,qf,vg];rfl
   have hle:l.elems=a.elems++b.elems:=by rw[Tr.elems,Tr.elems,Tr.elems,i1.its,i2.its,← dT,AB]
   have hbh:=b.Af;have Bg:b.items.length≤l.items.length:=by
    have:=congrArg ae (AB O e l.items);rw[bJ] at this;rw[i2.its];omega
   rw[Bf] at hn;have xU:(a.refs++(b.refs++r::q.refs)).Nodup:=by grind
   rw[hle] at hg;have hg':dm (b.elems++x::q.elems):=Z.right a.elems _ (by grind)
   have hrx:(lk O (lW O K k (aH m r) l.root e).2.2 r).e=x:=by
    rw[show lk O (lW O K k (aH m r) l.root e).2.2 r=lk O m r from hu.look r (fun h=>rk.2.2 r h r (dN rfl) rfl),nw];rfl
   rw[i2.root];obtain⟨d2,u,u1,u2,u3,u4,u5⟩:=GS Z K b q (m:=(lW O K k (aH m r) l.root e).2.2) (b:=r) (e:=x) (Rf.2 (dp.2 ho)) i2.rp (Rp.frame hu (fun s hs rS=>rk.2.2 s rS s (eY hs) rfl) mD)
    (by rw[hu.has];exact tw) hrx (ch.1 xU).2.1 hg' i2.mw b2 (by omega)
   refine⟨⟨d,d2⟩,a,u,⟨i1.root,Rp.frame u5 (fun s hs rS=>(ch.1 xU).2.2 s hs s rS rfl) i1.rp,i1.its,i1.mw⟩,⟨u1.root,u1.rp,by rw[u1.its,i2.its],u1.mw⟩,_,hu.to u5 (fun s hs=>?_) (bc _)⟩
   grind
theorem Rh {n:Nat} {e:E}:∀ (t:Tr E) {k:Nat} {m:Po E A},fX n m->Rp O S m t->tR O t.items->t.h<k ->
  tV O k m (nd O S t) e/\(find O k m (nd O S t) e).1=(match tS O e t.items with
   |none=>(O.e0,ao)
   |some x=>(x.2,aq))/\iJ [] t.h (zn O) m (find O k m (nd O S t) e).2
 |t,0,m,_,_,_,hk=>by omega
 |.nil,k+1,m,ho,hr,hs,hk=>by
  have h0:¬ (nd O S (Tr.nil (E:=E))).h>0:=by grind[rJ,Tr.h]
  exact⟨fun h=>absurd h h0,rfl,iJ.refl _ _ _ _⟩
 |.node r l x q,k+1,m,ho,⟨tw,nw,mv,mD⟩,hs,hk=>by
  have h0:(nd O S (Tr.node r l x q)).h>0:=by grind[rJ,Tr.h]
  simp only[Tr.h] at hk ⊢;rw[Tr.ob] at hs ⊢;rw[tV,find,if_pos h0,r9];have kl:lk O m l.root=nd O S l:=mv.root ho;have kq:lk O m q.root=nd O S q:=mD.root ho;simp only[kl,kq];have il:=Rh (e:=e) l (k:=k) (m:=aH m l.root) (dp.2 ho) (mv.aH _) hs.left (by omega)
  have JT:tR O q.items:=(gB.1 hs.right).2;have iq:=Rh (e:=e) q (k:=k) (m:=aH m q.root) (dp.2 ho) (mD.aH _) JT (by omega)
  refine⟨fun _ _=>⟨fun _=>il.1,fun _=>iq.1⟩,?_⟩
  by_cases hc:O.cmp e x=0
  ·rw[if_pos hc,Ke Z hs hc]
   grind[iJ.refl]
  ·rw[if_neg hc]
   by_cases pS:O.cmp e x<0
   ·rw[if_pos pS,Kx pS];exact⟨il.2.1,(gN _ m _).to il.2.2 (fun s hs=>by simp at hs) (by omega)⟩
   ·rw[if_neg pS,JO Z hs (by omega)]
    exact⟨iq.2.1,(gN _ m _).to iq.2.2 (fun s hs=>by simp at hs) (by omega)⟩
theorem Ri {n:Nat} {e:E}:∀ (t:Tr E) {k:Nat} {m:Po E A} {c:Int},fX n m->Rp O S m t->tR O t.items->t.h<k->0≤c->c+t.items.length≤2000000 ->
  tx O k m (nd O S t) e c/\(kv O k m (nd O S t) e c).1=c+(lo O e t.items).length/\iJ [] (2*t.h) (zn O) m (kv O k m (nd O S t) e c).2
 |t,0,m,c,_,_,_,hk,_,_=>by omega
 |.nil,k+1,m,c,ho,hr,hs,hk,Df,PG=>by
  have h0:¬ (nd O S (Tr.nil (E:=E))).h>0:=by grind[rJ,Tr.h]
  rw[tx,kv,if_neg h0];exact⟨fun h=>absurd h h0,by simp[lo,Tr.items],iJ.refl _ _ _ _⟩
 |.node r l x q,k+1,m,c,ho,⟨tw,nw,mv,mD⟩,hs,hk,Df,PG=>by
  have h0:(nd O S (Tr.node r l x q)).h>0:=by grind[rJ,Tr.h]
  simp only[Tr.h] at hk ⊢;have p_:=rm (O:=O) (S:=S) Z.nil (.node r l x q);rw[Tr.ob] at hs PG ⊢;simp only[bJ,cI] at PG;rw[tx,kv,if_pos h0];have kl:lk O m l.root=nd O S l:=mv.root ho;have kq:lk O m q.root=nd O S q:=mD.root ho;have e1:(nd O S (Tr.node r l x q)).l=l.root:=rfl;have e2:(nd O S (Tr.node r l x q)).r=q.root:=rfl;have e3:(nd O S (Tr.node r l x q)).e=x:=rfl;have hv:W (c+W ((nd O S (Tr.node r l x q)).all.n-(nd O S q).all.n))=c+(l.items.length+1:Nat):=by
   rw[p_,rm Z.nil]
   grind[Tr.ob,uv]
  rw[e1,e2,e3];simp only[kl,kq];rw[hv];have JT:tR O q.items:=(gB.1 hs.right).2;have il:=Ri (e:=e) l (k:=k) (m:=aH m l.root) (c:=c) (dp.2 ho) (mv.aH _) hs.left (by omega) Df (by omega)
  have iq:=Ri (e:=e) q (k:=k) (m:=aH m q.root) (c:=c+(l.items.length+1:Nat)) (dp.2 ho) (mD.aH _) JT (by omega) (by omega) (by omega)
  refine⟨fun _=>⟨fun _=>il.1,fun _=>iq.1⟩,?_⟩
  by_cases hc:O.cmp e x≤0
  ·rw[if_pos hc,(aak (by omega)).1]
   exact⟨il.2.1,(gN _ m _).to il.2.2 (fun s hs=>by simp at hs) (by omega)⟩
  ·rw[if_neg hc,(K4 Z hs (by omega)).1]
   refine⟨?_,(gN _ m _).to iq.2.2 (fun s hs=>by simp at hs) (by omega)⟩
   grind
theorem Vz {n:Nat}:∀ (t:Tr E) {k:Nat} {m:Po E A} {i:Nat},fX n m->Rp O S m t->t.items.length≤1000000->t.h<k->i<t.items.length ->
  BD O k m (nd O S t) i/\(re O k m (nd O S t) i).1=t.elems.getD i O.e0/\iJ [] (2*t.h) (zn O) m (re O k m (nd O S t) i).2
 |t,0,m,i,_,_,_,hk,_=>by omega
 |.nil,k+1,m,i,ho,hr,hg,hk,hi=>by simp[Tr.items] at hi
 |.node r l x q,k+1,m,i,ho,⟨tw,nw,mv,mD⟩,hg,hk,hi=>by
  simp only[Tr.h] at hk ⊢;rw[Tr.ob] at hg hi;simp only[bJ,cI] at hg hi;rw[BD,re];have kl:lk O m l.root=nd O S l:=mv.root ho;have kq:lk O m q.root=nd O S q:=mD.root ho;have e1:(nd O S (Tr.node r l x q)).l=l.root:=rfl;have e2:(nd O S (Tr.node r l x q)).r=q.root:=rfl;have e3:(nd O S (Tr.node r l x q)).e=x:=rfl;have e4:(nd O S l).all.n=l.items.length:=by rw[rm Z.nil]
  rw[e1,e2,e3];simp only[ir,kl,kq,e4];have w1:W (((l.items.length:Nat):Int)+1)=(l.items.length:Int)+1:=uv (by omega)
  rw[w1,Tr.gJ];have hle:l.elems.length=l.items.length:=Tr.e8 l
  by_cases h1:(i:Int)=(l.items.length:Int)
  ·rw[if_pos h1];refine⟨fun h=>absurd h1 h,?_,(gN _ m _).mono (fun s hs=>hs) (by omega)⟩
   grind
  ·rw[if_neg h1]
   by_cases h2:(i:Int)<(l.items.length:Int)
   ·rw[if_pos h2];obtain⟨i1,i2,i3⟩:=Vz l (k:=k) (m:=aH m l.root) (i:=i) (dp.2 ho) (mv.aH _) (by omega) (by omega) (by omega)
    refine⟨fun _=>⟨fun _=>i1,fun h=>absurd h2 h⟩,?_,(gN _ m _).to i3 (fun s hs=>by simp at hs) (by omega)⟩
    grind
   ·rw[if_neg h2];have w2:W ((i:Int)-((l.items.length:Int)+1))=((i-(l.items.length+1):Nat):Int):=by grind[uv]
    rw[w2];obtain⟨i1,i2,i3⟩:=Vz q (k:=k) (m:=aH (aH m l.root) q.root) (i:=i-(l.items.length+1)) (dp.2 (dp.2 ho)) ((mD.aH _).aH _) (by omega) (by omega) (by omega)
    refine⟨fun _=>⟨fun h=>absurd h h2,fun _=>i1⟩,?_,(tK m _ _).to i3 (fun s hs=>by simp at hs) (by omega)⟩
    grind
def sub (l:List E) (a b:Nat):List E:=(l.drop a).take (b-a)
omit Z in
theorem adm (L Q:List E) (x:E) {a b:Nat} (Jd:a≤b):sub (L++x::Q) a b=sub L a b++((if a≤L.length/\L.length<b then[x] else[])++sub Q (a-(L.length+1)) (b-(L.length+1))):=by
 unfold sub;rw[List.drop_append,List.take_append]
 congr 1
 rw[List.length_drop]
 by_cases h1:a≤L.length
 ·rw[show a-L.length=0 by omega,sf,show a-(L.length+1)=0 by omega,sf]
  by_cases h2:L.length<b
  ·rw[if_pos ⟨h1,h2⟩,show b-a-(L.length-a)=(b-(L.length+1))+1 by omega,List.take_succ_cons]
   rfl
  ·rw[if_neg (by omega),show b-a-(L.length-a)=0 by omega,show b-(L.length+1)-0=0 by omega]
   simp
 ·rw[if_neg (by omega),show a-L.length=(a-(L.length+1))+1 by omega,List.drop_succ_cons,pb]
  grind
theorem adg {l:List E} (a b:Nat) (h:dm l):dm (sub l a b):=by
 unfold sub;have h1:dm (l.drop a):=Z.right (l.take a) _ (by simp[*])
 exact Z.left _ ((l.drop a).drop (b-a)) (by grind[List.take_append_drop])
omit Z in
theorem M9 {l:List E} {a b:Nat} (h:b≤a∨l.length≤a):sub l a b=[]:=by
 unfold sub;rcases h with h|h
 all_goals simp[*]
omit Z in
theorem Xi (l:List E) (a b:Nat):sub l a (min b l.length)=sub l a b:=by grind[sub,List.take_of_length_le]
def cost (h s:Nat) (f u:Int):Nat:=if(max f 0≥min u s)∨(f≤0/\u≥s) then 0 else if f≤0∨u≥s then 2*h else 4*h
omit Z in
theorem QR (h s:Nat) (f u:Int):cost h s f u≤4*h/\(f≤0∨u≥s->cost h s f u≤2*h)/\((max f 0≥min u s)∨(f≤0/\u≥s)->cost h s f u=0):=by
 unfold cost
 grind
omit Z in
theorem XD {h s:Nat} {f u:Int} (h1:¬ ((max f 0≥min u s)∨(f≤0/\u≥s))):cost h s f u=if f≤0∨u≥s then 2*h else 4*h:=by simp_all[cost,if_neg]
theorem Ic {n:Nat}:∀ (t:Tr E) {k:Nat} {m:Po E A} {f u:Int},fX n m->Rp O S m t->dm t.elems->t.h<k ->
  vh O k m (nd O S t) f u/\(fW O k m (nd O S t) f u).1=⟨(sub t.elems f.toNat u.toNat).length,S (sub t.elems f.toNat u.toNat)⟩/\iJ [] (cost t.h t.elems.length f u) (zn O) m (fW O k m (nd O S t) f u).2
 |t,0,m,f,u,_,_,_,hk=>by omega
 |.nil,k+1,m,f,u,ho,hr,hg,hk=>by
  have p_:(nd O S (Tr.nil (E:=E))).all.n=0:=rfl;have hc:mx f 0≥mn u (nd O S (Tr.nil (E:=E))).all.n:=by grind[mx,mn]
  rw[vh,fW,if_pos hc];refine⟨fun h=>absurd hc h,?_,iJ.refl _ _ _ _⟩
  rw[M9 (.inr (dx _)),← Z.nil]
  rfl
 |.node r l x q,k+1,m,f,u,ho,⟨tw,nw,mv,mD⟩,hg,hk=>by
  simp only[Tr.h] at hk ⊢;have hlen:=Z.len _ hg;have p_:=rm (O:=O) (S:=S) Z.nil (.node r l x q);rw[← Tr.e8] at p_;have kl:lk O m l.root=nd O S l:=mv.root ho;have kq:lk O m q.root=nd O S q:=mD.root ho;have e1:(nd O S (Tr.node r l x q)).l=l.root:=rfl;have e2:(nd O S (Tr.node r l x q)).r=q.root:=rfl;have e3:(nd O S (Tr.node r l x q)).e=x:=rfl;have e4:(nd O S l).all.n=l.elems.length:=by rw[rm Z.nil,Tr.e8]
  rw[vh,fW,e1,e2,e3,p_];rw[Tr.gJ] at hg hlen ⊢;simp only[kl,e4,Dn,ir,kq];generalize hL:(l.elems++x::q.elems)=L at *
  have Se:L.length=l.elems.length+(q.elems.length+1):=by grind
  obtain⟨a,ha⟩:∃ a:Nat,mx f 0=a:=⟨f.toNat,by grind[mx]⟩
  have OX:a=f.toNat:=by grind[mx]
  by_cases c1:mx f 0≥mn u L.length
  ·rw[if_pos c1];refine⟨fun h=>absurd c1 h,?_,iJ.refl _ _ _ _⟩
   have:min u.toNat L.length≤a:=by grind[mn]
   rw[← Xi,← OX,M9 (.inl this),← Z.nil]
   rfl
  ·rw[if_neg c1];obtain⟨b,hb⟩:∃ b:Nat,mn u L.length=b:=⟨min u.toNat L.length,by grind[mn]⟩
   have qf:b=min u.toNat L.length:=by grind[mn]
   have m_:sub L f.toNat u.toNat=sub L a b:=by grind[Xi]
   rw[m_];rw[ha,hb] at c1 ⊢;have Jd:a<b:=by omega
   by_cases c2:(a:Int)=0/\(b:Int)=L.length
   ·rw[if_pos c2];refine⟨fun _ h=>absurd c2 h,?_,iJ.refl _ _ _ _⟩
    have:sub L a b=L:=by
     unfold sub;rw[show a=0 by omega,sf,show b-0=L.length by omega,List.take_length]
    rw[this]
   ·rw[if_neg c2];have Kf:dm l.elems:=Z.left _ (x::q.elems) (by grind)
    have hgq:dm q.elems:=Z.right (l.elems++[x]) _ (by grind)
    have ih1:=Ic l (k:=k) (m:=aH m l.root) (f:=a) (u:=b) (dp.2 ho) (mv.aH _) Kf (by omega)
    simp only[iF] at ih1;obtain⟨d1,v1,u1⟩:=ih1;have hu1:=(gN (zn O) m l.root).to u1 (S:=[]) (k:=cost l.h l.elems.length a b+1) (fun s hs=>by simp at hs) (by omega)
    have w1:W ((l.elems.length:Int)+1)=(l.elems.length:Int)+1:=uv (by omega)
    have w2:W (W ((a:Int)-(l.elems.length:Int))-1)=(a:Int)-l.elems.length-1:=by grind[uv]
    have w3:W (W ((b:Int)-(l.elems.length:Int))-1)=(b:Int)-l.elems.length-1:=by grind[uv]
    rw[w1,w2,w3,v1];have hsn:=adm l.elems q.elems x (a:=a) (b:=b) (by omega)
    rw[hL] at hsn;have hgs:=adg Z a b hg;rw[hsn] at hgs ⊢
    have adh:(if(a:Int)≤(l.elems.length:Int)/\(l.elems.length:Int)<(b:Int) then dZ O ⟨(sub l.elems a b).length,S (sub l.elems a b)⟩ (one O x) else⟨(sub l.elems a b).length,S (sub l.elems a b)⟩) =
      ⟨(sub l.elems a b++(if a≤l.elems.length/\l.elems.length<b then[x] else[])).length,S (sub l.elems a b++(if a≤l.elems.length/\l.elems.length<b then[x] else[]))⟩:=by
     by_cases c3:a≤l.elems.length/\l.elems.length<b
     ·rw[if_pos (by omega),if_pos c3]
      rw[if_pos c3] at hgs;rw[BO Z,pB Z (Z.left _ (sub q.elems (a-(l.elems.length+1)) (b-(l.elems.length+1))) (by grind))]
     grind
    rw[adh]
    by_cases c4:(b:Int)≤(l.elems.length:Int)+1
    ·rw[if_pos c4];refine⟨fun _ _=>⟨d1,fun h=>absurd c4 h⟩,?_,hu1.mono (fun s hs=>hs) ?_⟩
     all_goals grind[QR,XD,M9]
    ·rw[if_neg c4];obtain⟨d2,v2,u2⟩:=Ic q (k:=k) (m:=aH (fW O k (aH m l.root) (nd O S l) a b).2 q.root) (f:=(a:Int)-l.elems.length-1) (u:=(b:Int)-l.elems.length-1) (dp.2 (Ow.2 (dp.2 ho)))
      ((Rp.frame hu1 (fun s _ hs=>by cases hs) mD).aH _) hgq (by omega)
     refine⟨fun _ _=>⟨d1,fun _=>d2⟩,?_,(hu1.to (gN _ _ q.root) (S:=[]) (k:=cost l.h l.elems.length a b+2) (fun s hs=>by simp at hs) (by omega)).to u2 (fun s hs=>by simp at hs) ?_⟩
     ·grind[pB]
     grind[QR,XD]
end
end Gv
namespace Gv
open Rx
set_option linter.unusedSectionVars false
section
variable {E A:Type} {O:iL E A} {S:List E->A} {dm:List E->Prop} (Z:yH O S dm)
structure Asks (O:iL E A) (S:List E->A) (may:A->A->Bool) (P:Nat->Bool) (L:List E):Prop where
 at_:∀ p x q,p++x::q=L->P p.length=may (S p) (O.sum x)
 mon:∀ p l q,p++(l++q)=L->∀ i,p.length≤i->i<p.length+l.length->P i=aq->may (S p) (S l)=aq
def BG (P:Nat->Bool) (a b:Nat) (from_ r:Int):Prop :=
 (r = -1/\∀ i:Nat,a≤i->i<b->from_≤i->P i=ao)∨(∃ j:Nat,r=j/\a≤j/\j<b/\from_≤j/\P j=aq/\∀ i:Nat,a≤i->i<j->from_≤i->P i=ao)
def EK (P:Nat->Bool) (a b:Nat) (to r:Int):Prop :=
 (r = -1/\∀ i:Nat,a≤i->i<b->(i:Int)<to->P i=ao)∨(∃ j:Nat,r=j/\a≤j/\j<b/\(j:Int)<to/\P j=aq/\∀ i:Nat,j<i->i<b->(i:Int)<to->P i=ao)
include Z
theorem H6 {n:Nat} {may:A->A->Bool} {P:Nat->Bool} {L:List E} {f:Int} (hA:Asks O S may P L) (hg:dm L):∀ (t:Tr E) {k:Nat} {m:Po E A} {p s:List E},fX n m->Rp O S m t->p++(t.elems++s)=L->t.h<k ->
  BG P p.length (p.length+t.elems.length) f (first O may k m (nd O S t) ⟨p.length,S p⟩ f).1/\∃ kk,iJ [] kk (zn O) m (first O may k m (nd O S t) ⟨p.length,S p⟩ f).2
 |t,0,m,p,s,_,_,_,hk=>by omega
 |.nil,k+1,m,p,s,ho,hr,hL,hk=>by
  rw[first,if_pos (.inl (by rw[rJ];rfl))]
  exact⟨.inl ⟨rfl,fun i h1 h2=>by simp[Tr.elems,Tr.items] at h2;omega⟩,0,iJ.refl _ _ _ _⟩
 |.node r l x q,k+1,m,p,s,ho,⟨tw,nw,mv,mD⟩,hL,hk=>by
  simp only[Tr.h] at hk;have hlen:=Z.len _ hg;have p_:=rm (O:=O) (S:=S) Z.nil (.node r l x q);rw[← Tr.e8] at p_;have kl:lk O m l.root=nd O S l:=mv.root ho;have kq:lk O m q.root=nd O S q:=mD.root ho;have e1:(nd O S (Tr.node r l x q)).l=l.root:=rfl;have e2:(nd O S (Tr.node r l x q)).r=q.root:=rfl;have e3:(nd O S (Tr.node r l x q)).e=x:=rfl;have e5:¬ (nd O S (Tr.node r l x q)).h=0:=by rw[rJ];simp only[Tr.h];omega
  have Se:=congrArg ae hL;rw[Tr.gJ] at hL;have U5:p++(l.elems++(x::q.elems++s))=L:=by simpa using hL
  have Ox:(p++l.elems)++x::(q.elems++s)=L:=by simpa using hL
  have Jv:(p++l.elems++[x])++(q.elems++s)=L:=by simpa using hL
  have ac9:=hA.mon p (Tr.node r l x q).elems s (by rw[Tr.gJ];exact hL)
  rw[first,e1,e2,e3,p_]
  simp only[kl,kU,ir,kq,rm Z.nil,← Tr.e8];simp only[bJ] at Se;have F0:(Tr.node r l x q).elems.length=l.elems.length+(q.elems.length+1):=by rw[Tr.gJ];simp
  have w1:W ((p.length:Int)+((Tr.node r l x q).elems.length:Int))=(p.length:Int)+(Tr.node r l x q).elems.length:=uv (by omega)
  rw[w1]
  by_cases c1:(nd O S (Tr.node r l x q)).h=0∨(p.length:Int)+(Tr.node r l x q).elems.length≤f
  ·rw[if_pos c1];refine⟨.inl ⟨rfl,fun i h1 h2 h3=>?_⟩,0,iJ.refl _ _ _ _⟩
   rcases c1 with c1|c1
   ·exact absurd c1 e5
   ·omega
  ·rw[if_neg c1]
   by_cases c2:(p.length:Int)≥f/\may (S p) (S (Tr.node r l x q).elems)=ao
   ·rw[if_pos c2];refine⟨.inl ⟨rfl,fun i h1 h2 h3=>?_⟩,0,iJ.refl _ _ _ _⟩
    cases hP:P i with
    |false=>rfl
    |true=>have:=ac9 i h1 h2 hP;rw[c2.2] at this;cases this
   ·rw[if_neg c2];obtain⟨i1,kk,i2⟩:=H6 hA hg l (k:=k) (m:=aH m l.root) (p:=p) (s:=x::q.elems++s) (dp.2 ho) (mv.aH _) U5 (by omega)
    have hu:=(gN (zn O) m l.root).to i2 (S:=[]) (fun s hs=>by simp at hs) (bc _)
    by_cases c3:(first O may k (aH m l.root) (nd O S l) ⟨p.length,S p⟩ f).1≥0
    ·rw[if_pos c3];refine⟨?_,_,hu⟩;rcases i1 with⟨h1,_⟩|⟨j,h1,h2,h3,h4,h5,h6⟩
     ·omega
     ·exact .inr ⟨j,h1,h2,by omega,h4,h5,h6⟩
    ·rw[if_neg c3];have CC:∀ i:Nat,p.length≤i->i<p.length+l.elems.length->f≤i->P i=ao:=by
      rcases i1 with⟨_,h⟩|⟨j,h1,_⟩
      ·exact h
      ·omega
     have Kf:dm (p++l.elems):=Z.left _ (x::(q.elems++s)) (by rw[Ox];exact hg)
     have Us:dm ((p++l.elems)++[x]):=Z.left _ (q.elems++s) (by rw[Jv];exact hg)
     rw[pB Z Kf,BO Z,pB Z Us];have hPx:=hA.at_ (p++l.elems) x (q.elems++s) Ox;have I8:(p++l.elems).length=p.length+l.elems.length:=by simp
     by_cases c4:((p++l.elems).length:Int)≥f/\may (S (p++l.elems)) (O.sum x)=aq
     ·rw[if_pos c4];refine⟨.inr ⟨(p++l.elems).length,rfl,by omega,by omega,c4.1,by rw[hPx];exact c4.2,fun i h1 h2 h3=>CC i h1 (by omega) h3⟩,_,hu⟩
     ·rw[if_neg c4];obtain⟨j1,PQ,j2⟩:=H6 hA hg q (k:=k) (m:=aH (first O may k (aH m l.root) (nd O S l) ⟨p.length,S p⟩ f).2 q.root) (p:=p++l.elems++[x]) (s:=s) (dp.2 (Nb.2 (dp.2 ho)))
       ((Rp.frame hu (fun s _ hs=>by cases hs) mD).aH _) Jv (by omega)
      refine⟨?_,_,(hu.to (gN _ _ q.root) (S:=[]) (fun s hs=>by simp at hs) (bc _)).to j2 (fun s hs=>by simp at hs) (bc _)⟩
      have AM:(p++l.elems++[x]).length=p.length+l.elems.length+1:=by simp;omega
      have VT:f≤(p++l.elems).length->P (p++l.elems).length=ao:=fun h=>by
       rw[hPx];cases hm:may (S (p++l.elems)) (O.sum x) with
       |false=>rfl
       |true=>exact absurd ⟨h,hm⟩ c4
      have Ph:∀ i:Nat,p.length≤i->i<p.length+l.elems.length+1->f≤i->P i=ao:=fun i h1 h2 h3=>by
       rcases cx i (p.length+l.elems.length) with h4|h4
       ·exact CC i h1 h4 h3
       ·have:i=(p++l.elems).length:=by omega
        rw[this];exact VT (by omega)
      rcases j1 with⟨h1,h2⟩|⟨j,h1,h2,h3,h4,h5,h6⟩
      ·refine .inl ⟨h1,fun i g1 g2 g3=>?_⟩
       rcases cx i (p.length+l.elems.length+1) with h4|h4
       ·exact Ph i g1 h4 g3
       ·exact h2 i (by rw[AM];exact h4) (by rw[AM];omega) g3
      ·rw[AM] at h2 h3 h6;refine .inr ⟨j,h1,by omega,by omega,h4,h5,fun i g1 g2 g3=>?_⟩
       rcases cx i (p.length+l.elems.length+1) with h7|h7
       ·exact Ph i g1 h7 g3
       ·exact h6 i h7 g2 g3
theorem Ln {n:Nat} {may:A->A->Bool} {P:Nat->Bool} {L:List E} {u:Int} (hA:Asks O S may P L) (hg:dm L):∀ (t:Tr E) {k:Nat} {m:Po E A} {p s:List E},fX n m->Rp O S m t->p++(t.elems++s)=L->t.h<k ->
  EK P p.length (p.length+t.elems.length) u (last O may k m (nd O S t) ⟨p.length,S p⟩ u).1/\∃ kk,iJ [] kk (zn O) m (last O may k m (nd O S t) ⟨p.length,S p⟩ u).2
 |t,0,m,p,s,_,_,_,hk=>by omega
 |.nil,k+1,m,p,s,ho,hr,hL,hk=>by
  rw[last,if_pos (.inl (by rw[rJ];rfl))]
  exact⟨.inl ⟨rfl,fun i h1 h2=>by simp[Tr.elems,Tr.items] at h2;omega⟩,0,iJ.refl _ _ _ _⟩
 |.node r l x q,k+1,m,p,s,ho,⟨tw,nw,mv,mD⟩,hL,hk=>by
  simp only[Tr.h] at hk;have hlen:=Z.len _ hg;have p_:=rm (O:=O) (S:=S) Z.nil (.node r l x q);rw[← Tr.e8] at p_;have kl:lk O m l.root=nd O S l:=mv.root ho;have kq:lk O m q.root=nd O S q:=mD.root ho;have e1:(nd O S (Tr.node r l x q)).l=l.root:=rfl;have e2:(nd O S (Tr.node r l x q)).r=q.root:=rfl;have e3:(nd O S (Tr.node r l x q)).e=x:=rfl;have e5:¬ (nd O S (Tr.node r l x q)).h=0:=by rw[rJ];simp only[Tr.h];omega
  have Se:=congrArg ae hL;rw[Tr.gJ] at hL;have U5:p++(l.elems++(x::q.elems++s))=L:=by simpa using hL
  have Ox:(p++l.elems)++x::(q.elems++s)=L:=by simpa using hL
  have Jv:(p++l.elems++[x])++(q.elems++s)=L:=by simpa using hL
  have ac9:=hA.mon p (Tr.node r l x q).elems s (by rw[Tr.gJ];exact hL)
  rw[last,e1,e2,e3,p_];simp only[kl,me,ir,kq,rm Z.nil,← Tr.e8];simp only[bJ] at Se;have F0:(Tr.node r l x q).elems.length=l.elems.length+(q.elems.length+1):=by rw[Tr.gJ];simp
  have w1:W ((p.length:Int)+((Tr.node r l x q).elems.length:Int))=(p.length:Int)+(Tr.node r l x q).elems.length:=uv (by omega)
  rw[w1]
  by_cases c1:(nd O S (Tr.node r l x q)).h=0∨(p.length:Int)≥u
  ·rw[if_pos c1];refine⟨.inl ⟨rfl,fun i h1 h2 h3=>?_⟩,0,iJ.refl _ _ _ _⟩
   rcases c1 with c1|c1
   ·exact absurd c1 e5
   ·omega
  ·rw[if_neg c1]
   by_cases c2:(p.length:Int)+(Tr.node r l x q).elems.length≤u/\may (S p) (S (Tr.node r l x q).elems)=ao
   ·rw[if_pos c2];refine⟨.inl ⟨rfl,fun i h1 h2 h3=>?_⟩,0,iJ.refl _ _ _ _⟩
    cases hP:P i with
    |false=>rfl
    |true=>have:=ac9 i h1 h2 hP;rw[c2.2] at this;cases this
   ·rw[if_neg c2];have Kf:dm (p++l.elems):=Z.left _ (x::(q.elems++s)) (by rw[Ox];exact hg)
    have Us:dm ((p++l.elems)++[x]):=Z.left _ (q.elems++s) (by rw[Jv];exact hg)
    rw[pB Z Kf,BO Z,pB Z Us];obtain⟨i1,kk,i2⟩:=Ln hA hg q (k:=k) (m:=aH (aH m l.root) q.root) (p:=p++l.elems++[x]) (s:=s) (dp.2 (dp.2 ho)) ((mD.aH _).aH _) Jv (by omega)
    have hu:=(tK (O:=O) m l.root q.root).to i2 (S:=[]) (fun s hs=>by simp at hs) (bc _)
    have AM:(p++l.elems++[x]).length=p.length+l.elems.length+1:=by simp;omega
    have I8:(p++l.elems).length=p.length+l.elems.length:=by simp
    have hPx:=hA.at_ (p++l.elems) x (q.elems++s) Ox
    by_cases c3:(last O may k (aH (aH m l.root) q.root) (nd O S q) ⟨(p++l.elems++[x]).length,S (p++l.elems++[x])⟩ u).1≥0
    ·rw[if_pos c3];refine⟨?_,_,hu⟩;rcases i1 with⟨h1,_⟩|⟨j,h1,h2,h3,h4,h5,h6⟩
     ·omega
     ·rw[AM] at h2 h3;exact .inr ⟨j,h1,by omega,by omega,h4,h5,fun i g1 g2 g3=>h6 i g1 (by rw[AM];omega) g3⟩
    ·rw[if_neg c3];have CC:∀ i:Nat,p.length+l.elems.length+1≤i->i<p.length+(Tr.node r l x q).elems.length->(i:Int)<u->P i=ao:=by
      rcases i1 with⟨_,h⟩|⟨j,h1,_⟩
      ·exact fun i g1 g2 g3=>h i (by rw[AM];exact g1) (by rw[AM];omega) g3
      ·omega
     by_cases c4:((p++l.elems).length:Int)<u/\may (S (p++l.elems)) (O.sum x)=aq
     ·rw[if_pos c4];refine⟨.inr ⟨(p++l.elems).length,rfl,by omega,by omega,c4.1,by rw[hPx];exact c4.2,fun i h1 h2 h3=>CC i (by omega) h2 h3⟩,_,hu⟩
     ·rw[if_neg c4];obtain⟨j1,PQ,j2⟩:=Ln hA hg l (k:=k) (m:=(last O may k (aH (aH m l.root) q.root) (nd O S q) ⟨(p++l.elems++[x]).length,S (p++l.elems++[x])⟩ u).2) (p:=p) (s:=x::q.elems++s) (Qz.2 (dp.2 (dp.2 ho)))
       (Rp.frame hu (fun s _ hs=>by cases hs) mv) U5 (by omega)
      refine⟨?_,_,hu.to j2 (S:=[]) (fun s hs=>by simp at hs) (bc _)⟩
      have VT:((p++l.elems).length:Int)<u->P (p++l.elems).length=ao:=fun h=>by
       rw[hPx];cases hm:may (S (p++l.elems)) (O.sum x) with
       |false=>rfl
       |true=>exact absurd ⟨h,hm⟩ c4
      have Ph:∀ i:Nat,p.length+l.elems.length≤i->i<p.length+(Tr.node r l x q).elems.length->(i:Int)<u->P i=ao:=fun i h1 h2 h3=>by
       rcases cx (p.length+l.elems.length) i with h4|h4
       ·exact CC i h4 h2 h3
       ·have:i=(p++l.elems).length:=by omega
        rw[this];exact VT (by omega)
      rcases j1 with⟨h1,h2⟩|⟨j,h1,h2,h3,h4,h5,h6⟩
      ·refine .inl ⟨h1,fun i g1 g2 g3=>?_⟩
       rcases cx i (p.length+l.elems.length) with h4|h4
       ·exact h2 i g1 h4 g3
       ·exact Ph i h4 g2 g3
      ·refine .inr ⟨j,h1,h2,by omega,h4,h5,fun i g1 g2 g3=>?_⟩
       rcases cx i (p.length+l.elems.length) with h7|h7
       ·exact h6 i g1 h7 g3
       ·exact Ph i h7 g2 g3
end
end Gv
namespace Gv
open Rx
set_option linter.unusedSectionVars false
section
variable {E A:Type} (O:iL E A)
def oD (e:E) (l:List E):List E:=l.takeWhile fun x=>decide (0<O.cmp e x)
def rV (e:E) (l:List E):List E:=l.dropWhile fun x=>decide (0<O.cmp e x)
def jw (e:E) (l:List E):Option E :=
 match rV O e l with
 |[]=>aj
 |x::_=>if O.cmp e x=0 then aa x else aj
def uz (l:List E):Prop:=l.Pairwise fun a b=>O.cmp a b<0
def lh (e:E) (l:List E):List E :=
 match jw O e l with
 |none=>oD O e l++e::rV O e l
 |some _=>oD O e l++e::(rV O e l).tail
def m9 (e:E) (l:List E):List E :=
 match jw O e l with
 |none=>l
 |some _=>oD O e l++(rV O e l).tail
variable {O}
theorem G4 (e:E) (l:List E):oD O e l++rV O e l=l:=Ad
theorem La (e:E) (l:List (Ref×E)):(lo O e l).map aw=oD O e (l.map aw):=by
 unfold lo oD;rw[List.takeWhile_map]
 rfl
theorem Ld (e:E) (l:List (Ref×E)):(hi O e l).map aw=rV O e (l.map aw):=by
 unfold hi rV;rw[List.dropWhile_map]
 rfl
theorem MN (e:E) (l:List (Ref×E)):(tS O e l).map aw=jw O e (l.map aw):=by
 grind[tS,jw,Ld]
theorem xr {l:List (Ref×E)}:uz O (l.map aw)↔tR O l:=by simp_all[uz,tR,List.pairwise_map]
theorem Vq (e:E) (l:List (Ref×E)):(hi O e l).tail.map aw=(rV O e (l.map aw)).tail:=by
 rw[← Ld,List.map_tail]
theorem xB {e y:E} {l:List E} (h:0<O.cmp e y):oD O e (y::l)=y::oD O e l/\rV O e (y::l)=rV O e l/\jw O e (y::l)=jw O e l/\lh O e (y::l)=y::lh O e l/\m9 O e (y::l)=y::m9 O e l:=by
 have h1:oD O e (y::l)=y::oD O e l:=by simp_all[oD]
 have h2:rV O e (y::l)=rV O e l:=by simp_all[rV]
 have h3:jw O e (y::l)=jw O e l:=by grind[jw]
 refine⟨h1,h2,h3,?_,?_⟩
 ·unfold lh;rw[h1,h2,h3];split<;>rfl
 grind[m9]
theorem Nq {e y:E} {l:List E} (h:¬ 0<O.cmp e y):oD O e (y::l)=[]/\rV O e (y::l)=y::l:=by simp_all[oD,rV]
theorem DH {e y:E} {l:List E} (h:O.cmp e y=0):jw O e (y::l)=aa y/\lh O e (y::l)=e::l/\m9 O e (y::l)=l:=by simp_all[Nq,jw,lh,m9]
theorem DR {e y:E} {l:List E} (h:O.cmp e y<0):jw O e (y::l)=aj/\lh O e (y::l)=e::y::l/\m9 O e (y::l)=y::l:=by
 obtain⟨h1,h2⟩:=Nq (O:=O) (e:=e) (y:=y) (l:=l) (by omega)
 have h3:jw O e (y::l)=aj:=by unfold jw;grind
 grind[lh,m9]
theorem XV {e:E}:∀ {l:List E} {x:E},x∈lh O e l->x=e∨x∈l
 |[],x,h=>by simp_all[lh,jw,rV,oD]
 |y::l,x,h=>by
  rcases rE (O.cmp e y) 0 with c|c|c
  ·simp_all[DR]
  ·rw[(DH c).2.1] at h
   grind
  ·rw[(xB c).2.2.2.1] at h;rcases bR.1 h with h|h
   ·grind
   ·rcases XV h with h|h
    all_goals grind
theorem UC {e:E}:∀ {l:List E} {x:E},x∈m9 O e l->x∈l
 |[],x,h=>by simp_all[m9,jw,rV]
 |y::l,x,h=>by
  rcases rE (O.cmp e y) 0 with c|c|c
  ·simp_all[DR]
  ·simp_all[DH]
  ·rw[(xB c).2.2.2.2] at h;rcases bR.1 h with h|h
   ·grind
   ·exact eo _ (UC h)
theorem Xc {e:E}:∀ {l:List E},(lh O e l).length=l.length+(if(jw O e l).isSome then 0 else 1)
 |[]=>by rfl
 |y::l=>by
  rcases rE (O.cmp e y) 0 with c|c|c
  ·grind[DR]
  ·grind[DH]
  ·rw[(xB c).2.2.2.1,(xB c).2.2.1,cI,cI,Xc];omega
theorem T6 {e:E}:∀ {l:List E},(m9 O e l).length+(if(jw O e l).isSome then 1 else 0)=l.length
 |[]=>by rfl
 |y::l=>by
  rcases rE (O.cmp e y) 0 with c|c|c
  ·grind[DR]
  ·grind[DH]
  ·have:=T6 (e:=e) (l:=l);rw[(xB c).2.2.2.2,(xB c).2.2.1,cI,cI];omega
variable {S:List E->A} {dm:List E->Prop} (Z:yH O S dm)
include Z
theorem K0 {e:E}:∀ {l:List E},uz O l->uz O (lh O e l)
 |[],h=>by simp[lh,jw,rV,oD,uz]
 |y::l,h=>by
  obtain⟨h1,h2⟩:=gB.1 h;rcases rE (O.cmp e y) 0 with c|c|c
  ·rw[(DR c).2.1];refine gB.2 ⟨fun x hx=>?_,h⟩
   rcases bR.1 hx with hx|hx
   ·grind
   ·exact Z.trans _ _ _ c (h1 x hx)
  ·rw[(DH c).2.1];exact gB.2 ⟨fun x hx=>Z.eqv _ _ _ c (h1 x hx),h2⟩
  ·rw[(xB c).2.2.2.1];refine gB.2 ⟨fun x hx=>?_,K0 h2⟩
   rcases XV hx with hx|hx
   ·rw[hx];exact(Z.swap _ _).2 c
   grind
omit Z in
theorem UX {e:E}:∀ {l:List E},uz O l->uz O (m9 O e l)
 |[],h=>by simp[m9,jw,rV,uz]
 |y::l,h=>by
  obtain⟨h1,h2⟩:=gB.1 h;rcases rE (O.cmp e y) 0 with c|c|c
  ·simp_all[DR]
  ·rw[(DH c).2.2];exact h2
  ·rw[(xB c).2.2.2.2];exact gB.2 ⟨fun x hx=>h1 x (UC hx),UX h2⟩
end
end Gv
namespace Gv
open Rx
set_option linter.unusedSectionVars false
def nv {N:Type} (k:Nat) (m m':PM N):Prop:=∃ j:Nat,j≤k/\(m'.cY=m.cY/\j=0∨m'.cY=W (m.cY+j))
theorem nv.trans {N:Type} {k k':Nat} {a b c:PM N} (h:nv k a b) (h':nv k' b c):nv (k+k') a c:=by
 obtain⟨j,hj,e⟩:=h;obtain⟨j',LR,e'⟩:=h';refine⟨j+j',by omega,?_⟩
 rcases e with⟨e,rfl⟩|e<;>rcases e' with⟨e',rfl⟩|e'
 ·exact .inl ⟨e'.trans e,rfl⟩
 ·right;rw[e',e];congr 1;omega
 ·right;rw[e',e];congr 1
 ·right;rw[e',e,W_W];congr 1;omega
theorem nv.mono {N:Type} {k k':Nat} {a b:PM N} (h:nv k a b) (hk:k≤k'):nv k' a b:=by
 obtain⟨j,hj,e⟩:=h;exact⟨j,iY hj hk,e⟩
section
variable {E A:Type} {O:iL E A} {S:List E->A} {dm:List E->Prop}
theorem iJ.v {R:List Ref} {k:Nat} {z:Node E A} {m m':Po E A} (h:iJ R k z m m'):nv k m m':=h.qA
structure St (O:iL E A) (S:List E->A) (dm:List E->Prop) (n:Nat) (m:Po E A) (a b:Tr E):Prop where
 ok:fX n m
 ra:Rp O S m a
 rb:Rp O S m b
 ba:a.mw
 bb:b.mw
 sa:tR O a.items
 sb:tR O b.items
 lL:(a.refs++b.refs).Nodup
 held:m.held=a.items.length+b.items.length
 ga:dm a.elems
 gb:dm b.elems
theorem St.swap {n:Nat} {m:Po E A} {a b:Tr E} (h:St O S dm n m a b):St O S dm n m b a :=
 ⟨h.ok,h.rb,h.ra,h.bb,h.ba,h.sb,h.sa,(List.perm_append_comm.nodup_iff).1 h.lL,by rw[h.held];omega,h.gb,h.ga⟩
theorem St.Ns {n:Nat} {m:Po E A} {a b:Tr E} (h:St O S dm n m a b):a.refs.Nodup:=(ch.1 h.lL).1
theorem St.off {n:Nat} {m:Po E A} {a b:Tr E} (h:St O S dm n m a b):∀ s,s∈b.refs->s∉a.refs:=fun s hs ha=>(ch.1 h.lL).2.2 _ ha _ hs rfl
theorem St.look {n k:Nat} {m m':Po E A} {a b:Tr E} (h:St O S dm n m a b) (hu:iJ [] k (zn O) m m'):St O S dm n m' a b :=
 ⟨hu.ok h.ok,Rp.frame hu (fun s _ hs=>by cases hs) h.ra,Rp.frame hu (fun s _ hs=>by cases hs) h.rb,h.ba,h.bb,h.sa,h.sb,h.lL,by rw[hu.held];exact h.held,h.ga,h.gb⟩
theorem St.aH {n:Nat} {m:Po E A} {a b:Tr E} (h:St O S dm n m a b) (r:Ref):St O S dm n (aK m r) a b:=h.look (gN _ m r)
theorem St.mono {n k:Nat} {m:Po E A} {a b:Tr E} (h:St O S dm n m a b) (hk:n≤k):St O S dm k m a b :=
 ⟨h.ok.mono hk,h.ra,h.rb,h.ba,h.bb,h.sa,h.sb,h.lL,h.held,h.ga,h.gb⟩
theorem St.first {n k:Nat} {m m':Po E A} {a a' b:Tr E} {root:Ref} {its:List (Ref×E)} {R:List Ref} (h:St O S dm n m a b) (hi:Is O S m' root its a') (hu:iJ R k (zn O) m m') (hR:∀ s,s∈R->s∈a.refs)
  (yW:∀ s,s∈a'.refs->s∈a.refs) (hnd:a'.refs.Nodup) (hlen:a'.items.length=a.items.length) (hs:uz O a'.elems) (hg:dm a'.elems):St O S dm n m' a' b :=
 ⟨hu.ok h.ok,hi.rp,Rp.frame hu (fun s hs hr=>h.off s hs (hR s hr)) h.rb,hi.mw,h.bb,xr.1 hs,h.sb,
  ch.2 ⟨hnd,(ch.1 h.lL).2.1,fun x hx y hy e=>by subst e;exact h.off x hy (yW x hx)⟩,by rw[hu.held,h.held,hlen],hg,h.gb⟩
theorem St.empty (hg:dm []) (c:Int) (n:Nat):St O S dm n ⟨[],[],[],[],0,c,0⟩ .nil .nil :=
 ⟨⟨rfl,rfl,(fun f hf=>by cases hf),RC,dx _,dx _,(fun g hg=>by cases hg),(fun i hi=>by simp at hi),⟨by simp only;omega,by simp only;omega⟩⟩,trivial,trivial,trivial,trivial,rF,rF,RC,rfl,hg,hg⟩
def Rn (x y:List (Ref×E)) (r:Ref):List Ref:=x.map aB++r::y.map aB
theorem ajg {e:E} {r:Ref} {x:Ref×E} {l:List (Ref×E)} (h:tS O e l=aa x):(lo O e l++(x.1,e)::(hi O e l).tail).map aB=l.map aB:=by
 have h1:=(tJ h).1
 conv=>rhs;rw[← AB O e l,h1]
 simp
variable (Z:yH O S dm)
include Z
theorem air {n K:Nat} {e:E} {m:Po E A} {a b:Tr E} (h:St O S dm n m a b) (hn:n+1≤100000) (hg:dm (lh O e a.elems)) (hk:a.h<K) :
  Qi O K m a.root e/\(nO O K m a.root e).1=((jw O e a.elems).isSome||decide (m.held≠m.cap)) /\
   ∃ a',(nO O K m a.root e).2.1=a'.root/\St O S dm (n+1) (nO O K m a.root e).2.2 a' b/\a'.elems=(if((jw O e a.elems).isSome||decide (m.held≠m.cap))=aq then lh O e a.elems else a.elems) /\
    nv (32*a.h+4) m (nO O K m a.root e).2.2/\(nO O K m a.root e).2.2.cap=m.cap:=by
 have hD:=By a h.ok h.ra hk;have hE:(tS O e a.items).map aw=jw O e a.elems:=MN e a.items;have A3:(lo O e a.items).map aw=oD O e a.elems:=La e a.items;have Kv:(hi O e a.items).map aw=rV O e a.elems:=Ld e a.items;have I1:(hi O e a.items).tail.map aw=(rV O e a.elems).tail:=Vq e a.items;have Sd:=K0 Z (e:=e) (xr.2 h.sa:uz O a.elems);have R:=Ia Z (e:=e) a (k:=K) h.ok h.ra h.ba h.sa h.Ns (fun x hx=>by
  have:jw O e a.elems=aa x.2:=by rw[← hE,hx];rfl
  unfold lh at hg;rw[this] at hg;rw[gd,dT,gC,A3,I1];exact hg) hk
 cases hh:tS O e a.items with
 |some x =>
  rw[hh] at R hE;obtain⟨r1,a',r2,r3,r4⟩:=R;have hE:jw O e a.elems=aa x.2:=hE.symm;have e1:nO O K m a.root e=(aq,a.root,(replace O K m a.root e).2):=by rw[nO,if_pos r1]
  have e2:a'.elems=lh O e a.elems:=by
   rw[Tr.elems,r2.its,dT,gC,A3,I1];unfold lh;rw[hE]
  have e3:a'.refs=a.refs:=by rw[Tr.refs,r2.its];exact ajg (r:=r0) hh
  refine⟨⟨hD,fun hc=>?_⟩,by rw[e1,hE];rfl,a',by rw[e1];exact r2.root,?_,?_,?_,by rw[e1];exact r4.cap⟩
  ·have hp:=tn (zn O) (r4.ok h.ok) hc (fresh O e);refine⟨hp.2.mono hn,?_⟩;have hf:∀ t:Tr E,Rp O S (replace O K m a.root e).2 t->Rp O S (put (zn O) (replace O K m a.root e).2 (fresh O e)) t:=by
    intro t
    induction t with
    |nil=>exact fun _=>trivial
    |node r l y q ihl ihq =>
     intro⟨q1,q2,q3,q4⟩;have:=hp.1.old r q1;exact⟨this.1,by rw[lk,this.2];exact q2,ihl q3,ihq q4⟩
   have:=By a' (k:=K) hp.2 (hf a' r2.rp) (by omega)
   rw[← r2.root] at this;exact this
  ·rw[e1];refine(h.first r2 r4 (fun s hs=>hs) (fun s hs=>by rw[e3] at hs;exact hs) (by rw[e3];exact h.Ns) (by rw[← Tr.L4,e3,Tr.L4]) (by rw[e2];exact Sd) (by rw[e2];exact hg)).mono (by omega)
  ·rw[e2,hE];rfl
  ·rw[e1];exact r4.v.mono (by omega)
 |none =>
  rw[hh] at R hE;obtain⟨r1,r2⟩:=R;have hE:jw O e a.elems=aj:=hE.symm;have h2:=h.look r2;have hup:lh O e a.elems=oD O e a.elems++e::rV O e a.elems:=by unfold lh;rw[hE]
  by_cases hc:(replace O K m a.root e).2.held=(replace O K m a.root e).2.cap
  ·have Db:m.held=m.cap:=by rw[← r2.held,← r2.cap,hc]
   have ep:put (zn O) (replace O K m a.root e).2 (fresh O e)=(replace O K m a.root e).2:=by unfold put;rw[if_pos hc]
   have e1:nO O K m a.root e=(ao,a.root,(replace O K m a.root e).2):=by rw[nO,if_neg (by rw[r1];decide),if_pos hc,ep]
   have e4:((jw O e a.elems).isSome||decide (m.held≠m.cap))=ao:=by rw[hE];simpa using Db
   refine⟨⟨hD,fun hx=>absurd hc hx⟩,by rw[e1,e4],a,by rw[e1],by rw[e1];exact h2.mono (by omega),by rw[e4,if_neg (by decide)],by rw[e1];exact r2.v.mono (by omega),by rw[e1];exact r2.cap⟩
  ·have Db:m.held≠m.cap:=by rw[← r2.held,← r2.cap];exact hc
   obtain⟨p1,p2⟩:=tn (zn O) h2.ok hc (fresh O e);have hf:∀ t:Tr E,Rp O S (replace O K m a.root e).2 t->Rp O S (put (zn O) (replace O K m a.root e).2 (fresh O e)) t:=by
    intro t
    induction t with
    |nil=>exact fun _=>trivial
    |node r l y q ihl ihq =>
     intro⟨q1,q2,q3,q4⟩;have:=p1.old r q1;exact⟨this.1,by rw[lk,this.2];exact q2,ihl q3,ihq q4⟩
   have uB:∀ t:Tr E,Rp O S (replace O K m a.root e).2 t->l_ (zn O) (replace O K m a.root e).2∉t.refs:=fun t ht hr=>by
    have:=ht.has _ hr;rw[p1.new] at this;cases this
   have hnd:(l_ (zn O) (replace O K m a.root e).2::a.refs).Nodup:=fI.2 ⟨uB a h2.ra,h.Ns⟩;obtain⟨t',t1,t2,t3,t4⟩:=QW Z (f:=l_ (zn O) (replace O K m a.root e).2) (e:=e) a (k:=K) p2 (hf a h2.ra) h.ba h.sa hnd p1.has (by rw[lk,p1.look];rfl) hh
    (by rw[gd,dT,gC,A3,Kv,← hup];exact hg) hk
   have e1:nO O K m a.root e=(aq,(kV O K (put (zn O) (replace O K m a.root e).2 (fresh O e)) a.root (l_ (zn O) (replace O K m a.root e).2) e).1,(kV O K (put (zn O) (replace O K m a.root e).2 (fresh O e)) a.root (l_ (zn O) (replace O K m a.root e).2) e).2):=by
    rw[nO,if_neg (by rw[r1];decide),if_neg hc]
   have e4:((jw O e a.elems).isSome||decide (m.held≠m.cap))=aq:=by rw[hE];simpa using Db
   have e2:t'.elems=lh O e a.elems:=by rw[Tr.elems,t1.its,dT,gC,A3,Kv,hup]
   have e5:t'.refs=Rn (lo O e a.items) (hi O e a.items) (l_ (zn O) (replace O K m a.root e).2):=by rw[Tr.refs,t1.its,dT,gC];rfl
   refine⟨⟨hD,fun _=>⟨p2.mono hn,By a p2 (hf a h2.ra) hk⟩⟩,by rw[e1,e4],t',by rw[e1];exact t1.root,?_,by rw[e4,if_pos rfl];exact e2,?_,by rw[e1];exact t4.cap.trans (p1.cap.trans r2.cap)⟩
   ·rw[e1];have hrf:=vg (O:=O) e a.items;have Uc:∀ s,s∈t'.refs↔s=l_ (zn O) (replace O K m a.root e).2∨s∈a.refs:=fun s=>by
     rw[e5,Tr.refs,← hrf];unfold Rn;simp only[b9,bR]
     constructor
     ·rintro (h|h|h)<;>simp[h]
     ·rintro (h|h|h)<;>simp[h]
    refine⟨t4.ok p2,t1.rp,Rp.frame t4 (fun s hs hr=>?_) (hf b h2.rb),t1.mw,h.bb,xr.1 (by rw[show t'.items.map aw=t'.elems from rfl,e2];exact Sd),h.sb,?_,?_,by rw[e2];exact hg,h.gb⟩
    ·rcases bR.1 hr with hr|hr
     ·exact uB b h2.rb (by rw[← hr];exact hs)
     ·exact h.off s hs hr
    ·refine ch.2 ⟨?_,(ch.1 h.lL).2.1,fun x hx y hy e=>?_⟩
     ·rw[e5];unfold Rn;refine(yZ.nodup_iff).2 ?_;rw[hrf];exact hnd
     ·subst e;rcases(Uc x).1 hx with hr|hr
      ·exact uB b h2.rb (by rw[← hr];exact hy)
      ·exact h.off x hy hr
    ·have hl:t'.items.length=a.items.length+1:=by
      have:=Xc (O:=O) (e:=e) (l:=a.elems);rw[hE] at this;rw[← Tr.e8,e2,this,Tr.e8]
      rfl
     rw[t4.held,p1.held,h2.held,hl];omega
   ·rw[e1];have:nv 0 (replace O K m a.root e).2 (put (zn O) (replace O K m a.root e).2 (fresh O e)):=⟨0,bc _,.inl ⟨p1.qA,rfl⟩⟩;exact((r2.v.trans this).trans t4.v).mono (by omega)
end
end Gv
namespace Gv
open Rx
set_option linter.unusedSectionVars false
section
variable {E A:Type} {O:iL E A} {S:List E->A} {dm:List E->Prop}
theorem agV {e:E} {x:Ref×E} {l:List (Ref×E)} (h:tS O e l=aa x):(x.1::rf (lo O e l++(hi O e l).tail)).Perm (l.map aB):=by
 have h1:=(tJ h).1;have h2:l.map aB=(lo O e l).map aB++x.1::(hi O e l).tail.map aB:=by
  conv=>lhs;rw[← AB O e l,h1]
  simp
 rw[h2];unfold rf;rw[dT];exact yZ.symm
theorem aax {m:Po E A} {z:Node E A} {r:Ref} (h:has m r=ao):drop z m r=m:=by unfold drop;rw[if_neg (by rw[h];decide)]
variable (Z:yH O S dm)
include Z
theorem agu {n K:Nat} {e:E} {m:Po E A} {a b:Tr E} (h:St O S dm n m a b) (hg:dm (oD O e a.elems++(rV O e a.elems).tail)) (hk:2*a.h<K) :
  qk O K K m a.root e/\(jK O K m a.root e).1=(jw O e a.elems).getD O.e0/\(jK O K m a.root e).2.1=(jw O e a.elems).isSome /\
   ∃ a',(jK O K m a.root e).2.2.1=a'.root/\St O S dm (n+1) (jK O K m a.root e).2.2.2 a' b/\a'.elems=m9 O e a.elems /\
    nv (120*a.h+5) m (jK O K m a.root e).2.2.2/\(jK O K m a.root e).2.2.2.cap=m.cap:=by
 have hE:(tS O e a.items).map aw=jw O e a.elems:=MN e a.items;have A3:(lo O e a.items).map aw=oD O e a.elems:=La e a.items;have I1:(hi O e a.items).tail.map aw=(rV O e a.elems).tail:=Vq e a.items;have Sd:=UX (e:=e) (xr.2 h.sa:uz O a.elems);obtain⟨R1,R⟩:=Ls Z (K:=K) (e:=e) a (k:=K) h.ok h.ra h.ba h.sa h.Ns (by rw[gd,dT,A3,I1];exact hg) (by omega) hk
 refine⟨R1,?_⟩;unfold jK;cases hh:tS O e a.items with
 |none =>
  rw[hh] at R hE;obtain⟨r1,r2,r3⟩:=R;have hE:jw O e a.elems=aj:=hE.symm;have h2:=h.look r3;have hz:=h2.ok.z0;have h0:lk O (pick O K K m a.root e).2.2 r0=zn O:=by unfold lk look;rw[if_neg (by rw[hz];decide)]
  rw[r1,r2,h0,hz,aax hz,hE];refine⟨rfl,rfl,a,rfl,h2.mono (by omega),?_,r3.v.mono (by omega),r3.cap⟩
  unfold m9;rw[hE]
 |some x =>
  rw[hh] at R hE;obtain⟨r1,t,r2,r3,r4,r5⟩:=R;have hE:jw O e a.elems=aa x.2:=hE.symm;have hp:=agV hh;have VT:x.1∉rf (lo O e a.items++(hi O e a.items).tail)/\(rf (lo O e a.items++(hi O e a.items).tail)).Nodup:=fI.1 ((hp.nodup_iff).2 h.Ns);have Uc:∀ s,s∈a.refs↔s=x.1∨s∈rf (lo O e a.items++(hi O e a.items).tail):=fun s=>by
   rw[Tr.refs,← hp.mem_iff,bR]
  have hxm:=(tJ hh).2.2;have An:has m x.1=aq:=h.ra.has _ (List.mem_map_of_mem hxm);have ahy:has (pick O K K m a.root e).2.2 x.1=aq:=by rw[r5.has];exact An
  have ho:=r5.ok h.ok;obtain⟨d1,d2,d3,d4,d5,d6⟩:=tc (zn O) ho ahy;have hf:∀ u:Tr E,x.1∉u.refs->Rp O S (pick O K K m a.root e).2.2 u->Rp O S (drop (zn O) (pick O K K m a.root e).2.2 x.1) u:=by
   intro u
   induction u with
   |nil=>exact fun _ _=>trivial
   |node r l y q ihl ihq =>
    intro hx ⟨q1,q2,q3,q4⟩;rw[Tr.jI] at hx;simp only[b9,bR,not_or] at hx;have:=d2 r (fun e=>hx.2.1 e.symm)
    exact⟨by rw[this.1];exact q1,by rw[lk,this.2];exact q2,ihl hx.1 q3,ihq hx.2.2 q4⟩
  have et:t.refs=rf (lo O e a.items++(hi O e a.items).tail):=by rw[Tr.refs,r2.its]
  have ee:t.elems=m9 O e a.elems:=by
   rw[Tr.elems,r2.its,dT,A3,I1];unfold m9;rw[hE]
  rw[r1];have hel:(lk O (pick O K K m a.root e).2.2 x.1).e=x.2:=by
   have:lk O (pick O K K m a.root e).2.2 x.1=lk O m x.1:=r5.look _ VT.1;rw[this];exact h.ra.elem x hxm
  refine⟨by rw[hel,hE];rfl,by rw[ahy,hE];rfl,t,r2.root,?_,ee,?_,by rw[d5];exact r5.cap⟩
  ·refine⟨d1,hf t (by rw[et];exact VT.1) r2.rp,hf b (fun hb=>h.off _ hb ((Uc _).2 (.inl rfl))) (Rp.frame r5 (fun s hs hr=>h.off s hs ((Uc s).2 (.inr hr))) h.rb),r2.mw,h.bb,
    xr.1 (by rw[show t.items.map aw=t.elems from rfl,ee];exact Sd),h.sb,?_,?_,?_,h.gb⟩
   ·exact ch.2 ⟨by rw[et];exact VT.2,(ch.1 h.lL).2.1,fun y hy z hz e=>by subst e;exact h.off y hz ((Uc y).2 (.inr (by rw[← et];exact hy)))⟩
   ·have hl:=T6 (O:=O) (e:=e) (l:=a.elems);rw[hE,← ee,Tr.e8,Tr.e8] at hl;rw[d4,r5.held,h.held];simp only[C1,if_true] at hl;omega
   ·rw[Tr.elems,r2.its,dT,A3,I1];exact hg
  ·have:nv 1 (pick O K K m a.root e).2.2 (drop (zn O) (pick O K K m a.root e).2.2 x.1):=⟨1,bc _,.inr d6⟩;exact(r5.v.trans this).mono (by omega)
theorem ad4 {n K:Nat} {e:E} {m:Po E A} {a:Tr E} (h:St O S dm n m a .nil) (hk:2*a.items.length<K) :
  J5 O K K m a.root e/\∃ x y,(lW O K K m a.root e).1=x.root/\(lW O K K m a.root e).2.1=y.root/\St O S dm n (lW O K K m a.root e).2.2 x y/\x.elems=oD O e a.elems/\y.elems=rV O e a.elems/\(lW O K K m a.root e).2.2.cap=m.cap:=by
 have hh:=a.Af;obtain⟨r1,x,y,r2,r3,kk,r4⟩:=Ur Z (K:=K) (e:=e) a (k:=K) h.ok h.ra h.ba h.sa h.Ns h.ga (by omega) hk
 have ex:x.elems=oD O e a.elems:=by rw[Tr.elems,r2.its];exact La e a.items
 have ey:y.elems=rV O e a.elems:=by rw[Tr.elems,r3.its];exact Ld e a.items
 have Sd:uz O a.elems:=xr.2 h.sa;have hle:=G4 (O:=O) e a.elems;rw[← hle] at Sd;have hg:=h.ga;rw[← hle] at hg;have hrf:=vg (O:=O) e a.items;refine⟨r1,x,y,r2.root,r3.root,⟨r4.ok h.ok,r2.rp,r3.rp,r2.mw,r3.mw,xr.1 ?_,xr.1 ?_,?_,?_,?_,?_⟩,ex,ey,r4.cap⟩
 ·rw[show x.items.map aw=x.elems from rfl,ex];exact(nE.1 Sd).1
 ·rw[show y.items.map aw=y.elems from rfl,ey];exact(nE.1 Sd).2.1
 ·rw[Tr.refs,Tr.refs,r2.its,r3.its,hrf];exact h.Ns
 ·rw[r4.held,h.held,r2.its,r3.its];have:=congrArg ae (AB O e a.items);rw[bJ] at this;simp only[Tr.items,ky];omega
 ·rw[ex];exact Z.left _ _ hg
 ·rw[ey];exact Z.right _ _ hg
end
end Gv
namespace Gv
open Rx
set_option linter.unusedSectionVars false
theorem Tr.M1 {E:Type}:∀ t:Tr E,t.mw->2 ^ (t.h / 2)≤t.items.length+1
 |.nil,_=>by simp[Tr.h,Tr.items]
 |.node r l e q,⟨h1,h2,h3,h4⟩=>by
  have i1:=M1 l h1;have i2:=M1 q h2;simp only[Tr.h,Tr.items,bJ,cI]
  by_cases c:max l.h q.h=0
  ·rw[c];simp
  ·have k1:(1+max l.h q.h) / 2=(max l.h q.h-1) / 2+1:=by omega
   rw[k1,Nat.pow_succ];have k2:(max l.h q.h-1) / 2≤l.h / 2:=by omega
   have k3:(max l.h q.h-1) / 2≤q.h / 2:=by omega
   have j1:2 ^ ((max l.h q.h-1) / 2)≤2 ^ (l.h / 2):=IP (by omega) k2
   have j2:2 ^ ((max l.h q.h-1) / 2)≤2 ^ (q.h / 2):=IP (by omega) k3
   omega
def nk (n:Nat):Nat:=2+3*N4 (n+1)
theorem Tr.Dp {E:Type} (t:Tr E) (h:t.mw):t.h≤nk t.items.length:=by
 have h1:=t.M1 h;have h2:t.h / 2≤N4 (t.items.length+1):=(W3 (by omega)).2 h1
 unfold nk;omega
theorem aei {a b:Nat} (h:a≤b):nk a≤nk b:=by
 unfold nk;have:N4 (a+1)≤N4 (b+1):=(W3 (by omega)).2 (iY (Nat.log2_self_le (by omega)) (by omega))
 omega
section
variable {E A:Type} {O:iL E A} {S:List E->A} {dm:List E->Prop}
def iv (O:iL E A) (e:E) (l:List E):E×Bool:=((jw O e l).getD O.e0,(jw O e l).isSome)
def p7 (O:iL E A) (i:Int) (l:List E):E×Bool:=if 0≤i/\i<l.length then(l.getD i.toNat O.e0,aq) else(O.e0,ao)
structure Same (O:iL E A) (S:List E->A) (dm:List E->Prop) (n k:Nat) (m m':Po E A) (a b:Tr E):Prop where
 st:St O S dm n m' a b
 qA:nv k m m'
 cap:m'.cap=m.cap
theorem St.up {n k:Nat} {m m':Po E A} {a b:Tr E} {r:Ref} (h:St O S dm n m a b) (hu:iJ [] k (zn O) (aK m r) m'):Same O S dm n (k+1) m m' a b:=by
 have:=(gN (zn O) m r).to hu (S:=[]) (fun s hs=>by simp at hs) (Nat.le_of_eq (Nat.add_comm 1 k))
 exact⟨h.look this,this.v,this.cap⟩
theorem St.seen {n:Nat} {m:Po E A} {a b:Tr E} (h:St O S dm n m a b) (r:Ref):Same O S dm n 1 m (aK m r) a b:=h.up (iJ.refl _ _ _ _)
theorem Same.mono {n k k':Nat} {m m':Po E A} {a b:Tr E} (h:Same O S dm n k m m' a b) (hk:k≤k'):Same O S dm n k' m m' a b:=⟨h.st,h.qA.mono hk,h.cap⟩
theorem St.lk {n:Nat} {m:Po E A} {a b:Tr E} (h:St O S dm n m a b):bt O m a.root=nd O S a:=h.ra.root h.ok
theorem St.hh {n:Nat} {m:Po E A} {a b:Tr E} (h:St O S dm n m a b):(bt O m a.root).h=(a.h:Int):=by rw[h.lk,rJ]
variable (Z:yH O S dm)
include Z
theorem St.nn {n:Nat} {m:Po E A} {a b:Tr E} (h:St O S dm n m a b):(bt O m a.root).all.n=(a.elems.length:Int):=by rw[h.lk,rm Z.nil,Tr.e8]
theorem afY {n K:Nat} {e:E} {m:Po E A} {a b:Tr E} (h:St O S dm n m a b) (hk:a.h<K) :
  tV O K (aK m a.root) (bt O m a.root) e/\∃ m',find O K (aK m a.root) (bt O m a.root) e=(iv O e a.elems,m')/\Same O S dm n (a.h+1) m m' a b:=by
 have h2:=h.aH a.root;obtain⟨r1,r2,r3⟩:=Rh Z (e:=e) a (k:=K) h2.ok h2.ra h.sa hk;rw[h.lk];refine⟨r1,_,kb ?_ rfl,h.up r3⟩;rw[r2];have hE:=MN (O:=O) e a.items;unfold iv;rw[show a.elems=a.items.map aw from rfl,← hE]
 cases tS O e a.items<;>rfl
theorem agH {n K:Nat} {e:E} {m:Po E A} {a b:Tr E} (h:St O S dm n m a b) (hk:a.h<K) :
  tx O K (aK m a.root) (bt O m a.root) e 0/\∃ m',kv O K (aK m a.root) (bt O m a.root) e 0=(((oD O e a.elems).length:Int),m')/\Same O S dm n (2*a.h+1) m m' a b:=by
 have h2:=h.aH a.root;have hl:=Z.len _ h.ga;rw[Tr.e8] at hl;obtain⟨r1,r2,r3⟩:=Ri Z (e:=e) a (k:=K) (c:=0) h2.ok h2.ra h.sa hk (Int.le_refl _) (by omega)
 rw[h.lk];refine⟨r1,_,kb ?_ rfl,h.up r3⟩;rw[r2,show a.elems=a.items.map aw from rfl,← La,gX]
 omega
theorem ak9 {n K:Nat} {i:Int} {m:Po E A} {a b:Tr E} (h:St O S dm n m a b) (hk:a.h<K) :
  AtD O K m a.root i/\∃ m',qH O K m a.root i=(p7 O i a.elems,m')/\Same O S dm n (2*a.h+1) m m' a b:=by
 have h2:=h.aH a.root;have hl:=Z.len _ h.ga;have hn:=h.nn Z;unfold AtD qH p7;rw[hn]
 by_cases c:i<0∨i≥(a.elems.length:Int)
 ·rw[if_pos c,if_neg (by omega)]
  exact⟨fun h3 h4=>by omega,_,rfl,(h.seen _).mono (by omega)⟩
 ·rw[if_neg c,if_pos (by omega)]
  rw[Tr.e8] at hl c;obtain⟨r1,r2,r3⟩:=Vz Z a (k:=K) (i:=i.toNat) h2.ok h2.ra hl hk (by omega)
  have e:((i.toNat:Nat):Int)=i:=by omega
  rw[e] at r1 r2 r3;rw[h.lk];exact⟨fun _ _=>r1,_,kb (by rw[r2]) rfl,h.up r3⟩
theorem ajV {n K:Nat} {f u:Int} {m:Po E A} {a b:Tr E} (h:St O S dm n m a b) (hk:a.h<K) :
  vh O K (aK m a.root) (bt O m a.root) f u/\∃ m',fW O K (aK m a.root) (bt O m a.root) f u=(⟨(sub a.elems f.toNat u.toNat).length,S (sub a.elems f.toNat u.toNat)⟩,m')/\Same O S dm n (4*a.h+1) m m' a b:=by
 have h2:=h.aH a.root;obtain⟨r1,r2,r3⟩:=Ic Z (f:=f) (u:=u) a (k:=K) h2.ok h2.ra h.ga hk;rw[h.lk];exact⟨r1,_,kb r2 rfl,(h.up r3).mono (by have:=(QR a.h a.elems.length f u).1;omega)⟩
theorem aib {n K:Nat} {m:Po E A} {a b:Tr E} (h:St O S dm n m a b) (hk:a.h<K) :
  Deep O K m a.root/\(bt O m a.root).all.n=(a.elems.length:Int)/\∃ m' kk,cH O K (aK m a.root) a.root=(a.elems,m')/\Same O S dm n kk m m' a b:=by
 have h2:=h.aH a.root;obtain⟨r1,kk,r2⟩:=JE a (k:=K) h2.ok h2.ra hk;exact⟨By a h.ok h.ra hk,h.nn Z,_,_,kb r1 rfl,h.up r2⟩
theorem NT {n K:Nat} {m:Po E A} {a b:Tr E} (h:St O S dm n m a b) (hk:a.h<K):jj O K (aK m a.root) (bt O m a.root) :=
 pW (By a h.ok h.ra hk) (fun s=>ir ..)
theorem adE {n K:Nat} {f:Int} {may:A->A->Bool} {P:Nat->Bool} {m:Po E A} {a b:Tr E} (h:St O S dm n m a b) (hA:Asks O S may P a.elems) (hk:a.h<K) :
  jj O K (aK m a.root) (bt O m a.root)/\∃ r m' kk,first O may K (aK m a.root) (bt O m a.root) ⟨0,O.a0⟩ f=(r,m')/\BG P 0 a.elems.length f r/\Same O S dm n kk m m' a b:=by
 have h2:=h.aH a.root;obtain⟨r1,kk,r2⟩:=H6 Z (f:=f) hA h.ga a (k:=K) (p:=[]) (s:=[]) h2.ok h2.ra (by simp) hk
 have e0:(([]:List E).length:Int)=0:=rfl;rw[e0,Z.nil,ky,b5] at r1;rw[e0,Z.nil] at r2;refine⟨NT Z h hk,_,_,_,rfl,?_,h.up (r:=a.root) (k:=kk) ?_⟩
 ·rw[h.lk];exact r1
 ·rw[h.lk];exact r2
theorem agn {n K:Nat} {f:Int} {may:A->A->Bool} {P:Nat->Bool} {m:Po E A} {a b:Tr E} (h:St O S dm n m a b) (hA:Asks O S may P a.elems) (hk:a.h<K) :
  jj O K (aK m a.root) (bt O m a.root)/\∃ r m' kk,last O may K (aK m a.root) (bt O m a.root) ⟨0,O.a0⟩ f=(r,m')/\EK P 0 a.elems.length f r/\Same O S dm n kk m m' a b:=by
 have h2:=h.aH a.root;obtain⟨r1,kk,r2⟩:=Ln Z (u:=f) hA h.ga a (k:=K) (p:=[]) (s:=[]) h2.ok h2.ra (by simp) hk
 have e0:(([]:List E).length:Int)=0:=rfl;rw[e0,Z.nil,ky,b5] at r1;rw[e0,Z.nil] at r2;refine⟨NT Z h hk,_,_,_,rfl,?_,h.up (r:=a.root) (k:=kk) ?_⟩
 ·rw[h.lk];exact r1
 ·rw[h.lk];exact r2
theorem agD {n K:Nat} {e:E} {m:Po E A} {a b:Tr E} (h:St O S dm n m a b) (hn:n+1≤100000) (hg:dm (lh O e a.elems)) (hk:a.h<K) :
  Qi O K m a.root e/\∃ a' m',nO O K m a.root e=(((jw O e a.elems).isSome||decide (m.held≠m.cap)),a'.root,m')/\St O S dm (n+1) m' a' b /\
   a'.elems=(if((jw O e a.elems).isSome||decide (m.held≠m.cap))=aq then lh O e a.elems else a.elems)/\nv (32*a.h+4) m m'/\m'.cap=m.cap:=by
 obtain⟨r1,r2,a',r3,r4,r5,r6,r7⟩:=air Z h hn hg hk;exact⟨r1,a',_,kb r2 (kb r3 rfl),r4,r5,r6,r7⟩
theorem ad0 {n K:Nat} {e:E} {m:Po E A} {a b:Tr E} (h:St O S dm n m a b) (hg:dm (oD O e a.elems++(rV O e a.elems).tail)) (hk:2*a.h<K) :
  qk O K K m a.root e/\∃ a' m',jK O K m a.root e=((iv O e a.elems).1,(iv O e a.elems).2,a'.root,m')/\St O S dm (n+1) m' a' b/\a'.elems=m9 O e a.elems/\nv (120*a.h+5) m m'/\m'.cap=m.cap:=by
 obtain⟨r1,r2,r3,a',r4,r5,r6,r7,r8⟩:=agu Z h hg hk;exact⟨r1,a',_,kb r2 (kb r3 (kb r4 rfl)),r5,r6,r7,r8⟩
theorem aav {n K:Nat} {e:E} {m:Po E A} {a:Tr E} (h:St O S dm n m a .nil) (hk:2*a.items.length<K) :
  J5 O K K m a.root e/\∃ x y m',lW O K K m a.root e=(x.root,y.root,m')/\St O S dm n m' x y/\x.elems=oD O e a.elems/\y.elems=rV O e a.elems/\m'.cap=m.cap:=by
 obtain⟨r1,x,y,r2,r3,r4,r5,r6,r7⟩:=ad4 Z (e:=e) h hk;exact⟨r1,x,y,_,kb r2 (kb r3 rfl),r4,r5,r6,r7⟩
end
end Gv
namespace Gv
open Rx
set_option linter.unusedSectionVars false
structure Kd (E A:Type) where
 O:iL E A
 S:List E->A
 dm:List E->Prop
 dec:∀ l,Decidable (dm l)
 Z:yH O S dm
 short:∀ x,dm x->x.length≤1000
 amy:dm []
 am5:∀ x y,dm (x++y)->dm (x++y.tail)
instance {E A:Type} (k:Kd E A) (l:List E):Decidable (k.dm l):=k.dec l
theorem s_ {E:Type} (a:Tr E):a.h≤a.elems.length:=by rw[Tr.e8];exact a.Af
theorem abx {E:Type} {t:Tr E} (h:t.elems=[]):t=.nil:=by
 cases t with
 |nil=>rfl
 |node r l e q=>rw[Tr.gJ] at h;simp at h
section
variable {E A:Type}
def P2 (k:Kd E A) (n:Nat) (m:Po E A) (ra rb:Ref) (la lb:List E) (c:Int):Prop:=∃ a b:Tr E,a.root=ra/\b.root=rb/\St k.O k.S k.dm n m a b/\a.elems=la/\b.elems=lb/\m.cap=c
abbrev P1 (k:Kd E A) (n:Nat) (m:Po E A) (r:Ref) (l:List E) (c:Int):Prop:=P2 k n m r r0 l [] c
structure Sm (k:Kd E A) (n v:Nat) (m m':Po E A) (ra rb:Ref) (la lb:List E) (c:Int):Prop where
 p:P2 k n m' ra rb la lb c
 qA:nv v m m'
variable {k:Kd E A} {n:Nat} {m:Po E A} {ra rb:Ref} {la lb:List E} {c:Int}
theorem F1 {v:Nat} {a b:Tr E} {m':Po E A} (h:Same k.O k.S k.dm n v m m' a b) (h6:m.cap=c):Sm k n v m m' a.root b.root a.elems b.elems c :=
 ⟨⟨a,b,rfl,rfl,h.st,rfl,rfl,h.cap.trans h6⟩,h.qA⟩
namespace P2
theorem swap (h:P2 k n m ra rb la lb c):P2 k n m rb ra lb la c:=by
 obtain⟨a,b,h1,h2,h3,h4,h5,h6⟩:=h;exact⟨b,a,h2,h1,h3.swap,h5,h4,h6⟩
theorem mono {q:Nat} (h:P2 k n m ra rb la lb c) (hk:n≤q):P2 k q m ra rb la lb c:=by
 obtain⟨a,b,h1,h2,h3,h4,h5,h6⟩:=h;exact⟨a,b,h1,h2,h3.mono hk,h4,h5,h6⟩
theorem empty (k:Kd E A) (c:Int):P1 k 0 ⟨[],[],[],[],0,c,0⟩ r0 [] c :=
 ⟨.nil,.nil,rfl,rfl,St.empty k.amy c 0,rfl,rfl,rfl⟩
theorem qg {m':Po E A} (h:P2 k n m ra rb la lb c) (hu:∃ v,iJ [] v (zn k.O) m m'):P2 k n m' ra rb la lb c:=by
 obtain⟨a,b,h1,h2,h3,h4,h5,h6⟩:=h;obtain⟨v,hu⟩:=hu;exact⟨a,b,h1,h2,h3.look hu,h4,h5,hu.cap.trans h6⟩
theorem ok (h:P2 k n m ra rb la lb c) (hn:n≤100000):fX 100000 m:=by
 obtain⟨a,b,h1,h2,h3,h4,h5,h6⟩:=h;exact h3.ok.mono hn
theorem dm (h:P2 k n m ra rb la lb c):k.dm la:=by
 obtain⟨a,b,h1,h2,h3,h4,h5,h6⟩:=h;rw[← h4];exact h3.ga
theorem nK (h:P2 k n m ra rb la lb c):uz k.O la:=by
 obtain⟨a,b,h1,h2,h3,h4,h5,h6⟩:=h;rw[← h4];exact xr.2 h3.sa
theorem len (h:P2 k n m ra rb la lb c):la.length≤1000:=k.short _ h.dm
theorem held (h:P2 k n m ra rb la lb c):m.held=la.length+lb.length:=by
 obtain⟨a,b,h1,h2,h3,h4,h5,h6⟩:=h;rw[h3.held,← h4,← h5,Tr.e8,Tr.e8]
theorem cap (h:P2 k n m ra rb la lb c):m.cap=c:=by
 obtain⟨a,b,h1,h2,h3,h4,h5,h6⟩:=h;exact h6
theorem seen (h:P2 k n m ra rb la lb c) (r:Ref):Sm k n 1 m (aH m r) ra rb la lb c:=by
 obtain⟨a,b,rfl,rfl,h3,rfl,rfl,h6⟩:=h;exact F1 (h3.seen r) h6
theorem nn (h:P2 k n m ra rb la lb c):(lk k.O m ra).all.n=(la.length:Int):=by
 obtain⟨a,b,rfl,rfl,h3,rfl,rfl,h6⟩:=h;exact h3.nn k.Z
theorem ajY (h:P2 k n m ra rb la lb c):∃ H:Nat,(lk k.O m ra).h=(H:Int)/\H≤nk la.length:=by
 obtain⟨a,b,rfl,rfl,h3,rfl,rfl,h6⟩:=h;refine⟨a.h,h3.hh,?_⟩;rw[Tr.e8];exact a.Dp h3.ba
theorem put {K:Nat} {e:E} (h:P2 k n m ra rb la lb c) (hn:n+1≤100000) (hg:k.dm (lh k.O e la)) (hk:la.length<K) :
  Qi k.O K m ra e/\∃ r' m',nO k.O K m ra e=(((jw k.O e la).isSome||decide (((la.length+lb.length:Nat):Int)≠c)),r',m') /\
   P2 k (n+1) m' r' rb (if((jw k.O e la).isSome||decide (((la.length+lb.length:Nat):Int)≠c))=aq then lh k.O e la else la) lb c/\nv (32*nk la.length+4) m m':=by
 have hh:=h.held;obtain⟨a,b,rfl,rfl,h3,rfl,rfl,h6⟩:=h;obtain⟨d,a',m',e1,e2,e3,e4,e5⟩:=agD k.Z (e:=e) h3 hn hg (iZ (s_ a) hk);have hb:((jw k.O e a.elems).isSome||decide (m.held≠m.cap))=((jw k.O e a.elems).isSome||decide (((a.elems.length+b.elems.length:Nat):Int)≠c)):=by
  rw[hh,h6];push_cast;rfl
 rw[hb] at e1 e3;exact⟨d,a'.root,m',e1,⟨a',b,rfl,rfl,e2,e3,rfl,e5.trans h6⟩,e4.mono (by have:=a.Dp h3.ba;rw[Tr.e8];omega)⟩
theorem drop {K:Nat} {e:E} (h:P2 k n m ra rb la lb c) (hk:2*la.length<K) :
  qk k.O K K m ra e/\∃ r' m',jK k.O K m ra e=((iv k.O e la).1,(iv k.O e la).2,r',m')/\P2 k (n+1) m' r' rb (m9 k.O e la) lb c/\nv (120*nk la.length+5) m m':=by
 obtain⟨a,b,rfl,rfl,h3,rfl,rfl,h6⟩:=h;have hh:=s_ a;obtain⟨d,a',m',e1,e2,e3,e4,e5⟩:=ad0 k.Z (K:=K) (e:=e) h3 (k.am5 _ _ (by rw[G4];exact h3.ga)) (by omega)
 exact⟨d,a'.root,m',e1,⟨a',b,rfl,rfl,e2,e3,rfl,e5.trans h6⟩,e4.mono (by have:=a.Dp h3.ba;rw[Tr.e8];omega)⟩
theorem find {K:Nat} {e:E} (h:P2 k n m ra rb la lb c) (hk:la.length<K) :
  tV k.O K (aH m ra) (lk k.O m ra) e/\∃ m',iB k.O K (aH m ra) (lk k.O m ra) e=(iv k.O e la,m')/\Sm k n (nk la.length+1) m m' ra rb la lb c:=by
 obtain⟨a,b,rfl,rfl,h3,rfl,rfl,h6⟩:=h;obtain⟨d,m',e1,e2⟩:=afY k.Z (K:=K) (e:=e) h3 (iZ (s_ a) hk);exact⟨d,m',e1,F1 (e2.mono (by have:=a.Dp h3.ba;rw[Tr.e8];omega)) h6⟩
theorem kv {K:Nat} {e:E} (h:P2 k n m ra rb la lb c) (hk:la.length<K) :
  tx k.O K (aH m ra) (lk k.O m ra) e 0/\∃ m',lK k.O K (aH m ra) (lk k.O m ra) e 0=(((oD k.O e la).length:Int),m')/\Sm k n (2*nk la.length+1) m m' ra rb la lb c:=by
 obtain⟨a,b,rfl,rfl,h3,rfl,rfl,h6⟩:=h;obtain⟨d,m',e1,e2⟩:=agH k.Z (K:=K) (e:=e) h3 (iZ (s_ a) hk);exact⟨d,m',e1,F1 (e2.mono (by have:=a.Dp h3.ba;rw[Tr.e8];omega)) h6⟩
theorem at_ {K:Nat} {i:Int} (h:P2 k n m ra rb la lb c) (hk:la.length<K) :
  AtD k.O K m ra i/\∃ m',qH k.O K m ra i=(p7 k.O i la,m')/\Sm k n (2*nk la.length+1) m m' ra rb la lb c:=by
 obtain⟨a,b,rfl,rfl,h3,rfl,rfl,h6⟩:=h;obtain⟨d,m',e1,e2⟩:=ak9 k.Z (K:=K) (i:=i) h3 (iZ (s_ a) hk);exact⟨d,m',e1,F1 (e2.mono (by have:=a.Dp h3.ba;rw[Tr.e8];omega)) h6⟩
theorem F3 {K:Nat} {f u:Int} (h:P2 k n m ra rb la lb c) (hk:la.length<K) :
  vh k.O K (aH m ra) (lk k.O m ra) f u/\∃ m',fW k.O K (aH m ra) (lk k.O m ra) f u=(⟨(sub la f.toNat u.toNat).length,k.S (sub la f.toNat u.toNat)⟩,m')/\Sm k n (4*nk la.length+1) m m' ra rb la lb c:=by
 obtain⟨a,b,rfl,rfl,h3,rfl,rfl,h6⟩:=h;obtain⟨d,m',e1,e2⟩:=ajV k.Z (K:=K) (f:=f) (u:=u) h3 (iZ (s_ a) hk);exact⟨d,m',e1,F1 (e2.mono (by have:=a.Dp h3.ba;rw[Tr.e8];omega)) h6⟩
theorem all {K:Nat} (h:P2 k n m ra rb la lb c) (hk:la.length<K) :
  (Deep k.O K m ra/\(lk k.O m ra).all.n=(cH k.O K (aH m ra) ra).1.length/\(cH k.O K (aH m ra) ra).1.length<900000)/\∃ m',cH k.O K (aH m ra) ra=(la,m')/\P2 k n m' ra rb la lb c:=by
 have hl:=h.len;obtain⟨a,b,rfl,rfl,h3,rfl,rfl,h6⟩:=h;obtain⟨d1,d2,m',kk,e1,e2⟩:=aib k.Z (K:=K) h3 (iZ (s_ a) hk);refine⟨⟨d1,?_,?_⟩,m',e1,(F1 e2 h6).p⟩
 ·rw[e1];exact d2
 ·rw[e1];simp only;omega
theorem first {K:Nat} {f:Int} {may:A->A->Bool} {P:Nat->Bool} (h:P2 k n m ra rb la lb c) (hA:Asks k.O k.S may P la) (hk:la.length<K) :
  jj k.O K (aH m ra) (lk k.O m ra)/\∃ r m',kD k.O may K (aH m ra) (lk k.O m ra) ⟨0,k.O.a0⟩ f=(r,m')/\BG P 0 la.length f r/\P2 k n m' ra rb la lb c:=by
 obtain⟨a,b,rfl,rfl,h3,rfl,rfl,h6⟩:=h;obtain⟨d,r,m',kk,e1,e2,e3⟩:=adE k.Z (K:=K) (f:=f) h3 hA (iZ (s_ a) hk);exact⟨d,r,m',e1,e2,(F1 e3 h6).p⟩
theorem last {K:Nat} {f:Int} {may:A->A->Bool} {P:Nat->Bool} (h:P2 k n m ra rb la lb c) (hA:Asks k.O k.S may P la) (hk:la.length<K) :
  jj k.O K (aH m ra) (lk k.O m ra)/\∃ r m',jX k.O may K (aH m ra) (lk k.O m ra) ⟨0,k.O.a0⟩ f=(r,m')/\EK P 0 la.length f r/\P2 k n m' ra rb la lb c:=by
 obtain⟨a,b,rfl,rfl,h3,rfl,rfl,h6⟩:=h;obtain⟨d,r,m',kk,e1,e2,e3⟩:=agn k.Z (K:=K) (f:=f) h3 hA (iZ (s_ a) hk);exact⟨d,r,m',e1,e2,(F1 e3 h6).p⟩
theorem KT {K:Nat} (h:P2 k n m ra rb la lb c) (hk:la.length<K):jj k.O K (aH m ra) (lk k.O m ra):=by
 obtain⟨a,b,rfl,rfl,h3,rfl,rfl,h6⟩:=h;exact NT k.Z h3 (iZ (s_ a) hk)
theorem split {K:Nat} {e:E} {r:Ref} {l:List E} (h:P1 k n m r l c) (hk:2*l.length<K) :
  J5 k.O K K m r e/\∃ x y m',lW k.O K K m r e=(x,y,m')/\P2 k n m' x y (oD k.O e l) (rV k.O e l) c:=by
 obtain⟨a,b,rfl,h2,h3,rfl,h5,h6⟩:=h;obtain rfl:=abx h5;obtain⟨d,x,y,m',e1,e2,e3,e4,e5⟩:=aav k.Z (K:=K) (e:=e) h3 (by rw[← Tr.e8];exact hk)
 exact⟨d,x.root,y.root,m',e1,x,y,rfl,rfl,e2,e3,e4,e5.trans h6⟩
end P2
end
theorem NA {E A:Type} (O:iL E A) {k:Nat} {m m':Po E A} {r:Ref} (h:iJ [] k (zn O) (aH m r) m'):∃ k,iJ [] k (zn O) m m':=⟨_,(gN (zn O) m r).to h (S:=[]) (fun s hs=>by simp at hs) (bc _)⟩
theorem NO {E A:Type} (O:iL E A) {a b c:Po E A} (h:∃ k,iJ [] k (zn O) a b) (h':∃ k,iJ [] k (zn O) b c):∃ k,iJ [] k (zn O) a c:=by
 obtain⟨k,h⟩:=h;obtain⟨k',h'⟩:=h';exact⟨_,h.to h' (S:=[]) (fun s hs=>by simp at hs) (bc _)⟩
theorem Il {E A:Type} (O:iL E A) (may:A->A->Bool):∀ (k:Nat) (m:Po E A) (n:Node E A) (a:Part A) (f:Int),∃ kk,iJ [] kk (zn O) m (first O may k m n a f).2
 |0,m,_,_,_=>⟨0,iJ.refl _ _ _ _⟩
 |k+1,m,n,a,f=>by
  obtain⟨k1,h1⟩:=Il O may k (aH m n.l) (lk O m n.l) a f;have h1:=NA O h1;rw[first]
  split
  ·exact⟨0,iJ.refl _ _ _ _⟩
  ·split
   ·exact⟨0,iJ.refl _ _ _ _⟩
   ·split
    ·exact h1
    ·split
     ·exact h1
     ·obtain⟨k2,h2⟩:=Il O may k (aH (first O may k (aH m n.l) (lk O m n.l) a f).2 n.r) (lk O (first O may k (aH m n.l) (lk O m n.l) a f).2 n.r) (dZ O (dZ O a (lk O m n.l).all) (one O n.e)) f
      exact NO O h1 (NA O h2)
theorem Kh {E A:Type} (O:iL E A) (may:A->A->Bool):∀ (k:Nat) (m:Po E A) (n:Node E A) (a:Part A) (f:Int),∃ kk,iJ [] kk (zn O) m (last O may k m n a f).2
 |0,m,_,_,_=>⟨0,iJ.refl _ _ _ _⟩
 |k+1,m,n,a,f=>by
  obtain⟨k1,h1⟩:=Kh O may k (aH (aH m n.l) n.r) (lk O (aH m n.l) n.r) (dZ O (dZ O a (lk O m n.l).all) (one O n.e)) f;have h1:=NO O ⟨_,gN (zn O) m n.l⟩ (NA O h1);rw[last];split
  ·exact⟨0,iJ.refl _ _ _ _⟩
  ·split
   ·exact⟨0,iJ.refl _ _ _ _⟩
   ·simp only;split
    ·exact h1
    ·split
     ·exact h1
     ·exact NO O h1 (Kh O may k _ _ _ _)
def KK:Nat:=5000
structure TS {E A:Type} (k:Kd E A) where
 n:Nat
 m:Po E A
 r:Ref
 l:List E
 c:Int
 ok:P1 k n m r l c
namespace TS
section
variable {E A:Type} {k:Kd E A}
theorem V7 (s:TS k):s.l.length≤1000:=s.ok.len
theorem kk (s:TS k):2*s.l.length<KK:=by have:=s.V7;unfold KK;omega
theorem k1 (s:TS k):s.l.length<KK:=by have:=s.kk;omega
def new (k:Kd E A) (c:Int):TS k:=⟨0,⟨[],[],[],[],0,min (max c 0) 16777216,0⟩,r0,[],min (max c 0) 16777216,P2.empty k _⟩
def gE (s:TS k):Prop:=s.n<100000
instance (s:TS k):Decidable s.gE:=inferInstanceAs (Decidable (_<_))
theorem pp (s:TS k) (h:s.gE):fX 100000 s.m:=s.ok.ok (Nat.le_of_lt h)
def seen (s:TS k):TS k:=⟨s.n,aH s.m s.r,s.r,s.l,s.c,(s.ok.seen s.r).p⟩
def h (s:TS k):Int:=(lk k.O s.m s.r).h
theorem Af (s:TS k):0≤s.h/\s.h≤nk s.l.length:=by
 obtain⟨H,e,hh⟩:=s.ok.ajY;unfold h;rw[e];omega
structure kS (s:TS k) (e:E):Prop where
 lV:s.n<100000
 dm:k.dm (lh k.O e s.l)
def Ka (s:TS k) (e:E):Bool:=(jw k.O e s.l).isSome||decide ((s.l.length:Int)≠s.c)
def MB (s:TS k) (e:E):List E:=if s.Ka e=aq then lh k.O e s.l else s.l
theorem tn {s:TS k} {e:E} (h:s.kS e):Qi k.O KK s.m s.r e/\(nO k.O KK s.m s.r e).1=s.Ka e /\
  P1 k (s.n+1) (nO k.O KK s.m s.r e).2.2 (nO k.O KK s.m s.r e).2.1 (s.MB e) s.c/\nv (32*nk s.l.length+4) s.m (nO k.O KK s.m s.r e).2.2:=by
 obtain⟨d,r',m',e1,e2,e3⟩:=s.ok.put (K:=KK) (e:=e) h.lV h.dm s.k1;rw[e1];simp only[ky,Nat.add_zero] at e2 ⊢;exact⟨d,rfl,e2,e3⟩
instance (s:TS k) (e:E):Decidable (s.kS e):=decidable_of_iff (s.n<100000/\k.dm (lh k.O e s.l)) ⟨fun⟨a,b⟩=>⟨a,b⟩,fun⟨a,b⟩=>⟨a,b⟩⟩
def put (s:TS k) (e:E):TS k:=if h:s.kS e then⟨s.n+1,(nO k.O KK s.m s.r e).2.2,(nO k.O KK s.m s.r e).2.1,s.MB e,s.c,(tn h).2.2.1⟩ else s
theorem put_eq {s:TS k} {e:E} (h:s.kS e):s.put e=⟨s.n+1,(nO k.O KK s.m s.r e).2.2,(nO k.O KK s.m s.r e).2.1,s.MB e,s.c,(tn h).2.2.1⟩:=by unfold put;rw[dif_pos h]
theorem ZT {s:TS k} {e:E} (h:s.kS e):(s.put e).l=s.MB e:=by rw[put_eq h]
theorem Tp {s:TS k} {e:E} (h:s.kS e):(s.put e).n=s.n+1:=by rw[put_eq h]
theorem S5 {s:TS k} {e:E} (h:s.kS e):(s.put e).c=s.c:=by rw[put_eq h]
theorem Li {s:TS k} {e:E} (h:s.kS e):nv (32*nk s.l.length+4) s.m (s.put e).m:=by rw[put_eq h];exact(tn h).2.2.2
theorem tc (s:TS k) (e:E):qk k.O KK KK s.m s.r e/\(jK k.O KK s.m s.r e).1=(iv k.O e s.l).1/\(jK k.O KK s.m s.r e).2.1=(iv k.O e s.l).2 /\
  P1 k (s.n+1) (jK k.O KK s.m s.r e).2.2.2 (jK k.O KK s.m s.r e).2.2.1 (m9 k.O e s.l) s.c/\nv (120*nk s.l.length+5) s.m (jK k.O KK s.m s.r e).2.2.2:=by
 obtain⟨d,r',m',e1,e2,e3⟩:=s.ok.drop (K:=KK) (e:=e) s.kk;rw[e1];exact⟨d,rfl,rfl,e2,e3⟩
def drop (s:TS k) (e:E):TS k:=⟨s.n+1,(jK k.O KK s.m s.r e).2.2.2,(jK k.O KK s.m s.r e).2.2.1,m9 k.O e s.l,s.c,(s.tc e).2.2.2.1⟩
def find (s:TS k) (e:E):TS k:=⟨s.n,(iB k.O KK (aH s.m s.r) (lk k.O s.m s.r) e).2,s.r,s.l,s.c,by obtain⟨d,m',e1,e2⟩:=s.ok.find (K:=KK) (e:=e) s.k1;rw[e1];exact e2.p⟩
def kv (s:TS k) (e:E):TS k:=⟨s.n,(lK k.O KK (aH s.m s.r) (lk k.O s.m s.r) e 0).2,s.r,s.l,s.c,by obtain⟨d,m',e1,e2⟩:=s.ok.kv (K:=KK) (e:=e) s.k1;rw[e1];exact e2.p⟩
def at_ (s:TS k) (i:Int):TS k:=⟨s.n,(qH k.O KK s.m s.r i).2,s.r,s.l,s.c,by obtain⟨d,m',e1,e2⟩:=s.ok.at_ (K:=KK) (i:=i) s.k1;rw[e1];exact e2.p⟩
def F3 (s:TS k) (f u:Int):TS k:=⟨s.n,(fW k.O KK (aH s.m s.r) (lk k.O s.m s.r) f u).2,s.r,s.l,s.c,by obtain⟨d,m',e1,e2⟩:=s.ok.F3 (K:=KK) (f:=f) (u:=u) s.k1;rw[e1];exact e2.p⟩
def all (s:TS k):TS k:=⟨s.n,(cH k.O KK (aH s.m s.r) s.r).2,s.r,s.l,s.c,by obtain⟨d,m',e1,e2⟩:=s.ok.all (K:=KK) s.k1;rw[e1];exact e2⟩
theorem Iv (s:TS k) (e:E):nv (nk s.l.length+1) s.m (s.find e).m:=by
 obtain⟨d,m',e1,e2⟩:=s.ok.find (K:=KK) (e:=e) s.k1;show nv _ s.m (iB k.O KK (aH s.m s.r) (lk k.O s.m s.r) e).2
 rw[e1];exact e2.qA
theorem ady (s:TS k) (e:E):nv (2*nk s.l.length+1) s.m (s.kv e).m:=by
 obtain⟨d,m',e1,e2⟩:=s.ok.kv (K:=KK) (e:=e) s.k1;show nv _ s.m (lK k.O KK (aH s.m s.r) (lk k.O s.m s.r) e 0).2
 rw[e1];exact e2.qA
theorem K6 (s:TS k) (f u:Int):nv (4*nk s.l.length+1) s.m (s.F3 f u).m:=by
 obtain⟨d,m',e1,e2⟩:=s.ok.F3 (K:=KK) (f:=f) (u:=u) s.k1;show nv _ s.m (fW k.O KK (aH s.m s.r) (lk k.O s.m s.r) f u).2
 rw[e1];exact e2.qA
theorem tM (s:TS k):nv 1 s.m s.seen.m:=(s.ok.seen s.r).qA
theorem Nu (s:TS k) (e:E):nv (120*nk s.l.length+5) s.m (s.drop e).m:=(s.tc e).2.2.2.2
def uo (may:A->A->Bool) (s:TS k) (f:Int):Int:=(kD k.O may KK (aH s.m s.r) (lk k.O s.m s.r) ⟨0,k.O.a0⟩ f).1
def AT (may:A->A->Bool) (s:TS k) (f:Int):Int:=(jX k.O may KK (aH s.m s.r) (lk k.O s.m s.r) ⟨0,k.O.a0⟩ f).1
def first (may:A->A->Bool) (s:TS k) (f:Int):TS k:=⟨s.n,(kD k.O may KK (aH s.m s.r) (lk k.O s.m s.r) ⟨0,k.O.a0⟩ f).2,s.r,s.l,s.c,P2.qg (s.ok.seen s.r).p (Il k.O may KK _ _ _ _)⟩
def last (may:A->A->Bool) (s:TS k) (f:Int):TS k:=⟨s.n,(jX k.O may KK (aH s.m s.r) (lk k.O s.m s.r) ⟨0,k.O.a0⟩ f).2,s.r,s.l,s.c,P2.qg (s.ok.seen s.r).p (Kh k.O may KK _ _ _ _)⟩
theorem TJ {may:A->A->Bool} {P:Nat->Bool} {s:TS k} {f:Int} (h:Asks k.O k.S may P s.l):BG P 0 s.l.length f (s.uo may f):=by
 obtain⟨d,r,m',e1,e2,e3⟩:=s.ok.first (K:=KK) (f:=f) h s.k1
 unfold uo;rw[e1];exact e2
theorem XX {may:A->A->Bool} {P:Nat->Bool} {s:TS k} {f:Int} (h:Asks k.O k.S may P s.l):EK P 0 s.l.length f (s.AT may f):=by
 obtain⟨d,r,m',e1,e2,e3⟩:=s.ok.last (K:=KK) (f:=f) h s.k1;unfold AT;rw[e1];exact e2
theorem KT (s:TS k):jj k.O KK (aH s.m s.r) (lk k.O s.m s.r):=s.ok.KT s.k1
end
end TS
end Gv
namespace G8
open Rx
set_option maxRecDepth 100000
def k8:Gv.Kd Wv.Mk Wv.Sw:=⟨Wv.O8,Wv.S8,Wv.FC,(fun l=>inferInstanceAs (Decidable (l.length≤60))),Wv.SY,(fun x h=>iY h (by decide)),dx _,(fun x y h=>by
 unfold Wv.FC at *
 rw[bJ] at *
 rw[List.length_tail];omega)⟩
abbrev Ts:=Gv.TS k8
inductive Rt
 |tree (s:Ts)
def HE:Rt->Hp Rs
 |.tree s=>[aa (.inl (110,[.pointer (aa ⟨1,0,aj⟩),.int .i64 s.r.i,.int .i64 s.r.g])),aa (.inr (.inr (.inr (.dd s.m))))]
def L2:EF Rt Rs where
 lay:=HE
 ne x:=by cases x<;>exact sD _
 own x b X h:=by
  cases x with
  |tree s =>
   match b,h with
   |0,h=>simp only[HE,cf,cu] at h;subst h;rfl
   |1,h=>simp only[HE,List.getElem?_cons_succ,cf,cu] at h;subst h;rfl
   |b+2,h=>simp[HE] at h
 ins x:=by cases x<;>rfl
def D2:fK Rt:=FA D L2
abbrev oT (s:Ts):Option (SB Rt):=aa (.inr (.inr (.inr (.tree s))))
def px (n:Nat) (c:aT):Prop:=∃ l:List Int,c=⟨l,[],[]⟩/\l.length=n
def OL (n:Nat) (c:aT):Prop:=∃ l:List Bool,c=⟨[],l,[]⟩/\l.length=n
def q7 (n:Nat) (gs:List Int) (lv:List Bool) (i g:Int):Bool:=decide (0≤i)&&decide (i<n)&&lv.getD i.toNat ao&&decide (gs.getD i.toNat 0=g)
structure adF (n:Nat) (c0 c1 c2 c3 c4 c5 c6 c7 c8 c9 oA om oo zC ze zG zh zD z5 zM zA zm zf zB zy zS zT zK zp zu yd ye:aT):Prop where
 Df:px n c0
 PG:OL n c1
 pS:px n c2
 R6:px n c3
 hc4:OL n c4
 hc5:OL n c5
 hc6:px n c6
 hc7:px n c7
 hc8:px n c8
 hc9:px n c9
 am0:px n oA
 amO:px n om
 amZ:px n oo
 apo:px n zC
 apg:px n ze
 ao_:px n zG
 apr:px n zh
 aoF:px n zD
 apt:px n z5
 aph:px n zM
 aoN:px n zA
 aoY:px n zm
 aoV:px n zf
 aoQ:OL n zB
 apb:px n zy
 ao4:px n zS
 aoW:OL n zT
 aoP:px n zK
 ao5:px n zp
 api:px n zu
 ao0:px n yd
 apq:OL n ye
def mQ (n:Nat):List aT->Prop
 |[c0,c1,c2,c3,c4,c5,c6,c7,c8,c9,oA,om,oo,zC,ze,zG,zh,zD,z5,zM,zA,zm,zf,zB,zy,zS,zT,zK,zp,zu,yd,ye]=>adF n c0 c1 c2 c3 c4 c5 c6 c7 c8 c9 oA om oo zC ze zG zh zD z5 zM zA zm zf zB zy zS zT zK zp zu yd ye
 |_=>False
def VD:List Value->Hp Empty->Option Bool:=fun args hh=>match args,hh with
 |[.pointer (aa ⟨0,0,aj⟩),.agg ⟨[.int .i64 i,.int .i64 g]⟩],[aa (.inl (186,[.slice (aa ⟨1,0,aa 32000⟩) n cp,.slice (aa ⟨2,0,aa 1000⟩) fn fc,.int .i64 hd,.int .i64 ca,.int .i64 vi])),aa (.inr (.inl (189,⟨tm,n2,[c0,c1,c2,c3,c4,c5,c6,c7,c8,c9,oA,om,oo,zC,ze,zG,zh,zD,z5,zM,zA,zm,zf,zB,zy,zS,zT,zK,zp,zu,yd,ye]⟩))),aa (.inr (.inl (3,⟨[.int .i64 0],f2,[⟨fr,[],[]⟩]⟩)))]=>aa (q7 n yd.i ye.b i g)
 |_,_=>aj
def J':Prim Empty:=fun args hh=>match args,hh with
 |[.pointer (aa ⟨0,0,aj⟩),.agg ⟨[.int .i64 i,.int .i64 g]⟩],[aa (.inl (186,[.slice (aa ⟨1,0,aa 32000⟩) n cp,.slice (aa ⟨2,0,aa 1000⟩) fn fc,.int .i64 hd,.int .i64 ca,.int .i64 vi])),aa (.inr (.inl (189,⟨tm,n2,[c0,c1,c2,c3,c4,c5,c6,c7,c8,c9,oA,om,oo,zC,ze,zG,zh,zD,z5,zM,zA,zm,zf,zB,zy,zS,zT,zK,zp,zu,yd,ye]⟩))),aa (.inr (.inl (3,⟨[.int .i64 0],f2,[⟨fr,[],[]⟩]⟩)))]=>aa ⟨tm=dj/\n2=n/\n<1000000/\mQ n [c0,c1,c2,c3,c4,c5,c6,c7,c8,c9,oA,om,oo,zC,ze,zG,zh,zD,z5,zM,zA,zm,zf,zB,zy,zS,zT,zK,zp,zu,yd,ye],.pointer (aa ⟨1,i.toNat,aa 32000⟩),aj,[aa (.inl (186,[.slice (aa ⟨1,0,aa 32000⟩) n cp,.slice (aa ⟨2,0,aa 1000⟩) fn fc,.int .i64 hd,.int .i64 ca,.int .i64 (av.wrap (vi+1))])),aa (.inr (.inl (189,⟨tm,n2,[c0,c1,c2,c3,c4,c5,c6,c7,c8,c9,oA,om,oo,zC,ze,zG,zh,zD,z5,zM,zA,zm,zf,zB,zy,zS,zT,zK,zp,zu,yd,ye]⟩))),aa (.inr (.inl (3,⟨[.int .i64 0],f2,[⟨fr,[],[]⟩]⟩)))],[],[(0,0)]⟩
 |_,_=>aj
def Jw:Prim Empty:=fun args hh=>match args,hh with
 |[.pointer (aa ⟨0,0,aj⟩),.agg ⟨[.int .i64 i,.int .i64 g]⟩],[aa (.inl (186,[.slice (aa ⟨1,0,aa 32000⟩) n cp,.slice (aa ⟨2,0,aa 1000⟩) fn fc,.int .i64 hd,.int .i64 ca,.int .i64 vi])),aa (.inr (.inl (189,⟨tm,n2,[c0,c1,c2,c3,c4,c5,c6,c7,c8,c9,oA,om,oo,zC,ze,zG,zh,zD,z5,zM,zA,zm,zf,zB,zy,zS,zT,zK,zp,zu,yd,ye]⟩))),aa (.inr (.inl (3,⟨[.int .i64 0],f2,[⟨fr,[],[]⟩]⟩)))]=>aa ⟨tm=dj/\n2=n/\n<1000000/\mQ n [c0,c1,c2,c3,c4,c5,c6,c7,c8,c9,oA,om,oo,zC,ze,zG,zh,zD,z5,zM,zA,zm,zf,zB,zy,zS,zT,zK,zp,zu,yd,ye],.pointer aj,aj,hh,[],[]⟩
 |_,_=>aj
def qM:je Empty:=⟨VD,J',Jw⟩
def Vr:eK Empty:=[(1000000000,lJ)]
theorem KA:cQ sT Tryz.prog Vr:=⟨iu,trivial⟩
theorem J9:rB sT Tryz.prog 145 (rW qM aq) (qM.go aq):=by
 refine v8 (fn:=Tryz.f145) (root:=dM Tryz.f145) (by kernel_rfl) (by kernel_rfl) (by kernel_rfl) fun args hh x hx=>?_
 unfold qM je.go J' at hx;simp only at hx;split at hx
 ·rename_i i g n cp fn fc hd ca vi tm n2 c0 c1 c2 c3 c4 c5 c6 c7 c8 c9 oA om oo zC ze zG zh zD z5 zM zA zm zf zB zy zS zT zK zp zu yd ye f2 fr;cases hx;refine⟨bc _,(fun b hb=>by cases hb),(fun hw=>by first|rfl|cases hw),fun mK hv=>?_⟩
  obtain⟨rfl,rfl,u6,⟨⟨l0,rfl,n_⟩,⟨l1,rfl,zW⟩,⟨l2,rfl,Bj⟩,⟨l3,rfl,yr⟩,⟨l4,rfl,yb⟩,⟨l5,rfl,EZ⟩,⟨l6,rfl,EJ⟩,⟨l7,rfl,En⟩,⟨l8,rfl,EG⟩,⟨l9,rfl,ED⟩,⟨qJ,rfl,yM⟩,⟨nI,rfl,yU⟩,⟨mP,rfl,yI⟩,⟨Ck,rfl,Np⟩,⟨Ci,rfl,NF⟩,⟨CM,rfl,Mv⟩,⟨CN,rfl,NW⟩,⟨CT,rfl,NU⟩,⟨CU,rfl,No⟩,⟨CD,rfl,Nk⟩,⟨CS,rfl,MZ⟩,⟨CW,rfl,Nm⟩,⟨CO,rfl,M0⟩,⟨CB,rfl,NJ⟩,⟨CG,rfl,MW⟩,⟨CK,rfl,Mx⟩,⟨CV,rfl,ME⟩,⟨Cj,rfl,MV⟩,⟨CL,rfl,MR⟩,⟨CZ,rfl,NN⟩,⟨uD,rfl,Nh⟩,⟨sn,rfl,M_⟩⟩⟩:=hv;have hw:q7 n2 uD sn i g=aq:=by
   rcases mK with⟨h,_⟩|h
   ·exact(wk _ h).elim
   ·exact o9 h
  clear mK;generalize hG:ct (R:=Empty) _ _=G;refine cW (T:=Vr) KA mixed 200 ?_;refine bN (q:=let Z1:=bs av;(decide (i<(0:Int))=aq->Vc (aD (decide (i<(0:Int)))=aD aq)/\aY (G (aE aj) [aa (.inl (186,[.slice (aa ⟨1,0,aa 32000⟩) n2 cp,.slice (aa ⟨2,0,aa 1000⟩) fn fc,Z1 hd,Z1 ca,Z1 vi])),aa (.inr (.inl (189,Row.mk dj n2 (cV l0 l1 l2 l3 l4 l5 l6 l7 l8 l9 qJ nI mP Ck Ci CM CN CT CU CD CS CW CO CB CG CK CV Cj CL CZ uD sn)))),aa (.inr (.inl (3,Row.mk [Z1 0] f2 [aT.mk fr [] []]))),aa (.inl (108,[Z1 i,Z1 g]))]))/\(decide (i<(0:Int))=ao->Vc (aD (decide (i<(0:Int)))=aD ao)/\(decide (i≥(↑n2:Int))=aq->aY (G (aE aj) [aa (.inl (186,[.slice (aa ⟨1,0,aa 32000⟩) n2 cp,.slice (aa ⟨2,0,aa 1000⟩) fn fc,Z1 hd,Z1 ca,Z1 vi])),aa (.inr (.inl (189,Row.mk dj n2 (cV l0 l1 l2 l3 l4 l5 l6 l7 l8 l9 qJ nI mP Ck Ci CM CN CT CU CD CS CW CO CB CG CK CV Cj CL CZ uD sn)))),aa (.inr (.inl (3,Row.mk [Z1 0] f2 [aT.mk fr [] []]))),aa (.inl (108,[Z1 i,Z1 g]))]))/\(decide (i≥(↑n2:Int))=ao->Vc ((0:Int)≤i/\i<(↑n2:Int)/\0+n2≤n2)/\Vc (0+aI i<n2)/\((!ay sn (0+aI i) ao)=aq->Vc (0+aI i<n2)/\Vc ((aD !ay sn (0+aI i) ao)=aD aq)/\aY (G (aE aj) [aa (.inl (186,[.slice (aa ⟨1,0,aa 32000⟩) n2 cp,.slice (aa ⟨2,0,aa 1000⟩) fn fc,Z1 hd,Z1 ca,Z1 vi])),aa (.inr (.inl (189,Row.mk dj n2 (cV l0 l1 l2 l3 l4 l5 l6 l7 l8 l9 qJ nI mP Ck Ci CM CN CT CU CD CS CW CO CB CG CK CV Cj CL CZ uD sn)))),aa (.inr (.inl (3,Row.mk [Z1 0] f2 [aT.mk fr [] []]))),aa (.inl (108,[Z1 i,Z1 g]))]))/\((!ay sn (0+aI i) ao)=ao->Vc (0+aI i<n2)/\Vc ((aD !ay sn (0+aI i) ao)=aD ao)/\Vc (0+aI i<n2)/\((ay uD (0+aI i) (0:Int) != g)=aq->aY (G (aE aj) [aa (.inl (186,[.slice (aa ⟨1,0,aa 32000⟩) n2 cp,.slice (aa ⟨2,0,aa 1000⟩) fn fc,Z1 hd,Z1 ca,Z1 vi])),aa (.inr (.inl (189,Row.mk dj n2 (cV l0 l1 l2 l3 l4 l5 l6 l7 l8 l9 qJ nI mP Ck Ci CM CN CT CU CD CS CW CO CB CG CK CV Cj CL CZ uD sn)))),aa (.inr (.inl (3,Row.mk [Z1 0] f2 [aT.mk fr [] []]))),aa (.inl (108,[Z1 i,Z1 g]))]))/\((ay uD (0+aI i) (0:Int) != g)=ao->Vc True/\aY (G (aE (aa (RD 1 (0+aI i) (aa 32000)))) [aa (.inl (186,[.slice (aa ⟨1,0,aa 32000⟩) n2 cp,.slice (aa ⟨2,0,aa 1000⟩) fn fc,Z1 hd,Z1 ca,Z1 (cr av (vi+(1:Int)))])),aa (.inr (.inl (189,Row.mk dj n2 (cV l0 l1 l2 l3 l4 l5 l6 l7 l8 l9 qJ nI mP Ck Ci CM CN CT CU CD CS CW CO CB CG CK CV Cj CL CZ uD sn)))),aa (.inr (.inl (3,Row.mk [Z1 0] f2 [aT.mk fr [] []]))),aa (.inl (108,[Z1 i,Z1 g]))])))))) ?_ (by kernel_rfl)
  intro Z1;subst Z1;have e0:0+i.toNat=i.toNat:=b5 _;rw[e0];clear n_ zW Bj yr yb EZ EJ En EG ED yM yU yI Np NF Mv NW NU No Nk MZ Nm M0 NJ MW Mx ME MV MR NN Nh M_;subst hG;have rU:q7 n2 uD sn i g=(decide (0≤i)&&decide (i<n2)&&(sn).getD i.toNat ao&&decide ((uD).getD i.toNat 0=g)):=rfl;refine⟨fun h=>⟨⟨congrArg aD h⟩,⟨?_⟩⟩,fun h=>⟨⟨congrArg aD h⟩,fun h2=>⟨?_⟩,fun h2=>?_⟩⟩
  rotate_left 2
  ·have i0:=of_decide_eq_false h;have i1:=of_decide_eq_false h2;rw[decide_eq_true (by omega),decide_eq_true (by omega),ji,ji] at rU
   refine⟨⟨by omega,by omega,by omega⟩,⟨by omega⟩,fun h3=>⟨⟨by omega⟩,⟨congrArg aD h3⟩,⟨?_⟩⟩,fun h3=>⟨⟨by omega⟩,⟨congrArg aD h3⟩,⟨by omega⟩,fun h4=>⟨?_⟩,fun h4=>⟨⟨trivial⟩,⟨?_⟩⟩⟩⟩
   ·rw[Bool.not_eq_true'] at h3;rw[hw,h3] at rU;cases rU
   ·rw[hw,decide_eq_false (ne_of_beq_false (by simpa using h4)),uM] at rU;cases rU
   ·exact⟨[0,1,2],rfl,rfl,⟨.inl rfl,⟨_,rfl,.inl rfl⟩,⟨_,rfl,.inl rfl⟩,trivial⟩,rfl,rfl,rfl,rfl⟩
  ·have:=of_decide_eq_true h;rw[hw,decide_eq_false (by omega)] at rU;cases rU
  ·have:=of_decide_eq_true h2;rw[hw,decide_eq_false (p:=i<n2) (by omega),uM] at rU;cases rU
 ·cases hx
theorem KF:rB sT Tryz.prog 145 (rW qM ao) (qM.go ao):=by
 refine v8 (fn:=Tryz.f145) (root:=dM Tryz.f145) (by kernel_rfl) (by kernel_rfl) (by kernel_rfl) fun args hh x hx=>?_
 unfold qM je.go Jw at hx;simp only at hx;split at hx
 ·rename_i i g n cp fn fc hd ca vi tm n2 c0 c1 c2 c3 c4 c5 c6 c7 c8 c9 oA om oo zC ze zG zh zD z5 zM zA zm zf zB zy zS zT zK zp zu yd ye f2 fr;cases hx;refine⟨bc _,(fun b hb=>by cases hb),(fun hw=>by first|rfl|cases hw),fun mK hv=>?_⟩
  obtain⟨rfl,rfl,u6,⟨⟨l0,rfl,n_⟩,⟨l1,rfl,zW⟩,⟨l2,rfl,Bj⟩,⟨l3,rfl,yr⟩,⟨l4,rfl,yb⟩,⟨l5,rfl,EZ⟩,⟨l6,rfl,EJ⟩,⟨l7,rfl,En⟩,⟨l8,rfl,EG⟩,⟨l9,rfl,ED⟩,⟨qJ,rfl,yM⟩,⟨nI,rfl,yU⟩,⟨mP,rfl,yI⟩,⟨Ck,rfl,Np⟩,⟨Ci,rfl,NF⟩,⟨CM,rfl,Mv⟩,⟨CN,rfl,NW⟩,⟨CT,rfl,NU⟩,⟨CU,rfl,No⟩,⟨CD,rfl,Nk⟩,⟨CS,rfl,MZ⟩,⟨CW,rfl,Nm⟩,⟨CO,rfl,M0⟩,⟨CB,rfl,NJ⟩,⟨CG,rfl,MW⟩,⟨CK,rfl,Mx⟩,⟨CV,rfl,ME⟩,⟨Cj,rfl,MV⟩,⟨CL,rfl,MR⟩,⟨CZ,rfl,NN⟩,⟨uD,rfl,Nh⟩,⟨sn,rfl,M_⟩⟩⟩:=hv;have hw:q7 n2 uD sn i g=ao:=by
   rcases mK with⟨h,_⟩|h
   ·exact(wk _ h).elim
   ·exact o9 h
  clear mK;generalize hG:ct (R:=Empty) _ _=G;refine cW (T:=Vr) KA mixed 200 ?_;refine bN (q:=let Z1:=bs av;(decide (i<(0:Int))=aq->Vc (aD (decide (i<(0:Int)))=aD aq)/\aY (G (aE aj) [aa (.inl (186,[.slice (aa ⟨1,0,aa 32000⟩) n2 cp,.slice (aa ⟨2,0,aa 1000⟩) fn fc,Z1 hd,Z1 ca,Z1 vi])),aa (.inr (.inl (189,Row.mk dj n2 (cV l0 l1 l2 l3 l4 l5 l6 l7 l8 l9 qJ nI mP Ck Ci CM CN CT CU CD CS CW CO CB CG CK CV Cj CL CZ uD sn)))),aa (.inr (.inl (3,Row.mk [Z1 0] f2 [aT.mk fr [] []]))),aa (.inl (108,[Z1 i,Z1 g]))]))/\(decide (i<(0:Int))=ao->Vc (aD (decide (i<(0:Int)))=aD ao)/\(decide (i≥(↑n2:Int))=aq->aY (G (aE aj) [aa (.inl (186,[.slice (aa ⟨1,0,aa 32000⟩) n2 cp,.slice (aa ⟨2,0,aa 1000⟩) fn fc,Z1 hd,Z1 ca,Z1 vi])),aa (.inr (.inl (189,Row.mk dj n2 (cV l0 l1 l2 l3 l4 l5 l6 l7 l8 l9 qJ nI mP Ck Ci CM CN CT CU CD CS CW CO CB CG CK CV Cj CL CZ uD sn)))),aa (.inr (.inl (3,Row.mk [Z1 0] f2 [aT.mk fr [] []]))),aa (.inl (108,[Z1 i,Z1 g]))]))/\(decide (i≥(↑n2:Int))=ao->Vc ((0:Int)≤i/\i<(↑n2:Int)/\0+n2≤n2)/\Vc (0+aI i<n2)/\((!ay sn (0+aI i) ao)=aq->Vc (0+aI i<n2)/\Vc ((aD !ay sn (0+aI i) ao)=aD aq)/\aY (G (aE aj) [aa (.inl (186,[.slice (aa ⟨1,0,aa 32000⟩) n2 cp,.slice (aa ⟨2,0,aa 1000⟩) fn fc,Z1 hd,Z1 ca,Z1 vi])),aa (.inr (.inl (189,Row.mk dj n2 (cV l0 l1 l2 l3 l4 l5 l6 l7 l8 l9 qJ nI mP Ck Ci CM CN CT CU CD CS CW CO CB CG CK CV Cj CL CZ uD sn)))),aa (.inr (.inl (3,Row.mk [Z1 0] f2 [aT.mk fr [] []]))),aa (.inl (108,[Z1 i,Z1 g]))]))/\((!ay sn (0+aI i) ao)=ao->Vc (0+aI i<n2)/\Vc ((aD !ay sn (0+aI i) ao)=aD ao)/\Vc (0+aI i<n2)/\((ay uD (0+aI i) (0:Int) != g)=aq->aY (G (aE aj) [aa (.inl (186,[.slice (aa ⟨1,0,aa 32000⟩) n2 cp,.slice (aa ⟨2,0,aa 1000⟩) fn fc,Z1 hd,Z1 ca,Z1 vi])),aa (.inr (.inl (189,Row.mk dj n2 (cV l0 l1 l2 l3 l4 l5 l6 l7 l8 l9 qJ nI mP Ck Ci CM CN CT CU CD CS CW CO CB CG CK CV Cj CL CZ uD sn)))),aa (.inr (.inl (3,Row.mk [Z1 0] f2 [aT.mk fr [] []]))),aa (.inl (108,[Z1 i,Z1 g]))]))/\((ay uD (0+aI i) (0:Int) != g)=ao->Vc True/\aY (G (aE (aa (RD 1 (0+aI i) (aa 32000)))) [aa (.inl (186,[.slice (aa ⟨1,0,aa 32000⟩) n2 cp,.slice (aa ⟨2,0,aa 1000⟩) fn fc,Z1 hd,Z1 ca,Z1 (cr av (vi+(1:Int)))])),aa (.inr (.inl (189,Row.mk dj n2 (cV l0 l1 l2 l3 l4 l5 l6 l7 l8 l9 qJ nI mP Ck Ci CM CN CT CU CD CS CW CO CB CG CK CV Cj CL CZ uD sn)))),aa (.inr (.inl (3,Row.mk [Z1 0] f2 [aT.mk fr [] []]))),aa (.inl (108,[Z1 i,Z1 g]))])))))) ?_ (by kernel_rfl)
  intro Z1;subst Z1;have e0:0+i.toNat=i.toNat:=b5 _;rw[e0];clear n_ zW Bj yr yb EZ EJ En EG ED yM yU yI Np NF Mv NW NU No Nk MZ Nm M0 NJ MW Mx ME MV MR NN Nh M_;subst hG;have rU:q7 n2 uD sn i g=(decide (0≤i)&&decide (i<n2)&&(sn).getD i.toNat ao&&decide ((uD).getD i.toNat 0=g)):=rfl;refine⟨fun h=>⟨⟨congrArg aD h⟩,⟨?_⟩⟩,fun h=>⟨⟨congrArg aD h⟩,fun h2=>⟨?_⟩,fun h2=>?_⟩⟩
  rotate_left 2
  ·have i0:=of_decide_eq_false h;have i1:=of_decide_eq_false h2;rw[decide_eq_true (by omega),decide_eq_true (by omega),ji,ji] at rU
   refine⟨⟨by omega,by omega,by omega⟩,⟨by omega⟩,fun h3=>⟨⟨by omega⟩,⟨congrArg aD h3⟩,⟨?_⟩⟩,fun h3=>⟨⟨by omega⟩,⟨congrArg aD h3⟩,⟨by omega⟩,fun h4=>⟨?_⟩,fun h4=>⟨⟨trivial⟩,⟨?_⟩⟩⟩⟩
   ·exact⟨[0,1,2],rfl,rfl,⟨.inl rfl,⟨_,rfl,.inl rfl⟩,⟨_,rfl,.inl rfl⟩,trivial⟩,rfl,rfl,rfl,rfl⟩
   ·exact⟨[0,1,2],rfl,rfl,⟨.inl rfl,⟨_,rfl,.inl rfl⟩,⟨_,rfl,.inl rfl⟩,trivial⟩,rfl,rfl,rfl,rfl⟩
   ·rw[hw,decide_eq_true (by simpa using h4),Bool.and_true] at rU;rw[Bool.not_eq_false'] at h3;rw[h3] at rU;cases rU
  ·exact⟨[0,1,2],rfl,rfl,⟨.inl rfl,⟨_,rfl,.inl rfl⟩,⟨_,rfl,.inl rfl⟩,trivial⟩,rfl,rfl,rfl,rfl⟩
  ·exact⟨[0,1,2],rfl,rfl,⟨.inl rfl,⟨_,rfl,.inl rfl⟩,⟨_,rfl,.inl rfl⟩,trivial⟩,rfl,rfl,rfl,rfl⟩
 ·cases hx
theorem NM:ck sT Tryz.prog 145 qM:=fun b=>by cases b;exact KF;exact J9
theorem Rl:Vc (fits (-1)):=⟨⟨by omega,by omega⟩⟩
theorem Uj {n:Nat} (h:n<1000000):Vc (0+n≤n/\1≤1/\(n+1)*256≤140737488355328/\n+1≤140737488355328):=⟨by omega,by omega,by omega,by omega⟩
theorem QJ {n:Nat} (h:n<1000000):Vc (fits (((n+1:Nat):Int)-1)):=⟨⟨by omega,by omega⟩⟩
theorem Yx (n:Nat):((n+1:Nat):Int)-1=n:=by omega
def YY:List Value->Hp Empty->Option Bool:=fun args hh=>match args,hh with
 |[.pointer (aa ⟨0,0,aj⟩)],[aa (.inl (186,[.slice (aa ⟨1,0,aa 32000⟩) n cp,.slice (aa ⟨2,0,aa 1000⟩) fn fc,.int .i64 hd,.int .i64 ca,.int .i64 vi])),aa (.inr (.inl (189,⟨tm,n2,[c0,c1,c2,c3,c4,c5,c6,c7,c8,c9,oA,om,oo,zC,ze,zG,zh,zD,z5,zM,zA,zm,zf,zB,zy,zS,zT,zK,zp,zu,yd,ye]⟩))),aa (.inr (.inl (3,⟨[.int .i64 0],f2,[⟨fr,[],[]⟩]⟩)))]=>aa (decide (fn=0))
 |_,_=>aj
def PO:Prim Empty:=fun args hh=>match args,hh with
 |[.pointer (aa ⟨0,0,aj⟩)],[aa (.inl (186,[.slice (aa ⟨1,0,aa 32000⟩) n cp,.slice (aa ⟨2,0,aa 1000⟩) fn fc,.int .i64 hd,.int .i64 ca,.int .i64 vi])),aa (.inr (.inl (189,⟨tm,n2,[c0,c1,c2,c3,c4,c5,c6,c7,c8,c9,oA,om,oo,zC,ze,zG,zh,zD,z5,zM,zA,zm,zf,zB,zy,zS,zT,zK,zp,zu,yd,ye]⟩))),aa (.inr (.inl (3,⟨[.int .i64 0],f2,[⟨fr,[],[]⟩]⟩)))]=>aa ⟨fn=0/\f2=fn/\fc=0/\cp=0/\tm=dj/\n2=n/\n<1000000/\mQ n [c0,c1,c2,c3,c4,c5,c6,c7,c8,c9,oA,om,oo,zC,ze,zG,zh,zD,z5,zM,zA,zm,zf,zB,zy,zS,zT,zK,zp,zu,yd,ye],.int .i64 n,aj,[aa (.inl (186,[.slice (aa ⟨3,0,aa 32000⟩) (n+1) 0,.slice (aa ⟨2,0,aa 1000⟩) fn fc,.int .i64 hd,.int .i64 ca,.int .i64 vi])),aj,aa (.inr (.inl (3,⟨[.int .i64 0],f2,[⟨fr,[],[]⟩]⟩))),aa (.inr (.inl (189,⟨tm,(n+1),[⟨c0.i++[0],[],[]⟩,⟨[],c1.b++[ao],[]⟩,⟨c2.i++[0],[],[]⟩,⟨c3.i++[0],[],[]⟩,⟨[],c4.b++[ao],[]⟩,⟨[],c5.b++[ao],[]⟩,⟨c6.i++[0],[],[]⟩,⟨c7.i++[0],[],[]⟩,⟨c8.i++[0],[],[]⟩,⟨c9.i++[0],[],[]⟩,⟨oA.i++[0],[],[]⟩,⟨om.i++[0],[],[]⟩,⟨oo.i++[0],[],[]⟩,⟨zC.i++[0],[],[]⟩,⟨ze.i++[0],[],[]⟩,⟨zG.i++[0],[],[]⟩,⟨zh.i++[0],[],[]⟩,⟨zD.i++[0],[],[]⟩,⟨z5.i++[0],[],[]⟩,⟨zM.i++[0],[],[]⟩,⟨zA.i++[0],[],[]⟩,⟨zm.i++[0],[],[]⟩,⟨zf.i++[0],[],[]⟩,⟨[],zB.b++[ao],[]⟩,⟨zy.i++[0],[],[]⟩,⟨zS.i++[0],[],[]⟩,⟨[],zT.b++[ao],[]⟩,⟨zK.i++[0],[],[]⟩,⟨zp.i++[0],[],[]⟩,⟨zu.i++[0],[],[]⟩,⟨yd.i++[0],[],[]⟩,⟨[],ye.b++[ao],[]⟩]⟩)))],[],[(0,0)]⟩
 |_,_=>aj
def Oh:Prim Empty:=fun args hh=>match args,hh with
 |[.pointer (aa ⟨0,0,aj⟩)],[aa (.inl (186,[.slice (aa ⟨1,0,aa 32000⟩) n cp,.slice (aa ⟨2,0,aa 1000⟩) fn fc,.int .i64 hd,.int .i64 ca,.int .i64 vi])),aa (.inr (.inl (189,⟨tm,n2,[c0,c1,c2,c3,c4,c5,c6,c7,c8,c9,oA,om,oo,zC,ze,zG,zh,zD,z5,zM,zA,zm,zf,zB,zy,zS,zT,zK,zp,zu,yd,ye]⟩))),aa (.inr (.inl (3,⟨[.int .i64 0],f2,[⟨fr,[],[]⟩]⟩)))]=>aa ⟨fn≠0/\f2=fn/\fr.length=fn/\fc=0/\cp=0/\fn<1000000/\tm=dj/\n2=n/\n<1000000/\mQ n [c0,c1,c2,c3,c4,c5,c6,c7,c8,c9,oA,om,oo,zC,ze,zG,zh,zD,z5,zM,zA,zm,zf,zB,zy,zS,zT,zK,zp,zu,yd,ye],.int .i64 (fr.getD (fn-1) 0),aj,[aa (.inl (186,[.slice (aa ⟨1,0,aa 32000⟩) n 0,.slice (aa ⟨2,0,aa 1000⟩) (fn-1) 0,.int .i64 hd,.int .i64 ca,.int .i64 vi])),aa (.inr (.inl (189,⟨tm,n2,[c0,c1,c2,c3,c4,c5,c6,c7,c8,c9,oA,om,oo,zC,ze,zG,zh,zD,z5,zM,zA,zm,zf,zB,zy,zS,zT,zK,zp,zu,yd,ye]⟩))),aa (.inr (.inl (3,⟨[.int .i64 0],(fn-1),[⟨(fr.take (fn-1)),[],[]⟩]⟩)))],[],[(0,0)]⟩
 |_,_=>aj
def tz:je Empty:=⟨YY,PO,Oh⟩
theorem Nf:rB sT Tryz.prog 135 (rW tz aq) (tz.go aq):=by
 refine v8 (fn:=Tryz.f135) (root:=dM Tryz.f135) (by kernel_rfl) (by kernel_rfl) (by kernel_rfl) fun args hh x hx=>?_
 unfold tz je.go PO at hx;simp only at hx;split at hx
 ·rename_i n cp fn fc hd ca vi tm n2 c0 c1 c2 c3 c4 c5 c6 c7 c8 c9 oA om oo zC ze zG zh zD z5 zM zA zm zf zB zy zS zT zK zp zu yd ye f2 fr;cases hx;refine⟨by first|exact bc _|exact mH _,(fun b hb=>by cases hb),(fun hw=>by first|rfl|cases hw),fun mK hv=>?_⟩
  obtain⟨rfl,rfl,rfl,rfl,hv⟩:=hv;obtain⟨rfl,rfl,u6,⟨⟨l0,rfl,n_⟩,⟨l1,rfl,zW⟩,⟨l2,rfl,Bj⟩,⟨l3,rfl,yr⟩,⟨l4,rfl,yb⟩,⟨l5,rfl,EZ⟩,⟨l6,rfl,EJ⟩,⟨l7,rfl,En⟩,⟨l8,rfl,EG⟩,⟨l9,rfl,ED⟩,⟨qJ,rfl,yM⟩,⟨nI,rfl,yU⟩,⟨mP,rfl,yI⟩,⟨Ck,rfl,Np⟩,⟨Ci,rfl,NF⟩,⟨CM,rfl,Mv⟩,⟨CN,rfl,NW⟩,⟨CT,rfl,NU⟩,⟨CU,rfl,No⟩,⟨CD,rfl,Nk⟩,⟨CS,rfl,MZ⟩,⟨CW,rfl,Nm⟩,⟨CO,rfl,M0⟩,⟨CB,rfl,NJ⟩,⟨CG,rfl,MW⟩,⟨CK,rfl,Mx⟩,⟨CV,rfl,ME⟩,⟨Cj,rfl,MV⟩,⟨CL,rfl,MR⟩,⟨CZ,rfl,NN⟩,⟨uD,rfl,Nh⟩,⟨sn,rfl,M_⟩⟩⟩:=hv;clear mK;generalize hG:ct (R:=Empty) _ _=G;refine cW (T:=[]) trivial mixed 200 ?_;refine bN (q:=let Z2:=bs av;let Z1:=(0:Int);Vc (fits (-1:Int))/\(aq=aq->Vc (0+n2≤n2/\1≤1/\(n2+1)*256≤140737488355328/\n2+1≤140737488355328)/\Vc (fits ((↑(n2+1):Int)-(1:Int)))/\aY (G (Z2 ((↑(n2+1):Int)-(1:Int))) [aa (.inl (186,[.slice (aa ⟨4,0,aa 32000⟩) (n2+1) 0,.slice (aa ⟨2,0,aa 1000⟩) 0 0,Z2 hd,Z2 ca,Z2 vi])),aj,aa (.inr (.inl (3,Row.mk [Z2 0] 0 [aT.mk fr [] []]))),aa (.inr (.inl (189,Row.mk dj 1 [aT.mk [Z1] [] [],aT.mk [] [ao] [],aT.mk [Z1] [] [],aT.mk [Z1] [] [],aT.mk [] [ao] [],aT.mk [] [ao] [],aT.mk [Z1] [] [],aT.mk [Z1] [] [],aT.mk [Z1] [] [],aT.mk [Z1] [] [],aT.mk [Z1] [] [],aT.mk [Z1] [] [],aT.mk [Z1] [] [],aT.mk [Z1] [] [],aT.mk [Z1] [] [],aT.mk [Z1] [] [],aT.mk [Z1] [] [],aT.mk [Z1] [] [],aT.mk [Z1] [] [],aT.mk [Z1] [] [],aT.mk [Z1] [] [],aT.mk [Z1] [] [],aT.mk [Z1] [] [],aT.mk [] [ao] [],aT.mk [Z1] [] [],aT.mk [Z1] [] [],aT.mk [] [ao] [],aT.mk [Z1] [] [],aT.mk [Z1] [] [],aT.mk [Z1] [] [],aT.mk [Z1] [] [],aT.mk [] [ao] []]))),aa (.inr (.inl (189,Row.mk dj (n2+1) (cV (cut l0 0 n2++[Z1]) (cut l1 0 n2++[ao]) (cut l2 0 n2++[Z1]) (cut l3 0 n2++[Z1]) (cut l4 0 n2++[ao]) (cut l5 0 n2++[ao]) (cut l6 0 n2++[Z1]) (cut l7 0 n2++[Z1]) (cut l8 0 n2++[Z1]) (cut l9 0 n2++[Z1]) (cut qJ 0 n2++[Z1]) (cut nI 0 n2++[Z1]) (cut mP 0 n2++[Z1]) (cut Ck 0 n2++[Z1]) (cut Ci 0 n2++[Z1]) (cut CM 0 n2++[Z1]) (cut CN 0 n2++[Z1]) (cut CT 0 n2++[Z1]) (cut CU 0 n2++[Z1]) (cut CD 0 n2++[Z1]) (cut CS 0 n2++[Z1]) (cut CW 0 n2++[Z1]) (cut CO 0 n2++[Z1]) (cut CB 0 n2++[ao]) (cut CG 0 n2++[Z1]) (cut CK 0 n2++[Z1]) (cut CV 0 n2++[ao]) (cut Cj 0 n2++[Z1]) (cut CL 0 n2++[Z1]) (cut CZ 0 n2++[Z1]) (cut uD 0 n2++[Z1]) (cut sn 0 n2++[ao])))))]))/\(aq=ao->Vc (Z1≤(-1:Int)/\(-1:Int)<Z1/\0≤0)/\Vc (0<0)/\Vc (Z1≤(-1:Int)/\(-1:Int)≤Z1/\0≤0)/\aY (G (Z2 (ay fr 0 Z1)) [aa (.inl (186,[.slice (aa ⟨1,0,aa 32000⟩) n2 0,.slice (aa ⟨2,0,aa 1000⟩) 0 0,Z2 hd,Z2 ca,Z2 vi])),aa (.inr (.inl (189,Row.mk dj n2 (cV l0 l1 l2 l3 l4 l5 l6 l7 l8 l9 qJ nI mP Ck Ci CM CN CT CU CD CS CW CO CB CG CK CV Cj CL CZ uD sn)))),aa (.inr (.inl (3,Row.mk [Z2 0] 0 [aT.mk fr [] []])))]))) ?_ (by kernel_rfl)
  intro Z2 Z1;subst Z1 Z2;subst hG;refine⟨Rl,fun _=>⟨Uj u6,QJ u6,⟨?_⟩⟩,fun h=>by cases h⟩
  simp only[fD n_,fD zW,fD Bj,fD yr,fD yb,fD EZ,fD EJ,fD En,fD EG,fD ED,fD yM,fD yU,fD yI,fD Np,fD NF,fD Mv,fD NW,fD NU,fD No,fD Nk,fD MZ,fD Nm,fD M0,fD NJ,fD MW,fD Mx,fD ME,fD MV,fD MR,fD NN,fD Nh,fD M_,Yx];exact⟨[0,1,2,4],rfl,rfl,⟨.inl rfl,⟨_,rfl,.inl rfl⟩,⟨_,rfl,.inl rfl⟩,trivial⟩,rfl,rfl,rfl,(by kernel_rfl)⟩
 ·cases hx
theorem Nn:rB sT Tryz.prog 135 (rW tz ao) (tz.go ao):=by
 refine v8 (fn:=Tryz.f135) (root:=dM Tryz.f135) (by kernel_rfl) (by kernel_rfl) (by kernel_rfl) fun args hh x hx=>?_
 unfold tz je.go Oh at hx;simp only at hx;split at hx
 ·rename_i n cp fn fc hd ca vi tm n2 c0 c1 c2 c3 c4 c5 c6 c7 c8 c9 oA om oo zC ze zG zh zD z5 zM zA zm zf zB zy zS zT zK zp zu yd ye f2 fr;cases hx;refine⟨by first|exact bc _|exact mH _,(fun b hb=>by cases hb),(fun hw=>by first|rfl|cases hw),fun mK hv=>?_⟩
  obtain⟨h0,rfl,hf,rfl,rfl,Vl,hv⟩:=hv;obtain⟨rfl,rfl,u6,⟨⟨l0,rfl,n_⟩,⟨l1,rfl,zW⟩,⟨l2,rfl,Bj⟩,⟨l3,rfl,yr⟩,⟨l4,rfl,yb⟩,⟨l5,rfl,EZ⟩,⟨l6,rfl,EJ⟩,⟨l7,rfl,En⟩,⟨l8,rfl,EG⟩,⟨l9,rfl,ED⟩,⟨qJ,rfl,yM⟩,⟨nI,rfl,yU⟩,⟨mP,rfl,yI⟩,⟨Ck,rfl,Np⟩,⟨Ci,rfl,NF⟩,⟨CM,rfl,Mv⟩,⟨CN,rfl,NW⟩,⟨CT,rfl,NU⟩,⟨CU,rfl,No⟩,⟨CD,rfl,Nk⟩,⟨CS,rfl,MZ⟩,⟨CW,rfl,Nm⟩,⟨CO,rfl,M0⟩,⟨CB,rfl,NJ⟩,⟨CG,rfl,MW⟩,⟨CK,rfl,Mx⟩,⟨CV,rfl,ME⟩,⟨Cj,rfl,MV⟩,⟨CL,rfl,MR⟩,⟨CZ,rfl,NN⟩,⟨uD,rfl,Nh⟩,⟨sn,rfl,M_⟩⟩⟩:=hv;clear mK;generalize hG:ct (R:=Empty) _ _=G;refine cW (T:=[]) trivial mixed 200 ?_;refine bN (q:=let Z2:=bs av;let Z1:=(0:Int);Vc (fits ((↑f2:Int)-(1:Int)))/\(decide ((↑f2:Int)-(1:Int)<Z1)=aq->Vc (0+n2≤n2/\1≤1/\(n2+1)*256≤140737488355328/\n2+1≤140737488355328)/\Vc (fits ((↑(n2+1):Int)-(1:Int)))/\aY (G (Z2 ((↑(n2+1):Int)-(1:Int))) [aa (.inl (186,[.slice (aa ⟨4,0,aa 32000⟩) (n2+1) 0,.slice (aa ⟨2,0,aa 1000⟩) f2 0,Z2 hd,Z2 ca,Z2 vi])),aj,aa (.inr (.inl (3,Row.mk [Z2 0] f2 [aT.mk fr [] []]))),aa (.inr (.inl (189,Row.mk dj 1 [aT.mk [Z1] [] [],aT.mk [] [ao] [],aT.mk [Z1] [] [],aT.mk [Z1] [] [],aT.mk [] [ao] [],aT.mk [] [ao] [],aT.mk [Z1] [] [],aT.mk [Z1] [] [],aT.mk [Z1] [] [],aT.mk [Z1] [] [],aT.mk [Z1] [] [],aT.mk [Z1] [] [],aT.mk [Z1] [] [],aT.mk [Z1] [] [],aT.mk [Z1] [] [],aT.mk [Z1] [] [],aT.mk [Z1] [] [],aT.mk [Z1] [] [],aT.mk [Z1] [] [],aT.mk [Z1] [] [],aT.mk [Z1] [] [],aT.mk [Z1] [] [],aT.mk [Z1] [] [],aT.mk [] [ao] [],aT.mk [Z1] [] [],aT.mk [Z1] [] [],aT.mk [] [ao] [],aT.mk [Z1] [] [],aT.mk [Z1] [] [],aT.mk [Z1] [] [],aT.mk [Z1] [] [],aT.mk [] [ao] []]))),aa (.inr (.inl (189,Row.mk dj (n2+1) (cV (cut l0 0 n2++[Z1]) (cut l1 0 n2++[ao]) (cut l2 0 n2++[Z1]) (cut l3 0 n2++[Z1]) (cut l4 0 n2++[ao]) (cut l5 0 n2++[ao]) (cut l6 0 n2++[Z1]) (cut l7 0 n2++[Z1]) (cut l8 0 n2++[Z1]) (cut l9 0 n2++[Z1]) (cut qJ 0 n2++[Z1]) (cut nI 0 n2++[Z1]) (cut mP 0 n2++[Z1]) (cut Ck 0 n2++[Z1]) (cut Ci 0 n2++[Z1]) (cut CM 0 n2++[Z1]) (cut CN 0 n2++[Z1]) (cut CT 0 n2++[Z1]) (cut CU 0 n2++[Z1]) (cut CD 0 n2++[Z1]) (cut CS 0 n2++[Z1]) (cut CW 0 n2++[Z1]) (cut CO 0 n2++[Z1]) (cut CB 0 n2++[ao]) (cut CG 0 n2++[Z1]) (cut CK 0 n2++[Z1]) (cut CV 0 n2++[ao]) (cut Cj 0 n2++[Z1]) (cut CL 0 n2++[Z1]) (cut CZ 0 n2++[Z1]) (cut uD 0 n2++[Z1]) (cut sn 0 n2++[ao])))))]))/\(decide ((↑f2:Int)-(1:Int)<Z1)=ao->Vc (Z1≤(↑f2:Int)-(1:Int)/\(↑f2:Int)-(1:Int)<(↑f2:Int)/\0+f2≤f2)/\Vc (0+aI ((↑f2:Int)-(1:Int))<f2)/\Vc (Z1≤(↑f2:Int)-(1:Int)/\(↑f2:Int)-(1:Int)≤(↑f2:Int)/\0+f2≤f2)/\aY (G (Z2 (ay fr (0+aI ((↑f2:Int)-(1:Int))) Z1)) [aa (.inl (186,[.slice (aa ⟨1,0,aa 32000⟩) n2 0,.slice (aa ⟨2,0,aa 1000⟩) (aI ((↑f2:Int)-(1:Int))) 0,Z2 hd,Z2 ca,Z2 vi])),aa (.inr (.inl (189,Row.mk dj n2 (cV l0 l1 l2 l3 l4 l5 l6 l7 l8 l9 qJ nI mP Ck Ci CM CN CT CU CD CS CW CO CB CG CK CV Cj CL CZ uD sn)))),aa (.inr (.inl (3,Row.mk [Z2 0] f2 [aT.mk fr [] []])))]))) ?_ (by kernel_rfl)
  intro Z2 Z1;subst Z1 Z2;subst hG;clear n_ zW Bj yr yb EZ EJ En EG ED yM yU yI Np NF Mv NW NU No Nk MZ Nm M0 NJ MW Mx ME MV MR NN Nh M_;have e1:((f2:Int)-1).toNat=f2-1:=by omega
  simp only[e1,b5];refine⟨⟨by omega,by omega⟩,fun h=>absurd (of_decide_eq_true h) (by omega),fun _=>⟨⟨by omega,by omega,by omega⟩,⟨by omega⟩,⟨by omega,by omega,by omega⟩,⟨?_⟩⟩⟩
  exact⟨[0,1,2],rfl,rfl,⟨.inl rfl,⟨_,rfl,.inl rfl⟩,⟨_,rfl,.inr ⟨rfl,A' _ _,by simp[BE]⟩⟩,trivial⟩,rfl,rfl,rfl,(by kernel_rfl)⟩
 ·cases hx
theorem QA:ck sT Tryz.prog 135 tz:=fun b=>by cases b;exact Nn;exact Nf
def TA:eK Empty:=[(135,bM zN 2 tz),(145,bM zN 2 qM)]
theorem xG:cQ sT Tryz.prog TA:=⟨aX _ _ QA,aX _ _ NM,trivial⟩
abbrev PP (m:Pl):Prop:=Gv.fX 100000 m
theorem BK (m:Pl) (i g:Int):q7 m.vs.length m.dD m.live i g=yA m ⟨i,g⟩:=rfl
theorem Ev {m:Pl} {i g:Int} (h:yA m ⟨i,g⟩=aq):0≤i/\i<m.vs.length/\m.live.getD i.toNat ao=aq/\m.dD.getD i.toNat 0=g:=Gv.si h
theorem gR {α:Type} (f:Nd->α) (m:Pl) (k:Nat) (a:α) (ha:f zd=a):(m.vs.map f).getD k a=f (m.vs.getD k zd):=by
 subst ha;simp only[ax,gh];cases m.vs[k]?<;>rfl
theorem GN (m:Pl) (k:Nat):gM m.vs k=bk (m.vs.getD k zd):=by
 unfold gM bk;simp only[gR (fun n:Nd=>n.e.t) m _ 0 rfl,gR (fun n:Nd=>n.e.ins) m _ ao rfl,gR (fun n:Nd=>n.e.it.k) m _ 0 rfl,gR (fun n:Nd=>n.e.it.i) m _ 0 rfl,gR (fun n:Nd=>n.e.here) m _ ao rfl,gR (fun n:Nd=>n.e.tf) m _ ao rfl,gR (fun n:Nd=>n.e.tk.k) m _ 0 rfl,gR (fun n:Nd=>n.e.tk.i) m _ 0 rfl,gR (fun n:Nd=>n.l.i) m _ 0 rfl,gR (fun n:Nd=>n.l.g) m _ 0 rfl,gR (fun n:Nd=>n.r.i) m _ 0 rfl,gR (fun n:Nd=>n.r.g) m _ 0 rfl,gR (fun n:Nd=>n.all.n) m _ 0 rfl,gR (fun n:Nd=>n.all.sum.c.n) m _ 0 rfl,gR (fun n:Nd=>n.all.sum.c.s) m _ 0 rfl,gR (fun n:Nd=>n.all.sum.c.l) m _ 0 rfl,gR (fun n:Nd=>n.all.sum.w.n) m _ 0 rfl,gR (fun n:Nd=>n.all.sum.w.s) m _ 0 rfl,gR (fun n:Nd=>n.all.sum.w.l) m _ 0 rfl,gR (fun n:Nd=>n.all.sum.d) m _ 0 rfl,gR (fun n:Nd=>n.all.sum.f) m _ 0 rfl,gR (fun n:Nd=>n.all.sum.m.k) m _ 0 rfl,gR (fun n:Nd=>n.all.sum.m.i) m _ 0 rfl,gR (fun n:Nd=>n.all.sum.gf) m _ ao rfl,gR (fun n:Nd=>n.all.sum.g.k) m _ 0 rfl,gR (fun n:Nd=>n.all.sum.g.i) m _ 0 rfl,gR (fun n:Nd=>n.all.sum.lf) m _ ao rfl,gR (fun n:Nd=>n.all.sum.l.k) m _ 0 rfl,gR (fun n:Nd=>n.all.sum.l.i) m _ 0 rfl,gR (fun n:Nd=>n.h) m _ 0 rfl]
theorem BF (m:Pl) (k:Nat) (x:Nd) (g:List Int) (b:List Bool):(⟨dj,m.vs.length,cS m.vs k x g b⟩:Row)=⟨dj,(m.vs.set k x).length,cM (m.vs.set k x) g b⟩:=by
 unfold cS cM;simp only[Fl,e_]
theorem gT {α:Type} (f:Nd->α) (m:Pl):(m.vs.map f).length=m.vs.length:=gX ..
theorem Bn {m:Pl} (hv:PP m):mQ m.vs.length (cM m.vs m.dD m.live):=⟨⟨_,rfl,gT _ m⟩,⟨_,rfl,gT _ m⟩,⟨_,rfl,gT _ m⟩,⟨_,rfl,gT _ m⟩,⟨_,rfl,gT _ m⟩,⟨_,rfl,gT _ m⟩,⟨_,rfl,gT _ m⟩,⟨_,rfl,gT _ m⟩,⟨_,rfl,gT _ m⟩,⟨_,rfl,gT _ m⟩,⟨_,rfl,gT _ m⟩,⟨_,rfl,gT _ m⟩,⟨_,rfl,gT _ m⟩,⟨_,rfl,gT _ m⟩,⟨_,rfl,gT _ m⟩,⟨_,rfl,gT _ m⟩,⟨_,rfl,gT _ m⟩,⟨_,rfl,gT _ m⟩,⟨_,rfl,gT _ m⟩,⟨_,rfl,gT _ m⟩,⟨_,rfl,gT _ m⟩,⟨_,rfl,gT _ m⟩,⟨_,rfl,gT _ m⟩,⟨_,rfl,gT _ m⟩,⟨_,rfl,gT _ m⟩,⟨_,rfl,gT _ m⟩,⟨_,rfl,gT _ m⟩,⟨_,rfl,gT _ m⟩,⟨_,rfl,gT _ m⟩,⟨_,rfl,gT _ m⟩,⟨_,rfl,hv.dD⟩,⟨_,rfl,hv.live⟩⟩
theorem uG {m:Pl} (hv:PP m):True/\True/\m.vs.length<1000000/\mQ m.vs.length (cM m.vs m.dD m.live):=⟨trivial,trivial,by have:=hv.cells;omega,Bn hv⟩
def MP:Prim Rs:=fun args hh=>match args,hh with
 |[.int .i64 c],[]=>aa ⟨True,.pointer (aa ⟨0,0,aj⟩),aj,[aa (.inr (.inr (.inr (.dd ⟨[],[],[],[],0,min (max c 0) 16777216,0⟩))))],[],[(0,0)]⟩
 |_,_=>aj
theorem U_:ck D Tryz.prog 130 (a9 MP):=by
 refine pY (qY (L:=L) (D0:=sT) (fn:=Tryz.f130) (root:=dM Tryz.f130) (by kernel_rfl) (by kernel_rfl) (by kernel_rfl) fun args hh x hx=>?_)
 unfold MP at hx;split at hx
 ·rename_i c;cases hx;refine q4 fun _ hv=>?_
  generalize hG:xH (R:=Rs) (R0:=Empty) _ _ _=G;refine cW (T:=TA) xG mixed 200 ?_;refine bN (q:=aY (G (aE (aa ⟨0,0,aj⟩)) [aa (.inl (186,[.slice aj 0 0,.slice aj 0 0,.int av 0,.int av (if(16777216:Int)<if(0:Int)>c then(0:Int) else c then(16777216:Int) else if(0:Int)>c then(0:Int) else c),.int av 0]))])) ?_ (by kernel_rfl)
  subst hG;have e:(if 16777216<if 0>c then 0 else c then 16777216 else if 0>c then 0 else c)=min (max c 0) 16777216:=by
   by_cases h1:0>c
   ·rw[if_pos h1];simp;omega
   ·rw[if_neg h1];split<;>omega
  rw[e];refine⟨⟨[0,1,1],rfl,rfl,⟨.inl rfl,⟨rfl,sD _,rfl⟩,⟨rfl,sD _,rfl⟩,trivial⟩,rfl,rfl,rfl,rfl,rfl⟩⟩
 ·cases hx
def MM:Prim Rs:=fun args hh=>match args,hh with
 |[.pointer (aa ⟨0,0,aj⟩),.agg ⟨[.int .i64 i,.int .i64 g]⟩],[aa (.inr (.inr (.inr (.dd m))))]=>aa ⟨PP m,.tuple #[.agg ⟨bk (jN zd m ⟨i,g⟩)⟩,.bool (yA m ⟨i,g⟩)],aj,[aa (.inr (.inr (.inr (.dd (aK m ⟨i,g⟩)))))],[],[(0,0)]⟩
 |_,_=>aj
theorem UE:ck D Tryz.prog 121 (a9 MM):=by
 refine pY (qY (L:=L) (D0:=sT) (fn:=Tryz.f121) (root:=dM Tryz.f121) (by kernel_rfl) (by kernel_rfl) (by kernel_rfl) fun args hh x hx=>?_)
 unfold MM at hx;split at hx
 ·rename_i i g m;cases hx;refine q4 fun _ hv=>?_
  generalize hG:xH (R:=Rs) (R0:=Empty) _ _ _=G;refine cW (T:=TA) xG mixed 200 ?_;refine bN (q:=let Z3:=bs av;let Z1:=(ae (cK m));let Z2:=(bk (fy (Wv.Mk.mk 0 ao (cX 0 0) ao ao (cX 0 0)) (aN 0 0) (aN 0 0) (mr 0 (Wv.Sw.mk (iN 0 0 0) (iN 0 0 0) 0 0 (cX 0 0) ao (cX 0 0) ao (cX 0 0))) 0));(q7 Z1 (dP m) (eV m) i g=aq->Vc (dj=dj/\ae (cK m)=ae (cK m)/\ae (cK m)<1000000/\mQ Z1 (cM (cK m) (dP m) (eV m)))/\Vc (aI i<ae (cK m))/\aY (G (cv (aO [.agg (aO (gM (cK m) (aI i))),.bool aq])) [aa (.inl (186,[.slice (aa ⟨1,0,aa 32000⟩) Z1 0,.slice (aa ⟨2,0,aa 1000⟩) (ae (dV m)) 0,Z3 (fP m),Z3 (ic m),Z3 (cr av (gY m+(1:Int)))])),aa (.inr (.inl (189,Row.mk dj Z1 (cM (cK m) (dP m) (eV m))))),aa (.inr (.inl (3,Row.mk [Z3 0] (ae (dV m)) [aT.mk (dV m) [] []]))),aa (.inl (108,[Z3 i,Z3 g])),aa (.inl (136,(gM (cK m) (aI i))))]))/\(q7 Z1 (dP m) (eV m) i g=ao->Vc (dj=dj/\ae (cK m)=ae (cK m)/\ae (cK m)<1000000/\mQ Z1 (cM (cK m) (dP m) (eV m)))/\aY (G (cv (aO [.agg (aO Z2),.bool ao])) [aa (.inl (186,[.slice (aa ⟨1,0,aa 32000⟩) Z1 0,.slice (aa ⟨2,0,aa 1000⟩) (ae (dV m)) 0,Z3 (fP m),Z3 (ic m),Z3 (gY m)])),aa (.inr (.inl (189,Row.mk dj Z1 (cM (cK m) (dP m) (eV m))))),aa (.inr (.inl (3,Row.mk [Z3 0] (ae (dV m)) [aT.mk (dV m) [] []]))),aa (.inl (108,[Z3 i,Z3 g])),aa (.inl (136,Z2)),aa (.inl (136,Z2))]))) ?_ (by kernel_rfl)
  intro Z3 Z1 Z2;subst Z2 Z1 Z3;subst hG;simp only[BK,b5];refine⟨fun h=>⟨⟨uG hv⟩,⟨by have:=Ev h;omega⟩,⟨?_⟩⟩,fun h=>⟨⟨uG hv⟩,⟨?_⟩⟩⟩
  ·have e1:jN zd m ⟨i,g⟩=m.vs.getD i.toNat zd:=by unfold jN;rw[if_pos h]
   have e2:aK m ⟨i,g⟩=HB m:=by unfold aK;rw[if_pos h]
   rw[GN m i.toNat,e1,e2,h];exact⟨[0,1,2],rfl,rfl,⟨.inl rfl,⟨_,rfl,.inl rfl⟩,⟨_,rfl,.inl rfl⟩,trivial⟩,rfl,rfl,rfl,rfl,rfl⟩
  ·have e1:jN zd m ⟨i,g⟩=zd:=by unfold jN;rw[if_neg (by rw[h];decide)]
   have e2:aK m ⟨i,g⟩=m:=by unfold aK;rw[if_neg (by rw[h];decide)]
   rw[e1,e2,h];exact⟨[0,1,2],rfl,rfl,⟨.inl rfl,⟨_,rfl,.inl rfl⟩,⟨_,rfl,.inl rfl⟩,trivial⟩,rfl,rfl,rfl,rfl,rfl⟩
 ·cases hx
def M4:Prim Rs:=fun args hh=>match args,hh with
 |[.pointer (aa ⟨0,0,aj⟩),.agg ⟨[.int .i64 i,.int .i64 g]⟩,.agg ⟨xN⟩],[aa (.inr (.inr (.inr (.dd m))))]=>aa ⟨xN=bk (fS xN)/\PP m,.bool (yA m ⟨i,g⟩),aj,[aa (.inr (.inr (.inr (.dd (te m ⟨i,g⟩ (fS xN))))))],[],[(0,0)]⟩
 |_,_=>aj
theorem UF:ck D Tryz.prog 173 (a9 M4):=by
 refine pY (qY (L:=L) (D0:=sT) (fn:=Tryz.f173) (root:=dM Tryz.f173) (by kernel_rfl) (by kernel_rfl) (by kernel_rfl) fun args hh x hx=>?_)
 unfold M4 at hx;split at hx
 ·rename_i i g xN m;cases hx;refine q4 fun _ hv=>?_
  obtain⟨hq,hv⟩:=hv;generalize fS xN=x at *;subst hq
  generalize hG:xH (R:=Rs) (R0:=Empty) _ _ _=G;refine cW (T:=TA) xG mixed 200 ?_;refine bN (q:=let Z2:=bs av;let Z1:=(ae (cK m));(q7 Z1 (dP m) (eV m) i g=aq->Vc (dj=dj/\ae (cK m)=ae (cK m)/\ae (cK m)<1000000/\mQ Z1 (cM (cK m) (dP m) (eV m)))/\Vc (aI i<ae (cK m))/\aY (G (aD aq) [aa (.inl (186,[.slice (aa ⟨1,0,aa 32000⟩) Z1 0,.slice (aa ⟨2,0,aa 1000⟩) (ae (dV m)) 0,Z2 (fP m),Z2 (ic m),Z2 (cr av (gY m+(1:Int)))])),aa (.inr (.inl (189,Row.mk dj Z1 (cS (cK m) (aI i) x (dP m) (eV m))))),aa (.inr (.inl (3,Row.mk [Z2 0] (ae (dV m)) [aT.mk (dV m) [] []]))),aa (.inl (108,[Z2 i,Z2 g])),aa (.inl (136,(bk x)))]))/\(q7 Z1 (dP m) (eV m) i g=ao->Vc (dj=dj/\ae (cK m)=ae (cK m)/\ae (cK m)<1000000/\mQ Z1 (cM (cK m) (dP m) (eV m)))/\aY (G (aD ao) [aa (.inl (186,[.slice (aa ⟨1,0,aa 32000⟩) Z1 0,.slice (aa ⟨2,0,aa 1000⟩) (ae (dV m)) 0,Z2 (fP m),Z2 (ic m),Z2 (gY m)])),aa (.inr (.inl (189,Row.mk dj Z1 (cM (cK m) (dP m) (eV m))))),aa (.inr (.inl (3,Row.mk [Z2 0] (ae (dV m)) [aT.mk (dV m) [] []]))),aa (.inl (108,[Z2 i,Z2 g])),aa (.inl (136,(bk x)))]))) ?_ (by kernel_rfl)
  intro Z2 Z1;subst Z1 Z2;subst hG;simp only[BK,b5];refine⟨fun h=>⟨⟨uG hv⟩,⟨by have:=Ev h;omega⟩,⟨?_⟩⟩,fun h=>⟨⟨uG hv⟩,⟨?_⟩⟩⟩
  ·have e2:∀ y,te m ⟨i,g⟩ y={ HB m with vs:=m.vs.set i.toNat y }:=fun y=>by unfold te;rw[if_pos h]
   rw[e2,h];exact⟨[0,1,2],rfl,rfl,⟨.inl (by rw[e_];rfl),⟨_,rfl,.inl (BF m i.toNat x _ _).symm⟩,⟨_,rfl,.inl rfl⟩,trivial⟩,rfl,rfl,rfl,rfl,rfl⟩
  ·have e2:∀ y,te m ⟨i,g⟩ y=m:=fun y=>by unfold te;rw[if_neg (by rw[h];decide)]
   rw[e2,h];exact⟨[0,1,2],rfl,rfl,⟨.inl rfl,⟨_,rfl,.inl rfl⟩,⟨_,rfl,.inl rfl⟩,trivial⟩,rfl,rfl,rfl,rfl,rfl⟩
 ·cases hx
def BY:Prim Rs:=fun args hh=>match args,hh with
 |[.pointer (aa ⟨0,0,aj⟩)],[aa (.inr (.inr (.inr (.dd m))))]=>aa ⟨True,.int .i64 m.cY,aj,hh,[],[]⟩
 |_,_=>aj
theorem Kz:ck D Tryz.prog 117 (a9 BY):=by
 refine pY (qY (L:=L) (D0:=sT) (fn:=Tryz.f117) (root:=dM Tryz.f117) (by kernel_rfl) (by kernel_rfl) (by kernel_rfl) fun args hh x hx=>?_)
 unfold BY at hx;split at hx
 ·rename_i m;cases hx;refine q4 fun _ hv=>?_
  generalize hG:xH (R:=Rs) (R0:=Empty) _ _ _=G;refine cW (T:=TA) xG mixed 200 ?_;refine bN (q:=let Z1:=bs av;aY (G (Z1 (gY m)) [aa (.inl (186,[.slice (aa ⟨1,0,aa 32000⟩) (ae (cK m)) 0,.slice (aa ⟨2,0,aa 1000⟩) (ae (dV m)) 0,Z1 (fP m),Z1 (ic m),Z1 (gY m)])),aa (.inr (.inl (189,Row.mk dj (ae (cK m)) (cM (cK m) (dP m) (eV m))))),aa (.inr (.inl (3,Row.mk [Z1 0] (ae (dV m)) [aT.mk (dV m) [] []])))])) ?_ (by kernel_rfl)
  intro Z1;subst Z1;subst hG;exact⟨⟨[0,1,2],rfl,rfl,⟨.inl rfl,⟨_,rfl,.inl rfl⟩,⟨_,rfl,.inl rfl⟩,trivial⟩,rfl,rfl,rfl,rfl,rfl⟩⟩
 ·cases hx
def Cb:Prim Rs:=fun args hh=>match args,hh with
 |[.pointer (aa ⟨0,0,aj⟩),.agg ⟨[.int .i64 i,.int .i64 g]⟩],[aa (.inr (.inr (.inr (.dd m))))]=>aa ⟨PP m,.tuple #[.agg ⟨bk (jN zd m ⟨i,g⟩)⟩,.bool (yA m ⟨i,g⟩)],aj,[aa (.inr (.inr (.inr (.dd (v_ zd m ⟨i,g⟩)))))],[],[(0,0)]⟩
 |_,_=>aj
theorem tc:ck D Tryz.prog 114 (a9 Cb):=by
 refine pY (qY (L:=L) (D0:=sT) (fn:=Tryz.f114) (root:=dM Tryz.f114) (by kernel_rfl) (by kernel_rfl) (by kernel_rfl) fun args hh x hx=>?_)
 unfold Cb at hx;split at hx
 ·rename_i i g m;cases hx;refine q4 fun _ hv=>?_
  generalize hG:xH (R:=Rs) (R0:=Empty) _ _ _=G;refine cW (T:=TA) xG mixed 200 ?_;refine bN (q:=let Z7:=bs av;let Z1:=(ae (cK m));let Z2:=(aI i<ae (cK m));let Z3:=(ay (dP m) (aI i) (0:Int)<(4294967295:Int));let Z4:=(cv (aO [.agg (aO (gM (cK m) (aI i))),.bool aq]));let Z5:=(bk (fy (Wv.Mk.mk 0 ao (cX 0 0) ao ao (cX 0 0)) (aN 0 0) (aN 0 0) (mr 0 (Wv.Sw.mk (iN 0 0 0) (iN 0 0 0) 0 0 (cX 0 0) ao (cX 0 0) ao (cX 0 0))) 0));let Z6:=(ae (dV m));(q7 Z1 (dP m) (eV m) i g=aq->Vc (dj=dj/\ae (cK m)=ae (cK m)/\ae (cK m)<1000000/\mQ Z1 (cM (cK m) (dP m) (eV m)))/\Vc Z2/\Vc Z2/\Vc Z2/\Vc (fits (fP m-(1:Int)))/\Vc Z2/\(decide Z3=aq->Vc (0+ae (dV m)≤ae (dV m)/\1≤1/\(ae (dV m)+1)*8≤140737488355328/\ae (dV m)+1≤140737488355328)/\aY (G Z4 [aa (.inl (186,[.slice (aa ⟨1,0,aa 32000⟩) Z1 0,.slice (aa ⟨8,0,aa 1000⟩) (ae (dV m)+1) 0,Z7 (fP m-(1:Int)),Z7 (ic m),Z7 (cr av (gY m+(1:Int)))])),aa (.inr (.inl (189,Row.mk dj Z1 (cS (cK m) (aI i) zd (dP m) (qc (eV m) (aI i) ao))))),aj,aa (.inl (108,[Z7 i,Z7 g])),aa (.inl (136,(gM (cK m) (aI i)))),aa (.inl (136,Z5)),aa (.inl (136,(gM (cK m) (aI i)))),aa (.inr (.inl (3,Row.mk [Z7 0] 1 [aT.mk [i] [] []]))),aa (.inr (.inl (3,Row.mk [Z7 0] (ae (dV m)+1) [aT.mk (cut (dV m) 0 Z6++cut [i] 0 1) [] []])))]))/\(decide Z3=ao->aY (G Z4 [aa (.inl (186,[.slice (aa ⟨1,0,aa 32000⟩) Z1 0,.slice (aa ⟨2,0,aa 1000⟩) Z6 0,Z7 (fP m-(1:Int)),Z7 (ic m),Z7 (cr av (gY m+(1:Int)))])),aa (.inr (.inl (189,Row.mk dj Z1 (cS (cK m) (aI i) zd (dP m) (qc (eV m) (aI i) ao))))),aa (.inr (.inl (3,Row.mk [Z7 0] Z6 [aT.mk (dV m) [] []]))),aa (.inl (108,[Z7 i,Z7 g])),aa (.inl (136,(gM (cK m) (aI i)))),aa (.inl (136,Z5)),aa (.inl (136,(gM (cK m) (aI i))))])))/\(q7 Z1 (dP m) (eV m) i g=ao->Vc (dj=dj/\ae (cK m)=ae (cK m)/\ae (cK m)<1000000/\mQ Z1 (cM (cK m) (dP m) (eV m)))/\aY (G (cv (aO [.agg (aO Z5),.bool ao])) [aa (.inl (186,[.slice (aa ⟨1,0,aa 32000⟩) Z1 0,.slice (aa ⟨2,0,aa 1000⟩) Z6 0,Z7 (fP m),Z7 (ic m),Z7 (gY m)])),aa (.inr (.inl (189,Row.mk dj Z1 (cM (cK m) (dP m) (eV m))))),aa (.inr (.inl (3,Row.mk [Z7 0] Z6 [aT.mk (dV m) [] []]))),aa (.inl (108,[Z7 i,Z7 g])),aa (.inl (136,Z5)),aa (.inl (136,Z5))]))) ?_ (by kernel_rfl)
  intro Z7 Z1 Z2 Z3 Z4 Z5 Z6;subst Z6 Z5 Z4 Z3 Z2 Z1 Z7;subst hG;simp only[BK,b5];have hgb:=C9 (i:=i.toNat) hv.gen;have hhl:=hv.Sn;have hfr:=hv.pG;refine⟨fun h=>?_,fun h=>⟨⟨uG hv⟩,⟨?_⟩⟩⟩
  ·have cl:i.toNat<m.vs.length:=by have:=Ev h;omega
   have g3:m.dD.getD i.toNat 0<4294967295:=by omega
   have e1:jN zd m ⟨i,g⟩=m.vs.getD i.toNat zd:=by unfold jN;rw[if_pos h]
   have e2:v_ zd m ⟨i,g⟩={ HB m with vs:=m.vs.set i.toNat zd,live:=m.live.set i.toNat ao,held:=m.held-1,free:=m.free++[i] }:=by unfold v_;rw[if_pos h,if_pos g3]
   have ec:cut m.free 0 m.free.length++cut [i] 0 1=m.free++[i]:=by rw[fD rfl];rfl
   rw[ec];refine⟨⟨uG hv⟩,⟨cl⟩,⟨cl⟩,⟨cl⟩,⟨⟨by omega,by omega⟩⟩,⟨cl⟩,fun _=>⟨⟨by omega,by omega,by omega,by omega⟩,⟨?_⟩⟩,fun h2=>absurd g3 (of_decide_eq_false h2)⟩
   rw[GN m i.toNat,e1,e2,h];exact⟨[0,1,8],rfl,rfl,⟨.inl (by rw[e_,bJ];rfl),⟨_,rfl,.inl (BF m i.toNat zd _ _).symm⟩,⟨_,rfl,.inl (by rw[bJ];rfl)⟩,trivial⟩,rfl,rfl,rfl,rfl,rfl⟩
  ·have e1:jN zd m ⟨i,g⟩=zd:=by unfold jN;rw[if_neg (by rw[h];decide)]
   have e2:v_ zd m ⟨i,g⟩=m:=by unfold v_;rw[if_neg (by rw[h];decide)]
   rw[e1,e2,h];exact⟨[0,1,2],rfl,rfl,⟨.inl rfl,⟨_,rfl,.inl rfl⟩,⟨_,rfl,.inl rfl⟩,trivial⟩,rfl,rfl,rfl,rfl,rfl⟩
 ·cases hx
theorem QO (m:Pl) (k:Nat) (x:Nd) (g:List Int) (b:List Bool):(⟨dj,m.vs.length+1,cG m.vs k x g b⟩:Row)=⟨dj,((m.vs++[zd]).set k x).length,cM ((m.vs++[zd]).set k x) g b⟩:=by
 unfold cG cM;simp only[Fl,dT,e_,bJ,gC,List.map_nil,cI,ky]
 rfl
theorem Eg {m:Pl} (h0:m.held=m.cap) (x:Nd):tF zd m x=m/\lg zd m=⟨0,0⟩:=by
 unfold tF lg;rw[if_pos h0,if_pos h0];exact⟨rfl,rfl⟩
theorem EL {m:Pl} (h0:¬ m.held=m.cap) (hf:m.free.length=0) (x:Nd):tF zd m x=⟨(m.vs++[zd]).set m.vs.length x,(m.dD++[0]).set m.vs.length ((m.dD++[0]).getD m.vs.length 0+1),(m.live++[ao]).set m.vs.length aq,m.free,m.held+1,m.cap,m.cY⟩/\lg zd m=⟨m.vs.length,(m.dD++[0]).getD m.vs.length 0+1⟩:=by
 have en:vr m=m.vs.length:=by rw[vr,if_pos hf]
 unfold tF lg Gv.Au KN;rw[if_neg h0,if_neg h0];simp only[if_pos hf,en,iF]
 constructor<;>first|rfl|trivial
theorem Ee {m:Pl} (h0:¬ m.held=m.cap) (hf:¬ m.free.length=0) (x:Nd):tF zd m x=⟨m.vs.set (m.free.getD (m.free.length-1) 0).toNat x,m.dD.set (m.free.getD (m.free.length-1) 0).toNat (m.dD.getD (m.free.getD (m.free.length-1) 0).toNat 0+1),m.live.set (m.free.getD (m.free.length-1) 0).toNat aq,m.free.take (m.free.length-1),m.held+1,m.cap,m.cY⟩/\lg zd m=⟨m.free.getD (m.free.length-1) 0,m.dD.getD (m.free.getD (m.free.length-1) 0).toNat 0+1⟩:=by
 have en:vr m=m.free.getD (m.free.length-1) 0:=by rw[vr,if_neg hf]
 unfold tF lg Gv.Au KN;rw[if_neg h0,if_neg h0];simp only[if_neg hf,en]
 constructor<;>first|rfl|trivial
structure Bds (m:Pl):Prop where
 dD:m.dD.length=m.vs.length
 cells:m.vs.length<1000000
 pG:m.free.length<1000000
 held:-1000000≤m.held/\m.held<1000000
 gen:∀ i,0≤m.dD.getD i 0/\m.dD.getD i 0≤100000
 last:¬ m.free.length=0->0≤m.free.getD (m.free.length-1) 0/\m.free.getD (m.free.length-1) 0<m.vs.length
theorem bds {m:Pl} (hv:PP m):Bds m:=by
 have v1:=hv.dD;have v3:=hv.cells;have v4:=hv.pG;have v5:=hv.Sn;refine⟨v1,by omega,by omega,by omega,fun i=>?_,fun h=>?_⟩
 ·have:=C9 (i:=i) hv.gen;omega
 ·have:=hv.inn _ (yK (d:=0) (l:=m.free) (i:=m.free.length-1) (by omega))
  exact⟨this.1,this.2.1⟩
theorem DZ (l:List Int) (k:Nat) (x:Int) (h:k<l.length):(l.set k x).getD k 0=x:=by
 rw[oq,if_pos ⟨rfl,h⟩]
def H4:Prim Rs:=fun args hh=>match args,hh with
 |[.pointer (aa ⟨0,0,aj⟩),.agg ⟨xN⟩],[aa (.inr (.inr (.inr (.dd m))))]=>aa ⟨xN=bk (fS xN)/\PP m,.tuple #[.agg ⟨[.int .i64 (lg zd m).i,.int .i64 (lg zd m).g]⟩,.bool (!decide (m.held=m.cap))],aj,[aa (.inr (.inr (.inr (.dd (tF zd m (fS xN))))))],[],[(0,0)]⟩
 |_,_=>aj
theorem tn:ck D Tryz.prog 97 (a9 H4):=by
 refine pY (qY (L:=L) (D0:=sT) (fn:=Tryz.f97) (root:=dM Tryz.f97) (by kernel_rfl) (by kernel_rfl) (by kernel_rfl) fun args hh x hx=>?_)
 unfold H4 at hx;split at hx
 ·rename_i xN m;cases hx;refine q4 fun _ hv=>?_
  obtain⟨hq,hv⟩:=hv;generalize fS xN=x at *;subst hq
  generalize hG:xH (R:=Rs) (R0:=Empty) _ _ _=G;refine cW (T:=TA) xG mixed 200 ?_;refine bN (q:=let cz:=bs av;let Z1:=(cK m);let Z2:=(ae Z1);let Z3:=(dV m);let Z4:=(cM Z1 (dP m) (eV m));let Z5:=(ay (dP m++[(0:Int)]) (0+(Z2:Int).toNat) (0:Int)+(1:Int));let Z6:=(qc (dP m++[(0:Int)]) (0+(Z2:Int).toNat) Z5);let Z7:=(ae Z3-1);let Z8:=(ay Z3 Z7 (0:Int));let Z9:=(ay (dP m) (0+aI Z8) (0:Int)+(1:Int));let cP:=(ay (qc (dP m) (0+aI Z8) Z9) (0+aI Z8) (0:Int));((fP m==ic m)=aq->aY (G (cv (aO [.agg (aO [cz 0,cz 0]),.bool ao])) [aa (.inl (186,[.slice (aa ⟨1,0,aa 32000⟩) Z2 0,.slice (aa ⟨2,0,aa 1000⟩) (ae Z3) 0,cz (fP m),cz (ic m),cz (gY m)])),aa (.inr (.inl (189,Row.mk dj Z2 Z4))),aa (.inr (.inl (3,Row.mk [cz 0] (ae Z3) [aT.mk Z3 [] []]))),aa (.inl (136,(bk x))),aa (.inl (108,[cz 0,cz 0]))]))/\((fP m==ic m)=ao->(decide (ae Z3=0)=aq->Vc (ae Z3=0/\ae Z3=ae Z3/\0=0/\0=0/\dj=dj/\ae Z1=ae Z1/\ae Z1<1000000/\mQ Z2 Z4)/\Vc ((0:Int)≤(↑Z2:Int)/\(↑Z2:Int)<(↑(ae Z1+1):Int)/\0+(ae Z1+1)≤ae Z1+1)/\Vc (0+(Z2:Int).toNat<ae Z1+1)/\Vc (0+(Z2:Int).toNat<ae Z1+1)/\Vc (0+(Z2:Int).toNat<ae Z1+1)/\Vc (fits Z5)/\Vc (0+(Z2:Int).toNat<ae Z1+1)/\Vc (fits (fP m+(1:Int)))/\Vc (0+(Z2:Int).toNat<ae Z1+1)/\aY (G (cv (aO [.agg (aO [cz (↑Z2:Int),cz (ay Z6 (0+(Z2:Int).toNat) (0:Int))]),.bool aq])) [aa (.inl (186,[.slice (aa ⟨5,0,aa 32000⟩) (ae Z1+1) 0,.slice (aa ⟨2,0,aa 1000⟩) (ae Z3) 0,cz (fP m+(1:Int)),cz (ic m),cz (gY m)])),aj,aa (.inr (.inl (3,Row.mk [cz 0] (ae Z3) [aT.mk Z3 [] []]))),aa (.inl (136,(bk x))),aa (.inl (108,[cz (↑Z2:Int),cz (ay Z6 (0+(Z2:Int).toNat) (0:Int))])),aa (.inr (.inl (189,Row.mk dj (ae Z1+1) (cG Z1 (0+(Z2:Int).toNat) x Z6 (qc (eV m++[ao]) (0+(Z2:Int).toNat) aq)))))]))/\(decide (ae Z3=0)=ao->Vc (ae Z3≠0/\ae Z3=ae Z3/\ae Z3=ae Z3/\0=0/\0=0/\ae Z3<1000000/\dj=dj/\ae Z1=ae Z1/\ae Z1<1000000/\mQ Z2 Z4)/\Vc ((0:Int)≤ay Z3 Z7 (0:Int)/\ay Z3 Z7 (0:Int)<(↑Z2:Int)/\0+ae Z1≤ae Z1)/\Vc (0+aI Z8<ae Z1)/\Vc (0+aI Z8<ae Z1)/\Vc (0+aI Z8<ae Z1)/\Vc (fits Z9)/\Vc (0+aI Z8<ae Z1)/\Vc (fits (fP m+(1:Int)))/\Vc (0+aI Z8<ae Z1)/\aY (G (cv (aO [.agg (aO [cz Z8,cz cP]),.bool aq])) [aa (.inl (186,[.slice (aa ⟨1,0,aa 32000⟩) Z2 0,.slice (aa ⟨2,0,aa 1000⟩) Z7 0,cz (fP m+(1:Int)),cz (ic m),cz (gY m)])),aa (.inr (.inl (189,Row.mk dj Z2 (cS Z1 (0+aI Z8) x (qc (dP m) (0+aI Z8) Z9) (qc (eV m) (0+aI Z8) aq))))),aa (.inr (.inl (3,Row.mk [cz 0] Z7 [aT.mk (List.take Z7 Z3) [] []]))),aa (.inl (136,(bk x))),aa (.inl (108,[cz Z8,cz cP]))])))) ?_ (by kernel_rfl)
  intro cz Z1 Z2 Z3 Z4 Z5 Z6 Z7 Z8 Z9 cP;subst cP Z9 Z8 Z7 Z6 Z5 Z4 Z3 Z2 Z1 cz;subst hG;simp only[b5,iF];have hb:=bds hv;refine⟨fun h=>?_,fun h=>⟨fun hf=>?_,fun hf=>?_⟩⟩
  ·have h0:m.held=m.cap:=eq_of_beq h;rw[(Eg h0 x).1,(Eg h0 x).2,decide_eq_true h0];exact⟨⟨[0,1,2],rfl,rfl,⟨.inl rfl,⟨_,rfl,.inl rfl⟩,⟨_,rfl,.inl rfl⟩,trivial⟩,rfl,rfl,rfl,rfl,rfl⟩⟩
  ·have h0:¬ m.held=m.cap:=fun c=>by rw[c,beq_self_eq_true] at h;cases h
   have h1:m.free.length=0:=of_decide_eq_true hf;have hk:m.vs.length<(m.dD++[0]).length:=by rw[bJ,hb.dD];exact fC _
   have e1:(m.dD++[0]).getD m.vs.length 0=0:=by rw[uf,if_pos hb.dD.symm]
   rw[(EL h0 h1 x).1,(EL h0 h1 x).2,decide_eq_false h0,DZ _ _ _ hk];refine⟨⟨h1,trivial,trivial,trivial,trivial,trivial,hb.cells,Bn hv⟩,⟨by omega,by omega,bc _⟩,⟨fC _⟩,⟨fC _⟩,⟨fC _⟩,⟨by rw[e1];exact⟨by omega,by omega⟩⟩,⟨fC _⟩,⟨by have:=hb.held;exact⟨by omega,by omega⟩⟩,⟨fC _⟩,⟨[0,5,2],rfl,rfl,?_,rfl,rfl,rfl,rfl,rfl⟩⟩
   exact⟨.inl (by rw[e_,bJ];rfl),⟨_,rfl,.inl (QO m m.vs.length x _ _).symm⟩,⟨_,rfl,.inl rfl⟩,trivial⟩
  ·have h0:¬ m.held=m.cap:=fun c=>by rw[c,beq_self_eq_true] at h;cases h
   have h1:¬ m.free.length=0:=of_decide_eq_false hf;have hl:=hb.last h1;have hk:(m.free.getD (m.free.length-1) 0).toNat<m.vs.length:=by omega
   rw[(Ee h0 h1 x).1,(Ee h0 h1 x).2,decide_eq_false h0,DZ _ _ _ (by rw[hb.dD];exact hk)]
   refine⟨⟨h1,trivial,trivial,trivial,trivial,hb.pG,trivial,trivial,hb.cells,Bn hv⟩,⟨hl.1,hl.2,bc _⟩,⟨hk⟩,⟨hk⟩,⟨hk⟩,⟨by have:=hb.gen (m.free.getD (m.free.length-1) 0).toNat;exact⟨by omega,by omega⟩⟩,⟨hk⟩,⟨by have:=hb.held;exact⟨by omega,by omega⟩⟩,⟨hk⟩,⟨[0,1,2],rfl,rfl,?_,rfl,rfl,rfl,rfl,rfl⟩⟩
   exact⟨.inl (by rw[e_,eu,qX (A' _ _)];rfl),⟨_,rfl,.inl (BF m _ x _ _).symm⟩,⟨_,rfl,.inl (by rw[eu,qX (A' _ _)])⟩,trivial⟩
 ·cases hx
end G8
namespace Rx
open Go.RowKit State
theorem oy {R:Type} {D:fK R} {P:Program} {T:eK R} (hT:cQ D P T) (LS:P.follows .mixedOrders=aq) {root:Code} {n0:Nat} {k:Exit->SS R->Prop} (n:Nat) {todo:List (It R)} {σ:SS R} {q:Prop} (hq:q)
  (e:rx D P T root n0 k n todo σ=q):At D P root n0 k todo σ:=cW hT LS n (by rw[e];exact hq)
end Rx
namespace Wv
open Rx
set_option maxRecDepth 100000
def acW {R:Type}:Prim R:=fun args hh=>match args,hh with
 |[.int .i64 a],[]=>aa ⟨True,.bool ao,aj,hh,[],[]⟩
 |_,_=>aj
theorem aiV {R:Type} {D:fK R}:ck D Tryz.prog 176 (a9 acW):=by
 refine fw Tryz.f176 fun args hh x hx=>?_
 unfold acW at hx;split at hx
 ·rename_i a;cases hx;refine q4 fun _ hv=>?_
  generalize hG:ct (R:=R) _ _=G;refine oy (T:=[]) trivial mixed 200 (q:=aY (G (aD (a != a)) [])) ?_ (by kernel_rfl)
  subst hG
  repeat' (first|apply cZ|apply Vc.mk|apply fits.mk|intro h|apply aY.mk)
  all_goals (try simp only[sB] at *)
  all_goals first|contradiction|omega|exact ju ‹_›|exact jt ‹_›|exact jv ‹_›|exact⟨rfl,by omega⟩|exact rfl|(simp[*,-ax];done)|skip
  rw[show(a != a)=ao by simp]
  exact⟨[],rfl,rfl,trivial,rfl,rfl,rfl,rfl⟩
 ·cases hx
def ahM {R:Type}:eK R:=[(176,bM zN 2 (a9 acW))]
theorem agm {R:Type} {D:fK R}:cQ D Tryz.prog (ahM:eK R):=⟨aX _ _ aiV,trivial⟩
def S6 {R:Type}:Prim R:=fun args hh=>match args,hh with
 |[.int .i64 a,.int .i64 b],[]=>aa ⟨True,.int .i64 (CQ a b),aj,hh,[],[]⟩
 |_,_=>aj
theorem Xy {R:Type} {D:fK R}:ck D Tryz.prog 162 (a9 S6):=by
 refine fw Tryz.f162 fun args hh x hx=>?_
 unfold S6 at hx;split at hx
 ·rename_i a b;cases hx;refine q4 fun _ hv=>?_
  generalize hG:ct (R:=R) _ _=G;refine oy (T:=ahM) agm mixed 200 (q:=let Z1:=bs av;Vc True/\Vc True/\(ao=aq->(ao=aq->aY (G (Z1 0) []))/\(ao=ao->aY (G (Z1 (-1:Int)) [])))/\(ao=ao->(ao=aq->aY (G (Z1 1) []))/\(ao=ao->(decide (a<b)=aq->aY (G (Z1 (-1:Int)) []))/\(decide (a<b)=ao->(decide (a>b)=aq->aY (G (Z1 1) []))/\(decide (a>b)=ao->aY (G (Z1 0) [])))))) ?_ (by kernel_rfl)
  intro Z1;subst Z1;have fin:∀ (t:Int) (hp:Hp R),t=CQ a b->G (.int .i64 t) hp:=by
   intro t hp ht;subst ht;subst hG;exact⟨⟨[],rfl,rfl,trivial,rfl,rfl,rfl,rfl⟩⟩
  clear hG
  repeat' (first|apply cZ|apply Vc.mk|apply fits.mk|intro h|apply aY.mk)
  all_goals (try simp only[sB] at *)
  all_goals first|contradiction|omega|exact ju ‹_›|exact jt ‹_›|exact jv ‹_›|exact⟨rfl,by omega⟩|exact rfl|(simp[*,-ax];done)|skip
  ·have h:a<b:=by assumption
   exact fin _ _ (by rw[CQ,if_pos h])
  ·have h2:a>b:=by assumption
   exact fin _ _ (by rw[CQ,if_neg (by omega),if_pos h2])
  ·exact fin _ _ (by rw[CQ,if_neg (by omega),if_neg (by omega)])
 ·cases hx
def Sc (a b:Int):Int:=if a≠0 then a else b
def adY {R:Type}:Prim R:=fun args hh=>match args,hh with
 |[.slice (aa ⟨0,0,aa 1000⟩) n c],[aa (.inr (.inr (.inl ⟨[.int .i64 0],n',[⟨[a,b],[],[]⟩]⟩)))]=>aa ⟨n=2/\n'=2,.int .i64 (Sc a b),aj,hh,[],[]⟩
 |_,_=>aj
theorem akm {R:Type} {D:fK R}:ck D Tryz.prog 161 (a9 adY):=by
 refine fw Tryz.f161 fun args hh x hx=>?_
 unfold adY at hx;split at hx
 ·rename_i n c n' a b;cases hx;refine q4 fun _ hv=>?_
  obtain⟨rfl,rfl⟩:=hv;generalize hG:ct (R:=R) _ _=G;refine oy (T:=[]) trivial mixed 200 (q:=let Z1:=bs av;At D Tryz.prog (dM Tryz.f161) 1 (iD Tryz.prog (dF (dG Tryz.f161)) G) [dh [1,1,0,1,0],km (dh 0),dh [1,1,1]] (SS.mk (aa (bK (aa ⟨0,0,aa 1000⟩) 2 c)::aj::aa (Z1 0)::aa (Z1 0)::aj::aj::aa (bK (aa ⟨0,0,aa 1000⟩) 2 c)::aa (Z1 2)::aa (Z1 0)::n4 (n4 (aj::[]))) [] [aa (km (km (dh (Row.mk [Z1 0] 2 [aT.mk [a,b] [] []]))))])) ?_ (by kernel_rfl)
  intro Z1;subst Z1;refine lC (by kernel_rfl) (ι:=Nat) (fun x=>x≤2/\(1≤x->a=0)/\(2≤x->b=0)) [2,3,6,7,8] (fun x=>[.int .i64 0,.int .i64 0,.slice (aa ⟨0,0,aa 1000⟩) 2 c,.int .i64 2,.int .i64 x]) (fun x=>[aa (.inr (.inr (.inl ⟨[.int .i64 0],2,[⟨[a,b],[],[]⟩]⟩)))]) (fun x=>2-x) 18 (fun x hx=>⟨rfl,rfl,by simp⟩) ⟨0,⟨dx _,fun h=>by omega,fun h=>by omega⟩,⟨[0],rfl,⟨rfl,trivial⟩,rfl,rfl,rfl,rfl⟩⟩ fun x hx=>?_
  refine oy (T:=[]) trivial mixed 200 (q:=let Z2:=bs av;let Z1:=(ay [a,b] (0+(x:Int).toNat) (0:Int) != (0:Int));(decide ((↑x:Int)<(2:Int))=aq->Vc ((0:Int)≤(↑x:Int)/\(↑x:Int)<(2:Int)/\2≤2)/\Vc (0+(x:Int).toNat<2)/\(Z1=aq->aY (G (Z2 (ay [a,b] (0+(x:Int).toNat) (0:Int))) [aa (km (km (dh (Row.mk [Z2 0] 2 [aT.mk [a,b] [] []]))))]))/\(Z1=ao->Vc (fits ((↑x:Int)+(1:Int)))/\aY (∃ j,(j≤2/\(1≤j->a=(0:Int))/\(2≤j->b=(0:Int)))/\2-j<2-x/\j4 R 1 18 [2,3,6,7,8] [Z2 0,Z2 0,.slice (aa ⟨0,0,aa 1000⟩) 2 c,Z2 2,Z2 (↑j:Int)] [aa (km (km (dh (Row.mk [Z2 0] 2 [aT.mk [a,b] [] []]))))] [aa (Z2 0),aa (Z2 0),aa (bK (aa ⟨0,0,aa 1000⟩) 2 c),aa (Z2 2),aa (Z2 ((↑x:Int)+(1:Int)))] [aa (km (km (dh (Row.mk [Z2 0] 2 [aT.mk [a,b] [] []]))))] 18)))/\(decide ((↑x:Int)<(2:Int))=ao->aY (G (Z2 0) [aa (km (km (dh (Row.mk [Z2 0] 2 [aT.mk [a,b] [] []]))))]))) ?_ (by kernel_rfl)
  intro Z2 Z1;subst Z1 Z2;obtain⟨h1,h2,h3⟩:=hx;have fin:∀ (t:Int) (rest:Hp R),t=Sc a b->G (.int .i64 t) ([aa (.inr (.inr (.inl ⟨[.int .i64 0],2,[⟨[a,b],[],[]⟩]⟩)))]++rest):=by
   intro t hp ht;subst ht;subst hG;exact⟨⟨[0],rfl,rfl,⟨rfl,trivial⟩,rfl,rfl,rfl,rfl⟩⟩
  clear hG;rcases(show x=0∨x=1∨x=2 by omega) with e|e|e<;>subst e
  ·have g0:[a,b].getD (0+((0:Nat):Int).toNat) 0=a:=rfl;rw[g0]
   repeat' (first|apply cZ|apply Vc.mk|apply fits.mk|intro h|apply aY.mk)
   all_goals (try simp only[sB] at *)
   all_goals first|contradiction|omega|exact ju ‹_›|exact jt ‹_›|exact jv ‹_›|exact⟨rfl,by omega⟩|exact rfl|(simp[*,-ax];done)|skip
   ·have h:a≠0:=by assumption
    exact fin _ [] (by rw[Sc,if_pos h])
   ·have h:a=0:=by assumption
    exact⟨1,⟨by omega,fun _=>h,fun h=>by omega⟩,by omega,⟨[0],rfl,⟨rfl,trivial⟩,rfl,rfl,rfl,rfl⟩⟩
  ·have g0:[a,b].getD (0+((1:Nat):Int).toNat) 0=b:=rfl;rw[g0];have h0:=h2 (bc _)
   repeat' (first|apply cZ|apply Vc.mk|apply fits.mk|intro h|apply aY.mk)
   all_goals (try simp only[sB] at *)
   all_goals first|contradiction|omega|exact ju ‹_›|exact jt ‹_›|exact jv ‹_›|exact⟨rfl,by omega⟩|exact rfl|(simp[*,-ax];done)|skip
   ·exact fin _ [] (by rw[Sc,if_neg (by omega)])
   ·have h:b=0:=by assumption
    exact⟨2,⟨by omega,fun _=>h0,fun _=>h⟩,by omega,⟨[0],rfl,⟨rfl,trivial⟩,rfl,rfl,rfl,rfl⟩⟩
  ·have h0:=h2 (by omega)
   have h1:=h3 (by omega)
   repeat' (first|apply cZ|apply Vc.mk|apply fits.mk|intro h|apply aY.mk)
   all_goals (try simp only[sB] at *)
   all_goals first|contradiction|omega|exact ju ‹_›|exact jt ‹_›|exact jv ‹_›|exact⟨rfl,by omega⟩|exact rfl|(simp[*,-ax];done)|skip
   all_goals first|(exfalso;omega)|skip
   exact fin _ [] (by rw[Sc,if_neg (by omega),h1])
 ·cases hx
def z0:Nat->Bool:=fun j=>fo j 0
def TCm {R:Type}:eK R:=[(162,bM zN 2 (a9 S6)),(161,wx z0 2 (a9 adY))]
theorem aia {R:Type} {D:fK R}:cQ D Tryz.prog (TCm:eK R):=⟨aX _ _ Xy,p8 _ _ akm,trivial⟩
theorem agj (a b c d:Int):Sc (CQ a c) (CQ b d)=kK ⟨a,b⟩ ⟨c,d⟩:=by
 unfold Sc CQ kK;simp only
 repeat' split
 all_goals omega
def Zv {R:Type}:Prim R:=fun args hh=>match args,hh with
 |[.agg ⟨[.int .i64 a,.int .i64 b]⟩,.agg ⟨[.int .i64 c,.int .i64 d]⟩],[]=>aa ⟨True,.int .i64 (kK ⟨a,b⟩ ⟨c,d⟩),aj,hh,[],[]⟩
 |_,_=>aj
theorem abn {R:Type} {D:fK R}:ck D Tryz.prog 140 (a9 Zv):=by
 refine fw Tryz.f140 fun args hh x hx=>?_
 unfold Zv at hx;split at hx
 ·rename_i a b c d;cases hx;refine q4 fun _ hv=>?_
  generalize hG:ct (R:=R) _ _=G;refine oy (T:=TCm) aia mixed 200 (q:=let Z1:=bs av;Vc True/\Vc True/\Vc ((2≤2/\True)/\2=2/\2=2)/\aY (G (Z1 (Sc (CQ a c) (CQ b d))) [aa (dh (31,[Z1 a,Z1 b])),aa (dh (31,[Z1 c,Z1 d])),aa (km (dh (3,Row.mk [Z1 0] 2 [aT.mk [CQ a c,CQ b d] [] []])))])) ?_ (by kernel_rfl)
  intro Z1;subst Z1;subst hG;simp only[← agj]
  repeat' (first|apply cZ|apply Vc.mk|apply fits.mk|intro h|apply aY.mk)
  all_goals (try simp only[sB] at *)
  all_goals first|contradiction|omega|exact ju ‹_›|exact jt ‹_›|exact jv ‹_›|exact⟨rfl,by omega⟩|exact rfl|(simp[*,-ax];done)|skip
  exact⟨[],rfl,rfl,trivial,rfl,rfl,rfl,rfl⟩
 ·cases hx
def TCc {R:Type}:eK R:=[(162,bM zN 2 (a9 S6))]
theorem ait {R:Type} {D:fK R}:cQ D Tryz.prog (TCc:eK R):=⟨aX _ _ Xy,trivial⟩
def TPl {R:Type}:eK R:=[(227,bM zN 2 (a9 Ti.dZ))]
theorem aaI {R:Type} {D:fK R}:cQ D Tryz.prog TPl:=⟨aX _ _ ZZ,trivial⟩
def adL {R:Type}:Prim R:=fun args hh=>match args,hh with
 |[.slice (aa ⟨0,0,aa 1000⟩) n c],[aa (.inr (.inr (.inl ⟨[.int .i64 0],n',[⟨[w],[],[]⟩]⟩)))]=>aa ⟨n=1/\n'=1,.agg ⟨[.int .i64 1,.int .i64 w,.int .i64 w]⟩,aj,hh,[],[]⟩
 |_,_=>aj
theorem aih {R:Type} {D:fK R}:ck D Tryz.prog 226 (a9 adL):=by
 refine fw Tryz.f226 fun args hh x hx=>?_
 unfold adL at hx;split at hx
 ·rename_i n c n' w;cases hx;refine q4 fun _ hv=>?_
  obtain⟨rfl,rfl⟩:=hv;generalize hG:ct (R:=R) _ _=G;refine oy (T:=TPl) aaI mixed 200 (q:=let Z1:=bs av;At D Tryz.prog (dM Tryz.f226) 1 (iD Tryz.prog (dF (dG Tryz.f226)) G) [dh [1,1,0,1,0],km (dh 0),dh [1,1,1]] (SS.mk (aa (bK (aa ⟨0,0,aa 1000⟩) 1 c)::aj::aa (aE (aa ⟨1,0,aj⟩))::aa (aE (aa ⟨2,0,aj⟩))::aj::aj::aa (bK (aa ⟨0,0,aa 1000⟩) 1 c)::aa (Z1 1)::aa (Z1 0)::n4 (n4 (aj::aj::[]))) [] [aa (km (km (dh (Row.mk [Z1 0] 1 [aT.mk [w] [] []])))),aa (dh (51,[Z1 0,Z1 0,Z1 0])),aa (dh (51,[Z1 0,Z1 0,Z1 0]))])) ?_ (by kernel_rfl)
  intro Z1;subst Z1;refine lC (by kernel_rfl) (ι:=Nat×Ti.Td) (fun x=>x.1≤1/\x.2=if x.1=0 then⟨0,0,0⟩ else⟨1,w,w⟩) [2,3,6,7,8] (fun x=>[.pointer (aa ⟨1,0,aj⟩),.pointer (aa ⟨2,0,aj⟩),.slice (aa ⟨0,0,aa 1000⟩) 1 c,.int .i64 1,.int .i64 x.1]) (fun x=>[aa (.inr (.inr (.inl ⟨[.int .i64 0],1,[⟨[w],[],[]⟩]⟩))),aa (.inl (51,[.int .i64 0,.int .i64 0,.int .i64 0])),aa (.inl (51,[.int .i64 x.2.n,.int .i64 x.2.s,.int .i64 x.2.l]))]) (fun x=>1-x.1) 19 (fun x hx=>⟨rfl,rfl,by simp⟩) ⟨(0,⟨0,0,0⟩),⟨dx _,rfl⟩,⟨[0,1,2],rfl,⟨rfl,.inl rfl,.inl rfl,trivial⟩,rfl,rfl,rfl,rfl⟩⟩ fun x hx=>?_
  refine oy (T:=TPl) aaI mixed 200 (q:=let Z3:=bs av;let Z1:=(↑(aB x):Int);let Z2:=(P9 (aw x) (iN (1:Int) (ay [w] (0+aI Z1) (0:Int)) (ay [w] (0+aI Z1) (0:Int))));(decide (Z1<(1:Int))=aq->Vc ((0:Int)≤Z1/\Z1<(1:Int)/\1≤1)/\Vc (0+aI Z1<1)/\Vc True/\Vc (fits (Z1+(1:Int)))/\aY (∃ j,(aB j≤1/\aw j=if aB j=0 then iN (0:Int) (0:Int) (0:Int) else iN (1:Int) w w)/\1-aB j<1-aB x/\j4 R 1 19 [2,3,6,7,8] [.pointer (aa ⟨1,0,aj⟩),.pointer (aa ⟨2,0,aj⟩),.slice (aa ⟨0,0,aa 1000⟩) 1 c,Z3 1,Z3 (↑(aB j):Int)] [aa (km (km (dh (Row.mk [Z3 0] 1 [aT.mk [w] [] []])))),aa (dh ((51:TypeId),[Z3 0,Z3 0,Z3 0])),aa (dh ((51:TypeId),[Z3 (pk (aw j)),Z3 (pn (aw j)),Z3 (po (aw j))]))] [aa (aE (aa ⟨1,0,aj⟩)),aa (aE (aa ⟨2,0,aj⟩)),aa (bK (aa ⟨0,0,aa 1000⟩) 1 c),aa (Z3 1),aa (Z3 (Z1+(1:Int)))] [aa (km (km (dh (Row.mk [Z3 0] 1 [aT.mk [w] [] []])))),aa (dh (51,[Z3 0,Z3 0,Z3 0])),aa (dh (51,[Z3 (pk Z2),Z3 (pn Z2),Z3 (po Z2)]))] 19))/\(decide (Z1<(1:Int))=ao->aY (G (bE (aO [Z3 (pk (aw x)),Z3 (pn (aw x)),Z3 (po (aw x))])) [aa (km (km (dh (Row.mk [Z3 0] 1 [aT.mk [w] [] []])))),aa (dh (51,[Z3 (pk (aw x)),Z3 (pn (aw x)),Z3 (po (aw x))])),aa (dh (51,[Z3 (pk (aw x)),Z3 (pn (aw x)),Z3 (po (aw x))]))]))) ?_ (by kernel_rfl)
  intro Z3 Z1 Z2;subst Z2 Z1 Z3;obtain⟨i,t⟩:=x;obtain⟨h1,h2⟩:=hx;rcases(show i=0∨i=1 by omega) with hi|hi
  ·have ht:t=⟨0,0,0⟩:=h2.trans (if_pos hi);rw[hi,ht];refine⟨fun h=>⟨⟨by omega,by omega,bc _⟩,⟨P_⟩,⟨trivial⟩,⟨⟨by omega,by omega⟩⟩,⟨(1,⟨1,w,w⟩),⟨bc _,rfl⟩,P_,⟨[0,1,2],rfl,⟨rfl,.inl rfl,.inl rfl,trivial⟩,rfl,rfl,rfl,rfl⟩⟩⟩,fun h=>by simp at h⟩
  ·have ht:t=⟨1,w,w⟩:=h2.trans (if_neg (show ¬ i=0 by omega))
   rw[hi,ht];refine⟨fun h=>by simp at h,fun h=>⟨?_⟩⟩
   subst hG;exact⟨⟨[0],rfl,rfl,⟨rfl,trivial⟩,rfl,rfl,rfl,rfl⟩⟩
 ·cases hx
def TOf {R:Type}:eK R:=[(226,wx z0 2 (a9 adL))]
theorem aaY {R:Type} {D:fK R}:cQ D Tryz.prog (TOf:eK R):=⟨p8 _ _ aih,trivial⟩
def Yz {R:Type}:Prim R:=fun args hh=>match args,hh with
 |[.agg ⟨[.int .i64 a,.int .i64 b]⟩,.bool hr],[]=>aa ⟨True,.agg ⟨[.int .i64 (ss ⟨a,b⟩ hr).c.n,.int .i64 (ss ⟨a,b⟩ hr).c.s,.int .i64 (ss ⟨a,b⟩ hr).c.l,.int .i64 (ss ⟨a,b⟩ hr).w.n,.int .i64 (ss ⟨a,b⟩ hr).w.s,.int .i64 (ss ⟨a,b⟩ hr).w.l,.int .i64 (ss ⟨a,b⟩ hr).d,.int .i64 (ss ⟨a,b⟩ hr).f,.int .i64 (ss ⟨a,b⟩ hr).m.k,.int .i64 (ss ⟨a,b⟩ hr).m.i,.bool (ss ⟨a,b⟩ hr).gf,.int .i64 (ss ⟨a,b⟩ hr).g.k,.int .i64 (ss ⟨a,b⟩ hr).g.i,.bool (ss ⟨a,b⟩ hr).lf,.int .i64 (ss ⟨a,b⟩ hr).l.k,.int .i64 (ss ⟨a,b⟩ hr).l.i]⟩,aj,hh,[],[]⟩
 |_,_=>aj
theorem af2 {R:Type} {D:fK R}:ck D Tryz.prog 224 (a9 Yz):=by
 refine fw Tryz.f224 fun args hh x hx=>?_
 unfold Yz at hx;split at hx
 ·rename_i a b hr;cases hx;refine q4 fun _ hv=>?_
  generalize hG:ct (R:=R) _ _=G;refine oy (T:=TOf) aaY mixed 200 (q:=let Z1:=bs av;(hr=aq->Vc ((1≤1/\True)/\1=1/\1=1)/\Vc ((1≤1/\True)/\1=1/\1=1)/\aY (G (bE (aO [Z1 1,Z1 1,Z1 1,Z1 1,Z1 0,Z1 0,Z1 0,Z1 0,Z1 0,Z1 0,.bool ao,Z1 0,Z1 0,.bool aq,Z1 a,Z1 b])) [aa (dh (31,[Z1 a,Z1 b])),aa (dh (53,[Z1 1,Z1 1,Z1 1,Z1 1,Z1 0,Z1 0,Z1 0,Z1 0,Z1 0,Z1 0,.bool ao,Z1 0,Z1 0,.bool aq,Z1 a,Z1 b])),aa (dh (47,[.bool aq,Z1 a,Z1 b])),aa (km (dh (3,Row.mk [Z1 0] 1 [aT.mk [(1:Int)] [] []]))),aa (km (dh (3,Row.mk [Z1 0] 1 [aT.mk [(0:Int)] [] []])))]))/\(hr=ao->Vc ((1≤1/\True)/\1=1/\1=1)/\Vc ((1≤1/\True)/\1=1/\1=1)/\aY (G (bE (aO [Z1 1,Z1 1,Z1 1,Z1 1,Z1 1,Z1 1,Z1 0,Z1 0,Z1 0,Z1 0,.bool aq,Z1 a,Z1 b,.bool ao,Z1 0,Z1 0])) [aa (dh (31,[Z1 a,Z1 b])),aa (dh (53,[Z1 1,Z1 1,Z1 1,Z1 1,Z1 1,Z1 1,Z1 0,Z1 0,Z1 0,Z1 0,.bool aq,Z1 a,Z1 b,.bool ao,Z1 0,Z1 0])),aa (dh (47,[.bool aq,Z1 a,Z1 b])),aa (km (dh (3,Row.mk [Z1 0] 1 [aT.mk [(1:Int)] [] []]))),aa (km (dh (3,Row.mk [Z1 0] 1 [aT.mk [(1:Int)] [] []])))]))) ?_ (by kernel_rfl)
  intro Z1;subst Z1;have fin:∀ (z:Sw) (hp:Hp R),z=ss ⟨a,b⟩ hr->G (.agg ⟨[.int .i64 z.c.n,.int .i64 z.c.s,.int .i64 z.c.l,.int .i64 z.w.n,.int .i64 z.w.s,.int .i64 z.w.l,.int .i64 z.d,.int .i64 z.f,.int .i64 z.m.k,.int .i64 z.m.i,.bool z.gf,.int .i64 z.g.k,.int .i64 z.g.i,.bool z.lf,.int .i64 z.l.k,.int .i64 z.l.i]⟩) hp:=by
   intro z hp ht;subst ht;subst hG;exact⟨⟨[],rfl,rfl,trivial,rfl,rfl,rfl,rfl⟩⟩
  clear hG
  repeat' (first|apply cZ|apply Vc.mk|apply fits.mk|intro h|apply aY.mk)
  all_goals (try simp only[sB] at *)
  all_goals first|contradiction|omega|exact ju ‹_›|exact jt ‹_›|exact jv ‹_›|exact⟨rfl,by omega⟩|exact rfl|(simp[*,-ax];done)|skip
  ·have h:hr=aq:=by assumption
   exact fin ⟨⟨1,1,1⟩,⟨1,0,0⟩,0,0,⟨0,0⟩,ao,⟨0,0⟩,aq,⟨a,b⟩⟩ _ (by rw[ss,if_pos h])
  ·have h:hr=ao:=by assumption
   exact fin ⟨⟨1,1,1⟩,⟨1,1,1⟩,0,0,⟨0,0⟩,aq,⟨a,b⟩,ao,⟨0,0⟩⟩ _ (by rw[ss,if_neg (by rw[h];decide)])
 ·cases hx
def YM {R:Type}:Prim R:=fun args hh=>match args,hh with
 |[.agg ⟨[.bool a,.int .i64 b,.int .i64 c]⟩],[]=>aa ⟨True,.agg ⟨[.int .i64 (sh a ⟨b,c⟩).c.n,.int .i64 (sh a ⟨b,c⟩).c.s,.int .i64 (sh a ⟨b,c⟩).c.l,.int .i64 (sh a ⟨b,c⟩).w.n,.int .i64 (sh a ⟨b,c⟩).w.s,.int .i64 (sh a ⟨b,c⟩).w.l,.int .i64 (sh a ⟨b,c⟩).d,.int .i64 (sh a ⟨b,c⟩).f,.int .i64 (sh a ⟨b,c⟩).m.k,.int .i64 (sh a ⟨b,c⟩).m.i,.bool (sh a ⟨b,c⟩).gf,.int .i64 (sh a ⟨b,c⟩).g.k,.int .i64 (sh a ⟨b,c⟩).g.i,.bool (sh a ⟨b,c⟩).lf,.int .i64 (sh a ⟨b,c⟩).l.k,.int .i64 (sh a ⟨b,c⟩).l.i]⟩,aj,hh,[],[]⟩
 |_,_=>aj
theorem af5 {R:Type} {D:fK R}:ck D Tryz.prog 225 (a9 YM):=by
 refine fw Tryz.f225 fun args hh x hx=>?_
 unfold YM at hx;split at hx
 ·rename_i a b c;cases hx;refine q4 fun _ hv=>?_
  generalize hG:ct (R:=R) _ _=G;refine oy (T:=TOf) aaY mixed 200 (q:=let Z1:=bs av;Vc ((1≤1/\True)/\1=1/\1=1)/\Vc ((1≤1/\True)/\1=1/\1=1)/\(a=aq->aY (G (bE (aO [Z1 1,Z1 (-1:Int),Z1 (-1:Int),Z1 1,Z1 (-1:Int),Z1 (-1:Int),Z1 1,Z1 0,Z1 b,Z1 c,.bool ao,Z1 0,Z1 0,.bool ao,Z1 0,Z1 0])) [aa (dh (47,[.bool a,Z1 b,Z1 c])),aa (dh (53,[Z1 1,Z1 (-1:Int),Z1 (-1:Int),Z1 1,Z1 (-1:Int),Z1 (-1:Int),Z1 1,Z1 0,Z1 b,Z1 c,.bool ao,Z1 0,Z1 0,.bool ao,Z1 0,Z1 0])),aa (km (dh (3,Row.mk [Z1 0] 1 [aT.mk [(-1:Int)] [] []]))),aa (km (dh (3,Row.mk [Z1 0] 1 [aT.mk [(-1:Int)] [] []]))),aa (dh (53,[Z1 1,Z1 (-1:Int),Z1 (-1:Int),Z1 1,Z1 (-1:Int),Z1 (-1:Int),Z1 1,Z1 0,Z1 b,Z1 c,.bool ao,Z1 0,Z1 0,.bool ao,Z1 0,Z1 0]))]))/\(a=ao->aY (G (bE (aO [Z1 1,Z1 (-1:Int),Z1 (-1:Int),Z1 1,Z1 (-1:Int),Z1 (-1:Int),Z1 1,Z1 1,Z1 0,Z1 0,.bool ao,Z1 0,Z1 0,.bool ao,Z1 0,Z1 0])) [aa (dh (47,[.bool a,Z1 b,Z1 c])),aa (dh (53,[Z1 1,Z1 (-1:Int),Z1 (-1:Int),Z1 1,Z1 (-1:Int),Z1 (-1:Int),Z1 1,Z1 1,Z1 0,Z1 0,.bool ao,Z1 0,Z1 0,.bool ao,Z1 0,Z1 0])),aa (km (dh (3,Row.mk [Z1 0] 1 [aT.mk [(-1:Int)] [] []]))),aa (km (dh (3,Row.mk [Z1 0] 1 [aT.mk [(-1:Int)] [] []]))),aa (dh (53,[Z1 1,Z1 (-1:Int),Z1 (-1:Int),Z1 1,Z1 (-1:Int),Z1 (-1:Int),Z1 1,Z1 1,Z1 0,Z1 0,.bool ao,Z1 0,Z1 0,.bool ao,Z1 0,Z1 0]))]))) ?_ (by kernel_rfl)
  intro Z1;subst Z1;have fin:∀ (z:Sw) (hp:Hp R),z=sh a ⟨b,c⟩->G (.agg ⟨[.int .i64 z.c.n,.int .i64 z.c.s,.int .i64 z.c.l,.int .i64 z.w.n,.int .i64 z.w.s,.int .i64 z.w.l,.int .i64 z.d,.int .i64 z.f,.int .i64 z.m.k,.int .i64 z.m.i,.bool z.gf,.int .i64 z.g.k,.int .i64 z.g.i,.bool z.lf,.int .i64 z.l.k,.int .i64 z.l.i]⟩) hp:=by
   intro z hp ht;subst ht;subst hG;exact⟨⟨[],rfl,rfl,trivial,rfl,rfl,rfl,rfl⟩⟩
  clear hG
  repeat' (first|apply cZ|apply Vc.mk|apply fits.mk|intro h|apply aY.mk)
  all_goals (try simp only[sB] at *)
  all_goals first|contradiction|omega|exact ju ‹_›|exact jt ‹_›|exact jv ‹_›|exact⟨rfl,by omega⟩|exact rfl|(simp[*,-ax];done)|skip
  ·have h:a=aq:=by assumption
   exact fin ⟨⟨1,-1,-1⟩,⟨1,-1,-1⟩,1,0,⟨b,c⟩,ao,⟨0,0⟩,ao,⟨0,0⟩⟩ _ (by rw[sh,if_pos h])
  ·have h:a=ao:=by assumption
   exact fin ⟨⟨1,-1,-1⟩,⟨1,-1,-1⟩,1,1,⟨0,0⟩,ao,⟨0,0⟩,ao,⟨0,0⟩⟩ _ (by rw[sh,if_neg (by rw[h];decide)])
 ·cases hx
def akn {R:Type}:eK R:=[(224,bM zN 2 (a9 Yz)),(225,bM zN 2 (a9 YM))]
theorem ag4 {R:Type} {D:fK R}:cQ D Tryz.prog (akn:eK R):=⟨aX _ _ af2,aX _ _ af5,trivial⟩
def ZP {R:Type}:Prim R:=fun args hh=>match args,hh with
 |[.agg ⟨[.int .i64 k0,.bool k1,.int .i64 k2,.int .i64 k3,.bool k4,.bool k5,.int .i64 k6,.int .i64 k7]⟩],[]=>aa ⟨True,.agg ⟨[.int .i64 (O8.sum (⟨k0,k1,⟨k2,k3⟩,k4,k5,⟨k6,k7⟩⟩:Mk)).c.n,.int .i64 (O8.sum (⟨k0,k1,⟨k2,k3⟩,k4,k5,⟨k6,k7⟩⟩:Mk)).c.s,.int .i64 (O8.sum (⟨k0,k1,⟨k2,k3⟩,k4,k5,⟨k6,k7⟩⟩:Mk)).c.l,.int .i64 (O8.sum (⟨k0,k1,⟨k2,k3⟩,k4,k5,⟨k6,k7⟩⟩:Mk)).w.n,.int .i64 (O8.sum (⟨k0,k1,⟨k2,k3⟩,k4,k5,⟨k6,k7⟩⟩:Mk)).w.s,.int .i64 (O8.sum (⟨k0,k1,⟨k2,k3⟩,k4,k5,⟨k6,k7⟩⟩:Mk)).w.l,.int .i64 (O8.sum (⟨k0,k1,⟨k2,k3⟩,k4,k5,⟨k6,k7⟩⟩:Mk)).d,.int .i64 (O8.sum (⟨k0,k1,⟨k2,k3⟩,k4,k5,⟨k6,k7⟩⟩:Mk)).f,.int .i64 (O8.sum (⟨k0,k1,⟨k2,k3⟩,k4,k5,⟨k6,k7⟩⟩:Mk)).m.k,.int .i64 (O8.sum (⟨k0,k1,⟨k2,k3⟩,k4,k5,⟨k6,k7⟩⟩:Mk)).m.i,.bool (O8.sum (⟨k0,k1,⟨k2,k3⟩,k4,k5,⟨k6,k7⟩⟩:Mk)).gf,.int .i64 (O8.sum (⟨k0,k1,⟨k2,k3⟩,k4,k5,⟨k6,k7⟩⟩:Mk)).g.k,.int .i64 (O8.sum (⟨k0,k1,⟨k2,k3⟩,k4,k5,⟨k6,k7⟩⟩:Mk)).g.i,.bool (O8.sum (⟨k0,k1,⟨k2,k3⟩,k4,k5,⟨k6,k7⟩⟩:Mk)).lf,.int .i64 (O8.sum (⟨k0,k1,⟨k2,k3⟩,k4,k5,⟨k6,k7⟩⟩:Mk)).l.k,.int .i64 (O8.sum (⟨k0,k1,⟨k2,k3⟩,k4,k5,⟨k6,k7⟩⟩:Mk)).l.i]⟩,aj,hh,[],[]⟩
 |_,_=>aj
theorem afO {R:Type} {D:fK R}:ck D Tryz.prog 223 (a9 ZP):=by
 refine fw Tryz.f223 fun args hh x hx=>?_
 unfold ZP at hx;split at hx
 ·rename_i k0 k1 k2 k3 k4 k5 k6 k7;cases hx;refine q4 fun _ hv=>?_
  generalize hG:ct (R:=R) _ _=G;refine oy (T:=akn) ag4 mixed 200 (q:=let Z3:=bs av;let Z1:=(ss (It.mk k2 k3) k4);let Z2:=(sh k5 (It.mk k6 k7));(k1=aq->Vc True/\aY (G (bE (aO [Z3 (pk (Sw.c Z1)),Z3 (pn (Sw.c Z1)),Z3 (po (Sw.c Z1)),Z3 (pk (Sw.w Z1)),Z3 (pn (Sw.w Z1)),Z3 (po (Sw.w Z1)),Z3 (Sw.d Z1),Z3 (Sw.f Z1),Z3 (It.k (Sw.m Z1)),Z3 (It.i (Sw.m Z1)),.bool (Sw.gf Z1),Z3 (It.k (Sw.g Z1)),Z3 (It.i (Sw.g Z1)),.bool (Sw.lf Z1),Z3 (It.k (Sw.l Z1)),Z3 (It.i (Sw.l Z1))])) [aa (dh (49,[Z3 k0,.bool k1,Z3 k2,Z3 k3,.bool k4,.bool k5,Z3 k6,Z3 k7])),aa (dh (53,[Z3 (pk (Sw.c Z1)),Z3 (pn (Sw.c Z1)),Z3 (po (Sw.c Z1)),Z3 (pk (Sw.w Z1)),Z3 (pn (Sw.w Z1)),Z3 (po (Sw.w Z1)),Z3 (Sw.d Z1),Z3 (Sw.f Z1),Z3 (It.k (Sw.m Z1)),Z3 (It.i (Sw.m Z1)),.bool (Sw.gf Z1),Z3 (It.k (Sw.g Z1)),Z3 (It.i (Sw.g Z1)),.bool (Sw.lf Z1),Z3 (It.k (Sw.l Z1)),Z3 (It.i (Sw.l Z1))]))]))/\(k1=ao->Vc True/\aY (G (bE (aO [Z3 (pk (Sw.c Z2)),Z3 (pn (Sw.c Z2)),Z3 (po (Sw.c Z2)),Z3 (pk (Sw.w Z2)),Z3 (pn (Sw.w Z2)),Z3 (po (Sw.w Z2)),Z3 (Sw.d Z2),Z3 (Sw.f Z2),Z3 (It.k (Sw.m Z2)),Z3 (It.i (Sw.m Z2)),.bool (Sw.gf Z2),Z3 (It.k (Sw.g Z2)),Z3 (It.i (Sw.g Z2)),.bool (Sw.lf Z2),Z3 (It.k (Sw.l Z2)),Z3 (It.i (Sw.l Z2))])) [aa (dh (49,[Z3 k0,.bool k1,Z3 k2,Z3 k3,.bool k4,.bool k5,Z3 k6,Z3 k7])),aa (dh (53,[Z3 (pk (Sw.c Z2)),Z3 (pn (Sw.c Z2)),Z3 (po (Sw.c Z2)),Z3 (pk (Sw.w Z2)),Z3 (pn (Sw.w Z2)),Z3 (po (Sw.w Z2)),Z3 (Sw.d Z2),Z3 (Sw.f Z2),Z3 (It.k (Sw.m Z2)),Z3 (It.i (Sw.m Z2)),.bool (Sw.gf Z2),Z3 (It.k (Sw.g Z2)),Z3 (It.i (Sw.g Z2)),.bool (Sw.lf Z2),Z3 (It.k (Sw.l Z2)),Z3 (It.i (Sw.l Z2))]))]))) ?_ (by kernel_rfl)
  intro Z3 Z1 Z2;subst Z2 Z1 Z3;have fin:∀ (z:Sw) (hp:Hp R),z=O8.sum (⟨k0,k1,⟨k2,k3⟩,k4,k5,⟨k6,k7⟩⟩:Mk)->G (.agg ⟨[.int .i64 z.c.n,.int .i64 z.c.s,.int .i64 z.c.l,.int .i64 z.w.n,.int .i64 z.w.s,.int .i64 z.w.l,.int .i64 z.d,.int .i64 z.f,.int .i64 z.m.k,.int .i64 z.m.i,.bool z.gf,.int .i64 z.g.k,.int .i64 z.g.i,.bool z.lf,.int .i64 z.l.k,.int .i64 z.l.i]⟩) hp:=by
   intro z hp ht;subst ht;subst hG;exact⟨⟨[],rfl,rfl,trivial,rfl,rfl,rfl,rfl⟩⟩
  clear hG
  repeat' (first|apply cZ|apply Vc.mk|apply fits.mk|intro h|apply aY.mk)
  all_goals (try simp only[sB] at *)
  all_goals first|contradiction|omega|exact ju ‹_›|exact jt ‹_›|exact jv ‹_›|exact⟨rfl,by omega⟩|exact rfl|(simp[*,-ax];done)|skip
  ·have h:k1=aq:=by assumption
   exact fin (ss ⟨k2,k3⟩ k4) _ (by show _=if k1=aq then _ else _;rw[if_pos h])
  ·have h:k1=ao:=by assumption
   exact fin (sh k5 ⟨k6,k7⟩) _ (by show _=if k1=aq then _ else _;rw[if_neg (by rw[h];decide)])
 ·cases hx
def Im {R:Type}:Prim R:=fun args hh=>match args,hh with
 |[.agg ⟨[.int .i64 k0,.bool k1,.int .i64 k2,.int .i64 k3,.bool k4,.bool k5,.int .i64 k6,.int .i64 k7]⟩,.agg ⟨[.int .i64 x0,.bool x1,.int .i64 x2,.int .i64 x3,.bool x4,.bool x5,.int .i64 x6,.int .i64 x7]⟩],[]=>aa ⟨True,.int .i64 (O8.cmp (⟨k0,k1,⟨k2,k3⟩,k4,k5,⟨k6,k7⟩⟩:Mk) (⟨x0,x1,⟨x2,x3⟩,x4,x5,⟨x6,x7⟩⟩:Mk)),aj,hh,[],[]⟩
 |_,_=>aj
theorem BA {R:Type} {D:fK R}:ck D Tryz.prog 222 (a9 Im):=by
 refine fw Tryz.f222 fun args hh x hx=>?_
 unfold Im at hx;split at hx
 ·rename_i k0 k1 k2 k3 k4 k5 k6 k7 x0 x1 x2 x3 x4 x5 x6 x7;cases hx;refine q4 fun _ hv=>?_
  generalize hG:ct (R:=R) _ _=G;refine oy (T:=TCc) ait mixed 200 (q:=let Z1:=bs av;Vc True/\aY (G (Z1 (CQ k0 x0)) [aa (dh (49,[Z1 k0,.bool k1,Z1 k2,Z1 k3,.bool k4,.bool k5,Z1 k6,Z1 k7])),aa (dh (49,[Z1 x0,.bool x1,Z1 x2,Z1 x3,.bool x4,.bool x5,Z1 x6,Z1 x7]))])) ?_ (by kernel_rfl)
  intro Z1;subst Z1;subst hG
  repeat' (first|apply cZ|apply Vc.mk|apply fits.mk|intro h|apply aY.mk)
  all_goals (try simp only[sB] at *)
  all_goals first|contradiction|omega|exact ju ‹_›|exact jt ‹_›|exact jv ‹_›|exact⟨rfl,by omega⟩|exact rfl|(simp[*,-ax];done)|skip
  exact⟨[],rfl,rfl,trivial,rfl,rfl,rfl,rfl⟩
 ·cases hx
def ZE {R:Type}:Prim R:=fun args hh=>match args,hh with
 |[.int .i64 a],[]=>aa ⟨True,.agg ⟨[.int .i64 a,.bool ao,.int .i64 0,.int .i64 0,.bool ao,.bool ao,.int .i64 0,.int .i64 0]⟩,aj,hh,[],[]⟩
 |_,_=>aj
theorem abF {R:Type} {D:fK R}:ck D Tryz.prog 66 (a9 ZE):=by
 refine fw Tryz.f66 fun args hh x hx=>?_
 unfold ZE at hx;split at hx
 ·rename_i a;cases hx;refine q4 fun _ hv=>?_
  generalize hG:ct (R:=R) _ _=G;refine oy (T:=[]) trivial mixed 200 (q:=let Z1:=bs av;aY (G (bE (aO [Z1 a,.bool ao,Z1 0,Z1 0,.bool ao,.bool ao,Z1 0,Z1 0])) [aa (dh (49,[Z1 a,.bool ao,Z1 0,Z1 0,.bool ao,.bool ao,Z1 0,Z1 0]))])) ?_ (by kernel_rfl)
  intro Z1;subst Z1;subst hG
  repeat' (first|apply cZ|apply Vc.mk|apply fits.mk|intro h|apply aY.mk)
  all_goals (try simp only[sB] at *)
  all_goals first|contradiction|omega|exact ju ‹_›|exact jt ‹_›|exact jv ‹_›|exact⟨rfl,by omega⟩|exact rfl|(simp[*,-ax];done)|skip
  exact⟨[],rfl,rfl,trivial,rfl,rfl,rfl,rfl⟩
 ·cases hx
def acR {R:Type}:Prim R:=fun args hh=>match args,hh with
 |[.agg ⟨[.int .i64 x0,.int .i64 x1,.int .i64 x2,.int .i64 x3,.int .i64 x4,.int .i64 x5,.int .i64 x6,.int .i64 x7,.int .i64 x8,.int .i64 x9,.bool ry,.int .i64 rC,.int .i64 rA,.bool rv,.int .i64 rr,.int .i64 ru]⟩],[]=>aa ⟨True,.bool (x6 != x7),aj,hh,[],[]⟩
 |_,_=>aj
theorem ahJ {R:Type} {D:fK R}:ck D Tryz.prog 230 (a9 acR):=by
 refine fw Tryz.f230 fun args hh x hx=>?_
 unfold acR at hx;split at hx
 ·rename_i x0 x1 x2 x3 x4 x5 x6 x7 x8 x9 ry rC rA rv rr ru;cases hx;refine q4 fun _ hv=>?_
  generalize hG:ct (R:=R) _ _=G;refine oy (T:=[]) trivial mixed 200 (q:=let Z1:=bs av;aY (G (aD (x6 != x7)) [aa (dh (53,[Z1 x0,Z1 x1,Z1 x2,Z1 x3,Z1 x4,Z1 x5,Z1 x6,Z1 x7,Z1 x8,Z1 x9,.bool ry,Z1 rC,Z1 rA,.bool rv,Z1 rr,Z1 ru]))])) ?_ (by kernel_rfl)
  intro Z1;subst Z1;subst hG
  repeat' (first|apply cZ|apply Vc.mk|apply fits.mk|intro h|apply aY.mk)
  all_goals (try simp only[sB] at *)
  all_goals first|contradiction|omega|exact ju ‹_›|exact jt ‹_›|exact jv ‹_›|exact⟨rfl,by omega⟩|exact rfl|(simp[*,-ax];done)|skip
  exact⟨[],rfl,rfl,trivial,rfl,rfl,rfl,rfl⟩
 ·cases hx
def TMo {R:Type}:eK R:=[(230,bM zN 2 (a9 acR)),(140,bM zN 2 (a9 Zv))]
theorem abo {R:Type} {D:fK R}:cQ D Tryz.prog (TMo:eK R):=⟨aX _ _ ahJ,aX _ _ abn,trivial⟩
def YZ {R:Type}:Prim R:=fun args hh=>match args,hh with
 |[.agg ⟨[.int .i64 x0,.int .i64 x1,.int .i64 x2,.int .i64 x3,.int .i64 x4,.int .i64 x5,.int .i64 x6,.int .i64 x7,.int .i64 x8,.int .i64 x9,.bool ry,.int .i64 rC,.int .i64 rA,.bool rv,.int .i64 rr,.int .i64 ru]⟩,.agg ⟨[.int .i64 y0,.int .i64 y1,.int .i64 y2,.int .i64 y3,.int .i64 y4,.int .i64 y5,.int .i64 y6,.int .i64 y7,.int .i64 y8,.int .i64 y9,.bool sR,.int .i64 sP,.int .i64 sV,.bool sS,.int .i64 sU,.int .i64 sQ]⟩],[]=>aa ⟨True,.agg ⟨[.int .i64 (Fa (⟨⟨x0,x1,x2⟩,⟨x3,x4,x5⟩,x6,x7,⟨x8,x9⟩,ry,⟨rC,rA⟩,rv,⟨rr,ru⟩⟩:Sw) (⟨⟨y0,y1,y2⟩,⟨y3,y4,y5⟩,y6,y7,⟨y8,y9⟩,sR,⟨sP,sV⟩,sS,⟨sU,sQ⟩⟩:Sw)).k,.int .i64 (Fa (⟨⟨x0,x1,x2⟩,⟨x3,x4,x5⟩,x6,x7,⟨x8,x9⟩,ry,⟨rC,rA⟩,rv,⟨rr,ru⟩⟩:Sw) (⟨⟨y0,y1,y2⟩,⟨y3,y4,y5⟩,y6,y7,⟨y8,y9⟩,sR,⟨sP,sV⟩,sS,⟨sU,sQ⟩⟩:Sw)).i]⟩,aj,hh,[],[]⟩
 |_,_=>aj
theorem agi {R:Type} {D:fK R}:ck D Tryz.prog 231 (a9 YZ):=by
 refine fw Tryz.f231 fun args hh x hx=>?_
 unfold YZ at hx;split at hx
 ·rename_i x0 x1 x2 x3 x4 x5 x6 x7 x8 x9 ry rC rA rv rr ru y0 y1 y2 y3 y4 y5 y6 y7 y8 y9 sR sP sV sS sU sQ;cases hx;refine q4 fun _ hv=>?_
  generalize hG:ct (R:=R) _ _=G;refine oy (T:=TMo) abo mixed 200 (q:=let Z1:=bs av;Vc True/\((!y6 != y7)=aq->aY (G (bE (aO [Z1 x8,Z1 x9])) [aa (dh (53,[Z1 x0,Z1 x1,Z1 x2,Z1 x3,Z1 x4,Z1 x5,Z1 x6,Z1 x7,Z1 x8,Z1 x9,.bool ry,Z1 rC,Z1 rA,.bool rv,Z1 rr,Z1 ru])),aa (dh (53,[Z1 y0,Z1 y1,Z1 y2,Z1 y3,Z1 y4,Z1 y5,Z1 y6,Z1 y7,Z1 y8,Z1 y9,.bool sR,Z1 sP,Z1 sV,.bool sS,Z1 sU,Z1 sQ])),aa (dh (31,[Z1 x8,Z1 x9]))]))/\((!y6 != y7)=ao->Vc True/\((!x6 != x7)=ao->Vc True/\(decide (kK (It.mk y8 y9) (It.mk x8 x9)>(0:Int))=aq->aY (G (bE (aO [Z1 y8,Z1 y9])) [aa (dh (53,[Z1 x0,Z1 x1,Z1 x2,Z1 x3,Z1 x4,Z1 x5,Z1 x6,Z1 x7,Z1 x8,Z1 x9,.bool ry,Z1 rC,Z1 rA,.bool rv,Z1 rr,Z1 ru])),aa (dh (53,[Z1 y0,Z1 y1,Z1 y2,Z1 y3,Z1 y4,Z1 y5,Z1 y6,Z1 y7,Z1 y8,Z1 y9,.bool sR,Z1 sP,Z1 sV,.bool sS,Z1 sU,Z1 sQ])),aa (dh (31,[Z1 y8,Z1 y9]))]))/\(decide (kK (It.mk y8 y9) (It.mk x8 x9)>(0:Int))=ao->aY (G (bE (aO [Z1 x8,Z1 x9])) [aa (dh (53,[Z1 x0,Z1 x1,Z1 x2,Z1 x3,Z1 x4,Z1 x5,Z1 x6,Z1 x7,Z1 x8,Z1 x9,.bool ry,Z1 rC,Z1 rA,.bool rv,Z1 rr,Z1 ru])),aa (dh (53,[Z1 y0,Z1 y1,Z1 y2,Z1 y3,Z1 y4,Z1 y5,Z1 y6,Z1 y7,Z1 y8,Z1 y9,.bool sR,Z1 sP,Z1 sV,.bool sS,Z1 sU,Z1 sQ])),aa (dh (31,[Z1 x8,Z1 x9]))])))/\((!x6 != x7)=aq->aY (G (bE (aO [Z1 y8,Z1 y9])) [aa (dh (53,[Z1 x0,Z1 x1,Z1 x2,Z1 x3,Z1 x4,Z1 x5,Z1 x6,Z1 x7,Z1 x8,Z1 x9,.bool ry,Z1 rC,Z1 rA,.bool rv,Z1 rr,Z1 ru])),aa (dh (53,[Z1 y0,Z1 y1,Z1 y2,Z1 y3,Z1 y4,Z1 y5,Z1 y6,Z1 y7,Z1 y8,Z1 y9,.bool sR,Z1 sP,Z1 sV,.bool sS,Z1 sU,Z1 sQ])),aa (dh (31,[Z1 y8,Z1 y9]))])))) ?_ (by kernel_rfl)
  intro Z1;subst Z1;have fin:∀ (z:It) (hp:Hp R),z=Fa (⟨⟨x0,x1,x2⟩,⟨x3,x4,x5⟩,x6,x7,⟨x8,x9⟩,ry,⟨rC,rA⟩,rv,⟨rr,ru⟩⟩:Sw) (⟨⟨y0,y1,y2⟩,⟨y3,y4,y5⟩,y6,y7,⟨y8,y9⟩,sR,⟨sP,sV⟩,sS,⟨sU,sQ⟩⟩:Sw)->G (.agg ⟨[.int .i64 z.k,.int .i64 z.i]⟩) hp:=by
   intro z hp ht;subst ht;subst hG;exact⟨⟨[],rfl,rfl,trivial,rfl,rfl,rfl,rfl⟩⟩
  clear hG
  repeat' (first|apply cZ|apply Vc.mk|apply fits.mk|intro h|apply aY.mk)
  all_goals (try simp only[sB] at *)
  all_goals first|contradiction|omega|exact ju ‹_›|exact jt ‹_›|exact jv ‹_›|exact⟨rfl,by omega⟩|exact rfl|(simp[*,-ax];done)|skip
  all_goals first
   |exact fin ⟨x8,x9⟩ _ (by simp only[Fa];rw[if_pos (by assumption)])
   |exact fin ⟨y8,y9⟩ _ (by simp only[Fa];rw[if_neg (by assumption),if_pos (by first|exact .inl (by assumption)|exact .inr ((w5 _ _).1 (by assumption)))])
   |exact fin ⟨x8,x9⟩ _ (by simp only[Fa];rw[if_neg (by assumption),if_neg (by rintro (h|h);contradiction;have:=(w5 ⟨y8,y9⟩ ⟨x8,x9⟩).2 h;omega)])
 ·cases hx
def Yv {R:Type}:Prim R:=fun args hh=>match args,hh with
 |[.agg ⟨[.bool x0,.int .i64 x1,.int .i64 x2]⟩,.agg ⟨[.bool y0,.int .i64 y1,.int .i64 y2]⟩,.int .i64 sd],[]=>aa ⟨True,.agg ⟨[.bool (vd sd x0 ⟨x1,x2⟩ y0 ⟨y1,y2⟩).1,.int .i64 (vd sd x0 ⟨x1,x2⟩ y0 ⟨y1,y2⟩).2.k,.int .i64 (vd sd x0 ⟨x1,x2⟩ y0 ⟨y1,y2⟩).2.i]⟩,aj,hh,[],[]⟩
 |_,_=>aj
theorem afM {R:Type} {D:fK R}:ck D Tryz.prog 232 (a9 Yv):=by
 refine fw Tryz.f232 fun args hh x hx=>?_
 unfold Yv at hx;split at hx
 ·rename_i x0 x1 x2 y0 y1 y2 sd;cases hx;refine q4 fun _ hv=>?_
  generalize hG:ct (R:=R) _ _=G;refine oy (T:=TMo) abo mixed 200 (q:=let Z1:=bs av;(y0=aq->((!x0)=ao->Vc True/\((kK (It.mk y1 y2) (It.mk x1 x2)==sd)=aq->aY (G (bE (aO [.bool y0,Z1 y1,Z1 y2])) [aa (dh (47,[.bool x0,Z1 x1,Z1 x2])),aa (dh (47,[.bool y0,Z1 y1,Z1 y2])),aa (dh (47,[.bool y0,Z1 y1,Z1 y2]))]))/\((kK (It.mk y1 y2) (It.mk x1 x2)==sd)=ao->((!x0)=aq->aY (G (bE (aO [.bool ao,Z1 0,Z1 0])) [aa (dh (47,[.bool x0,Z1 x1,Z1 x2])),aa (dh (47,[.bool y0,Z1 y1,Z1 y2])),aa (dh (47,[.bool ao,Z1 0,Z1 0]))]))/\((!x0)=ao->aY (G (bE (aO [.bool x0,Z1 x1,Z1 x2])) [aa (dh (47,[.bool x0,Z1 x1,Z1 x2])),aa (dh (47,[.bool y0,Z1 y1,Z1 y2])),aa (dh (47,[.bool x0,Z1 x1,Z1 x2]))]))))/\((!x0)=aq->aY (G (bE (aO [.bool y0,Z1 y1,Z1 y2])) [aa (dh (47,[.bool x0,Z1 x1,Z1 x2])),aa (dh (47,[.bool y0,Z1 y1,Z1 y2])),aa (dh (47,[.bool y0,Z1 y1,Z1 y2]))])))/\(y0=ao->((!x0)=aq->aY (G (bE (aO [.bool ao,Z1 0,Z1 0])) [aa (dh (47,[.bool x0,Z1 x1,Z1 x2])),aa (dh (47,[.bool y0,Z1 y1,Z1 y2])),aa (dh (47,[.bool ao,Z1 0,Z1 0]))]))/\((!x0)=ao->aY (G (bE (aO [.bool x0,Z1 x1,Z1 x2])) [aa (dh (47,[.bool x0,Z1 x1,Z1 x2])),aa (dh (47,[.bool y0,Z1 y1,Z1 y2])),aa (dh (47,[.bool x0,Z1 x1,Z1 x2]))])))) ?_ (by kernel_rfl)
  intro Z1;subst Z1;have fin:∀ (z:Bool×It) (hp:Hp R),z=vd sd x0 ⟨x1,x2⟩ y0 ⟨y1,y2⟩->G (.agg ⟨[.bool z.1,.int .i64 z.2.k,.int .i64 z.2.i]⟩) hp:=by
   intro z hp ht;subst ht;subst hG;exact⟨⟨[],rfl,rfl,trivial,rfl,rfl,rfl,rfl⟩⟩
  clear hG
  repeat' (first|apply cZ|apply Vc.mk|apply fits.mk|intro h|apply aY.mk)
  all_goals (try simp only[sB] at *)
  all_goals first|contradiction|omega|exact ju ‹_›|exact jt ‹_›|exact jv ‹_›|exact⟨rfl,by omega⟩|exact rfl|(simp[*,-ax];done)|skip
  all_goals first
   |(exfalso;simp_all;done)
   |exact fin (y0,⟨y1,y2⟩) _ (by simp[vd, *];done)
   |exact fin (ao,⟨0,0⟩) _ (by simp[vd, *];done)
   |exact fin (x0,⟨x1,x2⟩) _ (by simp[vd, *];done)
 ·cases hx
def TPs {R:Type}:eK R:=[(1000000000,lJ),(227,bM zN 2 (a9 Ti.dZ)),(231,bM zN 2 (a9 YZ)),(232,bM zN 2 (a9 Yv))]
theorem ahS {R:Type} {D:fK R}:cQ D Tryz.prog (TPs:eK R):=⟨iu,aX _ _ ZZ,aX _ _ agi,aX _ _ afM,trivial⟩
def UZ {R:Type}:Prim R:=fun args hh=>match args,hh with
 |[.agg ⟨[.int .i64 x0,.int .i64 x1,.int .i64 x2,.int .i64 x3,.int .i64 x4,.int .i64 x5,.int .i64 x6,.int .i64 x7,.int .i64 x8,.int .i64 x9,.bool ry,.int .i64 rC,.int .i64 rA,.bool rv,.int .i64 rr,.int .i64 ru]⟩,.agg ⟨[.int .i64 y0,.int .i64 y1,.int .i64 y2,.int .i64 y3,.int .i64 y4,.int .i64 y5,.int .i64 y6,.int .i64 y7,.int .i64 y8,.int .i64 y9,.bool sR,.int .i64 sP,.int .i64 sV,.bool sS,.int .i64 sU,.int .i64 sQ]⟩],[]=>aa ⟨True,.agg ⟨[.int .i64 (O8.plus (⟨⟨x0,x1,x2⟩,⟨x3,x4,x5⟩,x6,x7,⟨x8,x9⟩,ry,⟨rC,rA⟩,rv,⟨rr,ru⟩⟩:Sw) (⟨⟨y0,y1,y2⟩,⟨y3,y4,y5⟩,y6,y7,⟨y8,y9⟩,sR,⟨sP,sV⟩,sS,⟨sU,sQ⟩⟩:Sw)).c.n,.int .i64 (O8.plus (⟨⟨x0,x1,x2⟩,⟨x3,x4,x5⟩,x6,x7,⟨x8,x9⟩,ry,⟨rC,rA⟩,rv,⟨rr,ru⟩⟩:Sw) (⟨⟨y0,y1,y2⟩,⟨y3,y4,y5⟩,y6,y7,⟨y8,y9⟩,sR,⟨sP,sV⟩,sS,⟨sU,sQ⟩⟩:Sw)).c.s,.int .i64 (O8.plus (⟨⟨x0,x1,x2⟩,⟨x3,x4,x5⟩,x6,x7,⟨x8,x9⟩,ry,⟨rC,rA⟩,rv,⟨rr,ru⟩⟩:Sw) (⟨⟨y0,y1,y2⟩,⟨y3,y4,y5⟩,y6,y7,⟨y8,y9⟩,sR,⟨sP,sV⟩,sS,⟨sU,sQ⟩⟩:Sw)).c.l,.int .i64 (O8.plus (⟨⟨x0,x1,x2⟩,⟨x3,x4,x5⟩,x6,x7,⟨x8,x9⟩,ry,⟨rC,rA⟩,rv,⟨rr,ru⟩⟩:Sw) (⟨⟨y0,y1,y2⟩,⟨y3,y4,y5⟩,y6,y7,⟨y8,y9⟩,sR,⟨sP,sV⟩,sS,⟨sU,sQ⟩⟩:Sw)).w.n,.int .i64 (O8.plus (⟨⟨x0,x1,x2⟩,⟨x3,x4,x5⟩,x6,x7,⟨x8,x9⟩,ry,⟨rC,rA⟩,rv,⟨rr,ru⟩⟩:Sw) (⟨⟨y0,y1,y2⟩,⟨y3,y4,y5⟩,y6,y7,⟨y8,y9⟩,sR,⟨sP,sV⟩,sS,⟨sU,sQ⟩⟩:Sw)).w.s,.int .i64 (O8.plus (⟨⟨x0,x1,x2⟩,⟨x3,x4,x5⟩,x6,x7,⟨x8,x9⟩,ry,⟨rC,rA⟩,rv,⟨rr,ru⟩⟩:Sw) (⟨⟨y0,y1,y2⟩,⟨y3,y4,y5⟩,y6,y7,⟨y8,y9⟩,sR,⟨sP,sV⟩,sS,⟨sU,sQ⟩⟩:Sw)).w.l,.int .i64 (O8.plus (⟨⟨x0,x1,x2⟩,⟨x3,x4,x5⟩,x6,x7,⟨x8,x9⟩,ry,⟨rC,rA⟩,rv,⟨rr,ru⟩⟩:Sw) (⟨⟨y0,y1,y2⟩,⟨y3,y4,y5⟩,y6,y7,⟨y8,y9⟩,sR,⟨sP,sV⟩,sS,⟨sU,sQ⟩⟩:Sw)).d,.int .i64 (O8.plus (⟨⟨x0,x1,x2⟩,⟨x3,x4,x5⟩,x6,x7,⟨x8,x9⟩,ry,⟨rC,rA⟩,rv,⟨rr,ru⟩⟩:Sw) (⟨⟨y0,y1,y2⟩,⟨y3,y4,y5⟩,y6,y7,⟨y8,y9⟩,sR,⟨sP,sV⟩,sS,⟨sU,sQ⟩⟩:Sw)).f,.int .i64 (O8.plus (⟨⟨x0,x1,x2⟩,⟨x3,x4,x5⟩,x6,x7,⟨x8,x9⟩,ry,⟨rC,rA⟩,rv,⟨rr,ru⟩⟩:Sw) (⟨⟨y0,y1,y2⟩,⟨y3,y4,y5⟩,y6,y7,⟨y8,y9⟩,sR,⟨sP,sV⟩,sS,⟨sU,sQ⟩⟩:Sw)).m.k,.int .i64 (O8.plus (⟨⟨x0,x1,x2⟩,⟨x3,x4,x5⟩,x6,x7,⟨x8,x9⟩,ry,⟨rC,rA⟩,rv,⟨rr,ru⟩⟩:Sw) (⟨⟨y0,y1,y2⟩,⟨y3,y4,y5⟩,y6,y7,⟨y8,y9⟩,sR,⟨sP,sV⟩,sS,⟨sU,sQ⟩⟩:Sw)).m.i,.bool (O8.plus (⟨⟨x0,x1,x2⟩,⟨x3,x4,x5⟩,x6,x7,⟨x8,x9⟩,ry,⟨rC,rA⟩,rv,⟨rr,ru⟩⟩:Sw) (⟨⟨y0,y1,y2⟩,⟨y3,y4,y5⟩,y6,y7,⟨y8,y9⟩,sR,⟨sP,sV⟩,sS,⟨sU,sQ⟩⟩:Sw)).gf,.int .i64 (O8.plus (⟨⟨x0,x1,x2⟩,⟨x3,x4,x5⟩,x6,x7,⟨x8,x9⟩,ry,⟨rC,rA⟩,rv,⟨rr,ru⟩⟩:Sw) (⟨⟨y0,y1,y2⟩,⟨y3,y4,y5⟩,y6,y7,⟨y8,y9⟩,sR,⟨sP,sV⟩,sS,⟨sU,sQ⟩⟩:Sw)).g.k,.int .i64 (O8.plus (⟨⟨x0,x1,x2⟩,⟨x3,x4,x5⟩,x6,x7,⟨x8,x9⟩,ry,⟨rC,rA⟩,rv,⟨rr,ru⟩⟩:Sw) (⟨⟨y0,y1,y2⟩,⟨y3,y4,y5⟩,y6,y7,⟨y8,y9⟩,sR,⟨sP,sV⟩,sS,⟨sU,sQ⟩⟩:Sw)).g.i,.bool (O8.plus (⟨⟨x0,x1,x2⟩,⟨x3,x4,x5⟩,x6,x7,⟨x8,x9⟩,ry,⟨rC,rA⟩,rv,⟨rr,ru⟩⟩:Sw) (⟨⟨y0,y1,y2⟩,⟨y3,y4,y5⟩,y6,y7,⟨y8,y9⟩,sR,⟨sP,sV⟩,sS,⟨sU,sQ⟩⟩:Sw)).lf,.int .i64 (O8.plus (⟨⟨x0,x1,x2⟩,⟨x3,x4,x5⟩,x6,x7,⟨x8,x9⟩,ry,⟨rC,rA⟩,rv,⟨rr,ru⟩⟩:Sw) (⟨⟨y0,y1,y2⟩,⟨y3,y4,y5⟩,y6,y7,⟨y8,y9⟩,sR,⟨sP,sV⟩,sS,⟨sU,sQ⟩⟩:Sw)).l.k,.int .i64 (O8.plus (⟨⟨x0,x1,x2⟩,⟨x3,x4,x5⟩,x6,x7,⟨x8,x9⟩,ry,⟨rC,rA⟩,rv,⟨rr,ru⟩⟩:Sw) (⟨⟨y0,y1,y2⟩,⟨y3,y4,y5⟩,y6,y7,⟨y8,y9⟩,sR,⟨sP,sV⟩,sS,⟨sU,sQ⟩⟩:Sw)).l.i]⟩,aj,hh,[],[]⟩
 |_,_=>aj
theorem ads {R:Type} {D:fK R}:ck D Tryz.prog 229 (a9 UZ):=by
 refine fw Tryz.f229 fun args hh x hx=>?_
 unfold UZ at hx;split at hx
 ·rename_i x0 x1 x2 x3 x4 x5 x6 x7 x8 x9 ry rC rA rv rr ru y0 y1 y2 y3 y4 y5 y6 y7 y8 y9 sR sP sV sS sU sQ;cases hx;refine q4 fun _ hv=>?_
  generalize hG:ct (R:=R) _ _=G;refine oy (T:=TPs) ahS mixed 200 (q:=let Z8:=bs av;let Z1:=(P9 (iN x0 x1 x2) (iN y0 y1 y2));let Z2:=(P9 (iN x3 x4 x5) (iN y3 y4 y5));let Z3:=(Fa (Sw.mk (iN x0 x1 x2) (iN x3 x4 x5) x6 x7 (It.mk x8 x9) ry (It.mk rC rA) rv (It.mk rr ru)) (Sw.mk (iN y0 y1 y2) (iN y3 y4 y5) y6 y7 (It.mk y8 y9) sR (It.mk sP sV) sS (It.mk sU sQ)));let Z4:=(aB (vd (1:Int) ry (It.mk rC rA) sR (It.mk sP sV)));let Z5:=(aw (vd (1:Int) ry (It.mk rC rA) sR (It.mk sP sV)));let Z6:=(aB (vd (-1:Int) rv (It.mk rr ru) sS (It.mk sU sQ)));let Z7:=(aw (vd (-1:Int) rv (It.mk rr ru) sS (It.mk sU sQ)));Vc True/\Vc True/\Vc True/\Vc True/\Vc True/\Vc True/\Vc True/\aY (G (bE (aO [Z8 (pk Z1),Z8 (pn Z1),Z8 (po Z1),Z8 (pk Z2),Z8 (pn Z2),Z8 (po Z2),Z8 (cr av (x6+y6)),Z8 (cr av (x7+y7)),Z8 (It.k Z3),Z8 (It.i Z3),.bool Z4,Z8 (It.k Z5),Z8 (It.i Z5),.bool Z6,Z8 (It.k Z7),Z8 (It.i Z7)])) [aa (dh (53,[Z8 x0,Z8 x1,Z8 x2,Z8 x3,Z8 x4,Z8 x5,Z8 x6,Z8 x7,Z8 x8,Z8 x9,.bool ry,Z8 rC,Z8 rA,.bool rv,Z8 rr,Z8 ru])),aa (dh (53,[Z8 y0,Z8 y1,Z8 y2,Z8 y3,Z8 y4,Z8 y5,Z8 y6,Z8 y7,Z8 y8,Z8 y9,.bool sR,Z8 sP,Z8 sV,.bool sS,Z8 sU,Z8 sQ])),aa (dh (53,[Z8 (pk Z1),Z8 (pn Z1),Z8 (po Z1),Z8 (pk Z2),Z8 (pn Z2),Z8 (po Z2),Z8 (cr av (x6+y6)),Z8 (cr av (x7+y7)),Z8 (It.k Z3),Z8 (It.i Z3),.bool Z4,Z8 (It.k Z5),Z8 (It.i Z5),.bool Z6,Z8 (It.k Z7),Z8 (It.i Z7)]))])) ?_ (by kernel_rfl)
  intro Z8 Z1 Z2 Z3 Z4 Z5 Z6 Z7;subst Z7 Z6 Z5 Z4 Z3 Z2 Z1 Z8;subst hG
  repeat' (first|apply cZ|apply Vc.mk|apply fits.mk|intro h|apply aY.mk)
  all_goals (try simp only[sB] at *)
  all_goals first|contradiction|omega|exact ju ‹_›|exact jt ‹_›|exact jv ‹_›|exact⟨rfl,by omega⟩|exact rfl|(simp[*,-ax];done)|skip
  exact⟨[],rfl,rfl,trivial,rfl,rfl,rfl,rfl⟩
 ·cases hx
end Wv
namespace G8
open Rx
set_option maxRecDepth 100000
abbrev dC (b:Nat) (i g:Int):Option (SB Rs):=aa (.inl (110,[.pointer (aa ⟨b,0,aj⟩),.int .i64 i,.int .i64 g]))
abbrev oP (m:Pl):Option (SB Rs):=aa (.inr (.inr (.inr (.dd m))))
def U3 {R:Type}:eK R:=[(223,bM zN 2 (a9 Wv.ZP))]
theorem Q7 {R:Type} {D:fK R}:cQ D Tryz.prog (U3:eK R):=⟨aX _ _ Wv.afO,trivial⟩
def PL {R:Type}:eK R:=[(1000000000,lJ),(229,bM zN 2 (a9 Wv.UZ))]
theorem NB {R:Type} {D:fK R}:cQ D Tryz.prog (PL:eK R):=⟨iu,aX _ _ Wv.ads,trivial⟩
def Ag {R:Type}:Prim R:=fun args hh=>match args,hh with
 |[.agg ⟨kE⟩],[]=>aa ⟨kE=du (fR kE)/\(True),.agg ⟨b6 (nN Wv.O8 (fR kE))⟩,aj,hh,[],[]⟩
 |_,_=>aj
theorem yz {R:Type} {D:fK R}:ck D Tryz.prog 98 (a9 Ag):=by
 refine fw Tryz.f98 fun args hh x hx=>?_
 unfold Ag at hx;split at hx
 ·rename_i kE;cases hx;refine q4 fun _ hv=>?_
  obtain⟨jQ,hv⟩:=hv;generalize fR kE=ke at *;subst jQ
  generalize hG:ct (R:=R) _ _=G;refine cW (T:=U3) Q7 mixed 200 ?_;refine bN (q:=Vc True/\Vc True/\aY (G (bE (aO (b6 (mr 1 (IQ Wv.O8 ke))))) [aa (.inl (49,(du ke))),aa (.inl (134,(b6 (mr 1 (IQ Wv.O8 ke)))))])) ?_ (by kernel_rfl)
  subst hG
  repeat' (first|apply cZ|apply Vc.mk|apply fits.mk|intro h|apply aY.mk)
  all_goals (try simp only[sB] at *)
  all_goals first|contradiction|omega|exact ju ‹_›|exact jt ‹_›|exact jv ‹_›|exact⟨rfl,by omega⟩|exact rfl|(simp[*,-ax];done)|skip
  exact⟨[],rfl,rfl,trivial,rfl,rfl,rfl,rfl⟩
 ·cases hx
def dZ {R:Type}:Prim R:=fun args hh=>match args,hh with
 |[.agg ⟨pP⟩,.agg ⟨qP⟩],[]=>aa ⟨pP=b6 (o6 pP)/\qP=b6 (o6 qP)/\(True),.agg ⟨b6 (eG Wv.O8 (o6 pP) (o6 qP))⟩,aj,hh,[],[]⟩
 |_,_=>aj
theorem uc {R:Type} {D:fK R}:ck D Tryz.prog 148 (a9 dZ):=by
 refine fw Tryz.f148 fun args hh x hx=>?_
 unfold dZ at hx;split at hx
 ·rename_i pP qP;cases hx;refine q4 fun _ hv=>?_
  obtain⟨jQ,sr,hv⟩:=hv;generalize o6 pP=pp at *;subst jQ;generalize o6 qP=qp at *;subst sr
  generalize hG:ct (R:=R) _ _=G;refine cW (T:=PL) NB mixed 200 ?_;refine bN (q:=let Z1:=(b6 (mr (cr av (bP pp+bP qp)) (Gv.iL.plus Wv.O8 (bG pp) (bG qp))));((bP pp==(0:Int))=aq->aY (G (bE (aO (b6 qp))) [aa (.inl (134,(b6 pp))),aa (.inl (134,(b6 qp))),aa (.inl (134,(b6 qp)))]))/\((bP pp==(0:Int))=ao->((bP qp==(0:Int))=aq->aY (G (bE (aO (b6 pp))) [aa (.inl (134,(b6 pp))),aa (.inl (134,(b6 qp))),aa (.inl (134,(b6 pp)))]))/\((bP qp==(0:Int))=ao->Vc True/\Vc True/\Vc True/\aY (G (bE (aO Z1)) [aa (.inl (134,(b6 pp))),aa (.inl (134,(b6 qp))),aa (.inl (134,Z1))])))) ?_ (by kernel_rfl)
  intro Z1;subst Z1;have done:∀ (p:HA Wv.Sw) (hp:Hp R),p=eG Wv.O8 pp qp->G (.agg ⟨b6 p⟩) hp:=by
   intro p hp e;subst e;subst hG;exact⟨⟨[],rfl,rfl,trivial,rfl,rfl,rfl,rfl⟩⟩
  clear hG
  repeat' (first|apply cZ|apply Vc.mk|apply fits.mk|intro h|apply aY.mk)
  all_goals (try simp only[sB] at *)
  all_goals first|contradiction|omega|exact ju ‹_›|exact jt ‹_›|exact jv ‹_›|exact⟨rfl,by omega⟩|exact rfl|(simp[*,-ax];done)|skip
  ·have h:pp.n=0:=by assumption
   exact done qp _ (by rw[eG,if_pos h])
  ·have h:pp.n≠0:=by assumption
   have h2:qp.n=0:=by assumption
   exact done pp _ (by rw[eG,if_neg h,if_pos h2])
  ·have h:pp.n≠0:=by assumption
   have h2:qp.n≠0:=by assumption
   exact done ⟨Gv.W (pp.n+qp.n),Wv.O8.plus pp.sum qp.sum⟩ _ (by rw[eG,if_neg h,if_neg h2])
 ·cases hx
def O0:eK Rs:=[(121,bM zN 2 (a9 MM))]
theorem MO:cQ D Tryz.prog O0:=⟨aX _ _ UE,trivial⟩
def j7:Prim Rs:=fun args hh=>match args,hh with
 |[.pointer (aa ⟨0,0,aj⟩),.agg ⟨[.int .i64 ri,.int .i64 rg]⟩],[aa (.inl (110,[.pointer (aa ⟨1,0,aj⟩),.int .i64 ti,.int .i64 tg])),aa (.inr (.inr (.inr (.dd m))))]=>aa ⟨PP m,.agg ⟨bk (bt Wv.O8 m ⟨ri,rg⟩)⟩,aj,[aa (.inl (110,[.pointer (aa ⟨1,0,aj⟩),.int .i64 ti,.int .i64 tg])),aa (.inr (.inr (.inr (.dd (aK m ⟨ri,rg⟩)))))],[],[(0,0)]⟩
 |_,_=>aj
theorem look_ok:ck D Tryz.prog 80 (a9 j7):=by
 refine fw Tryz.f80 fun args hh x hx=>?_
 unfold j7 at hx;split at hx
 ·rename_i ri rg ti tg m;cases hx;refine q4 fun _ hv=>?_
  generalize hG:ct (R:=Rs) _ _=G;refine cW (T:=O0) MO mixed 200 ?_;refine bN (q:=Vc (PP m)/\aY (G (bE (aO (bk (jN zd m (aN ri rg))))) [dC 1 ti tg,oP (aK m (aN ri rg)),aa (.inl (108,[.int av ri,.int av rg])),aa (.inl (136,(bk (jN zd m (aN ri rg))))),aa (.inl (136,(bk (jN zd m (aN ri rg)))))])) ?_ (by kernel_rfl)
  subst hG;exact⟨⟨hv⟩,⟨⟨[0,1],rfl,rfl,⟨.inl rfl,rfl,trivial⟩,rfl,rfl,rfl,rfl⟩⟩⟩
 ·cases hx
def U7:eK Rs:=[(1000000000,lJ),(98,bM zN 2 (a9 Ag)),(148,bM zN 2 (a9 dZ)),(173,bM zN 2 (a9 M4))]
theorem Qt:cQ D Tryz.prog U7:=⟨iu,aX _ _ yz,aX _ _ uc,aX _ _ UF,trivial⟩
def Ah:Prim Rs:=fun args hh=>match args,hh with
 |[.pointer (aa ⟨0,0,aj⟩),.agg ⟨[.int .i64 ri,.int .i64 rg]⟩,.agg ⟨xN⟩,.agg ⟨yN⟩,.agg ⟨zN⟩],[aa (.inl (110,[.pointer (aa ⟨1,0,aj⟩),.int .i64 ti,.int .i64 tg])),aa (.inr (.inr (.inr (.dd m))))]=>aa ⟨xN=bk (fS xN)/\yN=bk (fS yN)/\zN=bk (fS zN)/\(PP m),.agg ⟨[.int .i64 ri,.int .i64 rg]⟩,aj,[aa (.inl (110,[.pointer (aa ⟨1,0,aj⟩),.int .i64 ti,.int .i64 tg])),aa (.inr (.inr (.inr (.dd (Gv.sw Wv.O8 m ⟨ri,rg⟩ (fS xN) (fS yN) (fS zN))))))],[],[(0,0)]⟩
 |_,_=>aj
theorem xq:ck D Tryz.prog 155 (a9 Ah):=by
 refine fw Tryz.f155 fun args hh x hx=>?_
 unfold Ah at hx;split at hx
 ·rename_i ri rg xN yN zN ti tg m;cases hx;refine q4 fun _ hv=>?_
  obtain⟨jQ,sr,FW,hv⟩:=hv;generalize fS xN=xn at *;subst jQ;generalize fS yN=yn at *;subst sr;generalize fS zN=zn at *;subst FW
  generalize hG:ct (R:=Rs) _ _=G;refine cW (T:=U7) Qt mixed 200 ?_;refine bN (q:=let Z3:=bs av;let Z1:=(eG Wv.O8 (bw yn) (nN Wv.O8 (b8 xn)));let Z2:=(fy (b8 xn) (Gv.Node.l xn) (Gv.Node.r xn) (eG Wv.O8 Z1 (bw zn)) (cr av ((1:Int)+if cw zn>cw yn then cw zn else cw yn)));Vc True/\Vc ((du (b8 xn))=du (b8 xn)/\True)/\Vc ((b6 (bw yn))=b6 (bw yn)/\(b6 (nN Wv.O8 (b8 xn)))=b6 (nN Wv.O8 (b8 xn))/\True)/\Vc ((b6 Z1)=b6 Z1/\(b6 (bw zn))=b6 (bw zn)/\True)/\Vc ((bk Z2)=bk Z2/\PP m)/\aY (G (bE (aO [Z3 ri,Z3 rg])) [dC 1 ti tg,oP (te m (aN ri rg) Z2),aa (.inl (108,[Z3 ri,Z3 rg])),aa (.inl (136,(bk Z2))),aa (.inl (136,(bk yn))),aa (.inl (136,(bk zn))),aa (.inl (108,[Z3 ri,Z3 rg]))])) ?_ (by kernel_rfl)
  intro Z3 Z1 Z2;subst Z2 Z1 Z3;subst hG
  repeat' (first|apply cZ|apply Vc.mk|apply fits.mk|intro h|apply aY.mk)
  all_goals (try simp only[sB] at *)
  all_goals first|contradiction|omega|exact ju ‹_›|exact jt ‹_›|exact jv ‹_›|exact⟨rfl,by omega⟩|exact rfl|(simp[*,-ax];done)|skip
  all_goals first|assumption|exact⟨[0,1],rfl,rfl,⟨.inl rfl,rfl,trivial⟩,rfl,rfl,rfl,rfl⟩
 ·cases hx
end G8
end Go.Proofs.YtjlomlgdgpoepaaGreat
