import Derived.Test.YtjlomlgdgpoepaaGreatZnb
set_option linter.unusedVariables false
set_option linter.unusedSimpArgs false
namespace Go.Proofs.YtjlomlgdgpoepaaGreat
open Gv renaming Ah→Dg,Part→HJ,aE→aK,cv→bW,drop→wg,ed→eD,fX→gT,find→iF,first→kJ,has→yz,jI→KS,kB→lQ,last→jZ,lk→br,look→jQ,me→lu,nextIdx→vw,one→nK,pE→th,put→tD,seen→HK
open Gv.Node renaming all→bt,e→bY,h→cu,mk→fy
open Gv.PM renaming cW→gU,cap→ic,dE→dN,free→dT,held→fM,live→eV,vs→cH
open Gv.Part renaming mk→my,n→bM,sum→bG
open Gv.Ref renaming mk→aO
open Gv.iO renaming sum→IZ
open Rx renaming Ends→cj
open Ti renaming Hq→Wx,Sv→Wy,qN→xg
open Ti.Td renaming l→pw,mk→iP,n→pt,plus→Qi,s→pv
open Wv.It renaming mk→cU
open _root_.And renaming intro→cX
open _root_.Array renaming mk→aJ,toList→dv
open _root_.Bool renaming and_false→uM,false→an,true_and→jh,true→ao
open _root_.Go.Addr renaming mk→RR
open _root_.Go.Func renaming results→dw
open _root_.Go.IntKind renaming i64→ar,wrap→ck
open _root_.Go.Value renaming agg→bz,bool→aC,int→bm,pointer→aB,slice→bD,tuple→cq
open _root_.Iff renaming rfl→r9
open _root_.Int renaming lt_trichotomy→rH,toNat_natCast→iJ,toNat→aG
open _root_.List renaming cons_append→mw,dropWhile_cons→sL,drop_zero→se,filter_append→oJ,getD_eq_getElem?_getD→au,getD→aI,getElem?_cons_zero→cd,getElem?_map→fh,length_append→bF,length_cons→cy,length_filter_le→uL,length_map→fS,length_nil→jM,length_set→fb,length_take→dQ,length→ae,map_append→dJ,map_cons→gw,map_set→Fq,map→ay,mem_append→b7,mem_cons_of_mem→eo,mem_cons_self→bL,mem_cons→bO,mem_map→pb,nil_append→pd,nodup_append→cf,nodup_cons→fH,nodup_nil→RQ,pairwise_append→nD,pairwise_cons→gD,perm_middle→yX,set→qc,takeWhile_append_dropWhile→Ae,takeWhile_cons→sK
open _root_.List.Pairwise renaming nil→rI
open _root_.List.Sublist renaming append_left→Wz,nodup→acM
open _root_.Nat renaming beq→fp,le_log2→Xj,le_refl→a_,le_succ→ma,le_trans→jo,log2→N_,lt_of_le_of_lt→iZ,lt_or_ge→cr,lt_succ_self→fC,min_eq_left→tE,pow_le_pow_right→IY,sub_le→Be,succ_pos→sF,zero_add→bU,zero_le→dh,zero_lt_one→Qj
open _root_.Option renaming getD_some→lL,isSome_some→C_,none→aj,some_ne_none→wv,some→aa
open _root_.Option.some renaming injEq→ct,inj→pa
open _root_.Or renaming inl→dK,inr→e7
open _root_.Prod renaming ext→kd,fst→ax,snd→av
open _root_.Sum renaming inl→dd,inr→kp
namespace Gv
open Rx
set_option linter.unusedSectionVars false
section
variable {N:Type}
structure dy (m m':PM N):Prop where
 dE:m'.dE=m.dE
 live:m'.live=m.live
 free:m'.free=m.free
 held:m'.held=m.held
 cap:m'.cap=m.cap
 len:m'.vs.length=m.vs.length
theorem dy.refl (m:PM N):dy m m:=⟨rfl,rfl,rfl,rfl,rfl,rfl⟩
theorem dy.trans {a b c:PM N} (h:dy a b) (k:dy b c):dy a c:=⟨k.dE.trans h.dE,k.live.trans h.live,k.free.trans h.free,k.held.trans h.held,k.cap.trans h.cap,k.len.trans h.len⟩
theorem dy.ok {n:Nat} {m m':PM N} (h:dy m m'):fY n m'↔fY n m:=by
 constructor
 ·intro⟨h1,h2,h3,wZ,h4,h5,h6,Je,h8⟩;exact⟨by rw[← h.dE,← h.len,h1],by rw[← h.live,← h.len,h2],by rw[← h.free,← h.len,← h.live];exact h3,by rw[← h.free];exact wZ,by rw[← h.len];exact h4,by rw[← h.free];exact h5,by rw[← h.dE];exact h6,by rw[← h.dE,← h.live];exact Je,by rw[← h.held];exact h8⟩
 ·intro⟨h1,h2,h3,wZ,h4,h5,h6,Je,h8⟩;exact⟨by rw[h.dE,h.len,h1],by rw[h.live,h.len,h2],by rw[h.free,h.len,h.live];exact h3,by rw[h.free];exact wZ,by rw[h.len];exact h4,by rw[h.free];exact h5,by rw[h.dE];exact h6,by rw[h.dE,h.live];exact Je,by rw[h.held];exact h8⟩
theorem dy.aE (m:PM N) (r:Ref):dy m (aE m r):=by unfold aK;split<;>exact⟨rfl,rfl,rfl,rfl,rfl,rfl⟩
theorem dy.pE (m:PM N) (r:Ref) (n:N):dy m (pE m r n):=by
 unfold th;split
 ·exact⟨rfl,rfl,rfl,rfl,rfl,by simp⟩
 ·exact dy.refl m
end
section
variable {E A:Type} (O:iO E A)
theorem dy.sn (m:Po E A) (r:Ref) (n l q:Node E A):dy m (sn O m r n l q):=dy.pE _ _ _
theorem dy.tie (m:Po E A) (r:Ref) (n:Node E A):dy m (tie O m r n):=((dy.aE _ _).trans (dy.aE _ _)).trans (dy.sn O _ _ _ _ _)
theorem dy.oQ (m:Po E A) (r:Ref) (n:Node E A):dy m (oQ O m r n):=((dy.aE _ _).trans (dy.tie O _ _ _)).trans (dy.tie O _ _ _)
theorem dy.oU (m:Po E A) (r:Ref) (n:Node E A):dy m (oU O m r n):=((dy.aE _ _).trans (dy.tie O _ _ _)).trans (dy.tie O _ _ _)
theorem dy.BS (m:PM (Node E A)) (a b c d:Ref):dy m (aK (aK (aK (aK m a) b) c) d):=(((dy.aE _ _).trans (dy.aE _ _)).trans (dy.aE _ _)).trans (dy.aE _ _)
theorem dy.level (m:Po E A) (r:Ref) (n:Node E A):dy m (level O m r n).2:=by
 unfold Gv.level;split
 ·split
  ·exact((dy.BS _ _ _ _ _).trans (dy.oQ O _ _ _)).trans (dy.oU O _ _ _)
  ·exact(dy.BS _ _ _ _ _).trans (dy.oU O _ _ _)
 ·split
  ·split
   ·exact((dy.BS _ _ _ _ _).trans (dy.oU O _ _ _)).trans (dy.oQ O _ _ _)
   ·exact(dy.BS _ _ _ _ _).trans (dy.oQ O _ _ _)
  ·exact((dy.aE _ _).trans (dy.aE _ _)).trans (dy.sn O _ _ _ _ _)
theorem dy.replace:∀ (k:Nat) (m:Po E A) (r:Ref) (e:E),dy m (replace O k m r e).2
 |0,m,_,_=>dy.refl m
 |k+1,m,r,e=>by
  unfold Gv.replace;split
  ·exact dy.aE _ _
  ·split
   ·split
    ·exact((dy.aE _ _).trans (dy.replace k _ _ _)).trans (dy.tie O _ _ _)
    ·exact(dy.aE _ _).trans (dy.replace k _ _ _)
   ·split
    ·split
     ·exact((dy.aE _ _).trans (dy.replace k _ _ _)).trans (dy.tie O _ _ _)
     ·exact(dy.aE _ _).trans (dy.replace k _ _ _)
    ·exact(dy.aE _ _).trans (dy.tie O _ _ _)
theorem dy.kZ:∀ (k:Nat) (m:Po E A) (r f:Ref) (e:E),dy m (kZ O k m r f e).2
 |0,m,_,_,_=>dy.refl m
 |k+1,m,r,f,e=>by
  unfold Gv.kZ;split
  ·exact dy.aE _ _
  ·split
   ·exact((dy.aE _ _).trans (dy.kZ k _ _ _ _)).trans (dy.level O _ _ _)
   ·exact((dy.aE _ _).trans (dy.kZ k _ _ _ _)).trans (dy.level O _ _ _)
theorem dy.link:∀ (k:Nat) (m:Po E A) (a b c:Ref),dy m (link O k m a b c).2
 |0,m,_,_,_=>dy.refl m
 |k+1,m,a,b,c=>by
  unfold Gv.link;split
  ·exact(((dy.aE _ _).trans (dy.aE _ _)).trans (dy.link k _ _ _ _)).trans (dy.level O _ _ _)
  ·split
   ·exact(((dy.aE _ _).trans (dy.aE _ _)).trans (dy.link k _ _ _ _)).trans (dy.level O _ _ _)
   ·exact(((dy.aE _ _).trans (dy.aE _ _)).trans (dy.aE _ _)).trans (dy.sn O _ _ _ _ _)
theorem dy.iL:∀ (k:Nat) (m:Po E A) (r:Ref),dy m (iL O k m r).2.2
 |0,m,_=>dy.refl m
 |k+1,m,r=>by
  unfold Gv.iL;split
  ·exact dy.aE _ _
  ·exact((dy.aE _ _).trans (dy.iL k _ _)).trans (dy.level O _ _ _)
theorem dy.glue (k:Nat) (m:Po E A) (a c:Ref):dy m (glue O k m a c).2:=by
 unfold Gv.glue;split
 ·exact dy.refl m
 ·exact(dy.iL O _ _ _).trans (dy.link O _ _ _ _ _)
theorem dy.pick (K:Nat):∀ (k:Nat) (m:Po E A) (r:Ref) (e:E),dy m (pick O K k m r e).2.2
 |0,m,_,_=>dy.refl m
 |k+1,m,r,e=>by
  unfold Gv.pick;split
  ·exact dy.aE _ _
  ·split
   ·split
    ·exact(dy.aE _ _).trans (dy.pick K k _ _ _)
    ·exact((dy.aE _ _).trans (dy.pick K k _ _ _)).trans (dy.level O _ _ _)
   ·split
    ·split
     ·exact(dy.aE _ _).trans (dy.pick K k _ _ _)
     ·exact((dy.aE _ _).trans (dy.pick K k _ _ _)).trans (dy.level O _ _ _)
    ·exact(dy.aE _ _).trans (dy.glue O _ _ _ _)
theorem dy.lV (K:Nat):∀ (k:Nat) (m:Po E A) (r:Ref) (e:E),dy m (lV O K k m r e).2.2
 |0,m,_,_=>dy.refl m
 |k+1,m,r,e=>by
  unfold Gv.lV;split
  ·exact dy.aE _ _
  ·split
   ·exact((dy.aE _ _).trans (dy.lV K k _ _ _)).trans (dy.link O _ _ _ _ _)
   ·exact((dy.aE _ _).trans (dy.lV K k _ _ _)).trans (dy.link O _ _ _ _ _)
theorem dy.cv:∀ (k:Nat) (m:Po E A) (r:Ref),dy m (cv O k m r).2
 |0,m,_=>dy.refl m
 |k+1,m,r=>by
  unfold bW;split
  ·exact dy.aE _ _
  ·exact((dy.aE _ _).trans (dy.cv k _ _)).trans (dy.cv k _ _)
theorem dy.fX:∀ (k:Nat) (m:Po E A) (n:Node E A) (a b:Int),dy m (fX O k m n a b).2
 |0,m,_,_,_=>dy.refl m
 |k+1,m,n,a,b=>by
  unfold gT;split
  ·exact dy.refl m
  ·split
   ·exact dy.refl m
   ·dsimp only
    split
    ·exact(dy.aE _ _).trans (dy.fX k _ _ _ _)
    ·exact(((dy.aE _ _).trans (dy.fX k _ _ _ _)).trans (dy.aE _ _)).trans (dy.fX k _ _ _ _)
theorem dy.first (may:A->A->Bool):∀ (k:Nat) (m:Po E A) (n:Node E A) (a:Part A) (f:Int),dy m (first O may k m n a f).2
 |0,m,_,_,_=>dy.refl m
 |k+1,m,n,a,f=>by
  unfold kJ
  split
  ·exact dy.refl m
  ·split
   ·exact dy.refl m
   ·split
    ·exact(dy.aE _ _).trans (dy.first may k _ _ _ _)
    ·split
     ·exact(dy.aE _ _).trans (dy.first may k _ _ _ _)
     ·exact(((dy.aE _ _).trans (dy.first may k _ _ _ _)).trans (dy.aE _ _)).trans (dy.first may k _ _ _ _)
theorem dy.last (may:A->A->Bool):∀ (k:Nat) (m:Po E A) (n:Node E A) (a:Part A) (f:Int),dy m (last O may k m n a f).2
 |0,m,_,_,_=>dy.refl m
 |k+1,m,n,a,f=>by
  unfold jZ;split
  ·exact dy.refl m
  ·split
   ·exact dy.refl m
   ·dsimp only
    split
    ·exact((dy.aE _ _).trans (dy.aE _ _)).trans (dy.last may k _ _ _ _)
    ·split
     ·exact((dy.aE _ _).trans (dy.aE _ _)).trans (dy.last may k _ _ _ _)
     ·exact(((dy.aE _ _).trans (dy.aE _ _)).trans (dy.last may k _ _ _ _)).trans (dy.last may k _ _ _ _)
end
section
variable {N E A:Type} {O:iO E A} {n:Nat}
theorem df {m:PM N} {r:Ref}:fY n (aE m r)↔fY n m:=(dy.aE _ _).ok
theorem agU {m:PM N} {r:Ref} {v:N}:fY n (pE m r v)↔fY n m:=(dy.pE _ _ _).ok
theorem xI {m:Po E A} {r:Ref} {v l q:Node E A}:fY n (sn O m r v l q)↔fY n m:=(dy.sn O _ _ _ _ _).ok
theorem AL {m:Po E A} {r:Ref} {v:Node E A}:fY n (tie O m r v)↔fY n m:=(dy.tie O _ _ _).ok
theorem B3 {m:Po E A} {r:Ref} {v:Node E A}:fY n (oQ O m r v)↔fY n m:=(dy.oQ O _ _ _).ok
theorem BG {m:Po E A} {r:Ref} {v:Node E A}:fY n (oU O m r v)↔fY n m:=(dy.oU O _ _ _).ok
theorem ss {m:Po E A} {r:Ref} {v:Node E A}:fY n (level O m r v).2↔fY n m:=(dy.level O _ _ _).ok
theorem rP {k:Nat} {m:Po E A} {r:Ref} {e:E}:fY n (replace O k m r e).2↔fY n m:=(dy.replace O _ _ _ _).ok
theorem xD {k:Nat} {m:Po E A} {r f:Ref} {e:E}:fY n (kZ O k m r f e).2↔fY n m:=(dy.kZ O _ _ _ _ _).ok
theorem xy {k:Nat} {m:Po E A} {a b c:Ref}:fY n (link O k m a b c).2↔fY n m:=(dy.link O _ _ _ _ _).ok
theorem vk {k:Nat} {m:Po E A} {r:Ref}:fY n (iL O k m r).2.2↔fY n m:=(dy.iL O _ _ _).ok
theorem GP {k:Nat} {m:Po E A} {a c:Ref}:fY n (glue O k m a c).2↔fY n m:=(dy.glue O _ _ _ _).ok
theorem xH {K k:Nat} {m:Po E A} {r:Ref} {e:E}:fY n (pick O K k m r e).2.2↔fY n m:=(dy.pick O K _ _ _ _).ok
theorem Re {K k:Nat} {m:Po E A} {r:Ref} {e:E}:fY n (lV O K k m r e).2.2↔fY n m:=(dy.lV O K _ _ _ _).ok
theorem qJ {k:Nat} {m:Po E A} {r:Ref}:fY n (cv O k m r).2↔fY n m:=(dy.cv O _ _ _).ok
theorem PQ {k:Nat} {m:Po E A} {v:Node E A} {a b:Int}:fY n (fX O k m v a b).2↔fY n m:=(dy.fX O _ _ _ _ _).ok
theorem M1 {may:A->A->Bool} {k:Nat} {m:Po E A} {v:Node E A} {a:Part A} {f:Int}:fY n (first O may k m v a f).2↔fY n m:=(dy.first O may _ _ _ _ _).ok
theorem Ri {may:A->A->Bool} {k:Nat} {m:Po E A} {v:Node E A} {a:Part A} {f:Int}:fY n (last O may k m v a f).2↔fY n m:=(dy.last O may _ _ _ _ _).ok
theorem mX:(∀ {N:Type} {n:Nat} {m:PM N} {r:Ref},fY n (aE m r)↔fY n m)/\(∀ {N:Type} {n:Nat} {m:PM N} {r:Ref} {v:N},fY n (pE m r v)↔fY n m)/\(∀ {E A:Type} {O:iO E A} {n:Nat} {m:Po E A} {r:Ref} {v l q:Node E A},fY n (sn O m r v l q)↔fY n m)/\(∀ {E A:Type} {O:iO E A} {n:Nat} {m:Po E A} {r:Ref} {v:Node E A},fY n (tie O m r v)↔fY n m)/\(∀ {E A:Type} {O:iO E A} {n:Nat} {m:Po E A} {r:Ref} {v:Node E A},fY n (oQ O m r v)↔fY n m)/\(∀ {E A:Type} {O:iO E A} {n:Nat} {m:Po E A} {r:Ref} {v:Node E A},fY n (oU O m r v)↔fY n m)/\(∀ {E A:Type} {O:iO E A} {n:Nat} {m:Po E A} {r:Ref} {v:Node E A},fY n (level O m r v).2↔fY n m)/\(∀ {E A:Type} {O:iO E A} {n:Nat} {k:Nat} {m:Po E A} {r:Ref} {e:E},fY n (replace O k m r e).2↔fY n m)/\(∀ {E A:Type} {O:iO E A} {n:Nat} {k:Nat} {m:Po E A} {r f:Ref} {e:E},fY n (kZ O k m r f e).2↔fY n m)/\(∀ {E A:Type} {O:iO E A} {n:Nat} {k:Nat} {m:Po E A} {a b c:Ref},fY n (link O k m a b c).2↔fY n m)/\(∀ {E A:Type} {O:iO E A} {n:Nat} {k:Nat} {m:Po E A} {r:Ref},fY n (iL O k m r).2.2↔fY n m)/\(∀ {E A:Type} {O:iO E A} {n:Nat} {k:Nat} {m:Po E A} {a c:Ref},fY n (glue O k m a c).2↔fY n m)/\(∀ {E A:Type} {O:iO E A} {n:Nat} {K k:Nat} {m:Po E A} {r:Ref} {e:E},fY n (pick O K k m r e).2.2↔fY n m)/\(∀ {E A:Type} {O:iO E A} {n:Nat} {K k:Nat} {m:Po E A} {r:Ref} {e:E},fY n (lV O K k m r e).2.2↔fY n m)/\(∀ {E A:Type} {O:iO E A} {n:Nat} {k:Nat} {m:Po E A} {r:Ref},fY n (cv O k m r).2↔fY n m)/\(∀ {E A:Type} {O:iO E A} {n:Nat} {k:Nat} {m:Po E A} {v:Node E A} {a b:Int},fY n (fX O k m v a b).2↔fY n m)/\(∀ {E A:Type} {O:iO E A} {n:Nat} {may:A->A->Bool} {k:Nat} {m:Po E A} {v:Node E A} {a:Part A} {f:Int},fY n (first O may k m v a f).2↔fY n m)/\(∀ {E A:Type} {O:iO E A} {n:Nat} {may:A->A->Bool} {k:Nat} {m:Po E A} {v:Node E A} {a:Part A} {f:Int},fY n (last O may k m v a f).2↔fY n m):=⟨df,agU,xI,AL,B3,BG,ss,rP,xD,xy,vk,GP,xH,Re,qJ,PQ,M1,Ri⟩
@[simp] theorem ir (m:Po E A) (s r:Ref):lk O (aE m s) r=lk O m r:=Ug _ _ _ _
theorem DT (r:Ref):(⟨r.i,r.g⟩:Ref)=r:=rfl
theorem YD (i g:Int):(if an=ao then !(i==0&&(g==0&&ao)) else i==0&&(g==0&&ao))=decide ((⟨i,g⟩:Ref)=r0):=by
 rw[if_neg (by simp)]
 by_cases h:(⟨i,g⟩:Ref)=r0
 ·rw[decide_eq_true h];cases h
  rfl
 ·rw[decide_eq_false h];cases hb:(i==0&&(g==0&&ao)) with
  |false=>rfl
  |true =>
   simp only[Bool.and_eq_true,beq_iff_eq,and_true] at hb;obtain⟨rfl,rfl⟩:=hb;exact absurd rfl h
theorem sm:∀ {k:Nat} {m:Po E A} {s r:Ref},Deep O k (aE m s) r↔Deep O k m r
 |0,_,_,_=>r9
 |k+1,m,s,r=>by simp only[Deep,ir,sm]
theorem AZ:∀ {k:Nat} {m:Po E A} {s r:Ref},sw O k (aE m s) r↔sw O k m r
 |0,_,_,_=>r9
 |k+1,m,s,r=>by simp only[sw,ir,AZ]
theorem JP:∀ (k:Nat) (m:Po E A) (r s:Ref),lk O (cv O k m r).2 s=lk O m s
 |0,m,_,_=>rfl
 |k+1,m,r,s=>by
  unfold bW;split
  ·exact ir _ _ _
  ·dsimp only
   rw[JP k,JP k,ir]
theorem DE:∀ (k:Nat) (m:Po E A) (n:Node E A) (a b:Int) (s:Ref),lk O (fX O k m n a b).2 s=lk O m s
 |0,m,_,_,_,_=>rfl
 |k+1,m,n,a,b,s=>by
  rw[gT];split
  ·rfl
  ·split
   ·rfl
   ·dsimp only
    split
    ·dsimp only
     rw[DE k,ir]
    ·dsimp only
     rw[DE k,ir,DE k,ir]
theorem kY (may:A->A->Bool):∀ (k:Nat) (m:Po E A) (n:Node E A) (a:Part A) (f:Int) (s:Ref),lk O (first O may k m n a f).2 s=lk O m s
 |0,m,_,_,_,_=>rfl
 |k+1,m,n,a,f,s=>by
  rw[kJ]
  split
  ·rfl
  ·split
   ·rfl
   ·split
    ·rw[kY may k,ir]
    ·split
     ·dsimp only
      rw[kY may k,ir]
     ·rw[kY may k,ir,kY may k,ir]
theorem ml (may:A->A->Bool):∀ (k:Nat) (m:Po E A) (n:Node E A) (a:Part A) (f:Int) (s:Ref),lk O (last O may k m n a f).2 s=lk O m s
 |0,m,_,_,_,_=>rfl
 |k+1,m,n,a,f,s=>by
  rw[jZ];split
  ·rfl
  ·split
   ·rfl
   ·dsimp only
    split
    ·rw[ml may k,ir,ir]
    ·split
     ·dsimp only
      rw[ml may k,ir,ir]
     ·rw[ml may k,ml may k,ir,ir]
theorem Lp:∀ {k:Nat} {m m':Po E A} {r:Ref},(∀ s,lk O m' s=lk O m s)->(Deep O k m' r↔Deep O k m r)
 |0,_,_,_,_=>r9
 |k+1,m,m',r,h=>by simp only[Deep,h,Lp h]
theorem Mv {k j:Nat} {m:Po E A} {q r:Ref}:Deep O k (cv O j m q).2 r↔Deep O k m r:=Lp (JP j m q)
end
end Gv
namespace Gv
open Rx
set_option linter.unusedSectionVars false
inductive Tr (E:Type)
 |nil
 |node (r:Ref) (l:Tr E) (e:E) (q:Tr E)
namespace Tr
variable {E:Type}
def root:Tr E->Ref
 |nil=>r0
 |node r _ _ _=>r
def items:Tr E->List (Ref×E)
 |nil=>[]
 |node r l e q=>l.items++(r,e)::q.items
def h:Tr E->Nat
 |nil=>0
 |node _ l _ q=>1+max l.h q.h
def elems (t:Tr E):List E:=t.items.map av
def refs (t:Tr E):List Ref:=t.items.map ax
def mB:Tr E->Prop
 |nil=>True
 |node _ l _ q=>l.mB/\q.mB/\l.h≤q.h+1/\q.h≤l.h+1
theorem A5:∀ t:Tr E,t.h≤t.items.length
 |nil=>a_ _
 |node r l e q=>by
  have h1:=A5 l;have h2:=A5 q;simp only[h,items,bF,cy];omega
theorem gG (r:Ref) (l:Tr E) (e:E) (q:Tr E):(node r l e q).elems=l.elems++e::q.elems:=by simp[elems,items]
theorem jK (r:Ref) (l:Tr E) (e:E) (q:Tr E):(node r l e q).refs=l.refs++r::q.refs:=by simp[refs,items]
theorem e9 (t:Tr E):t.elems.length=t.items.length:=by simp[elems]
theorem Mh (t:Tr E):t.refs.length=t.items.length:=by simp[refs]
end Tr
structure yG {E A:Type} (O:iO E A) (S:List E->A) (dp:List E->Prop):Prop where
 nil:S []=O.a0
 one:∀ e,S [e]=O.sum e
 plus:∀ x y,dp (x++y)->x≠[]->y≠[]->O.plus (S x) (S y)=S (x++y)
 left:∀ x y,dp (x++y)->dp x
 right:∀ x y,dp (x++y)->dp y
 len:∀ x,dp x->x.length≤1000000
 swap:∀ a b,O.cmp a b<0↔0<O.cmp b a
 trans:∀ a b c,O.cmp a b<0->O.cmp b c<0->O.cmp a c<0
 eqv:∀ a b c,O.cmp a b=0->O.cmp b c<0->O.cmp a c<0
 aaa:∀ a b c,O.cmp a b=0->O.cmp c b<0->O.cmp c a<0
section
variable {E A:Type} (O:iO E A) (S:List E->A)
def nd (t:Tr E):Node E A :=
 match t with
 |.nil=>zn O
 |.node r l e q=>⟨e,l.root,q.root,⟨(Tr.node r l e q).items.length,S (Tr.node r l e q).elems⟩,(Tr.node r l e q).h⟩
def Rp (m:Po E A):Tr E->Prop
 |.nil=>True
 |.node r l e q=>has m r=ao/\lk O m r=nd O S (.node r l e q)/\Rp m l/\Rp m q
variable {O S} {dp:List E->Prop} (Z:yG O S dp)
theorem qX (r:Ref) (l:Tr E) (e:E) (q:Tr E):nd O S (.node r l e q)=⟨e,l.root,q.root,⟨(Tr.node r l e q).items.length,S (Tr.node r l e q).elems⟩,(Tr.node r l e q).h⟩:=rfl
theorem tH (m:Po E A) (a b:Ref):iM [] 2 (zn O) m (aE (aE m a) b):=(gE _ m a).to (gE _ _ b) (fun r hr=>by simp at hr) (a_ _)
theorem Wa (m:Po E A) (a b c d:Ref):iM [] 4 (zn O) m (aE (aE (aE (aE m a) b) c) d):=(tH m a b).to (tH _ c d) (fun r hr=>by simp at hr) (a_ _)
theorem rj (t:Tr E):(nd O S t).h=(t.h:Int):=by cases t<;>rfl
theorem ry (hZ:S []=O.a0) (t:Tr E):(nd O S t).all=⟨t.items.length,S t.elems⟩:=by
 cases t with
 |nil=>simp[nd,zn,Tr.items,Tr.elems,hZ]
 |node r l e q=>rfl
theorem Rp.root {n:Nat} {m:Po E A} (ho:fY n m) {t:Tr E} (h:Rp O S m t):lk O m t.root=nd O S t:=by
 cases t with
 |nil =>
  show look (zn O) m r0=_
  unfold look;rw[ho.z0]
  rfl
 |node r l e q=>exact h.2.1
theorem Rp.frame {R:List Ref} {k:Nat} {m m':Po E A} (hu:iM R k (zn O) m m'):∀ {t:Tr E},(∀ s,s∈t.refs->s∉R)->Rp O S m t->Rp O S m' t
 |.nil,_,_=>trivial
 |.node r l e q,hd,h=>by
  obtain⟨h1,h2,h3,h4⟩:=h;rw[Tr.jK] at hd;refine⟨by rw[hu.has];exact h1,?_,Rp.frame hu (fun s hs=>hd s (by simp[hs])) h3,Rp.frame hu (fun s hs=>hd s (by simp[hs])) h4⟩
  rw[← h2];exact hu.look r (hd r (by simp))
theorem Rp.aE {m:Po E A} {t:Tr E} (s:Ref) (h:Rp O S m t):Rp O S (aE m s) t:=Rp.frame (gE _ m s) (fun _ _ hs=>by cases hs) h
theorem Rp.has {m:Po E A}:∀ {t:Tr E},Rp O S m t->∀ s,s∈t.refs->has m s=ao
 |.nil,_,s,hs=>by cases hs
 |.node r l e q,h,s,hs=>by
  obtain⟨h1,h2,h3,h4⟩:=h;rw[Tr.jK,b7,bO] at hs;rcases hs with hs|rfl|hs
  ·exact Rp.has h3 s hs
  ·exact h1
  ·exact Rp.has h4 s hs
theorem aga {n:Nat} {m:Po E A} (ho:fY n m) {t:Tr E} (h:Rp O S m t) (hn:t≠.nil):t.root≠r0:=by
 cases t with
 |nil=>exact absurd rfl hn
 |node r l e q =>
  intro e0;have:=h.1;simp only[Tr.root] at e0;rw[e0,ho.z0] at this;cases this
include Z
theorem pA {x y:List E} (hg:dp (x++y)):ed O ⟨x.length,S x⟩ ⟨y.length,S y⟩=⟨(x++y).length,S (x++y)⟩:=by
 unfold ed;cases x with
 |nil=>simp
 |cons a x =>
  cases y with
  |nil =>
   simp only[List.append_nil,jM];rw[if_neg (by simp;omega),if_pos (by rfl)]
  |cons b y =>
   have hl:=Z.len _ hg;simp only[bF,cy] at hl;rw[if_neg (by simp;omega),if_neg (by simp;omega),Z.plus _ _ hg (by simp) (by simp),ua (by simp only[cy];omega)]
   simp only[bF,cy]
   congr 1
theorem BB (e:E):one O e=⟨([e]:List E).length,S [e]⟩:=by rw[one,Z.one];rfl
theorem abe {x y:List E} {e:E} (hg:dp (x++e::y)):ed O (ed O ⟨x.length,S x⟩ (one O e)) ⟨y.length,S y⟩=⟨(x++e::y).length,S (x++e::y)⟩:=by
 have e1:x++e::y=(x++[e])++y:=by simp
 rw[e1] at hg ⊢;rw[BB Z,pA Z (Z.left _ _ hg),pA Z hg]
theorem Qx {n:Nat} {m:Po E A} (ho:fY n m) {r:Ref} {l q:Tr E} {v:Node E A} (hl:Rp O S m l) (hq:Rp O S m q) (hr:has m r=ao) (XN:r∉l.refs) (hnq:r∉q.refs)
  (e1:v.l=l.root) (e2:v.r=q.root) (hg:dp (l.elems++v.e::q.elems)) :
  Rp O S (sn O m r v (nd O S l) (nd O S q)) (.node r l v.e q)/\iM [r] 1 (zn O) m (sn O m r v (nd O S l) (nd O S q)):=by
 have hu:=VY (zn O) m r ⟨v.e,v.l,v.r,ed O (ed O (nd O S l).all (one O v.e)) (nd O S q).all,W (1+mx (nd O S l).h (nd O S q).h)⟩;refine⟨⟨by rw[sn,hu.has];exact hr,?_,Rp.frame hu (fun s hs=>by simp;rintro rfl;exact XN hs) hl,Rp.frame hu (fun s hs=>by simp;rintro rfl;exact hnq hs) hq⟩,hu⟩
 show look (zn O) _ r=_
 rw[sn,acE (zn O) _ hr];have hlen:=Z.len _ hg;have h1:=l.A5;have h2:=q.A5;simp only[bF,cy,Tr.e9] at hlen;rw[ry Z.nil,ry Z.nil,rj,rj,← Tr.e9,← Tr.e9,abe Z hg];simp only[nd,e1,e2,Tr.gG,Tr.items,Tr.h];have e3:W (1+mx (l.h:Int) (q.h:Int))=((1+max l.h q.h:Nat):Int):=by
  unfold mx;rw[ua (by split<;>omega)]
  split<;>omega
 rw[e3];simp[Tr.elems]
theorem EB {n:Nat} {m:Po E A} (ho:fY n m) {r:Ref} {l q:Tr E} {v:Node E A} (hl:Rp O S m l) (hq:Rp O S m q) (hr:has m r=ao) (XN:r∉l.refs) (hnq:r∉q.refs)
  (e1:v.l=l.root) (e2:v.r=q.root) (hg:dp (l.elems++v.e::q.elems)) :
  Rp O S (tie O m r v) (.node r l v.e q)/\iM [r] 3 (zn O) m (tie O m r v):=by
 unfold tie;have k1:lk O m v.l=nd O S l:=by rw[e1];exact hl.root ho
 have k2:lk O (aE m v.l) v.r=nd O S q:=by rw[ir,e2];exact hq.root ho
 rw[k1,k2];obtain⟨p1,p2⟩:=Qx Z (m:=aE (aE m v.l) v.r) (df.2 (df.2 ho)) ((hl.aE _).aE _) ((hq.aE _).aE _) (by simpa using hr) XN hnq e1 e2 hg
 exact⟨p1,(tH m v.l v.r).to p2 (fun r hr=>by simpa using hr) (by omega)⟩
omit Z in
structure Is (O:iO E A) (S:List E->A) (m:Po E A) (root:Ref) (h9:List (Ref×E)) (t:Tr E):Prop where
 root:root=t.root
 rp:Rp O S m t
 h9:t.items=h9
 mB:t.mB
theorem M0 {n:Nat} {m:Po E A} (ho:fY n m) {r u:Ref} {a b c:Tr E} {y:E} {v:Node E A} (ha:Rp O S m a) (hb:Rp O S m (.node u b y c)) (hr:has m r=ao)
  (lS:(a.refs++r::(b.refs++u::c.refs)).Nodup) (e1:v.l=a.root) (e2:v.r=u) (hg:dp (a.elems++v.e::(b.elems++y::c.elems))) :
  Rp O S (oQ O m r v) (.node u (.node r a v.e b) y c)/\iM [r,u] 7 (zn O) m (oQ O m r v):=by
 obtain⟨b1,b2,b3,b4⟩:=hb;have k1:lk O m v.r=nd O S (.node u b y c):=by rw[e2];exact b2
 unfold oQ;rw[k1,e2];simp only[nd];simp only[cf,fH,b7,bO,not_or] at lS;have Oi:dp (a.elems++v.e::b.elems):=Z.left _ (y::c.elems) (by simpa using hg)
 obtain⟨p1,p2⟩:=EB Z (m:=aE m u) (r:=r) (v:=⟨v.e,v.l,b.root,v.all,v.h⟩) (df.2 ho) (ha.aE _) (b3.aE _) (by simpa using hr)
  (fun h=>lS.2.2 r h r (dK rfl) rfl) (fun h=>lS.2.1.1.1 h) e1 rfl Oi
 have q1:=(gE (zn O) m u).to p2 (S:=[r]) (k:=4) (fun r hr=>by simpa using hr) (by omega)
 obtain⟨s1,s2⟩:=EB Z (m:=tie O (aE m u) r ⟨v.e,v.l,b.root,v.all,v.h⟩) (r:=u) (l:=.node r a v.e b) (q:=c) (v:=⟨y,r,c.root,⟨(Tr.node u b y c).items.length,S (Tr.node u b y c).elems⟩,(Tr.node u b y c).h⟩)
  (AL.2 (df.2 ho)) p1 (Rp.frame q1 (fun s hs=>by simp;rintro rfl;exact lS.2.1.1.2.2 hs) b4) (by rw[q1.has];exact b1)
  (by
   rw[Tr.jK];simp only[b7,bO,not_or];exact⟨fun h=>lS.2.2 u h u (e7 (e7 (dK rfl))) rfl,fun h=>lS.2.1.1.2.1 h.symm,fun h=>lS.2.1.2.2.2 u h u (dK rfl) rfl⟩)
  (fun h=>lS.2.1.2.2.1.1 h) rfl rfl (by rw[Tr.gG];simpa using hg)
 exact⟨s1,q1.to s2 (fun s hs=>by simp at hs;rcases hs with rfl|rfl<;>simp) (by omega)⟩
theorem MP {n:Nat} {m:Po E A} (ho:fY n m) {r u:Ref} {a b c:Tr E} {y:E} {v:Node E A} (hb:Rp O S m (.node u a y b)) (hc:Rp O S m c) (hr:has m r=ao)
  (lS:((a.refs++u::b.refs)++r::c.refs).Nodup) (e1:v.l=u) (e2:v.r=c.root) (hg:dp ((a.elems++y::b.elems)++v.e::c.elems)) :
  Rp O S (oU O m r v) (.node u a y (.node r b v.e c))/\iM [r,u] 7 (zn O) m (oU O m r v):=by
 obtain⟨b1,b2,b3,b4⟩:=hb;have k1:lk O m v.l=nd O S (.node u a y b):=by rw[e1];exact b2
 unfold oU;rw[k1,e1];simp only[nd];simp only[cf,fH,b7,bO,not_or] at lS;have Oi:dp (b.elems++v.e::c.elems):=Z.right (a.elems++[y]) _ (by simpa using hg)
 have nu:r≠u:=fun h=>lS.2.2 u (e7 (dK rfl)) r (dK rfl) h.symm
 obtain⟨p1,p2⟩:=EB Z (m:=aE m u) (r:=r) (v:=⟨v.e,b.root,v.r,v.all,v.h⟩) (df.2 ho) (b4.aE _) (hc.aE _) (by simpa using hr)
  (fun h=>lS.2.2 r (e7 (e7 h)) r (dK rfl) rfl) (fun h=>lS.2.1.1 h) rfl e2 Oi
 have q1:=(gE (zn O) m u).to p2 (S:=[r]) (k:=4) (fun r hr=>by simpa using hr) (by omega)
 obtain⟨s1,s2⟩:=EB Z (m:=tie O (aE m u) r ⟨v.e,b.root,v.r,v.all,v.h⟩) (r:=u) (l:=a) (q:=.node r b v.e c) (v:=⟨y,a.root,r,⟨(Tr.node u a y b).items.length,S (Tr.node u a y b).elems⟩,(Tr.node u a y b).h⟩)
  (AL.2 (df.2 ho)) (Rp.frame q1 (fun s hs=>by simp;rintro rfl;exact lS.2.2 s (dK hs) s (dK rfl) rfl) b3) p1 (by rw[q1.has];exact b1)
  (fun h=>lS.1.2.2 u h u (dK rfl) rfl)
  (by
   rw[Tr.jK];simp only[b7,bO,not_or];exact⟨fun h=>lS.1.2.1.1 h,fun h=>nu h.symm,fun h=>lS.2.2 u (e7 (dK rfl)) u (e7 h) rfl⟩)
  rfl rfl (by simpa [Tr.gG] using hg)
 exact⟨s1,q1.to s2 (fun s hs=>by simp at hs;rcases hs with rfl|rfl<;>simp) (by omega)⟩
omit Z in
theorem Rp.BS {m:Po E A} {t:Tr E} (a b c d:Ref) (h:Rp O S m t):Rp O S (aK (aK (aK (aK m a) b) c) d) t:=(((h.aE _).aE _).aE _).aE _
theorem yR {n:Nat} {m:Po E A} (ho:fY n m) {r:Ref} {l q:Tr E} {v:Node E A} (hl:Rp O S m l) (hq:Rp O S m q) (hr:has m r=ao)
  (lS:(l.refs++r::q.refs).Nodup) (e1:v.l=l.root) (e2:v.r=q.root) (hg:dp (l.elems++v.e::q.elems)) (bl:l.mB) (bq:q.mB) (d1:l.h≤q.h+2) (d2:q.h≤l.h+2) :
  ∃ t,Is O S (level O m r v).2 (level O m r v).1 (l.items++(r,v.e)::q.items) t/\max l.h q.h≤t.h/\t.h≤max l.h q.h+1/\(l.h≤q.h+1->q.h≤l.h+1->t.h=max l.h q.h+1) /\
   iM (l.refs++r::q.refs) 20 (zn O) m (level O m r v).2:=by
 have k1:lk O m v.l=nd O S l:=by rw[e1];exact hl.root ho
 have k2:lk O m v.r=nd O S q:=by rw[e2];exact hq.root ho
 have hlen:=Z.len _ hg;have h1:=l.A5;have h2:=q.A5;simp only[bF,cy,Tr.e9] at hlen;have w1:W ((q.h:Int)+1)=(q.h:Int)+1:=ua (by omega)
 have w2:W ((l.h:Int)+1)=(l.h:Int)+1:=ua (by omega)
 unfold level;simp only[ir,k1,k2,rj,w1,w2];have ru:=lS;simp only[cf,fH,b7,bO,not_or] at ru;split
 ·rename_i nc;cases l with
  |nil=>simp only[Tr.h] at nc;omega
  |node a ll x lr =>
   obtain⟨zk,Bo,yf,yr⟩:=hl;obtain⟨bl1,bl2,bl3,bl4⟩:=bl;have k3:lk O m lr.root=nd O S lr:=yr.root ho;have k4:lk O m ll.root=nd O S ll:=yf.root ho;simp only[qX,k3,k4,rj,Tr.h] at nc d1 ⊢;rw[Tr.jK] at lS;rw[Tr.gG] at hg;have HY:=Wa (O:=O) m v.l v.r lr.root ll.root;have Um:fY n (aE (aE (aE (aE m v.l) v.r) lr.root) ll.root):=df.2 (df.2 (df.2 (df.2 ho)));split
   ·rename_i j8;cases lr with
    |nil=>simp only[Tr.h] at j8;omega
    |node b p y c =>
     obtain⟨sQ,mU,lZ,mf⟩:=yr;obtain⟨br1,br2,br3,br4⟩:=bl2;simp only[Tr.h] at j8 nc d1 bl3 bl4 ⊢;rw[Tr.jK] at lS;rw[Tr.gG] at hg;have ady:(ll.refs++a::(p.refs++b::c.refs)).Nodup:=(cf.1 lS).1;obtain⟨p1,p2⟩:=M0 Z Um (r:=a) (u:=b) (a:=ll) (b:=p) (c:=c) (y:=y) (v:=⟨x,ll.root,b,⟨(Tr.node a ll x (.node b p y c)).items.length,S (Tr.node a ll x (.node b p y c)).elems⟩,((Tr.node a ll x (.node b p y c)).h:Nat)⟩)
      (Rp.BS _ _ _ _ yf) (Rp.BS _ _ _ _ ⟨sQ,mU,lZ,mf⟩) (by simpa using zk) ady rfl rfl (Z.left _ _ hg)
     have q1:=HY.to p2 (S:=[a,b]) (k:=11) (fun s hs=>by simpa using hs) (by omega)
     have am7:(((ll.refs++a::p.refs)++b::c.refs)++r::q.refs).Nodup:=by simpa using lS
     have dq:∀ s,s∈q.refs->s∉[a,b]:=fun s hs Jc=>by
      have:=(cf.1 lS).2.2 s (by simp at Jc;rcases Jc with rfl|rfl<;>simp) s (by simp[hs])
      exact this rfl
     obtain⟨s1,s2⟩:=MP Z (B3.2 Um) (r:=r) (u:=b) (a:=.node a ll x p) (b:=c) (c:=q) (y:=y) (v:=⟨v.e,b,v.r,v.all,v.h⟩) p1 (Rp.frame q1 dq hq) (by rw[q1.has];exact hr)
      (by rw[Tr.jK];exact am7) rfl e2 (by rw[Tr.gG];simpa using hg)
     rw[e1] at *
     refine⟨.node b (.node a ll x p) y (.node r c v.e q),⟨rfl,s1,by simp[Tr.items],?_⟩,?_,?_,?_,(q1.to s2 (fun s hs=>by simp at hs;rw[Tr.jK,Tr.jK];rcases hs with(rfl|rfl)|rfl|rfl<;>simp) (by omega))⟩
     ·simp only[Tr.mB,Tr.h];refine⟨⟨bl1,br1,by omega,by omega⟩,⟨br2,bq,by omega,by omega⟩,by omega,by omega⟩
     ·simp only[Tr.h];omega
     ·simp only[Tr.h];omega
     ·intro _ _;omega
   ·rename_i j8;obtain⟨s1,s2⟩:=MP Z Um (r:=r) (u:=a) (a:=ll) (b:=lr) (c:=q) (y:=x) (v:=v) (Rp.BS _ _ _ _ ⟨zk,Bo,yf,yr⟩) (Rp.BS _ _ _ _ hq) (by simpa using hr)
     lS e1 e2 hg
    rw[e1] at *
    refine⟨.node a ll x (.node r lr v.e q),⟨rfl,s1,by simp[Tr.items],?_⟩,?_,?_,?_,(HY.to s2 (fun s hs=>by simp at hs;rw[Tr.jK];rcases hs with rfl|rfl<;>simp) (by omega))⟩
    ·simp only[Tr.mB,Tr.h];refine⟨bl1,⟨bl2,bq,by omega,by omega⟩,by omega,by omega⟩
    ·simp only[Tr.h];omega
    ·simp only[Tr.h];omega
    ·intro _ _;omega
 ·split
  ·rename_i ao9 nc;cases q with
   |nil=>simp only[Tr.h] at nc;omega
   |node a ql x qr =>
    obtain⟨sh,FP,X9,hq4⟩:=hq;obtain⟨bq1,bq2,bq3,bq4⟩:=bq;have k3:lk O m ql.root=nd O S ql:=X9.root ho;have k4:lk O m qr.root=nd O S qr:=hq4.root ho;simp only[qX,k3,k4,rj,Tr.h] at nc d2 ⊢;rw[Tr.jK] at lS;rw[Tr.gG] at hg;have HY:=Wa (O:=O) m v.l v.r ql.root qr.root;have Um:fY n (aE (aE (aE (aE m v.l) v.r) ql.root) qr.root):=df.2 (df.2 (df.2 (df.2 ho)));split
    ·rename_i j8;cases ql with
     |nil=>simp only[Tr.h] at j8;omega
     |node b p y c =>
      obtain⟨sQ,mU,lZ,mf⟩:=X9;obtain⟨br1,br2,br3,br4⟩:=bq1;simp only[Tr.h] at j8 nc d2 bq3 bq4 ⊢;rw[Tr.jK] at lS;rw[Tr.gG] at hg;have ady:((p.refs++b::c.refs)++a::qr.refs).Nodup:=(fH.1 (cf.1 lS).2.1).2;have Oi:dp ((p.elems++y::c.elems)++x::qr.elems):=Z.right (l.elems++[v.e]) _ (by simpa using hg)
      obtain⟨p1,p2⟩:=MP Z Um (r:=a) (u:=b) (a:=p) (b:=c) (c:=qr) (y:=y) (v:=⟨x,b,qr.root,⟨(Tr.node a (.node b p y c) x qr).items.length,S (Tr.node a (.node b p y c) x qr).elems⟩,((Tr.node a (.node b p y c) x qr).h:Nat)⟩)
       (Rp.BS _ _ _ _ ⟨sQ,mU,lZ,mf⟩) (Rp.BS _ _ _ _ hq4) (by simpa using sh) ady rfl rfl Oi
      have q1:=HY.to p2 (S:=[a,b]) (k:=11) (fun s hs=>by simpa using hs) (by omega)
      have dl:∀ s,s∈l.refs->s∉[a,b]:=fun s hs Jc=>by
       have:=(cf.1 lS).2.2 s hs s (by simp at Jc;rcases Jc with rfl|rfl<;>simp)
       exact this rfl
      obtain⟨s1,s2⟩:=M0 Z (BG.2 Um) (r:=r) (u:=b) (a:=l) (b:=p) (c:=.node a c x qr) (y:=y) (v:=⟨v.e,v.l,b,v.all,v.h⟩) (Rp.frame q1 dl hl) p1 (by rw[q1.has];exact hr)
       (by rw[Tr.jK];simpa using lS) e1 rfl (by rw[Tr.gG];simpa using hg)
      rw[e2] at *
      refine⟨.node b (.node r l v.e p) y (.node a c x qr),⟨rfl,s1,by simp[Tr.items],?_⟩,?_,?_,?_,(q1.to s2 (fun s hs=>by simp at hs;rw[Tr.jK,Tr.jK];rcases hs with(rfl|rfl)|rfl|rfl<;>simp) (by omega))⟩
      ·simp only[Tr.mB,Tr.h];refine⟨⟨bl,br1,by omega,by omega⟩,⟨br2,bq2,by omega,by omega⟩,by omega,by omega⟩
      ·simp only[Tr.h];omega
      ·simp only[Tr.h];omega
      ·intro _ _;omega
    ·rename_i j8;obtain⟨s1,s2⟩:=M0 Z Um (r:=r) (u:=a) (a:=l) (b:=ql) (c:=qr) (y:=x) (v:=v) (Rp.BS _ _ _ _ hl) (Rp.BS _ _ _ _ ⟨sh,FP,X9,hq4⟩) (by simpa using hr)
      lS e1 e2 hg
     rw[e2] at *
     refine⟨.node a (.node r l v.e ql) x qr,⟨rfl,s1,by simp[Tr.items],?_⟩,?_,?_,?_,(HY.to s2 (fun s hs=>by simp at hs;rw[Tr.jK];rcases hs with rfl|rfl<;>simp) (by omega))⟩
     ·simp only[Tr.mB,Tr.h];refine⟨⟨bl,bq1,by omega,by omega⟩,bq2,by omega,by omega⟩
     ·simp only[Tr.h];omega
     ·simp only[Tr.h];omega
     ·intro _ _;omega
  ·rename_i hn1 hn2;obtain⟨s1,s2⟩:=Qx Z (m:=aE (aE m v.l) v.r) (df.2 (df.2 ho)) ((hl.aE _).aE _) ((hq.aE _).aE _) (by simpa using hr) (fun h=>ru.2.2 r h r (dK rfl) rfl) (fun h=>ru.2.1.1 h) e1 e2 hg
   refine⟨.node r l v.e q,⟨rfl,s1,rfl,⟨bl,bq,by omega,by omega⟩⟩,?_,?_,?_,(tH m v.l v.r).to s2 (fun s hs=>by simp at hs;subst hs;simp) (by omega)⟩
   ·simp only[Tr.h];omega
   ·simp only[Tr.h];omega
   ·intro _ _;simp only[Tr.h];omega
end
end Gv
namespace Wv
open Rx
structure Mk where
 t:Int
 ins:Bool
 it:It
 here:Bool
 tf:Bool
 tk:It
structure Sw where
 c:Ti.Td
 w:Ti.Td
 d:Int
 f:Int
 m:It
 gf:Bool
 g:It
 lf:Bool
 l:It
def mz:Mk:=⟨0,an,⟨0,0⟩,an,an,⟨0,0⟩⟩
def sz:Sw:=⟨⟨0,0,0⟩,⟨0,0,0⟩,0,0,⟨0,0⟩,an,⟨0,0⟩,an,⟨0,0⟩⟩
def sk (x:It) (here:Bool):Sw:=if here=ao then⟨⟨1,1,1⟩,⟨1,0,0⟩,0,0,⟨0,0⟩,an,⟨0,0⟩,ao,x⟩ else⟨⟨1,1,1⟩,⟨1,1,1⟩,0,0,⟨0,0⟩,ao,x,an,⟨0,0⟩⟩
def sj (tf:Bool) (tk:It):Sw:=if tf=ao then⟨⟨1,-1,-1⟩,⟨1,-1,-1⟩,1,0,tk,an,⟨0,0⟩,an,⟨0,0⟩⟩ else⟨⟨1,-1,-1⟩,⟨1,-1,-1⟩,1,1,⟨0,0⟩,an,⟨0,0⟩,an,⟨0,0⟩⟩
def Mk.sum (m:Mk):Sw:=if m.ins=ao then sk m.it m.here else sj m.tf m.tk
def Eo (s o:Sw):It:=if o.d=o.f then s.m else if s.d=s.f∨ah s.m o.m then o.m else s.m
def vj (side:Int) (af:Bool) (a:It) (bf:Bool) (b:It):Bool×It:=if bf=ao/\(¬ af=ao∨kP b a=side) then(bf,b) else if ¬ af=ao then(an,⟨0,0⟩) else(af,a)
def Sw.plus (s o:Sw):Sw:=⟨s.c.plus o.c,s.w.plus o.w,Wx (s.d+o.d),Wx (s.f+o.f),Eo s o,(vj 1 s.gf s.g o.gf o.g).1,(vj 1 s.gf s.g o.gf o.g).2,(vj (-1) s.lf s.l o.lf o.l).1,(vj (-1) s.lf s.l o.lf o.l).2⟩
def O8:Gv.iO Mk Sw:=⟨mz,sz,fun a b=>CB a.t b.t,Mk.sum,Sw.plus⟩
def P5 (m:Mk):Int:=if m.ins=ao then 1 else -1
def uf (m:Mk):Int:=if m.ins=ao/\m.here=ao then 0 else P5 m
def wj (l:List Mk):List Mk:=l.filter fun m=>!m.ins
def pJ (l:List Mk):List Mk:=l.filter fun m=>!m.ins && !m.tf
def vp (l:List Mk):List It:=(l.filter fun m=>!m.ins&&m.tf).map Mk.tk
def lW (h:Bool) (l:List Mk):List It:=(l.filter fun m=>m.ins&&(m.here==h)).map Mk.it
def S8 (l:List Mk):Sw:=⟨xg (l.map P5),xg (l.map uf),(wj l).length,(pJ l).length,(hi (vp l)).getD iz,(hi (lW an l)).isSome,(hi (lW an l)).getD iz,(lo (lW ao l)).isSome,(lo (lW ao l)).getD iz⟩
def FU (l:List Mk):Prop:=l.length≤60
theorem afn (m:Mk):-1≤P5 m/\P5 m≤1:=by unfold P5;split<;>omega
theorem Zs (m:Mk):-1≤uf m/\uf m≤1:=by unfold uf;split;omega;exact afn m
theorem Gc {l:List Mk} {f:Mk->Int} (hf:∀ m,-1≤f m/\f m≤1) (h:l.length≤60):Ti.Small (l.map f):=by
 have hb:∀ i,i<(l.map f).length->-1≤(l.map f).getD i 0/\(l.map f).getD i 0≤1:=fun i hi=>by
  have kx:i<l.length:=by simpa using hi
  rw[au,fh,List.getElem?_eq_getElem kx];exact hf _
 refine⟨by simpa using h,fun i hi=>?_,fun i hi=>?_⟩
 ·have:=hb i hi;omega
 ·have:=hb i hi;omega
theorem akF (a b:Option It):vj 1 a.isSome (a.getD iz) b.isSome (b.getD iz)=((up a b).isSome,(up a b).getD iz):=by
 unfold vj;simp only[ac2];cases a with
 |none=>cases b<;>simp[up]
 |some a =>
  cases b with
  |none=>simp[up]
  |some b=>simp only[C_,lL,up];by_cases h:ah a b<;>simp[h]
theorem ah' (a b:Option It):vj (-1) a.isSome (a.getD iz) b.isSome (b.getD iz)=((dn a b).isSome,(dn a b).getD iz):=by
 unfold vj;simp only[aeh];cases a with
 |none=>cases b<;>simp[dn]
 |some a =>
  cases b with
  |none=>simp[dn]
  |some b=>simp only[C_,lL,dn];by_cases h:ah b a<;>simp[h]
theorem adj (l:List Mk):(wj l).length=(pJ l).length+(vp l).length:=by
 unfold wj pJ vp;rw[fS]
 induction l with
 |nil=>rfl
 |cons m l ih =>
  simp only[List.filter_cons];cases m.ins<;>cases m.tf<;>simp at *<;>omega
theorem SE (l:List Mk):((wj l).length:Int)=(pJ l).length↔hi (vp l)=aj:=by
 rw[adj];have h:=Yw (vp l)
 constructor
 ·intro h1;have:vp l=[]:=List.eq_nil_of_length_eq_zero (by omega)
  rw[this];rfl
 ·intro h1;rw[h1] at h;have:vp l=[]:=by
   by_cases c:vp l=[]
   ·exact c
   ·have:=h.2 c;cases this
  rw[this];simp
theorem akp {x y:List Mk}:Eo (S8 x) (S8 y)=(up (hi (vp x)) (hi (vp y))).getD iz:=by
 have hx:=SE x;have hy:=SE y;unfold Eo S8;simp only[hx,hy];cases hi (vp x) with
 |none=>cases hi (vp y)<;>simp[up]
 |some a =>
  cases hi (vp y) with
  |none=>simp[up]
  |some b=>by_cases h:ah a b<;>simp[up,h]
theorem Wp (m:Mk):S8 [m]=m.sum:=by
 unfold S8 Mk.sum sk sj wj pJ vp lW;obtain⟨t,ins,it,here,tf,tk⟩:=m;cases ins<;>cases here<;>cases tf<;>rfl
theorem agM (x y:List Mk) (h:FU (x++y)):(S8 x).plus (S8 y)=S8 (x++y):=by
 have hl:=h;unfold FU at hl;have h1:(xg (x.map P5)).plus (xg (y.map P5))=xg ((x++y).map P5):=by
  rw[dJ];exact Wy (by rw[← dJ];exact Gc afn hl)
 have h2:(xg (x.map uf)).plus (xg (y.map uf))=xg ((x++y).map uf):=by
  rw[dJ];exact Wy (by rw[← dJ];exact Gc Zs hl)
 have e1:wj (x++y)=wj x++wj y:=oJ ..;have e2:pJ (x++y)=pJ x++pJ y:=oJ ..;have e3:vp (x++y)=vp x++vp y:=by unfold vp;rw[oJ,dJ]
 have e4:∀ b,lW b (x++y)=lW b x++lW b y:=fun b=>by unfold lW;rw[oJ,dJ]
 have l1:(wj x).length+(wj y).length≤60:=by
  have:=uL (fun m:Mk=>!m.ins) (x++y)
  rw[← bF,← e1];exact jo this hl
 have l2:(pJ x).length+(pJ y).length≤60:=by
  have:=uL (fun m:Mk=>!m.ins && !m.tf) (x++y)
  rw[← bF,← e2];exact jo this hl
 have h3:Wx (((wj x).length:Int)+((wj y).length:Int))=((wj (x++y)).length:Int):=by
  rw[e1,bF,Ti.Kj (by omega)];push_cast;rfl
 have h4:Wx (((pJ x).length:Int)+((pJ y).length:Int))=((pJ (x++y)).length:Int):=by
  rw[e2,bF,Ti.Kj (by omega)];push_cast;rfl
 have h5:Eo (S8 x) (S8 y)=(hi (vp (x++y))).getD iz:=by rw[akp,e3,KM]
 have h6:=akF (hi (lW an x)) (hi (lW an y));have h7:=ah' (lo (lW ao x)) (lo (lW ao y));rw[← KM,← e4] at h6;rw[← So,← e4] at h7;unfold Sw.plus;rw[h5];unfold S8;simp only;rw[h1,h2,h3,h4,h6,h7]
theorem DQ (e x:Mk):O8.cmp e x<0↔e.t<x.t:=by simp only[O8,CB];split<;>(try split)<;>omega
theorem Ca (e x:Mk):O8.cmp e x=0↔e.t=x.t:=by simp only[O8,CB];split<;>(try split)<;>omega
theorem Rj (e x:Mk):(0<O8.cmp e x)↔x.t<e.t:=by simp only[O8,CB];split<;>(try split)<;>omega
theorem TK:Gv.yG O8 S8 FU where
 nil:=rfl
 one e:=Wp e
 plus x y h _ _:=agM x y h
 left x y h:=by unfold FU at *;rw[bF] at h;omega
 right x y h:=by unfold FU at *;rw[bF] at h;omega
 len x h:=by unfold FU at h;omega
 swap a b:=by rw[DQ,Rj]
 trans a b c:=by simp only[DQ];omega
 eqv a b c:=by simp only[DQ,Ca];omega
 aaa a b c:=by simp only[DQ,Ca];omega
end Wv
namespace G8
open Rx
set_option maxRecDepth 100000
abbrev Nd:=Gv.Node Wv.Mk Wv.Sw
abbrev Pl:=Gv.PM Nd
def bj (n:Nd):List Value:=[.int .i64 n.e.t,.bool n.e.ins,.int .i64 n.e.it.k,.int .i64 n.e.it.i,.bool n.e.here,.bool n.e.tf,.int .i64 n.e.tk.k,.int .i64 n.e.tk.i,.int .i64 n.l.i,.int .i64 n.l.g,.int .i64 n.r.i,.int .i64 n.r.g,.int .i64 n.all.n,.int .i64 n.all.sum.c.n,.int .i64 n.all.sum.c.s,.int .i64 n.all.sum.c.l,.int .i64 n.all.sum.w.n,.int .i64 n.all.sum.w.s,.int .i64 n.all.sum.w.l,.int .i64 n.all.sum.d,.int .i64 n.all.sum.f,.int .i64 n.all.sum.m.k,.int .i64 n.all.sum.m.i,.bool n.all.sum.gf,.int .i64 n.all.sum.g.k,.int .i64 n.all.sum.g.i,.bool n.all.sum.lf,.int .i64 n.all.sum.l.k,.int .i64 n.all.sum.l.i,.int .i64 n.h]
def bV (p:HJ Wv.Sw):List Value:=[.int .i64 p.n,.int .i64 p.sum.c.n,.int .i64 p.sum.c.s,.int .i64 p.sum.c.l,.int .i64 p.sum.w.n,.int .i64 p.sum.w.s,.int .i64 p.sum.w.l,.int .i64 p.sum.d,.int .i64 p.sum.f,.int .i64 p.sum.m.k,.int .i64 p.sum.m.i,.bool p.sum.gf,.int .i64 p.sum.g.k,.int .i64 p.sum.g.i,.bool p.sum.lf,.int .i64 p.sum.l.k,.int .i64 p.sum.l.i]
def du (e:Wv.Mk):List Value:=[.int .i64 e.t,.bool e.ins,.int .i64 e.it.k,.int .i64 e.it.i,.bool e.here,.bool e.tf,.int .i64 e.tk.k,.int .i64 e.tk.i]
def ko (s:Wv.Sw):List Value:=[.int .i64 s.c.n,.int .i64 s.c.s,.int .i64 s.c.l,.int .i64 s.w.n,.int .i64 s.w.s,.int .i64 s.w.l,.int .i64 s.d,.int .i64 s.f,.int .i64 s.m.k,.int .i64 s.m.i,.bool s.gf,.int .i64 s.g.k,.int .i64 s.g.i,.bool s.lf,.int .i64 s.l.k,.int .i64 s.l.i]
def fR (l:List Value):Wv.Mk:=⟨(vI (gm l 0)),(vB (gm l 1)),⟨(vI (gm l 2)),(vI (gm l 3))⟩,(vB (gm l 4)),(vB (gm l 5)),⟨(vI (gm l 6)),(vI (gm l 7))⟩⟩
def wi (l:List Value):Wv.Sw:=⟨⟨(vI (gm l 0)),(vI (gm l 1)),(vI (gm l 2))⟩,⟨(vI (gm l 3)),(vI (gm l 4)),(vI (gm l 5))⟩,(vI (gm l 6)),(vI (gm l 7)),⟨(vI (gm l 8)),(vI (gm l 9))⟩,(vB (gm l 10)),⟨(vI (gm l 11)),(vI (gm l 12))⟩,(vB (gm l 13)),⟨(vI (gm l 14)),(vI (gm l 15))⟩⟩
def o_ (l:List Value):HJ Wv.Sw:=⟨(vI (gm l 0)),⟨⟨(vI (gm l 1)),(vI (gm l 2)),(vI (gm l 3))⟩,⟨(vI (gm l 4)),(vI (gm l 5)),(vI (gm l 6))⟩,(vI (gm l 7)),(vI (gm l 8)),⟨(vI (gm l 9)),(vI (gm l 10))⟩,(vB (gm l 11)),⟨(vI (gm l 12)),(vI (gm l 13))⟩,(vB (gm l 14)),⟨(vI (gm l 15)),(vI (gm l 16))⟩⟩⟩
def fU (l:List Value):Nd:=⟨⟨(vI (gm l 0)),(vB (gm l 1)),⟨(vI (gm l 2)),(vI (gm l 3))⟩,(vB (gm l 4)),(vB (gm l 5)),⟨(vI (gm l 6)),(vI (gm l 7))⟩⟩,⟨(vI (gm l 8)),(vI (gm l 9))⟩,⟨(vI (gm l 10)),(vI (gm l 11))⟩,⟨(vI (gm l 12)),⟨⟨(vI (gm l 13)),(vI (gm l 14)),(vI (gm l 15))⟩,⟨(vI (gm l 16)),(vI (gm l 17)),(vI (gm l 18))⟩,(vI (gm l 19)),(vI (gm l 20)),⟨(vI (gm l 21)),(vI (gm l 22))⟩,(vB (gm l 23)),⟨(vI (gm l 24)),(vI (gm l 25))⟩,(vB (gm l 26)),⟨(vI (gm l 27)),(vI (gm l 28))⟩⟩⟩,(vI (gm l 29))⟩
def di:List Value:=[.int .i64 0,.bool an,.int .i64 0,.int .i64 0,.bool an,.bool an,.int .i64 0,.int .i64 0,.int .i64 0,.int .i64 0,.int .i64 0,.int .i64 0,.int .i64 0,.int .i64 0,.int .i64 0,.int .i64 0,.int .i64 0,.int .i64 0,.int .i64 0,.int .i64 0,.int .i64 0,.int .i64 0,.int .i64 0,.bool an,.int .i64 0,.int .i64 0,.bool an,.int .i64 0,.int .i64 0,.int .i64 0,.int .i64 0,.bool an]
abbrev zd:Nd:=Gv.zn Wv.O8
def cV (a:List Int) (b:List Bool) (c:List Int) (d:List Int) (e:List Bool) (f:List Bool) (g:List Int) (h:List Int) (i:List Int) (j:List Int) (k:List Int) (l:List Int) (m:List Int) (n:List Int) (o:List Int) (p:List Int) (q:List Int) (r:List Int) (s:List Int) (t:List Int) (u:List Int) (v:List Int) (w:List Int) (x:List Bool) (y:List Int) (z:List Int) (A:List Bool) (B:List Int) (C:List Int) (D:List Int) (E:List Int) (F:List Bool):List aW:=[⟨a,[],[]⟩,⟨[],b,[]⟩,⟨c,[],[]⟩,⟨d,[],[]⟩,⟨[],e,[]⟩,⟨[],f,[]⟩,⟨g,[],[]⟩,⟨h,[],[]⟩,⟨i,[],[]⟩,⟨j,[],[]⟩,⟨k,[],[]⟩,⟨l,[],[]⟩,⟨m,[],[]⟩,⟨n,[],[]⟩,⟨o,[],[]⟩,⟨p,[],[]⟩,⟨q,[],[]⟩,⟨r,[],[]⟩,⟨s,[],[]⟩,⟨t,[],[]⟩,⟨u,[],[]⟩,⟨v,[],[]⟩,⟨w,[],[]⟩,⟨[],x,[]⟩,⟨y,[],[]⟩,⟨z,[],[]⟩,⟨[],A,[]⟩,⟨B,[],[]⟩,⟨C,[],[]⟩,⟨D,[],[]⟩,⟨E,[],[]⟩,⟨[],F,[]⟩]
def cM (v:List Nd) (g:List Int) (b:List Bool):List aW:=cV (v.map fun n:Nd=>n.e.t) (v.map fun n:Nd=>n.e.ins) (v.map fun n:Nd=>n.e.it.k) (v.map fun n:Nd=>n.e.it.i) (v.map fun n:Nd=>n.e.here) (v.map fun n:Nd=>n.e.tf) (v.map fun n:Nd=>n.e.tk.k) (v.map fun n:Nd=>n.e.tk.i) (v.map fun n:Nd=>n.l.i) (v.map fun n:Nd=>n.l.g) (v.map fun n:Nd=>n.r.i) (v.map fun n:Nd=>n.r.g) (v.map fun n:Nd=>n.all.n) (v.map fun n:Nd=>n.all.sum.c.n) (v.map fun n:Nd=>n.all.sum.c.s) (v.map fun n:Nd=>n.all.sum.c.l) (v.map fun n:Nd=>n.all.sum.w.n) (v.map fun n:Nd=>n.all.sum.w.s) (v.map fun n:Nd=>n.all.sum.w.l) (v.map fun n:Nd=>n.all.sum.d) (v.map fun n:Nd=>n.all.sum.f) (v.map fun n:Nd=>n.all.sum.m.k) (v.map fun n:Nd=>n.all.sum.m.i) (v.map fun n:Nd=>n.all.sum.gf) (v.map fun n:Nd=>n.all.sum.g.k) (v.map fun n:Nd=>n.all.sum.g.i) (v.map fun n:Nd=>n.all.sum.lf) (v.map fun n:Nd=>n.all.sum.l.k) (v.map fun n:Nd=>n.all.sum.l.i) (v.map fun n:Nd=>n.h) g b
def cS (v:List Nd) (k:Nat) (x:Nd) (g:List Int) (b:List Bool):List aW:=cV ((v.map fun n:Nd=>n.e.t).set k x.e.t) ((v.map fun n:Nd=>n.e.ins).set k x.e.ins) ((v.map fun n:Nd=>n.e.it.k).set k x.e.it.k) ((v.map fun n:Nd=>n.e.it.i).set k x.e.it.i) ((v.map fun n:Nd=>n.e.here).set k x.e.here) ((v.map fun n:Nd=>n.e.tf).set k x.e.tf) ((v.map fun n:Nd=>n.e.tk.k).set k x.e.tk.k) ((v.map fun n:Nd=>n.e.tk.i).set k x.e.tk.i) ((v.map fun n:Nd=>n.l.i).set k x.l.i) ((v.map fun n:Nd=>n.l.g).set k x.l.g) ((v.map fun n:Nd=>n.r.i).set k x.r.i) ((v.map fun n:Nd=>n.r.g).set k x.r.g) ((v.map fun n:Nd=>n.all.n).set k x.all.n) ((v.map fun n:Nd=>n.all.sum.c.n).set k x.all.sum.c.n) ((v.map fun n:Nd=>n.all.sum.c.s).set k x.all.sum.c.s) ((v.map fun n:Nd=>n.all.sum.c.l).set k x.all.sum.c.l) ((v.map fun n:Nd=>n.all.sum.w.n).set k x.all.sum.w.n) ((v.map fun n:Nd=>n.all.sum.w.s).set k x.all.sum.w.s) ((v.map fun n:Nd=>n.all.sum.w.l).set k x.all.sum.w.l) ((v.map fun n:Nd=>n.all.sum.d).set k x.all.sum.d) ((v.map fun n:Nd=>n.all.sum.f).set k x.all.sum.f) ((v.map fun n:Nd=>n.all.sum.m.k).set k x.all.sum.m.k) ((v.map fun n:Nd=>n.all.sum.m.i).set k x.all.sum.m.i) ((v.map fun n:Nd=>n.all.sum.gf).set k x.all.sum.gf) ((v.map fun n:Nd=>n.all.sum.g.k).set k x.all.sum.g.k) ((v.map fun n:Nd=>n.all.sum.g.i).set k x.all.sum.g.i) ((v.map fun n:Nd=>n.all.sum.lf).set k x.all.sum.lf) ((v.map fun n:Nd=>n.all.sum.l.k).set k x.all.sum.l.k) ((v.map fun n:Nd=>n.all.sum.l.i).set k x.all.sum.l.i) ((v.map fun n:Nd=>n.h).set k x.h) g b
def cG (v:List Nd) (k:Nat) (x:Nd) (g:List Int) (b:List Bool):List aW:=cV (((v.map fun n:Nd=>n.e.t)++[0]).set k x.e.t) (((v.map fun n:Nd=>n.e.ins)++[an]).set k x.e.ins) (((v.map fun n:Nd=>n.e.it.k)++[0]).set k x.e.it.k) (((v.map fun n:Nd=>n.e.it.i)++[0]).set k x.e.it.i) (((v.map fun n:Nd=>n.e.here)++[an]).set k x.e.here) (((v.map fun n:Nd=>n.e.tf)++[an]).set k x.e.tf) (((v.map fun n:Nd=>n.e.tk.k)++[0]).set k x.e.tk.k) (((v.map fun n:Nd=>n.e.tk.i)++[0]).set k x.e.tk.i) (((v.map fun n:Nd=>n.l.i)++[0]).set k x.l.i) (((v.map fun n:Nd=>n.l.g)++[0]).set k x.l.g) (((v.map fun n:Nd=>n.r.i)++[0]).set k x.r.i) (((v.map fun n:Nd=>n.r.g)++[0]).set k x.r.g) (((v.map fun n:Nd=>n.all.n)++[0]).set k x.all.n) (((v.map fun n:Nd=>n.all.sum.c.n)++[0]).set k x.all.sum.c.n) (((v.map fun n:Nd=>n.all.sum.c.s)++[0]).set k x.all.sum.c.s) (((v.map fun n:Nd=>n.all.sum.c.l)++[0]).set k x.all.sum.c.l) (((v.map fun n:Nd=>n.all.sum.w.n)++[0]).set k x.all.sum.w.n) (((v.map fun n:Nd=>n.all.sum.w.s)++[0]).set k x.all.sum.w.s) (((v.map fun n:Nd=>n.all.sum.w.l)++[0]).set k x.all.sum.w.l) (((v.map fun n:Nd=>n.all.sum.d)++[0]).set k x.all.sum.d) (((v.map fun n:Nd=>n.all.sum.f)++[0]).set k x.all.sum.f) (((v.map fun n:Nd=>n.all.sum.m.k)++[0]).set k x.all.sum.m.k) (((v.map fun n:Nd=>n.all.sum.m.i)++[0]).set k x.all.sum.m.i) (((v.map fun n:Nd=>n.all.sum.gf)++[an]).set k x.all.sum.gf) (((v.map fun n:Nd=>n.all.sum.g.k)++[0]).set k x.all.sum.g.k) (((v.map fun n:Nd=>n.all.sum.g.i)++[0]).set k x.all.sum.g.i) (((v.map fun n:Nd=>n.all.sum.lf)++[an]).set k x.all.sum.lf) (((v.map fun n:Nd=>n.all.sum.l.k)++[0]).set k x.all.sum.l.k) (((v.map fun n:Nd=>n.all.sum.l.i)++[0]).set k x.all.sum.l.i) (((v.map fun n:Nd=>n.h)++[0]).set k x.h) g b
def gM (v:List Nd) (k:Nat):List Value:=[.int .i64 ((v.map fun n:Nd=>n.e.t).getD k 0),.bool ((v.map fun n:Nd=>n.e.ins).getD k an),.int .i64 ((v.map fun n:Nd=>n.e.it.k).getD k 0),.int .i64 ((v.map fun n:Nd=>n.e.it.i).getD k 0),.bool ((v.map fun n:Nd=>n.e.here).getD k an),.bool ((v.map fun n:Nd=>n.e.tf).getD k an),.int .i64 ((v.map fun n:Nd=>n.e.tk.k).getD k 0),.int .i64 ((v.map fun n:Nd=>n.e.tk.i).getD k 0),.int .i64 ((v.map fun n:Nd=>n.l.i).getD k 0),.int .i64 ((v.map fun n:Nd=>n.l.g).getD k 0),.int .i64 ((v.map fun n:Nd=>n.r.i).getD k 0),.int .i64 ((v.map fun n:Nd=>n.r.g).getD k 0),.int .i64 ((v.map fun n:Nd=>n.all.n).getD k 0),.int .i64 ((v.map fun n:Nd=>n.all.sum.c.n).getD k 0),.int .i64 ((v.map fun n:Nd=>n.all.sum.c.s).getD k 0),.int .i64 ((v.map fun n:Nd=>n.all.sum.c.l).getD k 0),.int .i64 ((v.map fun n:Nd=>n.all.sum.w.n).getD k 0),.int .i64 ((v.map fun n:Nd=>n.all.sum.w.s).getD k 0),.int .i64 ((v.map fun n:Nd=>n.all.sum.w.l).getD k 0),.int .i64 ((v.map fun n:Nd=>n.all.sum.d).getD k 0),.int .i64 ((v.map fun n:Nd=>n.all.sum.f).getD k 0),.int .i64 ((v.map fun n:Nd=>n.all.sum.m.k).getD k 0),.int .i64 ((v.map fun n:Nd=>n.all.sum.m.i).getD k 0),.bool ((v.map fun n:Nd=>n.all.sum.gf).getD k an),.int .i64 ((v.map fun n:Nd=>n.all.sum.g.k).getD k 0),.int .i64 ((v.map fun n:Nd=>n.all.sum.g.i).getD k 0),.bool ((v.map fun n:Nd=>n.all.sum.lf).getD k an),.int .i64 ((v.map fun n:Nd=>n.all.sum.l.k).getD k 0),.int .i64 ((v.map fun n:Nd=>n.all.sum.l.i).getD k 0),.int .i64 ((v.map fun n:Nd=>n.h).getD k 0)]
def Ru (m:Pl):Hp Empty :=
 [aa (.inl (186,[.slice (aa ⟨1,0,aa 32000⟩) m.vs.length 0,.slice (aa ⟨2,0,aa 1000⟩) m.free.length 0,.int .i64 m.held,.int .i64 m.cap,.int .i64 m.cW])),
 aa (.inr (.inl (189,⟨di,m.vs.length,cM m.vs m.dE m.live⟩))),
 aa (.inr (.inl (3,⟨[.int .i64 0],m.free.length,[⟨m.free,[],[]⟩]⟩)))]
end G8
namespace G8
open Rx
inductive Rs
 |da (m:Pl)
def lay:Rs->Hp Empty
 |.da m=>Ru m
def L:EP Rs Empty where
 lay:=lay
 ne x:=by cases x<;>exact sF _
 own x b X h:=by cases x<;>exact Cm rfl h
 ins x:=by cases x<;>rfl
def D:fJ Rs:=F9 sR L
end G8
namespace Rx
open Go.RowKit State
section
variable {R R0:Type} {D0:fJ R0} {L:EP R R0} {P:Program}
structure Up (L:EP R R0) (c:je R0) (args:List Value) (hh:Hp R) (x:Out R):Prop where
 ex:∃ x0,rU c ao (lR (off L hh) args) (xV L hh)/\c.go ao (lR (off L hh) args) (xV L hh)=aa x0/\x0.vc/\x0.hp=xV L x.hp/\x0.v=gh (off L x.hp) x.v
 off:F3 (fun b=>fp (Rx.off L x.hp b) (Rx.off L hh b)) hh.length=ao
 ins:sX x.hp.length x.hp=ao
theorem np {f:FuncId} {c:je R0} {spec:Prim R} (hc:b9 D0 P f c)
  (H:∀ args hh x,spec args hh=aa x->hh.length≤x.hp.length/\(∀ b,x.lit=aa b->x.v=.bool b)/\(x.wr=[]->x.hp=hh)/\(x.vc->Up L c args hh x)) :
  b9 (F9 D0 L) P f (a9 spec):=by
 refine pZ ⟨(hc ao).known,fun args hh x _ hx C ρ ft w hm hv hi=>?_,fun args hh x hx=>(H args hh x hx).1,fun args hh x hx=>(H args hh x hx).2.1,fun args hh x hx=>(H args hh x hx).2.2.1⟩
 obtain⟨_,_,_,h4⟩:=H args hh x hx;obtain⟨⟨x0,q0,q1,q2,q3,q4⟩,q5,q6⟩:=h4 hv;obtain⟨ρ1,ft1,o1,o2⟩:=hm.open_;have hargs:args.map (bS ρ)=(lR (off L hh) args).map (bS ρ1):=by
  rw[rL,← lp,← lp];exact(qq (n:=hh.length) (fun b hb=>o1 b hb) args hi).symm
 rw[hargs];have j8:iC (xV L hh).length (lR (off L hh) args)=ao:=we (n:=hh.length) (fun b hb=>by
  have:=GU (L:=L) hh (b:=b) (i:=0) hb (u7 _)
  simpa using this) args hi
 refine((hc ao).run _ _ x0 q0 q1 C ρ1 ft1 w o2 q2 j8).mono fun e w' ⟨gx,ky,g1,g2,g3⟩=>?_
 rw[q3] at g3;refine⟨_,_,fun b hb=>?_,?_,g3.close_ q6⟩
 ·show gx (off L x.hp b)=ρ b
  have h6:off L hh b<(xV L hh).length:=by
   have:=GU (L:=L) hh (b:=b) (i:=0) hb (u7 _)
   simpa using this
  have:=zL q5 hb;rw[Nat.eq_of_beq_eq_true this,g1 _ h6,o1 b hb]
 ·rw[g2,q4,CN]
end
end Rx
namespace Gv
open Rx
set_option linter.unusedSectionVars false
section
variable {E A:Type} (O:iO E A)
def lo (e:E) (l:List (Ref×E)):List (Ref×E):=l.takeWhile fun x=>decide (0<O.cmp e x.2)
def hi (e:E) (l:List (Ref×E)):List (Ref×E):=l.dropWhile fun x=>decide (0<O.cmp e x.2)
def tR (e:E) (l:List (Ref×E)):Option (Ref×E) :=
 match hi O e l with
 |[]=>aj
 |x::_=>if O.cmp e x.2=0 then aa x else aj
def tQ (l:List (Ref×E)):Prop:=l.Pairwise fun a b=>O.cmp a.2 b.2<0
theorem Af (e:E) (l:List (Ref×E)):lo O e l++hi O e l=l:=Ae
variable {O} {S:List E->A} {dp:List E->Prop} (Z:yG O S dp)
theorem J5 {α:Type} (p:α->Bool):∀ (l q:List α),(∀ x∈l,p x=ao)->(l++q).takeWhile p=l++q.takeWhile p/\(l++q).dropWhile p=q.dropWhile p
 |[],q,_=>⟨rfl,rfl⟩
 |a::l,q,h=>by
  obtain⟨h1,h2⟩:=J5 p l q fun x hx=>h x (eo _ hx)
  have ha:=h a bL;simp[sK,sL,ha,h1,h2]
theorem RF {α:Type} (p:α->Bool) (a:α) (q:List α) (ha:p a=an):∀ l:List α,(l++a::q).takeWhile p=l.takeWhile p/\(l++a::q).dropWhile p=l.dropWhile p++a::q
 |[]=>by simp[sK,sL,ha]
 |b::l=>by
  obtain⟨h1,h2⟩:=RF p a q ha l;simp only[mw,sK,sL];split
  ·exact⟨by rw[h1],h2⟩
  ·exact⟨rfl,rfl⟩
theorem TD {e:E} {l q:List (Ref×E)} {r:Ref} {x:E} (h:O.cmp e x<0):lo O e (l++(r,x)::q)=lo O e l/\hi O e (l++(r,x)::q)=hi O e l++(r,x)::q :=
 RF _ _ _ (by simp;omega) _
include Z in
theorem tQ.ahead {l q:List (Ref×E)} {r:Ref} {x e:E} (hs:tQ O (l++(r,x)::q)) (h:0≤O.cmp e x):∀ y∈l,decide (0<O.cmp e y.2)=ao:=by
 intro y hy;have h1:O.cmp y.2 x<0:=(nD.1 hs).2.2 y hy (r,x) bL;refine decide_eq_true ((Z.swap _ _).1 ?_);rcases Int.lt_or_eq_of_le h with h2|h2
 ·exact Z.trans _ _ _ h1 ((Z.swap _ _).2 h2)
 ·exact Z.aaa _ _ _ h2.symm h1
include Z in
theorem Lm {e:E} {l q:List (Ref×E)} {r:Ref} {x:E} (hs:tQ O (l++(r,x)::q)) (h:0<O.cmp e x):lo O e (l++(r,x)::q)=l++(r,x)::lo O e q/\hi O e (l++(r,x)::q)=hi O e q:=by
 obtain⟨h1,h2⟩:=J5 (fun y:Ref×E=>decide (0<O.cmp e y.2)) l ((r,x)::q) (hs.ahead Z (by omega))
 have hx:decide (0<O.cmp e x)=ao:=decide_eq_true h;unfold lo hi;rw[h1,h2,sK,sL,if_pos hx,if_pos hx];exact⟨rfl,rfl⟩
include Z in
theorem YU {e:E} {l q:List (Ref×E)} {r:Ref} {x:E} (hs:tQ O (l++(r,x)::q)) (h:O.cmp e x=0):lo O e (l++(r,x)::q)=l/\hi O e (l++(r,x)::q)=(r,x)::q:=by
 obtain⟨h1,h2⟩:=J5 (fun y:Ref×E=>decide (0<O.cmp e y.2)) l ((r,x)::q) (hs.ahead Z (by omega))
 have hx:¬ decide (0<O.cmp e x)=ao:=by simp;omega
 unfold lo hi;rw[h1,h2,sK,sL,if_neg hx,if_neg hx];simp
theorem Jz {e:E} {l q:List (Ref×E)} {r:Ref} {x:E} (h:O.cmp e x<0):tR O e (l++(r,x)::q)=tR O e l:=by
 unfold tR;rw[(TD h).2];cases hl:hi O e l with
 |nil=>simp only[pd];rw[if_neg (by omega)]
 |cons y tl=>rfl
include Z in
theorem J' {e:E} {l q:List (Ref×E)} {r:Ref} {x:E} (hs:tQ O (l++(r,x)::q)) (h:0<O.cmp e x):tR O e (l++(r,x)::q)=tR O e q:=by
 unfold tR;rw[(Lm Z hs h).2]
include Z in
theorem Kz {e:E} {l q:List (Ref×E)} {r:Ref} {x:E} (hs:tQ O (l++(r,x)::q)) (h:O.cmp e x=0):tR O e (l++(r,x)::q)=aa (r,x):=by
 unfold tR;rw[(YU Z hs h).2];simp only;rw[if_pos h]
theorem tK {e:E} {l:List (Ref×E)} {x:Ref×E} (h:tR O e l=aa x):hi O e l=x::(hi O e l).tail/\O.cmp e x.2=0/\x∈l:=by
 unfold tR at h;split at h
 ·cases h
 ·rename_i y tl hy;split at h
  ·rename_i hc;injection h with h
   subst h;rw[hy];refine⟨rfl,hc,?_⟩;rw[← Af O e l,hy];simp
  ·cases h
theorem tQ.left {l q:List (Ref×E)} (h:tQ O (l++q)):tQ O l:=(nD.1 h).1
theorem tQ.right {l q:List (Ref×E)} (h:tQ O (l++q)):tQ O q:=(nD.1 h).2.1
abbrev gd (dp:List E->Prop) (l:List (Ref×E)):Prop:=dp (l.map av)
abbrev rf (l:List (Ref×E)):List Ref:=l.map ax
theorem Tr.n7 (r:Ref) (l:Tr E) (e:E) (q:Tr E):(Tr.node r l e q).items=l.items++(r,e)::q.items:=rfl
include Z
theorem QA {n:Nat} {f:Ref} {e:E}:∀ (t:Tr E) {k:Nat} {m:Po E A},fY n m->Rp O S m t->t.mB->tQ O t.items->(f::t.refs).Nodup->has m f=ao ->
  lk O m f=⟨e,r0,r0,one O e,1⟩->tR O e t.items=aj->gd dp (lo O e t.items++(f,e)::hi O e t.items)->t.h<k ->
  ∃ t',Is O S (kZ O k m t.root f e).2 (kZ O k m t.root f e).1 (lo O e t.items++(f,e)::hi O e t.items) t'/\t.h≤t'.h/\t'.h≤t.h+1/\iM (f::t.refs) (30*t.h+1) (zn O) m (kZ O k m t.root f e).2
 |t,0,m,_,_,_,_,_,_,_,_,_,hk=>by omega
 |.nil,k+1,m,ho,hr,hb,hs,hn,hf,XQ,hh,hg,hk=>by
  have h0:(lk O m (Tr.nil (E:=E)).root).h=0:=by rw[(show Rp O S m .nil from trivial).root ho];rfl
  rw[kZ,if_pos h0];refine⟨.node f .nil e .nil,⟨rfl,⟨by simpa using hf,?_,trivial,trivial⟩,rfl,⟨trivial,trivial,by simp[Tr.h],by simp[Tr.h]⟩⟩,by simp[Tr.h],by simp[Tr.h],(gE _ _ _).mono (fun s hs=>by cases hs) (by omega)⟩
  rw[ir,XQ,qX];simp[Tr.items,Tr.elems,Tr.h,Tr.root,one,Z.one]
 |.node r l x q,k+1,m,ho,hr,hb,hs,hn,hf,XQ,hh,hg,hk=>by
  have hrt:=hr.root ho;obtain⟨sQ,mU,lZ,mf⟩:=hr;obtain⟨b1,b2,b3,b4⟩:=hb;have h0:¬ (lk O m r).h=0:=by rw[mU,rj];simp only[Tr.h];omega
  simp only[Tr.root];rw[Tr.n7] at hs hh hg ⊢;rw[Tr.jK] at hn ⊢;rw[kZ,if_neg h0,mU,qX];simp only[Tr.h] at hk ⊢;have kz:O.cmp e x≠0:=fun hx=>by rw[Kz Z hs hx] at hh;cases hh
  by_cases hc:O.cmp e x<0
  ·rw[if_pos hc];obtain⟨e1,e2⟩:=TD (l:=l.items) (q:=q.items) (r:=r) hc;rw[e1,e2] at hg ⊢;rw[Jz hc] at hh;have Oi:gd dp (lo O e l.items++(f,e)::hi O e l.items):=Z.left _ ((x::q.elems)) (by simpa [gd,Tr.elems] using hg)
   have hn1:(f::l.refs).Nodup:=(cf (l₂:=r::q.refs).1 (by simpa using hn)).1
   obtain⟨t',h1,h2,h3,h4⟩:=QA l (k:=k) (m:=aE m r) (df.2 ho) (lZ.aE _) b1 hs.left hn1 (by simpa using hf) (by rw[ir];exact XQ) hh Oi (by omega)
   have hu:iM (f::l.refs) (30*l.h+2) (zn O) m (kZ O k (aE m r) l.root f e).2:=(gE _ m r).to h4 (fun s hs=>by simpa using hs) (by omega)
   have hrefs:t'.refs=rf (lo O e l.items)++f::rf (hi O e l.items):=by simp[Tr.refs,h1.h9]
   have Ud:l.refs=rf (lo O e l.items)++rf (hi O e l.items):=by rw[Tr.refs];conv=>lhs;rw[← Af O e l.items];simp
   have hnd:(t'.refs++r::q.refs).Nodup:=by
    rw[hrefs];rw[Ud] at hn;have:(rf (lo O e l.items)++f::(rf (hi O e l.items)++r::q.refs)).Nodup:=yX.nodup_iff.2 (by simpa using hn)
    simpa using this
   have hni:∀ s,s∈r::q.refs->s∉f::l.refs:=fun s hs rV=>(cf (l₁:=f::l.refs) (l₂:=r::q.refs).1 (by simpa using hn)).2.2 s rV s hs rfl
   rw[h1.root];obtain⟨u,u1,u2,u3,u4,u5⟩:=yR Z (m:=(kZ O k (aE m r) l.root f e).2) (xD.2 (df.2 ho)) (r:=r) (l:=t') (q:=q)
    (v:=⟨x,t'.root,q.root,⟨(Tr.node r l x q).items.length,S (Tr.node r l x q).elems⟩,((Tr.node r l x q).h:Nat)⟩) h1.rp (Rp.frame hu (fun s hs=>hni s (by simp[hs])) mf) (by rw[hu.has];exact sQ) hnd rfl rfl
    (by rw[Tr.elems,h1.h9];simpa [gd,Tr.elems] using hg) h1.mB b2 (by omega) (by omega)
   refine⟨u,⟨u1.root,u1.rp,by rw[u1.h9,h1.h9];simp,u1.mB⟩,?_,by omega,hu.to u5 (fun s hs=>?_) (by omega)⟩
   ·rcases cr (q.h+1) t'.h with hx|hx
    ·omega
    ·have:=u4 hx (by omega);omega
   ·rw[hrefs] at hs;rw[Ud] at hs ⊢;simp only[bO,b7] at hs ⊢;rcases hs with(h|h|h)|(h|h|h)|h|h<;>simp[h]
  ·rw[if_neg hc];have pT:0<O.cmp e x:=by omega
   obtain⟨e1,e2⟩:=Lm Z hs pT;rw[e1,e2] at hg ⊢;rw[J' Z hs pT] at hh;have Oi:gd dp (lo O e q.items++(f,e)::hi O e q.items):=Z.right (l.elems++[x]) _ (by simpa [gd,Tr.elems] using hg)
   have uo:=fH.1 hn;have hn1:(f::q.refs).Nodup:=fH.2 ⟨fun h=>uo.1 (by simp[h]),(fH.1 (cf.1 uo.2).2.1).2⟩
   have Kq:tQ O q.items:=(gD.1 hs.right).2;obtain⟨t',h1,h2,h3,h4⟩:=QA q (k:=k) (m:=aE m r) (df.2 ho) (mf.aE _) b2 Kq hn1 (by simpa using hf) (by rw[ir];exact XQ) hh Oi (by omega)
   have hu:iM (f::q.refs) (30*q.h+2) (zn O) m (kZ O k (aE m r) q.root f e).2:=(gE _ m r).to h4 (fun s hs=>by simpa using hs) (by omega)
   have hrefs:t'.refs=rf (lo O e q.items)++f::rf (hi O e q.items):=by simp[Tr.refs,h1.h9]
   have Ud:q.refs=rf (lo O e q.items)++rf (hi O e q.items):=by rw[Tr.refs];conv=>lhs;rw[← Af O e q.items];simp
   have hnd:(l.refs++r::t'.refs).Nodup:=by
    rw[hrefs];rw[Ud] at hn;have:((l.refs++r::rf (lo O e q.items))++f::rf (hi O e q.items)).Nodup:=yX.nodup_iff.2 (by simpa using hn)
    simpa using this
   have hni:∀ s,s∈l.refs++[r]->s∉f::q.refs:=fun s hs rV=>by
    rcases bO.1 rV with rfl|rV
    ·refine uo.1 ?_;rcases b7.1 hs with h|h
     ·simp[h]
     ·simp at h;simp[h]
    ·have:((l.refs++[r])++q.refs).Nodup:=by simpa using uo.2
     exact(cf.1 this).2.2 s hs s rV rfl
   rw[h1.root];obtain⟨u,u1,u2,u3,u4,u5⟩:=yR Z (m:=(kZ O k (aE m r) q.root f e).2) (xD.2 (df.2 ho)) (r:=r) (l:=l) (q:=t')
    (v:=⟨x,l.root,t'.root,⟨(Tr.node r l x q).items.length,S (Tr.node r l x q).elems⟩,((Tr.node r l x q).h:Nat)⟩) (Rp.frame hu (fun s hs=>hni s (by simp[hs])) lZ) h1.rp (by rw[hu.has];exact sQ) hnd rfl rfl
    (by rw[show t'.elems=t'.items.map av from rfl,h1.h9];simpa [gd,Tr.elems] using hg) b1 h1.mB (by omega) (by omega)
   refine⟨u,⟨u1.root,u1.rp,by rw[u1.h9,h1.h9];simp,u1.mB⟩,?_,by omega,hu.to u5 (fun s hs=>?_) (by omega)⟩
   ·rcases cr (l.h+1) t'.h with hx|hx
    ·omega
    ·have:=u4 (by omega) hx;omega
   ·rw[hrefs] at hs;rw[Ud] at hs ⊢;simp only[bO,b7] at hs ⊢;rcases hs with(h|h|h)|h|h|h|h|h<;>simp[h]
end
end Gv
namespace Gv
open Rx
set_option linter.unusedSectionVars false
section
variable {E A:Type} {O:iO E A} {S:List E->A} {dp:List E->Prop} (Z:yG O S dp)
theorem Tr.wX (r:Ref) (l:Tr E) (e:E) (q:Tr E):(Tr.node r l e q).root=r:=rfl
theorem Bx {n:Nat}:∀ (t:Tr E) {k:Nat} {m:Po E A},fY n m->Rp O S m t->t.h<k->Deep O k m t.root
 |t,0,m,_,_,hk=>by omega
 |.nil,k+1,m,ho,hr,hk=>.inl (by rw[hr.root ho];rfl)
 |.node r l x q,k+1,m,ho,⟨sQ,mU,lZ,mf⟩,hk=>by
  simp only[Tr.h] at hk;refine .inr ?_;simp only[Tr.root];rw[mU,qX];exact⟨Bx l ho lZ (by omega),Bx q ho mf (by omega)⟩
theorem Rp.elem {m:Po E A}:∀ {t:Tr E},Rp O S m t->∀ p,p∈t.items->(lk O m p.1).e=p.2
 |.nil,_,p,hp=>by cases hp
 |.node r l x q,⟨h1,h2,h3,h4⟩,p,hp=>by
  rw[Tr.n7,b7,bO] at hp;rcases hp with hp|rfl|hp
  ·exact Rp.elem h3 p hp
  ·rw[h2];rfl
  ·exact Rp.elem h4 p hp
theorem ace {e:E} {l q:List (Ref×E)} {r:Ref} {x:E} (h:¬ 0<O.cmp e x):lo O e (l++(r,x)::q)=lo O e l/\hi O e (l++(r,x)::q)=hi O e l++(r,x)::q :=
 RF _ _ _ (by grind) _
theorem Md {n:Nat} {m:Po E A} (ho:fY n m) {t:Tr E} (h:Rp O S m t) (hr:t.root=r0):t=.nil:=by grind[aga]
theorem aer (m:Po E A) (a b c:Ref):iM [] 3 (zn O) m (aE (aE (aE m a) b) c):=(tH m a b).to (gE _ _ c) (fun r hr=>by simp at hr) (a_ _)
include Z
theorem Hu {n:Nat} {b:Ref} {e:E}:∀ (k:Nat) (l q:Tr E) {m:Po E A},fY n m->Rp O S m l->Rp O S m q->has m b=ao->(lk O m b).e=e->(l.refs++b::q.refs).Nodup->dp (l.elems++e::q.elems)->l.mB->q.mB->l.h+q.h<k ->
  tj O k m l.root b q.root/\∃ t,Is O S (link O k m l.root b q.root).2 (link O k m l.root b q.root).1 (l.items++(b,e)::q.items) t/\max l.h q.h≤t.h/\t.h≤max l.h q.h+1/\(l.h≤q.h+1->q.h≤l.h+1->t.h=max l.h q.h+1) /\
   iM (l.refs++b::q.refs) (30*(l.h+q.h)+4) (zn O) m (link O k m l.root b q.root).2
 |0,l,q,m,_,_,_,_,_,_,_,_,_,hk=>by omega
 |k+1,l,q,m,ho,hl,hq,hb,he,lS,hg,bl,bq,hk=>by
  have k1:lk O m l.root=nd O S l:=hl.root ho;have k2:lk O m q.root=nd O S q:=hq.root ho;have hlen:=Z.len _ hg;have h1:=l.A5;have h2:=q.A5;simp only[bF,cy,Tr.e9] at hlen;have w1:W ((q.h:Int)+1)=(q.h:Int)+1:=ua (by omega)
  have w2:W ((l.h:Int)+1)=(l.h:Int)+1:=ua (by omega)
  have ho2:fY n (aE (aE m l.root) q.root):=df.2 (df.2 ho);have ru:=lS;simp only[cf,fH,b7,bO,not_or] at ru;rw[tj,link];simp only[ir,k1,k2,rj,w1,w2]
  by_cases c1:(l.h:Int)>q.h+1
  ·rw[if_pos c1,if_pos c1];cases l with
   |nil=>simp only[Tr.h] at c1;omega
   |node a ll x lr =>
    obtain⟨zk,Bo,yf,yr⟩:=hl;obtain⟨bl1,bl2,bl3,bl4⟩:=bl;simp only[Tr.h] at c1 hk;simp only[qX,Tr.wX,Tr.h];rw[Tr.jK] at lS ⊢;rw[Tr.gG] at hg;have IB:(ll.refs++a::(lr.refs++b::q.refs)).Nodup:=by simpa using lS
    obtain⟨d,t',i1,i2,i3,i4,i5⟩:=Hu k lr q (m:=aE (aE m a) q.root) (df.2 (df.2 ho)) ((yr.aE _).aE _) ((hq.aE _).aE _) (by simpa using hb) (by simpa using he) (fH.1 (cf.1 IB).2.1).2
     (Z.right (ll.elems++[x]) _ (by simpa using hg)) bl2 bq (by omega)
    have hu:=(tH (O:=O) m a q.root).to i5 (S:=lr.refs++b::q.refs) (k:=30*(lr.h+q.h)+6) (fun s hs=>by simpa using hs) (by omega)
    have tP:t'.refs=lr.refs++b::q.refs:=by rw[Tr.refs,i1.h9];simp[Tr.refs]
    have vK:t'.elems=lr.elems++e::q.elems:=by rw[Tr.elems,i1.h9];simp[Tr.elems]
    have Uq:∀ s,s∈ll.refs++[a]->s∉lr.refs++b::q.refs:=fun s hs rV=>by
     have:((ll.refs++[a])++(lr.refs++b::q.refs)).Nodup:=by simpa using IB
     exact(cf.1 this).2.2 s hs s rV rfl
    refine⟨d,?_⟩;rw[i1.root];obtain⟨u,u1,u2,u3,u4,u5⟩:=yR Z (m:=(link O k (aE (aE m a) q.root) lr.root b q.root).2) (xy.2 (df.2 (df.2 ho))) (r:=a) (l:=ll) (q:=t')
     (v:=⟨x,ll.root,t'.root,⟨(Tr.node a ll x lr).items.length,S (Tr.node a ll x lr).elems⟩,((Tr.node a ll x lr).h:Nat)⟩) (Rp.frame hu (fun s hs=>Uq s (by simp[hs])) yf) i1.rp (by rw[hu.has];exact zk)
     (by rw[tP];exact IB) rfl rfl (by rw[vK];simpa using hg) bl1 i1.mB (by omega) (by omega)
    simp only[Tr.h] at u4 u5 ⊢;refine⟨u,⟨u1.root,u1.rp,by rw[u1.h9,i1.h9];simp[Tr.items],u1.mB⟩,?_,?_,fun _ _=>by omega,hu.to u5 (fun s hs=>?_) (by omega)⟩
    ·rcases cr (ll.h+1) t'.h with hx|hx
     ·omega
     ·have:=u4 (by omega) hx;omega
    ·rcases cr (ll.h+1) t'.h with hx|hx
     ·omega
     ·have:=u4 (by omega) hx;omega
    ·rw[tP] at hs;simp only[b7,bO] at hs ⊢;rcases hs with(h|h|h)|h|h|h|h|h<;>simp[h]
  ·rw[if_neg c1,if_neg c1]
   by_cases c2:(q.h:Int)>l.h+1
   ·rw[if_pos c2,if_pos c2];cases q with
    |nil=>simp only[Tr.h] at c2;omega
    |node a ql x qr =>
     obtain⟨sh,FP,X9,hq4⟩:=hq;obtain⟨bq1,bq2,bq3,bq4⟩:=bq;simp only[Tr.h] at c2 hk;simp only[qX,Tr.wX,Tr.h];rw[Tr.jK] at lS ⊢;rw[Tr.gG] at hg;have IB:((l.refs++b::ql.refs)++a::qr.refs).Nodup:=by simpa using lS
     obtain⟨d,t',i1,i2,i3,i4,i5⟩:=Hu k l ql (m:=aE (aE m l.root) a) (df.2 (df.2 ho)) ((hl.aE _).aE _) ((X9.aE _).aE _) (by simpa using hb) (by simpa using he) (cf.1 IB).1
      (Z.left _ (x::qr.elems) (by simpa using hg)) bl bq1 (by omega)
     have hu:=(tH (O:=O) m l.root a).to i5 (S:=l.refs++b::ql.refs) (k:=30*(l.h+ql.h)+6) (fun s hs=>by simpa using hs) (by omega)
     have tP:t'.refs=l.refs++b::ql.refs:=by rw[Tr.refs,i1.h9];simp[Tr.refs]
     have vK:t'.elems=l.elems++e::ql.elems:=by rw[Tr.elems,i1.h9];simp[Tr.elems]
     have Uq:∀ s,s∈a::qr.refs->s∉l.refs++b::ql.refs:=fun s hs rV=>(cf.1 IB).2.2 s rV s hs rfl
     refine⟨d,?_⟩;rw[i1.root];obtain⟨u,u1,u2,u3,u4,u5⟩:=yR Z (m:=(link O k (aE (aE m l.root) a) l.root b ql.root).2) (xy.2 (df.2 (df.2 ho))) (r:=a) (l:=t') (q:=qr)
      (v:=⟨x,t'.root,qr.root,⟨(Tr.node a ql x qr).items.length,S (Tr.node a ql x qr).elems⟩,((Tr.node a ql x qr).h:Nat)⟩) i1.rp (Rp.frame hu (fun s hs=>Uq s (by simp[hs])) hq4) (by rw[hu.has];exact sh)
      (by rw[tP];exact IB) rfl rfl (by rw[vK];simpa using hg) i1.mB bq2 (by omega) (by omega)
     simp only[Tr.h] at u4 u5 ⊢;refine⟨u,⟨u1.root,u1.rp,by rw[u1.h9,i1.h9];simp[Tr.items],u1.mB⟩,?_,?_,fun _ _=>by omega,hu.to u5 (fun s hs=>?_) (by omega)⟩
     ·rcases cr (qr.h+1) t'.h with hx|hx
      ·omega
      ·have:=u4 hx (by omega);omega
     ·rcases cr (qr.h+1) t'.h with hx|hx
      ·omega
      ·have:=u4 hx (by omega);omega
     ·rw[tP] at hs;simp only[b7,bO] at hs ⊢;rcases hs with(h|h|h)|(h|h|h)|h|h<;>simp[h]
   ·rw[if_neg c2,if_neg c2];refine⟨trivial,?_⟩;obtain⟨s1,s2⟩:=Qx Z (m:=aE (aE (aE m l.root) q.root) b) (r:=b) (l:=l) (q:=q) (v:=⟨(lk O m b).e,l.root,q.root,(lk O m b).all,(lk O m b).h⟩) (df.2 ho2) (((hl.aE _).aE _).aE _) (((hq.aE _).aE _).aE _) (by simpa using hb)
     (fun h=>ru.2.2 b h b (dK rfl) rfl) (fun h=>ru.2.1.1 h) rfl rfl (by simpa [he] using hg)
    simp only[he] at s1 s2 ⊢;refine⟨.node b l e q,⟨rfl,s1,rfl,⟨bl,bq,by omega,by omega⟩⟩,?_,?_,?_,(aer m l.root q.root b).to s2 (fun s hs=>by simp at hs;subst hs;simp) (by omega)⟩
    ·simp only[Tr.h];omega
    ·simp only[Tr.h];omega
    ·intro _ _;simp only[Tr.h];omega
theorem Wd {n:Nat}:∀ (t:Tr E) {k:Nat} {m:Po E A},fY n m->Rp O S m t->t.mB->t.refs.Nodup->dp t.elems->t≠.nil->t.h≤k ->
  sw O k m t.root/\∃ f x tl t',t.items=(f,x)::tl/\Is O S (iL O k m t.root).2.2 (iL O k m t.root).1 tl t'/\(iL O k m t.root).2.1=f/\t.h≤t'.h+1/\t'.h≤t.h/\iM (rf tl) (30*t.h) (zn O) m (iL O k m t.root).2.2
 |.nil,k,m,_,_,_,_,_,hn,_=>absurd rfl hn
 |.node r l x q,0,m,_,_,_,_,_,_,hk=>by grind[Tr.h]
 |.node r l x q,k+1,m,ho,⟨sQ,mU,lZ,mf⟩,⟨b1,b2,b3,b4⟩,lS,hg,_,hk=>by
  simp only[Tr.h] at hk;simp only[Tr.root];rw[sw,iL,mU,qX];rw[Tr.jK] at lS;rw[Tr.gG] at hg
  by_cases c:l.root=r0
  ·have hl:=Md ho lZ c;subst hl;exact⟨trivial,r,x,q.items,q,rfl,⟨rfl,mf.aE _,rfl,b2⟩,rfl,by grind[Tr.h],by grind[Tr.h],(gE _ _ _).mono (fun s hs=>by cases hs) (by grind[Tr.h])⟩
  ·rw[if_neg c,if_neg c];have hln:l≠.nil:=fun h=>c (by rw[h];rfl)
   obtain⟨d,f,y,tl,t',i0,i1,i2,i3,i4,i5⟩:=Wd l (k:=k) (m:=aE m r) (df.2 ho) (lZ.aE _) b1 (cf.1 lS).1 (Z.left _ _ hg) hln (by omega)
   have hu:=(gE (zn O) m r).to i5 (S:=rf tl) (k:=30*l.h+1) (fun s hs=>by grind) (by omega)
   have Ud:l.refs=f::rf tl:=by grind[Tr.refs]
   have hle:l.elems=y::tl.map av:=by grind[Tr.elems]
   rw[Ud] at lS;rw[hle] at hg;have IB:(rf tl++r::q.refs).Nodup:=(fH.1 lS).2;have tP:t'.refs=rf tl:=by rw[Tr.refs,i1.h9]
   have vK:t'.elems=tl.map av:=by rw[Tr.elems,i1.h9]
   have Uq:∀ s,s∈r::q.refs->s∉rf tl:=fun s hs rV=>(cf.1 IB).2.2 s rV s hs rfl
   rw[i1.root];obtain⟨u,u1,u2,u3,u4,u5⟩:=yR Z (m:=(iL O k (aE m r) l.root).2.2) (vk.2 (df.2 ho)) (r:=r) (l:=t') (q:=q)
    (v:=⟨x,t'.root,q.root,⟨(Tr.node r l x q).items.length,S (Tr.node r l x q).elems⟩,((Tr.node r l x q).h:Nat)⟩) i1.rp (Rp.frame hu (fun s hs=>Uq s (by simp[hs])) mf) (by rw[hu.has];exact sQ)
    (by grind) rfl rfl (by rw[vK];exact Z.right [y] _ hg) i1.mB b2 (by omega) (by omega)
   refine⟨d,f,y,tl++(r,x)::q.items,u,by grind[Tr.n7],⟨u1.root,u1.rp,by rw[u1.h9,i1.h9],u1.mB⟩,i2,?_,?_,hu.to u5 (fun s hs=>?_) (by grind[Tr.h])⟩
   ·grind[Tr.h]
   ·grind[Tr.h]
   ·rw[tP] at hs;simp only[b7,bO,dJ,gw,rf] at hs ⊢;rcases hs with h|h|h|h
    ·grind
    ·grind
    ·grind
    ·exact .inr (.inr h)
theorem af_ {n K:Nat} {l q:Tr E} {m:Po E A} (ho:fY n m) (hl:Rp O S m l) (hq:Rp O S m q) (lS:(l.refs++q.refs).Nodup) (hg:dp (l.elems++q.elems)) (bl:l.mB) (bq:q.mB) (hk:l.h+q.h<K) :
  Dx O K m l.root q.root/\∃ t,Is O S (glue O K m l.root q.root).2 (glue O K m l.root q.root).1 (l.items++q.items) t/\(l.h≤q.h+1->q.h≤l.h+1->max l.h q.h≤t.h)/\t.h≤max l.h q.h+1 /\
   iM (l.refs++q.refs) (30*(l.h+q.h+q.h)+4) (zn O) m (glue O K m l.root q.root).2:=by
 unfold Dx glue
 by_cases c:q.root=r0
 ·have hqn:=Md ho hq c;subst hqn;exact⟨trivial,l,⟨rfl,hl,by simp[Tr.items],bl⟩,fun _ _=>by grind[Tr.h],by omega,iM.refl _ _ _ _⟩
 ·rw[if_neg c,if_neg c];have hqn:q≠.nil:=fun h=>c (by rw[h];rfl)
  obtain⟨d,f,x,tl,t',i0,i1,i2,i3,i4,i5⟩:=Wd Z q (k:=K) (m:=m) ho hq bq (cf.1 lS).2.1 (Z.right _ _ hg) hqn (by omega)
  have hqr:q.refs=f::rf tl:=by grind[Tr.refs]
  have hqe:q.elems=x::tl.map av:=by grind[Tr.elems]
  have hf:has m f=ao:=hq.has f (by grind)
  have XQ:(lk O m f).e=x:=hq.elem (f,x) (by grind)
  rw[hqr] at lS ⊢;rw[hqe] at hg;have tP:t'.refs=rf tl:=by rw[Tr.refs,i1.h9]
  have vK:t'.elems=tl.map av:=by rw[Tr.elems,i1.h9]
  have Ye:f∉rf tl:=(fH.1 (cf.1 lS).2.1).1;have Uq:∀ s,s∈l.refs->s∉rf tl:=fun s hs rV=>(cf.1 lS).2.2 s hs s (by simp[rV]) rfl
  rw[i1.root,i2];obtain⟨d2,u,u1,u2,u3,u4,u5⟩:=Hu Z K l t' (m:=(iL O K m q.root).2.2) (b:=f) (e:=x) (vk.2 ho) (Rp.frame i5 Uq hl) i1.rp (by rw[i5.has];exact hf) (by rw[show lk O (iL O K m q.root).2.2 f=lk O m f from i5.look f Ye];exact XQ)
   (by grind) (by grind) bl i1.mB (by omega)
  refine⟨⟨d,d2⟩,u,⟨u1.root,u1.rp,by rw[u1.h9,i1.h9,i0],u1.mB⟩,fun h1 h2=>?_,by omega,i5.to u5 (fun s hs=>?_) (by omega)⟩
  all_goals grind
end
end Gv
namespace Gv
open Rx
set_option linter.unusedSectionVars false
section
variable {E A:Type} {O:iO E A} {S:List E->A} {dp:List E->Prop} (Z:yG O S dp)
theorem vo (e:E) (l:List (Ref×E)):ay ax (lo O e l)++ay ax (hi O e l)=ay ax l:=by grind[Af]
include Z
theorem IQ {n:Nat} {e:E}:∀ (t:Tr E) {k:Nat} {m:Po E A},fY n m->Rp O S m t->t.mB->tQ O t.items->t.refs.Nodup->(∀ x,tR O e t.items=aa x->gd dp (lo O e t.items++(x.1,e)::(hi O e t.items).tail))->t.h<k ->
  match tR O e t.items with
  |none=>(replace O k m t.root e).1=an/\iM [] (2*t.h+1) (zn O) m (replace O k m t.root e).2
  |some x=>(replace O k m t.root e).1=ao/\∃ t',Is O S (replace O k m t.root e).2 t.root (lo O e t.items++(x.1,e)::(hi O e t.items).tail) t'/\t'.h=t.h/\iM t.refs (6*t.h+1) (zn O) m (replace O k m t.root e).2
 |t,0,m,_,_,_,_,_,_,hk=>by omega
 |.nil,k+1,m,ho,hr,hb,hs,hn,hg,hk=>by
  have h0:(lk O m (Tr.nil (E:=E)).root).h=0:=by rw[(show Rp O S m .nil from trivial).root ho];rfl
  rw[replace,if_pos h0];exact⟨rfl,(gE _ _ _).mono (fun s hs=>hs) (by omega)⟩
 |.node r l x q,k+1,m,ho,⟨sQ,mU,lZ,mf⟩,⟨b1,b2,b3,b4⟩,hs,hn,hg,hk=>by
  have h0:¬ (lk O m r).h=0:=by grind[rj,Tr.h]
  simp only[Tr.wX];rw[Tr.n7] at hs hg ⊢;rw[Tr.jK] at hn ⊢;rw[replace,if_neg h0,mU,qX];simp only[Tr.h] at hk ⊢;have ru:=hn;simp only[cf,fH,b7,bO,not_or] at ru
  by_cases hc:O.cmp e x<0
  ·rw[if_pos hc];obtain⟨e1,e2⟩:=TD (l:=l.items) (q:=q.items) (r:=r) hc;rw[e1,e2,Jz hc] at hg;rw[e1,e2,Jz hc];have ih:=IQ l (k:=k) (m:=aE m r) (df.2 ho) (lZ.aE _) b1 hs.left (cf.1 hn).1 (fun y hy=>Z.left _ (x::q.elems) (by
    have:=hg y hy;rw[(tK hy).1] at this
    simp_all[gd,Tr.elems])) (by omega)
   cases hh:tR O e l.items with
   |none =>
    rw[hh] at ih;obtain⟨i1,i2⟩:=ih;rw[if_neg (by grind)]
    exact⟨i1,(gE _ m r).to i2 (fun s hs=>by simp at hs) (by omega)⟩
   |some y =>
    rw[hh] at ih;obtain⟨i1,t',i2,i3,i4⟩:=ih;rw[if_pos i1];refine⟨rfl,?_⟩;have hgy:=hg y hh;have hy:=(tK hh).1;have hu:=(gE (zn O) m r).to i4 (S:=l.refs) (k:=6*l.h+2) (fun s hs=>by grind) (by omega)
    have tP:t'.refs=l.refs:=by rw[Tr.refs,i2.h9,Tr.refs,← vo e l.items,hy];simp
    have vK:t'.elems=(lo O e l.items).map av++e::((hi O e l.items).tail).map av:=by rw[Tr.elems,i2.h9];simp
    have Y3:t'.root=l.root:=i2.root.symm;obtain⟨p1,p2⟩:=EB Z (m:=(replace O k (aE m r) l.root e).2) (rP.2 (df.2 ho)) (r:=r) (l:=t') (q:=q) (v:=⟨x,l.root,q.root,⟨(Tr.node r l x q).items.length,S (Tr.node r l x q).elems⟩,((Tr.node r l x q).h:Nat)⟩) i2.rp
     (Rp.frame hu (fun s hs rV=>ru.2.2 s rV s (e7 hs) rfl) mf) (by rw[hu.has];exact sQ) (by grind) (fun h=>ru.2.1.1 h) Y3.symm rfl
     (by rw[vK];rw[hy] at hgy;simpa [gd,Tr.elems] using hgy)
    refine⟨.node r t' x q,⟨rfl,p1,?_,⟨i2.mB,b2,by omega,by omega⟩⟩,by grind[Tr.h],hu.to p2 (fun s hs=>by grind) (by omega)⟩
    rw[Tr.n7,i2.h9,hy];simp
  ·rw[if_neg hc]
   by_cases pT:0<O.cmp e x
   ·rw[if_pos pT];obtain⟨e1,e2⟩:=Lm Z hs pT;rw[e1,e2,J' Z hs pT] at hg;rw[e1,e2,J' Z hs pT];have Kq:tQ O q.items:=(gD.1 hs.right).2;have ih:=IQ q (k:=k) (m:=aE m r) (df.2 ho) (mf.aE _) b2 Kq (fH.1 (cf.1 hn).2.1).2 (fun y hy=>Z.right (l.elems++[x]) _ (by
     have:=hg y hy
     simp_all[gd,Tr.elems])) (by omega)
    cases hh:tR O e q.items with
    |none =>
     rw[hh] at ih;obtain⟨i1,i2⟩:=ih;rw[if_neg (by grind)]
     exact⟨i1,(gE _ m r).to i2 (fun s hs=>by simp at hs) (by omega)⟩
    |some y =>
     rw[hh] at ih;obtain⟨i1,t',i2,i3,i4⟩:=ih;rw[if_pos i1];refine⟨rfl,?_⟩;have hgy:=hg y hh;have hy:=(tK hh).1;have hu:=(gE (zn O) m r).to i4 (S:=q.refs) (k:=6*q.h+2) (fun s hs=>by grind) (by omega)
     have tP:t'.refs=q.refs:=by rw[Tr.refs,i2.h9,Tr.refs,← vo e q.items,hy];simp
     have vK:t'.elems=(lo O e q.items).map av++e::((hi O e q.items).tail).map av:=by rw[Tr.elems,i2.h9];simp
     have Y3:t'.root=q.root:=i2.root.symm;obtain⟨p1,p2⟩:=EB Z (m:=(replace O k (aE m r) q.root e).2) (rP.2 (df.2 ho)) (r:=r) (l:=l) (q:=t') (v:=⟨x,l.root,q.root,⟨(Tr.node r l x q).items.length,S (Tr.node r l x q).elems⟩,((Tr.node r l x q).h:Nat)⟩)
      (Rp.frame hu (fun s hs rV=>ru.2.2 s hs s (e7 rV) rfl) lZ) i2.rp (by rw[hu.has];exact sQ) (fun h=>ru.2.2 r h r (dK rfl) rfl) (by grind) rfl Y3.symm
      (by rw[vK];simpa [gd,Tr.elems] using hgy)
     refine⟨.node r l x t',⟨rfl,p1,?_,⟨b1,i2.mB,by omega,by omega⟩⟩,by grind[Tr.h],hu.to p2 (fun s hs=>by grind) (by omega)⟩
     rw[Tr.n7,i2.h9];simp
   ·rw[if_neg pT];have SI:O.cmp e x=0:=by omega
    obtain⟨e1,e2⟩:=YU Z hs SI;rw[e1,e2,Kz Z hs SI] at hg;rw[e1,e2,Kz Z hs SI];have hgy:=hg _ rfl;obtain⟨p1,p2⟩:=EB Z (m:=aE m r) (df.2 ho) (r:=r) (l:=l) (q:=q) (v:=⟨e,l.root,q.root,⟨(Tr.node r l x q).items.length,S (Tr.node r l x q).elems⟩,((Tr.node r l x q).h:Nat)⟩)
     (lZ.aE _) (mf.aE _) (by simp[*]) (fun h=>ru.2.2 r h r (dK rfl) rfl) (fun h=>ru.2.1.1 h) rfl rfl (by simp_all[gd,Tr.elems])
    exact⟨by simp,.node r l e q,⟨rfl,p1,rfl,⟨b1,b2,b3,b4⟩⟩,by rfl,(gE _ m r).to p2 (fun s hs=>by grind) (by omega)⟩
theorem Le {n K:Nat} {e:E}:∀ (t:Tr E) {k:Nat} {m:Po E A},fY n m->Rp O S m t->t.mB->tQ O t.items->t.refs.Nodup->gd dp (lo O e t.items++(hi O e t.items).tail)->t.h<k->2*t.h<K ->
  qk O K k m t.root e/\match tR O e t.items with
  |none=>(pick O K k m t.root e).2.1=r0/\(pick O K k m t.root e).1=t.root/\iM [] (2*t.h+1) (zn O) m (pick O K k m t.root e).2.2
  |some x=>(pick O K k m t.root e).2.1=x.1/\∃ t',Is O S (pick O K k m t.root e).2.2 (pick O K k m t.root e).1 (lo O e t.items++(hi O e t.items).tail) t'/\t.h≤t'.h+1/\t'.h≤t.h /\
   iM (rf (lo O e t.items++(hi O e t.items).tail)) (120*t.h+4) (zn O) m (pick O K k m t.root e).2.2
 |t,0,m,_,_,_,_,_,_,hk,_=>by omega
 |.nil,k+1,m,ho,hr,hb,hs,hn,hg,hk,hK=>by
  have h0:(lk O m (Tr.nil (E:=E)).root).h=0:=by rw[(show Rp O S m .nil from trivial).root ho];rfl
  rw[qk,pick,if_pos h0,if_pos h0];exact⟨trivial,rfl,rfl,(gE _ _ _).mono (fun s hs=>hs) (by omega)⟩
 |.node r l x q,k+1,m,ho,⟨sQ,mU,lZ,mf⟩,⟨b1,b2,b3,b4⟩,hs,hn,hg,hk,hK=>by
  have h0:¬ (lk O m r).h=0:=by grind[rj,Tr.h]
  simp only[Tr.wX];rw[Tr.n7] at hs hg ⊢;rw[Tr.jK] at hn;rw[qk,pick,if_neg h0,if_neg h0,mU,qX];simp only[Tr.h] at hk hK ⊢;have ru:=hn;simp only[cf,fH,b7,bO,not_or] at ru
  by_cases hc:O.cmp e x<0
  ·rw[if_pos hc,if_pos hc];obtain⟨e1,e2⟩:=TD (l:=l.items) (q:=q.items) (r:=r) hc;rw[e1,e2] at hg;rw[e1,e2,Jz hc];cases hh:tR O e l.items with
   |none =>
    have Ky:gd dp (lo O e l.items++(hi O e l.items).tail):=by
     cases JZ:hi O e l.items with
     |nil =>
      rw[JZ] at hg;exact Z.left _ (q.elems) (by simp_all[gd,Tr.elems])
     |cons y tl =>
      rw[JZ] at hg;exact Z.left _ (x::q.elems) (by simp_all[gd,Tr.elems])
    have ih:=Le (K:=K) l (k:=k) (m:=aE m r) (df.2 ho) (lZ.aE _) b1 hs.left (cf.1 hn).1 Ky (by omega) (by omega)
    rw[hh] at ih;obtain⟨d,i1,i2,i3⟩:=ih;rw[if_pos i1];exact⟨d,i1,rfl,(gE _ m r).to i3 (fun s hs=>by simp at hs) (by omega)⟩
   |some y =>
    have hy:=(tK hh).1;rw[hy] at hg;have ih:=Le (K:=K) l (k:=k) (m:=aE m r) (df.2 ho) (lZ.aE _) b1 hs.left (cf.1 hn).1 (Z.left _ (x::q.elems) (by simpa [gd,Tr.elems] using hg)) (by omega) (by omega)
    rw[hh] at ih;obtain⟨d,i1,t',i2,i3,i4,i5⟩:=ih;have hyr:y.1∈l.refs:=pb.2 ⟨y,(tK hh).2.2,rfl⟩;have hyn:y.1≠r0:=fun Dj=>by
     have:=lZ.has _ hyr;rw[Dj,ho.z0] at this;cases this
    rw[if_neg (by grind)]
    have nk:∀ s,s∈rf (lo O e l.items++(hi O e l.items).tail)->s∈l.refs:=fun s hs=>by
     rw[Tr.refs,← vo e l.items,hy]
     grind
    have hu:=(gE (zn O) m r).to i5 (S:=rf (lo O e l.items++(hi O e l.items).tail)) (k:=120*l.h+5) (fun s hs=>by grind) (by omega)
    have tP:t'.refs=rf (lo O e l.items++(hi O e l.items).tail):=by rw[Tr.refs,i2.h9]
    have vK:t'.elems=(lo O e l.items++(hi O e l.items).tail).map av:=by rw[Tr.elems,i2.h9]
    have FE:(rf (lo O e l.items++(hi O e l.items).tail)).Sublist l.refs:=by
     rw[Tr.refs,← vo e l.items]
     conv=>rhs;rw[hy]
     simp
    rw[i2.root];obtain⟨u,u1,u2,u3,u4,u5⟩:=yR Z (m:=(pick O K k (aE m r) l.root e).2.2) (xH.2 (df.2 ho)) (r:=r) (l:=t') (q:=q)
     (v:=⟨x,t'.root,q.root,⟨(Tr.node r l x q).items.length,S (Tr.node r l x q).elems⟩,((Tr.node r l x q).h:Nat)⟩) i2.rp (Rp.frame hu (fun s hs rV=>ru.2.2 s (nk s rV) s (e7 hs) rfl) mf)
     (by rw[hu.has];exact sQ) (by grind) rfl rfl (by rw[vK];simpa [gd,Tr.elems] using hg) i2.mB b2 (by omega) (by omega)
    refine⟨d,i1,u,⟨u1.root,u1.rp,by rw[u1.h9,i2.h9,hy];simp,u1.mB⟩,?_,?_,hu.to u5 (fun s hs=>?_) (by omega)⟩
    ·omega
    ·omega
    ·rw[tP] at hs;simp only[rf,dJ,b7,gw,bO,mw,List.tail_cons,Tr.refs] at hs ⊢
     grind
  ·rw[if_neg hc,if_neg hc]
   by_cases pT:0<O.cmp e x
   ·rw[if_pos pT,if_pos pT];obtain⟨e1,e2⟩:=Lm Z hs pT;rw[e1,e2] at hg;rw[e1,e2,J' Z hs pT];have Kq:tQ O q.items:=(gD.1 hs.right).2;have hgq:gd dp (lo O e q.items++(hi O e q.items).tail):=Z.right (l.elems++[x]) _ (by simp_all[gd,Tr.elems])
    have ih:=Le (K:=K) q (k:=k) (m:=aE m r) (df.2 ho) (mf.aE _) b2 Kq (fH.1 (cf.1 hn).2.1).2 hgq (by omega) (by omega)
    cases hh:tR O e q.items with
    |none =>
     rw[hh] at ih;obtain⟨d,i1,i2,i3⟩:=ih;rw[if_pos i1];exact⟨d,i1,rfl,(gE _ m r).to i3 (fun s hs=>by simp at hs) (by omega)⟩
    |some y =>
     have hy:=(tK hh).1;rw[hh] at ih;obtain⟨d,i1,t',i2,i3,i4,i5⟩:=ih;have hyr:y.1∈q.refs:=pb.2 ⟨y,(tK hh).2.2,rfl⟩;have hyn:y.1≠r0:=fun Dj=>by
      have:=mf.has _ hyr;rw[Dj,ho.z0] at this;cases this
     rw[if_neg (by grind)]
     have FE:(rf (lo O e q.items++(hi O e q.items).tail)).Sublist q.refs:=by
      rw[Tr.refs,← vo e q.items]
      conv=>rhs;rw[hy]
      simp
     have hu:=(gE (zn O) m r).to i5 (S:=rf (lo O e q.items++(hi O e q.items).tail)) (k:=120*q.h+5) (fun s hs=>by grind) (by omega)
     have tP:t'.refs=rf (lo O e q.items++(hi O e q.items).tail):=by rw[Tr.refs,i2.h9]
     have vK:t'.elems=(lo O e q.items++(hi O e q.items).tail).map av:=by rw[Tr.elems,i2.h9]
     rw[i2.root];obtain⟨u,u1,u2,u3,u4,u5⟩:=yR Z (m:=(pick O K k (aE m r) q.root e).2.2) (xH.2 (df.2 ho)) (r:=r) (l:=l) (q:=t')
      (v:=⟨x,l.root,t'.root,⟨(Tr.node r l x q).items.length,S (Tr.node r l x q).elems⟩,((Tr.node r l x q).h:Nat)⟩) (Rp.frame hu (fun s hs rV=>ru.2.2 s hs s (e7 (FE.subset rV)) rfl) lZ) i2.rp
      (by rw[hu.has];exact sQ) (by grind) rfl rfl (by rw[vK];simpa [gd,Tr.elems] using hg) b1 i2.mB (by omega) (by omega)
     refine⟨d,i1,u,⟨u1.root,u1.rp,by rw[u1.h9,i2.h9];simp,u1.mB⟩,?_,?_,hu.to u5 (fun s hs=>?_) (by omega)⟩
     ·omega
     ·omega
     ·rw[tP] at hs;simp only[rf,dJ,b7,gw,bO,Tr.refs] at hs ⊢
      grind
   ·rw[if_neg pT,if_neg pT];have SI:O.cmp e x=0:=by omega
    obtain⟨e1,e2⟩:=YU Z hs SI;rw[e1,e2] at hg;rw[e1,e2,Kz Z hs SI];obtain⟨d,u,u1,u2,u3,u4⟩:=af_ Z (K:=K) (m:=aE m r) (df.2 ho) (lZ.aE _) (mf.aE _) (acM (Wz (List.sublist_cons_self r _) _) hn) (by simp_all[gd,Tr.elems]) b1 b2 (by omega)
    refine⟨d,by simp,u,u1,by omega,by omega,(gE _ m r).to u4 (fun s hs=>?_) (by omega)⟩
    simp_all[Tr.refs]
end
end Gv
namespace Gv
open Rx
section
variable {E A:Type} (O:iO E A)
def vr:Nat->Po E A->Node E A->Int->Int->Prop
 |0,_,_,_,_=>False
 |k+1,m,n,from_,to =>
  ¬ mx from_ 0≥mn to n.all.n->¬ (mx from_ 0=0/\mn to n.all.n=n.all.n) ->
   vr k (aE m n.l) (lk O m n.l) (mx from_ 0) (mn to n.all.n) /\
   (¬ mn to n.all.n≤W ((lk O m n.l).all.n+1) ->
    vr k (aE (fX O k (aE m n.l) (lk O m n.l) (mx from_ 0) (mn to n.all.n)).2 n.r) (lk O (fX O k (aE m n.l) (lk O m n.l) (mx from_ 0) (mn to n.all.n)).2 n.r)
     (W (W (mx from_ 0-(lk O m n.l).all.n)-1)) (W (W (mn to n.all.n-(lk O m n.l).all.n)-1)))
def tX:Nat->Po E A->Node E A->E->Prop
 |0,_,_,_=>False
 |k+1,m,n,e=>n.h>0->O.cmp e n.e≠0->(O.cmp e n.e<0->tX k (aE m n.l) (lk O m n.l) e)/\(¬ O.cmp e n.e<0->tX k (aE m n.r) (lk O m n.r) e)
def tq:Nat->Po E A->Node E A->E->Int->Prop
 |0,_,_,_,_=>False
 |k+1,m,n,e,c=>n.h>0->(O.cmp e n.e≤0->tq k (aE m n.l) (lk O m n.l) e c)/\(¬ O.cmp e n.e≤0->tq k (aE m n.r) (lk O m n.r) e (W (c+W (n.all.n-(lk O m n.r).all.n))))
def BL:Nat->Po E A->Node E A->Int->Prop
 |0,_,_,_=>False
 |k+1,m,n,i=>i≠(lk O m n.l).all.n->(i<(lk O m n.l).all.n->BL k (aE m n.l) (lk O m n.l) i) /\
  (¬ i<(lk O m n.l).all.n->BL k (aE (aE m n.l) n.r) (lk O (aE m n.l) n.r) (W (i-W ((lk O m n.l).all.n+1))))
theorem qa {O:iO E A}:∀ {k:Nat} {m m':Po E A} {r:Ref},Deep O k m r->(∀ s,lk O m' s=lk O m s)->ji O k m' (lk O m r)
 |0,_,_,_,h,_=>h
 |k+1,m,m',r,h,hl=>by
  rcases h with h|h
  ·exact .inl h
  ·exact .inr ⟨(Lp hl).2 h.1,(Lp hl).2 h.2⟩
end
end Gv
namespace Gv
open Rx
section
variable {E A:Type} (O:iO E A)
def fresh (e:E):Node E A:=⟨e,r0,r0,one O e,1⟩
def nL (K:Nat) (m:Po E A) (root:Ref) (e:E):Bool×Ref×Po E A :=
 if(replace O K m root e).1=ao then(ao,root,(replace O K m root e).2)
 else if(replace O K m root e).2.held=(replace O K m root e).2.cap then(an,root,put (zn O) (replace O K m root e).2 (fresh O e))
 else(ao,(kZ O K (put (zn O) (replace O K m root e).2 (fresh O e)) root (me (zn O) (replace O K m root e).2) e).1,(kZ O K (put (zn O) (replace O K m root e).2 (fresh O e)) root (me (zn O) (replace O K m root e).2) e).2)
def QT (K:Nat) (m:Po E A) (root:Ref) (e:E):Prop :=
 Deep O K m root/\((replace O K m root e).2.held≠(replace O K m root e).2.cap->fY 100000 (put (zn O) (replace O K m root e).2 (fresh O e))/\Deep O K (put (zn O) (replace O K m root e).2 (fresh O e)) root)
def qH (K:Nat) (m:Po E A) (root:Ref) (i:Int):(E×Bool)×Po E A :=
 if i<0∨i≥(lk O m root).all.n then((O.e0,an),aE m root)
 else(((q_ O K (aE m root) (lk O m root) i).1,ao),(q_ O K (aE m root) (lk O m root) i).2)
def AtD (K:Nat) (m:Po E A) (root:Ref) (i:Int):Prop:=¬ i<0->¬ i≥(lk O m root).all.n->BL O K (aE m root) (lk O m root) i
def jL (K:Nat) (m:Po E A) (root:Ref) (e:E):E×Bool×Ref×Po E A :=
 ((lk O (pick O K K m root e).2.2 (pick O K K m root e).2.1).e,has (pick O K K m root e).2.2 (pick O K K m root e).2.1,(pick O K K m root e).1,drop (zn O) (pick O K K m root e).2.2 (pick O K K m root e).2.1)
end
end Gv
namespace Gv
open Rx
set_option linter.unusedSectionVars false
set_option maxHeartbeats 4000000
section
variable {E A:Type} {O:iO E A} {S:List E->A} {dp:List E->Prop} (Z:yG O S dp)
theorem Kx {n:Nat}:∀ (t:Tr E) {k:Nat} {m:Po E A},fY n m->Rp O S m t->t.h<k->(cv O k m t.root).1=t.elems/\∃ kk,iM [] kk (zn O) m (cv O k m t.root).2
 |t,0,m,_,_,hk=>by omega
 |.nil,k+1,m,ho,hr,hk=>by
  have h0:(lk O m (Tr.nil (E:=E)).root).h=0:=by rw[(show Rp O S m .nil from trivial).root ho];rfl
  rw[cv,if_pos h0];exact⟨rfl,_,gE _ _ _⟩
 |.node r l x q,k+1,m,ho,⟨sQ,mU,lZ,mf⟩,hk=>by
  have h0:¬ (lk O m r).h=0:=by grind[rj,Tr.h]
  simp only[Tr.wX];simp only[Tr.h] at hk;rw[cv,if_neg h0,mU,qX];obtain⟨i1,k1,i2⟩:=Kx l (k:=k) (m:=aE m r) (df.2 ho) (lZ.aE _) (by omega)
  have hu:=(gE (zn O) m r).to i2 (S:=[]) (fun s hs=>by simp at hs) (a_ _)
  obtain⟨j1,k2,j2⟩:=Kx q (k:=k) (m:=(cv O k (aE m r) l.root).2) (qJ.2 (df.2 ho)) (Rp.frame hu (fun s _ hs=>by cases hs) mf) (by omega)
  exact⟨by grind[Tr.gG],_,hu.to j2 (fun s hs=>by simp at hs) (a_ _)⟩
include Z
theorem Vp {n K:Nat} {e:E}:∀ (t:Tr E) {k:Nat} {m:Po E A},fY n m->Rp O S m t->t.mB->tQ O t.items->t.refs.Nodup->dp t.elems->t.h<k->2*t.items.length<K ->
  JB O K k m t.root e/\∃ a b,Is O S (lV O K k m t.root e).2.2 (lV O K k m t.root e).1 (lo O e t.items) a/\Is O S (lV O K k m t.root e).2.2 (lV O K k m t.root e).2.1 (hi O e t.items) b /\
   ∃ kk,iM t.refs kk (zn O) m (lV O K k m t.root e).2.2
 |t,0,m,_,_,_,_,_,_,hk,_=>by omega
 |.nil,k+1,m,ho,hr,hb,hs,hn,hg,hk,hK=>by
  have h0:(lk O m (Tr.nil (E:=E)).root).h=0:=by rw[(show Rp O S m .nil from trivial).root ho];rfl
  rw[JB,lV,if_pos h0,if_pos h0];exact⟨trivial,.nil,.nil,⟨rfl,trivial,rfl,trivial⟩,⟨rfl,trivial,rfl,trivial⟩,_,(gE _ _ _).mono (fun s hs=>by cases hs) (a_ _)⟩
 |.node r l x q,k+1,m,ho,⟨sQ,mU,lZ,mf⟩,⟨b1,b2,b3,b4⟩,hs,hn,hg,hk,hK=>by
  have h0:¬ (lk O m r).h=0:=by grind[rj,Tr.h]
  simp only[Tr.wX];rw[Tr.n7] at hs hK ⊢;rw[Tr.jK] at hn ⊢;rw[Tr.gG] at hg;simp only[bF,cy] at hK;rw[JB,lV,if_neg h0,if_neg h0,mU,qX];simp only[Tr.h] at hk ⊢;have ru:=hn;simp only[cf,fH,b7,bO,not_or] at ru;have sh:=q.A5
  by_cases hc:O.cmp x e<0
  ·rw[if_pos hc,if_pos hc];have pT:0<O.cmp e x:=(Z.swap _ _).1 hc;obtain⟨e1,e2⟩:=Lm Z hs pT;rw[e1,e2];have Kq:tQ O q.items:=(gD.1 hs.right).2;obtain⟨d,a,b,i1,i2,kk,i3⟩:=Vp (K:=K) q (k:=k) (m:=aE m r) (df.2 ho) (mf.aE _) b2 Kq (fH.1 (cf.1 hn).2.1).2 (Z.right (l.elems++[x]) _ (by grind)) (by omega) (by omega)
   have hu:=(gE (zn O) m r).to i3 (S:=q.refs) (fun s hs=>by grind) (a_ _)
   have PZ:a.refs=ay ax (lo O e q.items):=by rw[Tr.refs,i1.h9]
   have qh:b.refs=ay ax (hi O e q.items):=by rw[Tr.refs,i2.h9]
   have hq':q.refs=a.refs++b.refs:=by rw[PZ,qh,vo];rfl
   have hae:q.elems=a.elems++b.elems:=by rw[Tr.elems,Tr.elems,Tr.elems,i1.h9,i2.h9,← dJ,Af]
   have hah:=a.A5;have hal:a.items.length≤q.items.length:=by
    have:=congrArg ae (Af O e q.items);rw[bF] at this;rw[i1.h9];omega
   rw[hq'] at hn;have xW:((l.refs++r::a.refs)++b.refs).Nodup:=by grind
   rw[hae] at hg;have hg':dp (l.elems++x::a.elems):=Z.left _ b.elems (by grind)
   have hrx:(lk O (lV O K k (aE m r) q.root e).2.2 r).e=x:=by
    rw[show lk O (lV O K k (aE m r) q.root e).2.2 r=lk O m r from hu.look r (fun h=>ru.2.1.1 h),mU];rfl
   rw[i1.root];obtain⟨d2,u,u1,u2,u3,u4,u5⟩:=Hu Z K l a (m:=(lV O K k (aE m r) q.root e).2.2) (b:=r) (e:=x) (Re.2 (df.2 ho)) (Rp.frame hu (fun s hs rV=>ru.2.2 s hs s (e7 rV) rfl) lZ) i1.rp
    (by rw[hu.has];exact sQ) hrx (cf.1 xW).1 hg' b1 i1.mB (by omega)
   refine⟨⟨d,d2⟩,u,b,⟨u1.root,u1.rp,by rw[u1.h9,i1.h9],u1.mB⟩,⟨i2.root,Rp.frame u5 (fun s hs rV=>(cf.1 xW).2.2 s rV s hs rfl) i2.rp,i2.h9,i2.mB⟩,_,hu.to u5 (fun s hs=>?_) (a_ _)⟩
   grind
  ·rw[if_neg hc,if_neg hc];have pT:¬ 0<O.cmp e x:=fun h=>hc ((Z.swap _ _).2 h)
   obtain⟨e1,e2⟩:=ace (l:=l.items) (q:=q.items) (r:=r) pT;rw[e1,e2];obtain⟨d,a,b,i1,i2,kk,i3⟩:=Vp (K:=K) l (k:=k) (m:=aE m r) (df.2 ho) (lZ.aE _) b1 hs.left (cf.1 hn).1 (Z.left _ _ hg) (by omega) (by omega)
   have hu:=(gE (zn O) m r).to i3 (S:=l.refs) (fun s hs=>by grind) (a_ _)
   have PZ:a.refs=ay ax (lo O e l.items):=by rw[Tr.refs,i1.h9]
   have qh:b.refs=ay ax (hi O e l.items):=by rw[Tr.refs,i2.h9]
   have Bp:l.refs=a.refs++b.refs:=by rw[PZ,qh,vo];rfl
   have hle:l.elems=a.elems++b.elems:=by rw[Tr.elems,Tr.elems,Tr.elems,i1.h9,i2.h9,← dJ,Af]
   have hbh:=b.A5;have Bt:b.items.length≤l.items.length:=by
    have:=congrArg ae (Af O e l.items);rw[bF] at this;rw[i2.h9];omega
   rw[Bp] at hn;have xW:(a.refs++(b.refs++r::q.refs)).Nodup:=by grind
   rw[hle] at hg;have hg':dp (b.elems++x::q.elems):=Z.right a.elems _ (by grind)
   have hrx:(lk O (lV O K k (aE m r) l.root e).2.2 r).e=x:=by
    rw[show lk O (lV O K k (aE m r) l.root e).2.2 r=lk O m r from hu.look r (fun h=>ru.2.2 r h r (dK rfl) rfl),mU];rfl
   rw[i2.root];obtain⟨d2,u,u1,u2,u3,u4,u5⟩:=Hu Z K b q (m:=(lV O K k (aE m r) l.root e).2.2) (b:=r) (e:=x) (Re.2 (df.2 ho)) i2.rp (Rp.frame hu (fun s hs rV=>ru.2.2 s rV s (e7 hs) rfl) mf)
    (by rw[hu.has];exact sQ) hrx (cf.1 xW).2.1 hg' i2.mB b2 (by omega)
   refine⟨⟨d,d2⟩,a,u,⟨i1.root,Rp.frame u5 (fun s hs rV=>(cf.1 xW).2.2 s hs s rV rfl) i1.rp,i1.h9,i1.mB⟩,⟨u1.root,u1.rp,by rw[u1.h9,i2.h9],u1.mB⟩,_,hu.to u5 (fun s hs=>?_) (a_ _)⟩
   grind
theorem QV {n:Nat} {e:E}:∀ (t:Tr E) {k:Nat} {m:Po E A},fY n m->Rp O S m t->tQ O t.items->t.h<k ->
  tX O k m (nd O S t) e/\(find O k m (nd O S t) e).1=(match tR O e t.items with
   |none=>(O.e0,an)
   |some x=>(x.2,ao))/\iM [] t.h (zn O) m (find O k m (nd O S t) e).2
 |t,0,m,_,_,_,hk=>by omega
 |.nil,k+1,m,ho,hr,hs,hk=>by
  have h0:¬ (nd O S (Tr.nil (E:=E))).h>0:=by grind[rj,Tr.h]
  exact⟨fun h=>absurd h h0,rfl,iM.refl _ _ _ _⟩
 |.node r l x q,k+1,m,ho,⟨sQ,mU,lZ,mf⟩,hs,hk=>by
  have h0:(nd O S (Tr.node r l x q)).h>0:=by grind[rj,Tr.h]
  simp only[Tr.h] at hk ⊢;rw[Tr.n7] at hs ⊢;rw[tX,find,if_pos h0,qX];have kl:lk O m l.root=nd O S l:=lZ.root ho;have kq:lk O m q.root=nd O S q:=mf.root ho;simp only[kl,kq];have il:=QV (e:=e) l (k:=k) (m:=aE m l.root) (df.2 ho) (lZ.aE _) hs.left (by omega)
  have Kq:tQ O q.items:=(gD.1 hs.right).2;have iq:=QV (e:=e) q (k:=k) (m:=aE m q.root) (df.2 ho) (mf.aE _) Kq (by omega)
  refine⟨fun _ _=>⟨fun _=>il.1,fun _=>iq.1⟩,?_⟩
  by_cases hc:O.cmp e x=0
  ·rw[if_pos hc,Kz Z hs hc]
   grind[iM.refl]
  ·rw[if_neg hc]
   by_cases pT:O.cmp e x<0
   ·rw[if_pos pT,Jz pT];exact⟨il.2.1,(gE _ m _).to il.2.2 (fun s hs=>by simp at hs) (by omega)⟩
   ·rw[if_neg pT,J' Z hs (by omega)]
    exact⟨iq.2.1,(gE _ m _).to iq.2.2 (fun s hs=>by simp at hs) (by omega)⟩
theorem RM {n:Nat} {e:E}:∀ (t:Tr E) {k:Nat} {m:Po E A} {c:Int},fY n m->Rp O S m t->tQ O t.items->t.h<k->0≤c->c+t.items.length≤2000000 ->
  tq O k m (nd O S t) e c/\(kB O k m (nd O S t) e c).1=c+(lo O e t.items).length/\iM [] (2*t.h) (zn O) m (kB O k m (nd O S t) e c).2
 |t,0,m,c,_,_,_,hk,_,_=>by omega
 |.nil,k+1,m,c,ho,hr,hs,hk,Dj,OQ=>by
  have h0:¬ (nd O S (Tr.nil (E:=E))).h>0:=by grind[rj,Tr.h]
  rw[tq,kB,if_neg h0];exact⟨fun h=>absurd h h0,by simp[lo,Tr.items],iM.refl _ _ _ _⟩
 |.node r l x q,k+1,m,c,ho,⟨sQ,mU,lZ,mf⟩,hs,hk,Dj,OQ=>by
  have h0:(nd O S (Tr.node r l x q)).h>0:=by grind[rj,Tr.h]
  simp only[Tr.h] at hk ⊢;have pW:=ry (O:=O) (S:=S) Z.nil (.node r l x q);rw[Tr.n7] at hs OQ ⊢;simp only[bF,cy] at OQ;rw[tq,kB,if_pos h0];have kl:lk O m l.root=nd O S l:=lZ.root ho;have kq:lk O m q.root=nd O S q:=mf.root ho;have e1:(nd O S (Tr.node r l x q)).l=l.root:=rfl;have e2:(nd O S (Tr.node r l x q)).r=q.root:=rfl;have e3:(nd O S (Tr.node r l x q)).e=x:=rfl;have hv:W (c+W ((nd O S (Tr.node r l x q)).all.n-(nd O S q).all.n))=c+(l.items.length+1:Nat):=by
   rw[pW,ry Z.nil]
   grind[Tr.n7,ua]
  rw[e1,e2,e3];simp only[kl,kq];rw[hv];have Kq:tQ O q.items:=(gD.1 hs.right).2;have il:=RM (e:=e) l (k:=k) (m:=aE m l.root) (c:=c) (df.2 ho) (lZ.aE _) hs.left (by omega) Dj (by omega)
  have iq:=RM (e:=e) q (k:=k) (m:=aE m q.root) (c:=c+(l.items.length+1:Nat)) (df.2 ho) (mf.aE _) Kq (by omega) (by omega) (by omega)
  refine⟨fun _=>⟨fun _=>il.1,fun _=>iq.1⟩,?_⟩
  by_cases hc:O.cmp e x≤0
  ·rw[if_pos hc,(ace (by omega)).1]
   exact⟨il.2.1,(gE _ m _).to il.2.2 (fun s hs=>by simp at hs) (by omega)⟩
  ·rw[if_neg hc,(Lm Z hs (by omega)).1]
   refine⟨?_,(gE _ m _).to iq.2.2 (fun s hs=>by simp at hs) (by omega)⟩
   grind
theorem U_ {n:Nat}:∀ (t:Tr E) {k:Nat} {m:Po E A} {i:Nat},fY n m->Rp O S m t->t.items.length≤1000000->t.h<k->i<t.items.length ->
  BL O k m (nd O S t) i/\(q_ O k m (nd O S t) i).1=t.elems.getD i O.e0/\iM [] (2*t.h) (zn O) m (q_ O k m (nd O S t) i).2
 |t,0,m,i,_,_,_,hk,_=>by omega
 |.nil,k+1,m,i,ho,hr,hg,hk,hi=>by simp[Tr.items] at hi
 |.node r l x q,k+1,m,i,ho,⟨sQ,mU,lZ,mf⟩,hg,hk,hi=>by
  simp only[Tr.h] at hk ⊢;rw[Tr.n7] at hg hi;simp only[bF,cy] at hg hi;rw[BL,q_];have kl:lk O m l.root=nd O S l:=lZ.root ho;have kq:lk O m q.root=nd O S q:=mf.root ho;have e1:(nd O S (Tr.node r l x q)).l=l.root:=rfl;have e2:(nd O S (Tr.node r l x q)).r=q.root:=rfl;have e3:(nd O S (Tr.node r l x q)).e=x:=rfl;have e4:(nd O S l).all.n=l.items.length:=by rw[ry Z.nil]
  rw[e1,e2,e3];simp only[ir,kl,kq,e4];have w1:W (((l.items.length:Nat):Int)+1)=(l.items.length:Int)+1:=ua (by omega)
  rw[w1,Tr.gG];have hle:l.elems.length=l.items.length:=Tr.e9 l
  by_cases h1:(i:Int)=(l.items.length:Int)
  ·rw[if_pos h1];refine⟨fun h=>absurd h1 h,?_,(gE _ m _).mono (fun s hs=>hs) (by omega)⟩
   grind
  ·rw[if_neg h1]
   by_cases h2:(i:Int)<(l.items.length:Int)
   ·rw[if_pos h2];obtain⟨i1,i2,i3⟩:=U_ l (k:=k) (m:=aE m l.root) (i:=i) (df.2 ho) (lZ.aE _) (by omega) (by omega) (by omega)
    refine⟨fun _=>⟨fun _=>i1,fun h=>absurd h2 h⟩,?_,(gE _ m _).to i3 (fun s hs=>by simp at hs) (by omega)⟩
    grind
   ·rw[if_neg h2];have w2:W ((i:Int)-((l.items.length:Int)+1))=((i-(l.items.length+1):Nat):Int):=by grind[ua]
    rw[w2];obtain⟨i1,i2,i3⟩:=U_ q (k:=k) (m:=aE (aE m l.root) q.root) (i:=i-(l.items.length+1)) (df.2 (df.2 ho)) ((mf.aE _).aE _) (by omega) (by omega) (by omega)
    refine⟨fun _=>⟨fun h=>absurd h h2,fun _=>i1⟩,?_,(tH m _ _).to i3 (fun s hs=>by simp at hs) (by omega)⟩
    grind
def sub (l:List E) (a b:Nat):List E:=(l.drop a).take (b-a)
omit Z in
theorem adl (L Q:List E) (x:E) {a b:Nat} (Jc:a≤b):sub (L++x::Q) a b=sub L a b++((if a≤L.length/\L.length<b then[x] else[])++sub Q (a-(L.length+1)) (b-(L.length+1))):=by
 unfold sub;rw[List.drop_append,List.take_append]
 congr 1
 rw[List.length_drop]
 by_cases h1:a≤L.length
 ·rw[show a-L.length=0 by omega,se,show a-(L.length+1)=0 by omega,se]
  by_cases h2:L.length<b
  ·rw[if_pos ⟨h1,h2⟩,show b-a-(L.length-a)=(b-(L.length+1))+1 by omega,List.take_succ_cons]
   rfl
  ·rw[if_neg (by omega),show b-a-(L.length-a)=0 by omega,show b-(L.length+1)-0=0 by omega]
   simp
 ·rw[if_neg (by omega),show a-L.length=(a-(L.length+1))+1 by omega,List.drop_succ_cons,pd]
  grind
theorem ad9 {l:List E} (a b:Nat) (h:dp l):dp (sub l a b):=by
 unfold sub;have h1:dp (l.drop a):=Z.right (l.take a) _ (by simp[*])
 exact Z.left _ ((l.drop a).drop (b-a)) (by grind[List.take_append_drop])
omit Z in
theorem NB {l:List E} {a b:Nat} (h:b≤a∨l.length≤a):sub l a b=[]:=by
 unfold sub;rcases h with h|h
 all_goals simp[*]
omit Z in
theorem Yk (l:List E) (a b:Nat):sub l a (min b l.length)=sub l a b:=by grind[sub,List.take_of_length_le]
def cost (h s:Nat) (f u:Int):Nat:=if(max f 0≥min u s)∨(f≤0/\u≥s) then 0 else if f≤0∨u≥s then 2*h else 4*h
omit Z in
theorem Qs (h s:Nat) (f u:Int):cost h s f u≤4*h/\(f≤0∨u≥s->cost h s f u≤2*h)/\((max f 0≥min u s)∨(f≤0/\u≥s)->cost h s f u=0):=by
 unfold cost
 grind
omit Z in
theorem X7 {h s:Nat} {f u:Int} (h1:¬ ((max f 0≥min u s)∨(f≤0/\u≥s))):cost h s f u=if f≤0∨u≥s then 2*h else 4*h:=by simp_all[cost,if_neg]
theorem Io {n:Nat}:∀ (t:Tr E) {k:Nat} {m:Po E A} {f u:Int},fY n m->Rp O S m t->dp t.elems->t.h<k ->
  vr O k m (nd O S t) f u/\(fX O k m (nd O S t) f u).1=⟨(sub t.elems f.toNat u.toNat).length,S (sub t.elems f.toNat u.toNat)⟩/\iM [] (cost t.h t.elems.length f u) (zn O) m (fX O k m (nd O S t) f u).2
 |t,0,m,f,u,_,_,_,hk=>by omega
 |.nil,k+1,m,f,u,ho,hr,hg,hk=>by
  have pW:(nd O S (Tr.nil (E:=E))).all.n=0:=rfl;have hc:mx f 0≥mn u (nd O S (Tr.nil (E:=E))).all.n:=by grind[mx,mn]
  rw[vr,fX,if_pos hc];refine⟨fun h=>absurd hc h,?_,iM.refl _ _ _ _⟩
  rw[NB (.inr (dh _)),← Z.nil]
  rfl
 |.node r l x q,k+1,m,f,u,ho,⟨sQ,mU,lZ,mf⟩,hg,hk=>by
  simp only[Tr.h] at hk ⊢;have hlen:=Z.len _ hg;have pW:=ry (O:=O) (S:=S) Z.nil (.node r l x q);rw[← Tr.e9] at pW;have kl:lk O m l.root=nd O S l:=lZ.root ho;have kq:lk O m q.root=nd O S q:=mf.root ho;have e1:(nd O S (Tr.node r l x q)).l=l.root:=rfl;have e2:(nd O S (Tr.node r l x q)).r=q.root:=rfl;have e3:(nd O S (Tr.node r l x q)).e=x:=rfl;have e4:(nd O S l).all.n=l.elems.length:=by rw[ry Z.nil,Tr.e9]
  rw[vr,fX,e1,e2,e3,pW];rw[Tr.gG] at hg hlen ⊢;simp only[kl,e4,DE,ir,kq];generalize hL:(l.elems++x::q.elems)=L at *
  have R6:L.length=l.elems.length+(q.elems.length+1):=by grind
  obtain⟨a,ha⟩:∃ a:Nat,mx f 0=a:=⟨f.toNat,by grind[mx]⟩
  have PZ:a=f.toNat:=by grind[mx]
  by_cases c1:mx f 0≥mn u L.length
  ·rw[if_pos c1];refine⟨fun h=>absurd c1 h,?_,iM.refl _ _ _ _⟩
   have:min u.toNat L.length≤a:=by grind[mn]
   rw[← Yk,← PZ,NB (.inl this),← Z.nil]
   rfl
  ·rw[if_neg c1];obtain⟨b,hb⟩:∃ b:Nat,mn u L.length=b:=⟨min u.toNat L.length,by grind[mn]⟩
   have qh:b=min u.toNat L.length:=by grind[mn]
   have nk:sub L f.toNat u.toNat=sub L a b:=by grind[Yk]
   rw[nk];rw[ha,hb] at c1 ⊢;have Jc:a<b:=by omega
   by_cases c2:(a:Int)=0/\(b:Int)=L.length
   ·rw[if_pos c2];refine⟨fun _ h=>absurd c2 h,?_,iM.refl _ _ _ _⟩
    have:sub L a b=L:=by
     unfold sub;rw[show a=0 by omega,se,show b-0=L.length by omega,List.take_length]
    rw[this]
   ·rw[if_neg c2];have Ky:dp l.elems:=Z.left _ (x::q.elems) (by grind)
    have hgq:dp q.elems:=Z.right (l.elems++[x]) _ (by grind)
    have ih1:=Io l (k:=k) (m:=aE m l.root) (f:=a) (u:=b) (df.2 ho) (lZ.aE _) Ky (by omega)
    simp only[iJ] at ih1;obtain⟨d1,v1,u1⟩:=ih1;have hu1:=(gE (zn O) m l.root).to u1 (S:=[]) (k:=cost l.h l.elems.length a b+1) (fun s hs=>by simp at hs) (by omega)
    have w1:W ((l.elems.length:Int)+1)=(l.elems.length:Int)+1:=ua (by omega)
    have w2:W (W ((a:Int)-(l.elems.length:Int))-1)=(a:Int)-l.elems.length-1:=by grind[ua]
    have w3:W (W ((b:Int)-(l.elems.length:Int))-1)=(b:Int)-l.elems.length-1:=by grind[ua]
    rw[w1,w2,w3,v1];have hsn:=adl l.elems q.elems x (a:=a) (b:=b) (by omega)
    rw[hL] at hsn;have hgs:=ad9 Z a b hg;rw[hsn] at hgs ⊢
    have acX:(if(a:Int)≤(l.elems.length:Int)/\(l.elems.length:Int)<(b:Int) then ed O ⟨(sub l.elems a b).length,S (sub l.elems a b)⟩ (one O x) else⟨(sub l.elems a b).length,S (sub l.elems a b)⟩) =
      ⟨(sub l.elems a b++(if a≤l.elems.length/\l.elems.length<b then[x] else[])).length,S (sub l.elems a b++(if a≤l.elems.length/\l.elems.length<b then[x] else[]))⟩:=by
     by_cases c3:a≤l.elems.length/\l.elems.length<b
     ·rw[if_pos (by omega),if_pos c3]
      rw[if_pos c3] at hgs;rw[BB Z,pA Z (Z.left _ (sub q.elems (a-(l.elems.length+1)) (b-(l.elems.length+1))) (by grind))]
     grind
    rw[acX]
    by_cases c4:(b:Int)≤(l.elems.length:Int)+1
    ·rw[if_pos c4];refine⟨fun _ _=>⟨d1,fun h=>absurd c4 h⟩,?_,hu1.mono (fun s hs=>hs) ?_⟩
     all_goals grind[Qs,X7,NB]
    ·rw[if_neg c4];obtain⟨d2,v2,u2⟩:=Io q (k:=k) (m:=aE (fX O k (aE m l.root) (nd O S l) a b).2 q.root) (f:=(a:Int)-l.elems.length-1) (u:=(b:Int)-l.elems.length-1) (df.2 (PQ.2 (df.2 ho)))
      ((Rp.frame hu1 (fun s _ hs=>by cases hs) mf).aE _) hgq (by omega)
     refine⟨fun _ _=>⟨d1,fun _=>d2⟩,?_,(hu1.to (gE _ _ q.root) (S:=[]) (k:=cost l.h l.elems.length a b+2) (fun s hs=>by simp at hs) (by omega)).to u2 (fun s hs=>by simp at hs) ?_⟩
     ·grind[pA]
     grind[Qs,X7]
end
end Gv
namespace Gv
open Rx
set_option linter.unusedSectionVars false
section
variable {E A:Type} {O:iO E A} {S:List E->A} {dp:List E->Prop} (Z:yG O S dp)
structure Asks (O:iO E A) (S:List E->A) (may:A->A->Bool) (P:Nat->Bool) (L:List E):Prop where
 at_:∀ p x q,p++x::q=L->P p.length=may (S p) (O.sum x)
 mon:∀ p l q,p++(l++q)=L->∀ i,p.length≤i->i<p.length+l.length->P i=ao->may (S p) (S l)=ao
def BZ (P:Nat->Bool) (a b:Nat) (from_ r:Int):Prop :=
 (r = -1/\∀ i:Nat,a≤i->i<b->from_≤i->P i=an)∨(∃ j:Nat,r=j/\a≤j/\j<b/\from_≤j/\P j=ao/\∀ i:Nat,a≤i->i<j->from_≤i->P i=an)
def EH (P:Nat->Bool) (a b:Nat) (to r:Int):Prop :=
 (r = -1/\∀ i:Nat,a≤i->i<b->(i:Int)<to->P i=an)∨(∃ j:Nat,r=j/\a≤j/\j<b/\(j:Int)<to/\P j=ao/\∀ i:Nat,j<i->i<b->(i:Int)<to->P i=an)
include Z
theorem H7 {n:Nat} {may:A->A->Bool} {P:Nat->Bool} {L:List E} {f:Int} (hA:Asks O S may P L) (hg:dp L):∀ (t:Tr E) {k:Nat} {m:Po E A} {p s:List E},fY n m->Rp O S m t->p++(t.elems++s)=L->t.h<k ->
  BZ P p.length (p.length+t.elems.length) f (first O may k m (nd O S t) ⟨p.length,S p⟩ f).1/\∃ kk,iM [] kk (zn O) m (first O may k m (nd O S t) ⟨p.length,S p⟩ f).2
 |t,0,m,p,s,_,_,_,hk=>by omega
 |.nil,k+1,m,p,s,ho,hr,hL,hk=>by
  rw[first,if_pos (.inl (by rw[rj];rfl))]
  exact⟨.inl ⟨rfl,fun i h1 h2=>by simp[Tr.elems,Tr.items] at h2;omega⟩,0,iM.refl _ _ _ _⟩
 |.node r l x q,k+1,m,p,s,ho,⟨sQ,mU,lZ,mf⟩,hL,hk=>by
  simp only[Tr.h] at hk;have hlen:=Z.len _ hg;have pW:=ry (O:=O) (S:=S) Z.nil (.node r l x q);rw[← Tr.e9] at pW;have kl:lk O m l.root=nd O S l:=lZ.root ho;have kq:lk O m q.root=nd O S q:=mf.root ho;have e1:(nd O S (Tr.node r l x q)).l=l.root:=rfl;have e2:(nd O S (Tr.node r l x q)).r=q.root:=rfl;have e3:(nd O S (Tr.node r l x q)).e=x:=rfl;have e5:¬ (nd O S (Tr.node r l x q)).h=0:=by rw[rj];simp only[Tr.h];omega
  have R6:=congrArg ae hL;rw[Tr.gG] at hL;have Wm:p++(l.elems++(x::q.elems++s))=L:=by simpa using hL
  have PG:(p++l.elems)++x::(q.elems++s)=L:=by simpa using hL
  have JX:(p++l.elems++[x])++(q.elems++s)=L:=by simpa using hL
  have adO:=hA.mon p (Tr.node r l x q).elems s (by rw[Tr.gG];exact hL)
  rw[first,e1,e2,e3,pW]
  simp only[kl,kY,ir,kq,ry Z.nil,← Tr.e9];simp only[bF] at R6;have FE:(Tr.node r l x q).elems.length=l.elems.length+(q.elems.length+1):=by rw[Tr.gG];simp
  have w1:W ((p.length:Int)+((Tr.node r l x q).elems.length:Int))=(p.length:Int)+(Tr.node r l x q).elems.length:=ua (by omega)
  rw[w1]
  by_cases c1:(nd O S (Tr.node r l x q)).h=0∨(p.length:Int)+(Tr.node r l x q).elems.length≤f
  ·rw[if_pos c1];refine⟨.inl ⟨rfl,fun i h1 h2 h3=>?_⟩,0,iM.refl _ _ _ _⟩
   rcases c1 with c1|c1
   ·exact absurd c1 e5
   ·omega
  ·rw[if_neg c1]
   by_cases c2:(p.length:Int)≥f/\may (S p) (S (Tr.node r l x q).elems)=an
   ·rw[if_pos c2];refine⟨.inl ⟨rfl,fun i h1 h2 h3=>?_⟩,0,iM.refl _ _ _ _⟩
    cases hP:P i with
    |false=>rfl
    |true=>have:=adO i h1 h2 hP;rw[c2.2] at this;cases this
   ·rw[if_neg c2];obtain⟨i1,kk,i2⟩:=H7 hA hg l (k:=k) (m:=aE m l.root) (p:=p) (s:=x::q.elems++s) (df.2 ho) (lZ.aE _) Wm (by omega)
    have hu:=(gE (zn O) m l.root).to i2 (S:=[]) (fun s hs=>by simp at hs) (a_ _)
    by_cases c3:(first O may k (aE m l.root) (nd O S l) ⟨p.length,S p⟩ f).1≥0
    ·rw[if_pos c3];refine⟨?_,_,hu⟩;rcases i1 with⟨h1,_⟩|⟨j,h1,h2,h3,h4,h5,h6⟩
     ·omega
     ·exact .inr ⟨j,h1,h2,by omega,h4,h5,h6⟩
    ·rw[if_neg c3];have CI:∀ i:Nat,p.length≤i->i<p.length+l.elems.length->f≤i->P i=an:=by
      rcases i1 with⟨_,h⟩|⟨j,h1,_⟩
      ·exact h
      ·omega
     have Ky:dp (p++l.elems):=Z.left _ (x::(q.elems++s)) (by rw[PG];exact hg)
     have Ut:dp ((p++l.elems)++[x]):=Z.left _ (q.elems++s) (by rw[JX];exact hg)
     rw[pA Z Ky,BB Z,pA Z Ut];have hPx:=hA.at_ (p++l.elems) x (q.elems++s) PG;have Jg:(p++l.elems).length=p.length+l.elems.length:=by simp
     by_cases c4:((p++l.elems).length:Int)≥f/\may (S (p++l.elems)) (O.sum x)=ao
     ·rw[if_pos c4];refine⟨.inr ⟨(p++l.elems).length,rfl,by omega,by omega,c4.1,by rw[hPx];exact c4.2,fun i h1 h2 h3=>CI i h1 (by omega) h3⟩,_,hu⟩
     ·rw[if_neg c4];obtain⟨j1,OG,j2⟩:=H7 hA hg q (k:=k) (m:=aE (first O may k (aE m l.root) (nd O S l) ⟨p.length,S p⟩ f).2 q.root) (p:=p++l.elems++[x]) (s:=s) (df.2 (M1.2 (df.2 ho)))
       ((Rp.frame hu (fun s _ hs=>by cases hs) mf).aE _) JX (by omega)
      refine⟨?_,_,(hu.to (gE _ _ q.root) (S:=[]) (fun s hs=>by simp at hs) (a_ _)).to j2 (fun s hs=>by simp at hs) (a_ _)⟩
      have AH:(p++l.elems++[x]).length=p.length+l.elems.length+1:=by simp;omega
      have UU:f≤(p++l.elems).length->P (p++l.elems).length=an:=fun h=>by
       rw[hPx];cases hm:may (S (p++l.elems)) (O.sum x) with
       |false=>rfl
       |true=>exact absurd ⟨h,hm⟩ c4
      have OW:∀ i:Nat,p.length≤i->i<p.length+l.elems.length+1->f≤i->P i=an:=fun i h1 h2 h3=>by
       rcases cr i (p.length+l.elems.length) with h4|h4
       ·exact CI i h1 h4 h3
       ·have:i=(p++l.elems).length:=by omega
        rw[this];exact UU (by omega)
      rcases j1 with⟨h1,h2⟩|⟨j,h1,h2,h3,h4,h5,h6⟩
      ·refine .inl ⟨h1,fun i g1 g2 g3=>?_⟩
       rcases cr i (p.length+l.elems.length+1) with h4|h4
       ·exact OW i g1 h4 g3
       ·exact h2 i (by rw[AH];exact h4) (by rw[AH];omega) g3
      ·rw[AH] at h2 h3 h6;refine .inr ⟨j,h1,by omega,by omega,h4,h5,fun i g1 g2 g3=>?_⟩
       rcases cr i (p.length+l.elems.length+1) with h7|h7
       ·exact OW i g1 h7 g3
       ·exact h6 i h7 g2 g3
theorem Lz {n:Nat} {may:A->A->Bool} {P:Nat->Bool} {L:List E} {u:Int} (hA:Asks O S may P L) (hg:dp L):∀ (t:Tr E) {k:Nat} {m:Po E A} {p s:List E},fY n m->Rp O S m t->p++(t.elems++s)=L->t.h<k ->
  EH P p.length (p.length+t.elems.length) u (last O may k m (nd O S t) ⟨p.length,S p⟩ u).1/\∃ kk,iM [] kk (zn O) m (last O may k m (nd O S t) ⟨p.length,S p⟩ u).2
 |t,0,m,p,s,_,_,_,hk=>by omega
 |.nil,k+1,m,p,s,ho,hr,hL,hk=>by
  rw[last,if_pos (.inl (by rw[rj];rfl))]
  exact⟨.inl ⟨rfl,fun i h1 h2=>by simp[Tr.elems,Tr.items] at h2;omega⟩,0,iM.refl _ _ _ _⟩
 |.node r l x q,k+1,m,p,s,ho,⟨sQ,mU,lZ,mf⟩,hL,hk=>by
  simp only[Tr.h] at hk;have hlen:=Z.len _ hg;have pW:=ry (O:=O) (S:=S) Z.nil (.node r l x q);rw[← Tr.e9] at pW;have kl:lk O m l.root=nd O S l:=lZ.root ho;have kq:lk O m q.root=nd O S q:=mf.root ho;have e1:(nd O S (Tr.node r l x q)).l=l.root:=rfl;have e2:(nd O S (Tr.node r l x q)).r=q.root:=rfl;have e3:(nd O S (Tr.node r l x q)).e=x:=rfl;have e5:¬ (nd O S (Tr.node r l x q)).h=0:=by rw[rj];simp only[Tr.h];omega
  have R6:=congrArg ae hL;rw[Tr.gG] at hL;have Wm:p++(l.elems++(x::q.elems++s))=L:=by simpa using hL
  have PG:(p++l.elems)++x::(q.elems++s)=L:=by simpa using hL
  have JX:(p++l.elems++[x])++(q.elems++s)=L:=by simpa using hL
  have adO:=hA.mon p (Tr.node r l x q).elems s (by rw[Tr.gG];exact hL)
  rw[last,e1,e2,e3,pW];simp only[kl,ml,ir,kq,ry Z.nil,← Tr.e9];simp only[bF] at R6;have FE:(Tr.node r l x q).elems.length=l.elems.length+(q.elems.length+1):=by rw[Tr.gG];simp
  have w1:W ((p.length:Int)+((Tr.node r l x q).elems.length:Int))=(p.length:Int)+(Tr.node r l x q).elems.length:=ua (by omega)
  rw[w1]
  by_cases c1:(nd O S (Tr.node r l x q)).h=0∨(p.length:Int)≥u
  ·rw[if_pos c1];refine⟨.inl ⟨rfl,fun i h1 h2 h3=>?_⟩,0,iM.refl _ _ _ _⟩
   rcases c1 with c1|c1
   ·exact absurd c1 e5
   ·omega
  ·rw[if_neg c1]
   by_cases c2:(p.length:Int)+(Tr.node r l x q).elems.length≤u/\may (S p) (S (Tr.node r l x q).elems)=an
   ·rw[if_pos c2];refine⟨.inl ⟨rfl,fun i h1 h2 h3=>?_⟩,0,iM.refl _ _ _ _⟩
    cases hP:P i with
    |false=>rfl
    |true=>have:=adO i h1 h2 hP;rw[c2.2] at this;cases this
   ·rw[if_neg c2];have Ky:dp (p++l.elems):=Z.left _ (x::(q.elems++s)) (by rw[PG];exact hg)
    have Ut:dp ((p++l.elems)++[x]):=Z.left _ (q.elems++s) (by rw[JX];exact hg)
    rw[pA Z Ky,BB Z,pA Z Ut];obtain⟨i1,kk,i2⟩:=Lz hA hg q (k:=k) (m:=aE (aE m l.root) q.root) (p:=p++l.elems++[x]) (s:=s) (df.2 (df.2 ho)) ((mf.aE _).aE _) JX (by omega)
    have hu:=(tH (O:=O) m l.root q.root).to i2 (S:=[]) (fun s hs=>by simp at hs) (a_ _)
    have AH:(p++l.elems++[x]).length=p.length+l.elems.length+1:=by simp;omega
    have Jg:(p++l.elems).length=p.length+l.elems.length:=by simp
    have hPx:=hA.at_ (p++l.elems) x (q.elems++s) PG
    by_cases c3:(last O may k (aE (aE m l.root) q.root) (nd O S q) ⟨(p++l.elems++[x]).length,S (p++l.elems++[x])⟩ u).1≥0
    ·rw[if_pos c3];refine⟨?_,_,hu⟩;rcases i1 with⟨h1,_⟩|⟨j,h1,h2,h3,h4,h5,h6⟩
     ·omega
     ·rw[AH] at h2 h3;exact .inr ⟨j,h1,by omega,by omega,h4,h5,fun i g1 g2 g3=>h6 i g1 (by rw[AH];omega) g3⟩
    ·rw[if_neg c3];have CI:∀ i:Nat,p.length+l.elems.length+1≤i->i<p.length+(Tr.node r l x q).elems.length->(i:Int)<u->P i=an:=by
      rcases i1 with⟨_,h⟩|⟨j,h1,_⟩
      ·exact fun i g1 g2 g3=>h i (by rw[AH];exact g1) (by rw[AH];omega) g3
      ·omega
     by_cases c4:((p++l.elems).length:Int)<u/\may (S (p++l.elems)) (O.sum x)=ao
     ·rw[if_pos c4];refine⟨.inr ⟨(p++l.elems).length,rfl,by omega,by omega,c4.1,by rw[hPx];exact c4.2,fun i h1 h2 h3=>CI i (by omega) h2 h3⟩,_,hu⟩
     ·rw[if_neg c4];obtain⟨j1,OG,j2⟩:=Lz hA hg l (k:=k) (m:=(last O may k (aE (aE m l.root) q.root) (nd O S q) ⟨(p++l.elems++[x]).length,S (p++l.elems++[x])⟩ u).2) (p:=p) (s:=x::q.elems++s) (Ri.2 (df.2 (df.2 ho)))
       (Rp.frame hu (fun s _ hs=>by cases hs) lZ) Wm (by omega)
      refine⟨?_,_,hu.to j2 (S:=[]) (fun s hs=>by simp at hs) (a_ _)⟩
      have UU:((p++l.elems).length:Int)<u->P (p++l.elems).length=an:=fun h=>by
       rw[hPx];cases hm:may (S (p++l.elems)) (O.sum x) with
       |false=>rfl
       |true=>exact absurd ⟨h,hm⟩ c4
      have OW:∀ i:Nat,p.length+l.elems.length≤i->i<p.length+(Tr.node r l x q).elems.length->(i:Int)<u->P i=an:=fun i h1 h2 h3=>by
       rcases cr (p.length+l.elems.length) i with h4|h4
       ·exact CI i h4 h2 h3
       ·have:i=(p++l.elems).length:=by omega
        rw[this];exact UU (by omega)
      rcases j1 with⟨h1,h2⟩|⟨j,h1,h2,h3,h4,h5,h6⟩
      ·refine .inl ⟨h1,fun i g1 g2 g3=>?_⟩
       rcases cr i (p.length+l.elems.length) with h4|h4
       ·exact h2 i g1 h4 g3
       ·exact OW i h4 g2 g3
      ·refine .inr ⟨j,h1,h2,by omega,h4,h5,fun i g1 g2 g3=>?_⟩
       rcases cr i (p.length+l.elems.length) with h7|h7
       ·exact h6 i g1 h7 g3
       ·exact OW i h7 g2 g3
end
end Gv
namespace Gv
open Rx
set_option linter.unusedSectionVars false
section
variable {E A:Type} (O:iO E A)
def om (e:E) (l:List E):List E:=l.takeWhile fun x=>decide (0<O.cmp e x)
def rW (e:E) (l:List E):List E:=l.dropWhile fun x=>decide (0<O.cmp e x)
def jx (e:E) (l:List E):Option E :=
 match rW O e l with
 |[]=>aj
 |x::_=>if O.cmp e x=0 then aa x else aj
def ue (l:List E):Prop:=l.Pairwise fun a b=>O.cmp a b<0
def lx (e:E) (l:List E):List E :=
 match jx O e l with
 |none=>om O e l++e::rW O e l
 |some _=>om O e l++e::(rW O e l).tail
def na (e:E) (l:List E):List E :=
 match jx O e l with
 |none=>l
 |some _=>om O e l++(rW O e l).tail
variable {O}
theorem Ho (e:E) (l:List E):om O e l++rW O e l=l:=Ae
theorem La (e:E) (l:List (Ref×E)):(lo O e l).map av=om O e (l.map av):=by
 unfold lo om;rw[List.takeWhile_map]
 rfl
theorem K7 (e:E) (l:List (Ref×E)):(hi O e l).map av=rW O e (l.map av):=by
 unfold hi rW;rw[List.dropWhile_map]
 rfl
theorem NP (e:E) (l:List (Ref×E)):(tR O e l).map av=jx O e (l.map av):=by
 grind[tR,jx,K7]
theorem xG {l:List (Ref×E)}:ue O (l.map av)↔tQ O l:=by simp_all[ue,tQ,List.pairwise_map]
theorem Uy (e:E) (l:List (Ref×E)):(hi O e l).tail.map av=(rW O e (l.map av)).tail:=by
 rw[← K7,List.map_tail]
theorem xv {e y:E} {l:List E} (h:0<O.cmp e y):om O e (y::l)=y::om O e l/\rW O e (y::l)=rW O e l/\jx O e (y::l)=jx O e l/\lx O e (y::l)=y::lx O e l/\na O e (y::l)=y::na O e l:=by
 have h1:om O e (y::l)=y::om O e l:=by simp_all[om]
 have h2:rW O e (y::l)=rW O e l:=by simp_all[rW]
 have h3:jx O e (y::l)=jx O e l:=by grind[jx]
 refine⟨h1,h2,h3,?_,?_⟩
 ·unfold lx;rw[h1,h2,h3];split<;>rfl
 grind[na]
theorem Nb {e y:E} {l:List E} (h:¬ 0<O.cmp e y):om O e (y::l)=[]/\rW O e (y::l)=y::l:=by simp_all[om,rW]
theorem DX {e y:E} {l:List E} (h:O.cmp e y=0):jx O e (y::l)=aa y/\lx O e (y::l)=e::l/\na O e (y::l)=l:=by simp_all[Nb,jx,lx,na]
theorem DZ {e y:E} {l:List E} (h:O.cmp e y<0):jx O e (y::l)=aj/\lx O e (y::l)=e::y::l/\na O e (y::l)=y::l:=by
 obtain⟨h1,h2⟩:=Nb (O:=O) (e:=e) (y:=y) (l:=l) (by omega)
 have h3:jx O e (y::l)=aj:=by unfold jx;grind
 grind[lx,na]
theorem YC {e:E}:∀ {l:List E} {x:E},x∈lx O e l->x=e∨x∈l
 |[],x,h=>by simp_all[lx,jx,rW,om]
 |y::l,x,h=>by
  rcases rH (O.cmp e y) 0 with c|c|c
  ·simp_all[DZ]
  ·rw[(DX c).2.1] at h
   grind
  ·rw[(xv c).2.2.2.1] at h;rcases bO.1 h with h|h
   ·grind
   ·rcases YC h with h|h
    all_goals grind
theorem Vz {e:E}:∀ {l:List E} {x:E},x∈na O e l->x∈l
 |[],x,h=>by simp_all[na,jx,rW]
 |y::l,x,h=>by
  rcases rH (O.cmp e y) 0 with c|c|c
  ·simp_all[DZ]
  ·simp_all[DX]
  ·rw[(xv c).2.2.2.2] at h;rcases bO.1 h with h|h
   ·grind
   ·exact eo _ (Vz h)
theorem XS {e:E}:∀ {l:List E},(lx O e l).length=l.length+(if(jx O e l).isSome then 0 else 1)
 |[]=>by rfl
 |y::l=>by
  rcases rH (O.cmp e y) 0 with c|c|c
  ·grind[DZ]
  ·grind[DX]
  ·rw[(xv c).2.2.2.1,(xv c).2.2.1,cy,cy,XS];omega
theorem V7 {e:E}:∀ {l:List E},(na O e l).length+(if(jx O e l).isSome then 1 else 0)=l.length
 |[]=>by rfl
 |y::l=>by
  rcases rH (O.cmp e y) 0 with c|c|c
  ·grind[DZ]
  ·grind[DX]
  ·have:=V7 (e:=e) (l:=l);rw[(xv c).2.2.2.2,(xv c).2.2.1,cy,cy];omega
variable {S:List E->A} {dp:List E->Prop} (Z:yG O S dp)
include Z
theorem Ln {e:E}:∀ {l:List E},ue O l->ue O (lx O e l)
 |[],h=>by simp[lx,jx,rW,om,ue]
 |y::l,h=>by
  obtain⟨h1,h2⟩:=gD.1 h;rcases rH (O.cmp e y) 0 with c|c|c
  ·rw[(DZ c).2.1];refine gD.2 ⟨fun x hx=>?_,h⟩
   rcases bO.1 hx with hx|hx
   ·grind
   ·exact Z.trans _ _ _ c (h1 x hx)
  ·rw[(DX c).2.1];exact gD.2 ⟨fun x hx=>Z.eqv _ _ _ c (h1 x hx),h2⟩
  ·rw[(xv c).2.2.2.1];refine gD.2 ⟨fun x hx=>?_,Ln h2⟩
   rcases YC hx with hx|hx
   ·rw[hx];exact(Z.swap _ _).2 c
   grind
omit Z in
theorem T_ {e:E}:∀ {l:List E},ue O l->ue O (na O e l)
 |[],h=>by simp[na,jx,rW,ue]
 |y::l,h=>by
  obtain⟨h1,h2⟩:=gD.1 h;rcases rH (O.cmp e y) 0 with c|c|c
  ·simp_all[DZ]
  ·rw[(DX c).2.2];exact h2
  ·rw[(xv c).2.2.2.2];exact gD.2 ⟨fun x hx=>h1 x (Vz hx),T_ h2⟩
end
end Gv
namespace Gv
open Rx
set_option linter.unusedSectionVars false
def mZ {N:Type} (k:Nat) (m m':PM N):Prop:=∃ j:Nat,j≤k/\(m'.cW=m.cW/\j=0∨m'.cW=W (m.cW+j))
theorem mZ.trans {N:Type} {k k':Nat} {a b c:PM N} (h:mZ k a b) (h':mZ k' b c):mZ (k+k') a c:=by
 obtain⟨j,hj,e⟩:=h;obtain⟨j',Ms,e'⟩:=h';refine⟨j+j',by omega,?_⟩
 rcases e with⟨e,rfl⟩|e<;>rcases e' with⟨e',rfl⟩|e'
 ·exact .inl ⟨e'.trans e,rfl⟩
 ·right;rw[e',e];congr 1;omega
 ·right;rw[e',e];congr 1
 ·right;rw[e',e,W_W];congr 1;omega
theorem mZ.mono {N:Type} {k k':Nat} {a b:PM N} (h:mZ k a b) (hk:k≤k'):mZ k' a b:=by
 obtain⟨j,hj,e⟩:=h;exact⟨j,jo hj hk,e⟩
section
variable {E A:Type} {O:iO E A} {S:List E->A} {dp:List E->Prop}
theorem iM.v {R:List Ref} {k:Nat} {z:Node E A} {m m':Po E A} (h:iM R k z m m'):mZ k m m':=h.qA
structure St (O:iO E A) (S:List E->A) (dp:List E->Prop) (n:Nat) (m:Po E A) (a b:Tr E):Prop where
 ok:fY n m
 ra:Rp O S m a
 rb:Rp O S m b
 ba:a.mB
 bb:b.mB
 sa:tQ O a.items
 sb:tQ O b.items
 lS:(a.refs++b.refs).Nodup
 held:m.held=a.items.length+b.items.length
 ga:dp a.elems
 gb:dp b.elems
theorem St.swap {n:Nat} {m:Po E A} {a b:Tr E} (h:St O S dp n m a b):St O S dp n m b a :=
 ⟨h.ok,h.rb,h.ra,h.bb,h.ba,h.sb,h.sa,(List.perm_append_comm.nodup_iff).1 h.lS,by rw[h.held];omega,h.gb,h.ga⟩
theorem St.M_ {n:Nat} {m:Po E A} {a b:Tr E} (h:St O S dp n m a b):a.refs.Nodup:=(cf.1 h.lS).1
theorem St.off {n:Nat} {m:Po E A} {a b:Tr E} (h:St O S dp n m a b):∀ s,s∈b.refs->s∉a.refs:=fun s hs ha=>(cf.1 h.lS).2.2 _ ha _ hs rfl
theorem St.look {n k:Nat} {m m':Po E A} {a b:Tr E} (h:St O S dp n m a b) (hu:iM [] k (zn O) m m'):St O S dp n m' a b :=
 ⟨hu.ok h.ok,Rp.frame hu (fun s _ hs=>by cases hs) h.ra,Rp.frame hu (fun s _ hs=>by cases hs) h.rb,h.ba,h.bb,h.sa,h.sb,h.lS,by rw[hu.held];exact h.held,h.ga,h.gb⟩
theorem St.aE {n:Nat} {m:Po E A} {a b:Tr E} (h:St O S dp n m a b) (r:Ref):St O S dp n (aK m r) a b:=h.look (gE _ m r)
theorem St.mono {n k:Nat} {m:Po E A} {a b:Tr E} (h:St O S dp n m a b) (hk:n≤k):St O S dp k m a b :=
 ⟨h.ok.mono hk,h.ra,h.rb,h.ba,h.bb,h.sa,h.sb,h.lS,h.held,h.ga,h.gb⟩
theorem St.first {n k:Nat} {m m':Po E A} {a a' b:Tr E} {root:Ref} {h9:List (Ref×E)} {R:List Ref} (h:St O S dp n m a b) (hi:Is O S m' root h9 a') (hu:iM R k (zn O) m m') (hR:∀ s,s∈R->s∈a.refs)
  (yK:∀ s,s∈a'.refs->s∈a.refs) (hnd:a'.refs.Nodup) (hlen:a'.items.length=a.items.length) (hs:ue O a'.elems) (hg:dp a'.elems):St O S dp n m' a' b :=
 ⟨hu.ok h.ok,hi.rp,Rp.frame hu (fun s hs hr=>h.off s hs (hR s hr)) h.rb,hi.mB,h.bb,xG.1 hs,h.sb,
  cf.2 ⟨hnd,(cf.1 h.lS).2.1,fun x hx y hy e=>by subst e;exact h.off x hy (yK x hx)⟩,by rw[hu.held,h.held,hlen],hg,h.gb⟩
theorem St.empty (hg:dp []) (c:Int) (n:Nat):St O S dp n ⟨[],[],[],[],0,c,0⟩ .nil .nil :=
 ⟨⟨rfl,rfl,(fun f hf=>by cases hf),RQ,dh _,dh _,(fun g hg=>by cases hg),(fun i hi=>by simp at hi),⟨by simp only;omega,by simp only;omega⟩⟩,trivial,trivial,trivial,trivial,rI,rI,RQ,rfl,hg,hg⟩
def QX (x y:List (Ref×E)) (r:Ref):List Ref:=x.map ax++r::y.map ax
theorem akO {e:E} {r:Ref} {x:Ref×E} {l:List (Ref×E)} (h:tR O e l=aa x):(lo O e l++(x.1,e)::(hi O e l).tail).map ax=l.map ax:=by
 have h1:=(tK h).1
 conv=>rhs;rw[← Af O e l,h1]
 simp
variable (Z:yG O S dp)
include Z
theorem aiP {n K:Nat} {e:E} {m:Po E A} {a b:Tr E} (h:St O S dp n m a b) (hn:n+1≤100000) (hg:dp (lx O e a.elems)) (hk:a.h<K) :
  QT O K m a.root e/\(nL O K m a.root e).1=((jx O e a.elems).isSome||decide (m.held≠m.cap)) /\
   ∃ a',(nL O K m a.root e).2.1=a'.root/\St O S dp (n+1) (nL O K m a.root e).2.2 a' b/\a'.elems=(if((jx O e a.elems).isSome||decide (m.held≠m.cap))=ao then lx O e a.elems else a.elems) /\
    mZ (32*a.h+4) m (nL O K m a.root e).2.2/\(nL O K m a.root e).2.2.cap=m.cap:=by
 have hD:=Bx a h.ok h.ra hk;have hE:(tR O e a.items).map av=jx O e a.elems:=NP e a.items;have AD:(lo O e a.items).map av=om O e a.elems:=La e a.items;have JZ:(hi O e a.items).map av=rW O e a.elems:=K7 e a.items;have FR:(hi O e a.items).tail.map av=(rW O e a.elems).tail:=Uy e a.items;have Sn:=Ln Z (e:=e) (xG.2 h.sa:ue O a.elems);have R:=IQ Z (e:=e) a (k:=K) h.ok h.ra h.ba h.sa h.M_ (fun x hx=>by
  have:jx O e a.elems=aa x.2:=by rw[← hE,hx];rfl
  unfold lx at hg;rw[this] at hg;rw[gd,dJ,gw,AD,FR];exact hg) hk
 cases hh:tR O e a.items with
 |some x =>
  rw[hh] at R hE;obtain⟨r1,a',r2,r3,r4⟩:=R;have hE:jx O e a.elems=aa x.2:=hE.symm;have e1:nL O K m a.root e=(ao,a.root,(replace O K m a.root e).2):=by rw[nL,if_pos r1]
  have e2:a'.elems=lx O e a.elems:=by
   rw[Tr.elems,r2.h9,dJ,gw,AD,FR];unfold lx;rw[hE]
  have e3:a'.refs=a.refs:=by rw[Tr.refs,r2.h9];exact akO (r:=r0) hh
  refine⟨⟨hD,fun hc=>?_⟩,by rw[e1,hE];rfl,a',by rw[e1];exact r2.root,?_,?_,?_,by rw[e1];exact r4.cap⟩
  ·have hp:=tu (zn O) (r4.ok h.ok) hc (fresh O e);refine⟨hp.2.mono hn,?_⟩;have hf:∀ t:Tr E,Rp O S (replace O K m a.root e).2 t->Rp O S (put (zn O) (replace O K m a.root e).2 (fresh O e)) t:=by
    intro t
    induction t with
    |nil=>exact fun _=>trivial
    |node r l y q ihl ihq =>
     intro⟨q1,q2,q3,q4⟩;have:=hp.1.old r q1;exact⟨this.1,by rw[lk,this.2];exact q2,ihl q3,ihq q4⟩
   have:=Bx a' (k:=K) hp.2 (hf a' r2.rp) (by omega)
   rw[← r2.root] at this;exact this
  ·rw[e1];refine(h.first r2 r4 (fun s hs=>hs) (fun s hs=>by rw[e3] at hs;exact hs) (by rw[e3];exact h.M_) (by rw[← Tr.Mh,e3,Tr.Mh]) (by rw[e2];exact Sn) (by rw[e2];exact hg)).mono (by omega)
  ·rw[e2,hE];rfl
  ·rw[e1];exact r4.v.mono (by omega)
 |none =>
  rw[hh] at R hE;obtain⟨r1,r2⟩:=R;have hE:jx O e a.elems=aj:=hE.symm;have h2:=h.look r2;have hup:lx O e a.elems=om O e a.elems++e::rW O e a.elems:=by unfold lx;rw[hE]
  by_cases hc:(replace O K m a.root e).2.held=(replace O K m a.root e).2.cap
  ·have Dk:m.held=m.cap:=by rw[← r2.held,← r2.cap,hc]
   have ep:put (zn O) (replace O K m a.root e).2 (fresh O e)=(replace O K m a.root e).2:=by unfold put;rw[if_pos hc]
   have e1:nL O K m a.root e=(an,a.root,(replace O K m a.root e).2):=by rw[nL,if_neg (by rw[r1];decide),if_pos hc,ep]
   have e4:((jx O e a.elems).isSome||decide (m.held≠m.cap))=an:=by rw[hE];simpa using Dk
   refine⟨⟨hD,fun hx=>absurd hc hx⟩,by rw[e1,e4],a,by rw[e1],by rw[e1];exact h2.mono (by omega),by rw[e4,if_neg (by decide)],by rw[e1];exact r2.v.mono (by omega),by rw[e1];exact r2.cap⟩
  ·have Dk:m.held≠m.cap:=by rw[← r2.held,← r2.cap];exact hc
   obtain⟨p1,p2⟩:=tu (zn O) h2.ok hc (fresh O e);have hf:∀ t:Tr E,Rp O S (replace O K m a.root e).2 t->Rp O S (put (zn O) (replace O K m a.root e).2 (fresh O e)) t:=by
    intro t
    induction t with
    |nil=>exact fun _=>trivial
    |node r l y q ihl ihq =>
     intro⟨q1,q2,q3,q4⟩;have:=p1.old r q1;exact⟨this.1,by rw[lk,this.2];exact q2,ihl q3,ihq q4⟩
   have um:∀ t:Tr E,Rp O S (replace O K m a.root e).2 t->me (zn O) (replace O K m a.root e).2∉t.refs:=fun t ht hr=>by
    have:=ht.has _ hr;rw[p1.new] at this;cases this
   have hnd:(me (zn O) (replace O K m a.root e).2::a.refs).Nodup:=fH.2 ⟨um a h2.ra,h.M_⟩;obtain⟨t',t1,t2,t3,t4⟩:=QA Z (f:=me (zn O) (replace O K m a.root e).2) (e:=e) a (k:=K) p2 (hf a h2.ra) h.ba h.sa hnd p1.has (by rw[lk,p1.look];rfl) hh
    (by rw[gd,dJ,gw,AD,JZ,← hup];exact hg) hk
   have e1:nL O K m a.root e=(ao,(kZ O K (put (zn O) (replace O K m a.root e).2 (fresh O e)) a.root (me (zn O) (replace O K m a.root e).2) e).1,(kZ O K (put (zn O) (replace O K m a.root e).2 (fresh O e)) a.root (me (zn O) (replace O K m a.root e).2) e).2):=by
    rw[nL,if_neg (by rw[r1];decide),if_neg hc]
   have e4:((jx O e a.elems).isSome||decide (m.held≠m.cap))=ao:=by rw[hE];simpa using Dk
   have e2:t'.elems=lx O e a.elems:=by rw[Tr.elems,t1.h9,dJ,gw,AD,JZ,hup]
   have e5:t'.refs=QX (lo O e a.items) (hi O e a.items) (me (zn O) (replace O K m a.root e).2):=by rw[Tr.refs,t1.h9,dJ,gw];rfl
   refine⟨⟨hD,fun _=>⟨p2.mono hn,Bx a p2 (hf a h2.ra) hk⟩⟩,by rw[e1,e4],t',by rw[e1];exact t1.root,?_,by rw[e4,if_pos rfl];exact e2,?_,by rw[e1];exact t4.cap.trans (p1.cap.trans r2.cap)⟩
   ·rw[e1];have hrf:=vo (O:=O) e a.items;have U':∀ s,s∈t'.refs↔s=me (zn O) (replace O K m a.root e).2∨s∈a.refs:=fun s=>by
     rw[e5,Tr.refs,← hrf];unfold QX;simp only[b7,bO]
     constructor
     ·rintro (h|h|h)<;>simp[h]
     ·rintro (h|h|h)<;>simp[h]
    refine⟨t4.ok p2,t1.rp,Rp.frame t4 (fun s hs hr=>?_) (hf b h2.rb),t1.mB,h.bb,xG.1 (by rw[show t'.items.map av=t'.elems from rfl,e2];exact Sn),h.sb,?_,?_,by rw[e2];exact hg,h.gb⟩
    ·rcases bO.1 hr with hr|hr
     ·exact um b h2.rb (by rw[← hr];exact hs)
     ·exact h.off s hs hr
    ·refine cf.2 ⟨?_,(cf.1 h.lS).2.1,fun x hx y hy e=>?_⟩
     ·rw[e5];unfold QX;refine(yX.nodup_iff).2 ?_;rw[hrf];exact hnd
     ·subst e;rcases(U' x).1 hx with hr|hr
      ·exact um b h2.rb (by rw[← hr];exact hy)
      ·exact h.off x hy hr
    ·have hl:t'.items.length=a.items.length+1:=by
      have:=XS (O:=O) (e:=e) (l:=a.elems);rw[hE] at this;rw[← Tr.e9,e2,this,Tr.e9]
      rfl
     rw[t4.held,p1.held,h2.held,hl];omega
   ·rw[e1];have:mZ 0 (replace O K m a.root e).2 (put (zn O) (replace O K m a.root e).2 (fresh O e)):=⟨0,a_ _,.inl ⟨p1.qA,rfl⟩⟩;exact((r2.v.trans this).trans t4.v).mono (by omega)
end
end Gv
namespace Gv
open Rx
set_option linter.unusedSectionVars false
section
variable {E A:Type} {O:iO E A} {S:List E->A} {dp:List E->Prop}
theorem ahv {e:E} {x:Ref×E} {l:List (Ref×E)} (h:tR O e l=aa x):(x.1::rf (lo O e l++(hi O e l).tail)).Perm (l.map ax):=by
 have h1:=(tK h).1;have h2:l.map ax=(lo O e l).map ax++x.1::(hi O e l).tail.map ax:=by
  conv=>lhs;rw[← Af O e l,h1]
  simp
 rw[h2];unfold rf;rw[dJ];exact yX.symm
theorem ab8 {m:Po E A} {z:Node E A} {r:Ref} (h:has m r=an):drop z m r=m:=by unfold drop;rw[if_neg (by rw[h];decide)]
variable (Z:yG O S dp)
include Z
theorem af6 {n K:Nat} {e:E} {m:Po E A} {a b:Tr E} (h:St O S dp n m a b) (hg:dp (om O e a.elems++(rW O e a.elems).tail)) (hk:2*a.h<K) :
  qk O K K m a.root e/\(jL O K m a.root e).1=(jx O e a.elems).getD O.e0/\(jL O K m a.root e).2.1=(jx O e a.elems).isSome /\
   ∃ a',(jL O K m a.root e).2.2.1=a'.root/\St O S dp (n+1) (jL O K m a.root e).2.2.2 a' b/\a'.elems=na O e a.elems /\
    mZ (120*a.h+5) m (jL O K m a.root e).2.2.2/\(jL O K m a.root e).2.2.2.cap=m.cap:=by
 have hE:(tR O e a.items).map av=jx O e a.elems:=NP e a.items;have AD:(lo O e a.items).map av=om O e a.elems:=La e a.items;have FR:(hi O e a.items).tail.map av=(rW O e a.elems).tail:=Uy e a.items;have Sn:=T_ (e:=e) (xG.2 h.sa:ue O a.elems);obtain⟨R1,R⟩:=Le Z (K:=K) (e:=e) a (k:=K) h.ok h.ra h.ba h.sa h.M_ (by rw[gd,dJ,AD,FR];exact hg) (by omega) hk
 refine⟨R1,?_⟩;unfold jL;cases hh:tR O e a.items with
 |none =>
  rw[hh] at R hE;obtain⟨r1,r2,r3⟩:=R;have hE:jx O e a.elems=aj:=hE.symm;have h2:=h.look r3;have hz:=h2.ok.z0;have h0:lk O (pick O K K m a.root e).2.2 r0=zn O:=by unfold lk look;rw[if_neg (by rw[hz];decide)]
  rw[r1,r2,h0,hz,ab8 hz,hE];refine⟨rfl,rfl,a,rfl,h2.mono (by omega),?_,r3.v.mono (by omega),r3.cap⟩
  unfold na;rw[hE]
 |some x =>
  rw[hh] at R hE;obtain⟨r1,t,r2,r3,r4,r5⟩:=R;have hE:jx O e a.elems=aa x.2:=hE.symm;have hp:=ahv hh;have UU:x.1∉rf (lo O e a.items++(hi O e a.items).tail)/\(rf (lo O e a.items++(hi O e a.items).tail)).Nodup:=fH.1 ((hp.nodup_iff).2 h.M_);have U':∀ s,s∈a.refs↔s=x.1∨s∈rf (lo O e a.items++(hi O e a.items).tail):=fun s=>by
   rw[Tr.refs,← hp.mem_iff,bO]
  have hxm:=(tK hh).2.2;have A9:has m x.1=ao:=h.ra.has _ (List.mem_map_of_mem hxm);have aiU:has (pick O K K m a.root e).2.2 x.1=ao:=by rw[r5.has];exact A9
  have ho:=r5.ok h.ok;obtain⟨d1,d2,d3,d4,d5,d6⟩:=tc (zn O) ho aiU;have hf:∀ u:Tr E,x.1∉u.refs->Rp O S (pick O K K m a.root e).2.2 u->Rp O S (drop (zn O) (pick O K K m a.root e).2.2 x.1) u:=by
   intro u
   induction u with
   |nil=>exact fun _ _=>trivial
   |node r l y q ihl ihq =>
    intro hx ⟨q1,q2,q3,q4⟩;rw[Tr.jK] at hx;simp only[b7,bO,not_or] at hx;have:=d2 r (fun e=>hx.2.1 e.symm)
    exact⟨by rw[this.1];exact q1,by rw[lk,this.2];exact q2,ihl hx.1 q3,ihq hx.2.2 q4⟩
  have et:t.refs=rf (lo O e a.items++(hi O e a.items).tail):=by rw[Tr.refs,r2.h9]
  have ee:t.elems=na O e a.elems:=by
   rw[Tr.elems,r2.h9,dJ,AD,FR];unfold na;rw[hE]
  rw[r1];have hel:(lk O (pick O K K m a.root e).2.2 x.1).e=x.2:=by
   have:lk O (pick O K K m a.root e).2.2 x.1=lk O m x.1:=r5.look _ UU.1;rw[this];exact h.ra.elem x hxm
  refine⟨by rw[hel,hE];rfl,by rw[aiU,hE];rfl,t,r2.root,?_,ee,?_,by rw[d5];exact r5.cap⟩
  ·refine⟨d1,hf t (by rw[et];exact UU.1) r2.rp,hf b (fun hb=>h.off _ hb ((U' _).2 (.inl rfl))) (Rp.frame r5 (fun s hs hr=>h.off s hs ((U' s).2 (.inr hr))) h.rb),r2.mB,h.bb,
    xG.1 (by rw[show t.items.map av=t.elems from rfl,ee];exact Sn),h.sb,?_,?_,?_,h.gb⟩
   ·exact cf.2 ⟨by rw[et];exact UU.2,(cf.1 h.lS).2.1,fun y hy z hz e=>by subst e;exact h.off y hz ((U' y).2 (.inr (by rw[← et];exact hy)))⟩
   ·have hl:=V7 (O:=O) (e:=e) (l:=a.elems);rw[hE,← ee,Tr.e9,Tr.e9] at hl;rw[d4,r5.held,h.held];simp only[C_,if_true] at hl;omega
   ·rw[Tr.elems,r2.h9,dJ,AD,FR];exact hg
  ·have:mZ 1 (pick O K K m a.root e).2.2 (drop (zn O) (pick O K K m a.root e).2.2 x.1):=⟨1,a_ _,.inr d6⟩;exact(r5.v.trans this).mono (by omega)
theorem adp {n K:Nat} {e:E} {m:Po E A} {a:Tr E} (h:St O S dp n m a .nil) (hk:2*a.items.length<K) :
  JB O K K m a.root e/\∃ x y,(lV O K K m a.root e).1=x.root/\(lV O K K m a.root e).2.1=y.root/\St O S dp n (lV O K K m a.root e).2.2 x y/\x.elems=om O e a.elems/\y.elems=rW O e a.elems/\(lV O K K m a.root e).2.2.cap=m.cap:=by
 have hh:=a.A5;obtain⟨r1,x,y,r2,r3,kk,r4⟩:=Vp Z (K:=K) (e:=e) a (k:=K) h.ok h.ra h.ba h.sa h.M_ h.ga (by omega) hk
 have ex:x.elems=om O e a.elems:=by rw[Tr.elems,r2.h9];exact La e a.items
 have ey:y.elems=rW O e a.elems:=by rw[Tr.elems,r3.h9];exact K7 e a.items
 have Sn:ue O a.elems:=xG.2 h.sa;have hle:=Ho (O:=O) e a.elems;rw[← hle] at Sn;have hg:=h.ga;rw[← hle] at hg;have hrf:=vo (O:=O) e a.items;refine⟨r1,x,y,r2.root,r3.root,⟨r4.ok h.ok,r2.rp,r3.rp,r2.mB,r3.mB,xG.1 ?_,xG.1 ?_,?_,?_,?_,?_⟩,ex,ey,r4.cap⟩
 ·rw[show x.items.map av=x.elems from rfl,ex];exact(nD.1 Sn).1
 ·rw[show y.items.map av=y.elems from rfl,ey];exact(nD.1 Sn).2.1
 ·rw[Tr.refs,Tr.refs,r2.h9,r3.h9,hrf];exact h.M_
 ·rw[r4.held,h.held,r2.h9,r3.h9];have:=congrArg ae (Af O e a.items);rw[bF] at this;simp only[Tr.items,jM];omega
 ·rw[ex];exact Z.left _ _ hg
 ·rw[ey];exact Z.right _ _ hg
end
end Gv
namespace Gv
open Rx
set_option linter.unusedSectionVars false
theorem Tr.N3 {E:Type}:∀ t:Tr E,t.mB->2 ^ (t.h / 2)≤t.items.length+1
 |.nil,_=>by simp[Tr.h,Tr.items]
 |.node r l e q,⟨h1,h2,h3,h4⟩=>by
  have i1:=N3 l h1;have i2:=N3 q h2;simp only[Tr.h,Tr.items,bF,cy]
  by_cases c:max l.h q.h=0
  ·rw[c];simp
  ·have k1:(1+max l.h q.h) / 2=(max l.h q.h-1) / 2+1:=by omega
   rw[k1,Nat.pow_succ];have k2:(max l.h q.h-1) / 2≤l.h / 2:=by omega
   have k3:(max l.h q.h-1) / 2≤q.h / 2:=by omega
   have j1:2 ^ ((max l.h q.h-1) / 2)≤2 ^ (l.h / 2):=IY (by omega) k2
   have j2:2 ^ ((max l.h q.h-1) / 2)≤2 ^ (q.h / 2):=IY (by omega) k3
   omega
def nc (n:Nat):Nat:=2+3*N_ (n+1)
theorem Tr.DB {E:Type} (t:Tr E) (h:t.mB):t.h≤nc t.items.length:=by
 have h1:=t.N3 h;have h2:t.h / 2≤N_ (t.items.length+1):=(Xj (by omega)).2 h1
 unfold nc;omega
theorem ada {a b:Nat} (h:a≤b):nc a≤nc b:=by
 unfold nc;have:N_ (a+1)≤N_ (b+1):=(Xj (by omega)).2 (jo (Nat.log2_self_le (by omega)) (by omega))
 omega
section
variable {E A:Type} {O:iO E A} {S:List E->A} {dp:List E->Prop}
def iw (O:iO E A) (e:E) (l:List E):E×Bool:=((jx O e l).getD O.e0,(jx O e l).isSome)
def pX (O:iO E A) (i:Int) (l:List E):E×Bool:=if 0≤i/\i<l.length then(l.getD i.toNat O.e0,ao) else(O.e0,an)
structure Same (O:iO E A) (S:List E->A) (dp:List E->Prop) (n k:Nat) (m m':Po E A) (a b:Tr E):Prop where
 st:St O S dp n m' a b
 qA:mZ k m m'
 cap:m'.cap=m.cap
theorem St.up {n k:Nat} {m m':Po E A} {a b:Tr E} {r:Ref} (h:St O S dp n m a b) (hu:iM [] k (zn O) (aK m r) m'):Same O S dp n (k+1) m m' a b:=by
 have:=(gE (zn O) m r).to hu (S:=[]) (fun s hs=>by simp at hs) (Nat.le_of_eq (Nat.add_comm 1 k))
 exact⟨h.look this,this.v,this.cap⟩
theorem St.seen {n:Nat} {m:Po E A} {a b:Tr E} (h:St O S dp n m a b) (r:Ref):Same O S dp n 1 m (aK m r) a b:=h.up (iM.refl _ _ _ _)
theorem Same.mono {n k k':Nat} {m m':Po E A} {a b:Tr E} (h:Same O S dp n k m m' a b) (hk:k≤k'):Same O S dp n k' m m' a b:=⟨h.st,h.qA.mono hk,h.cap⟩
theorem St.lk {n:Nat} {m:Po E A} {a b:Tr E} (h:St O S dp n m a b):br O m a.root=nd O S a:=h.ra.root h.ok
theorem St.hh {n:Nat} {m:Po E A} {a b:Tr E} (h:St O S dp n m a b):(br O m a.root).h=(a.h:Int):=by rw[h.lk,rj]
variable (Z:yG O S dp)
include Z
theorem St.nn {n:Nat} {m:Po E A} {a b:Tr E} (h:St O S dp n m a b):(br O m a.root).all.n=(a.elems.length:Int):=by rw[h.lk,ry Z.nil,Tr.e9]
theorem aho {n K:Nat} {e:E} {m:Po E A} {a b:Tr E} (h:St O S dp n m a b) (hk:a.h<K) :
  tX O K (aK m a.root) (br O m a.root) e/\∃ m',find O K (aK m a.root) (br O m a.root) e=(iw O e a.elems,m')/\Same O S dp n (a.h+1) m m' a b:=by
 have h2:=h.aE a.root;obtain⟨r1,r2,r3⟩:=QV Z (e:=e) a (k:=K) h2.ok h2.ra h.sa hk;rw[h.lk];refine⟨r1,_,kd ?_ rfl,h.up r3⟩;rw[r2];have hE:=NP (O:=O) e a.items;unfold iw;rw[show a.elems=a.items.map av from rfl,← hE]
 cases tR O e a.items<;>rfl
theorem aht {n K:Nat} {e:E} {m:Po E A} {a b:Tr E} (h:St O S dp n m a b) (hk:a.h<K) :
  tq O K (aK m a.root) (br O m a.root) e 0/\∃ m',kB O K (aK m a.root) (br O m a.root) e 0=(((om O e a.elems).length:Int),m')/\Same O S dp n (2*a.h+1) m m' a b:=by
 have h2:=h.aE a.root;have hl:=Z.len _ h.ga;rw[Tr.e9] at hl;obtain⟨r1,r2,r3⟩:=RM Z (e:=e) a (k:=K) (c:=0) h2.ok h2.ra h.sa hk (Int.le_refl _) (by omega)
 rw[h.lk];refine⟨r1,_,kd ?_ rfl,h.up r3⟩;rw[r2,show a.elems=a.items.map av from rfl,← La,fS]
 omega
theorem alm {n K:Nat} {i:Int} {m:Po E A} {a b:Tr E} (h:St O S dp n m a b) (hk:a.h<K) :
  AtD O K m a.root i/\∃ m',qH O K m a.root i=(pX O i a.elems,m')/\Same O S dp n (2*a.h+1) m m' a b:=by
 have h2:=h.aE a.root;have hl:=Z.len _ h.ga;have hn:=h.nn Z;unfold AtD qH pX;rw[hn]
 by_cases c:i<0∨i≥(a.elems.length:Int)
 ·rw[if_pos c,if_neg (by omega)]
  exact⟨fun h3 h4=>by omega,_,rfl,(h.seen _).mono (by omega)⟩
 ·rw[if_neg c,if_pos (by omega)]
  rw[Tr.e9] at hl c;obtain⟨r1,r2,r3⟩:=U_ Z a (k:=K) (i:=i.toNat) h2.ok h2.ra hl hk (by omega)
  have e:((i.toNat:Nat):Int)=i:=by omega
  rw[e] at r1 r2 r3;rw[h.lk];exact⟨fun _ _=>r1,_,kd (by rw[r2]) rfl,h.up r3⟩
theorem aip {n K:Nat} {f u:Int} {m:Po E A} {a b:Tr E} (h:St O S dp n m a b) (hk:a.h<K) :
  vr O K (aK m a.root) (br O m a.root) f u/\∃ m',fX O K (aK m a.root) (br O m a.root) f u=(⟨(sub a.elems f.toNat u.toNat).length,S (sub a.elems f.toNat u.toNat)⟩,m')/\Same O S dp n (4*a.h+1) m m' a b:=by
 have h2:=h.aE a.root;obtain⟨r1,r2,r3⟩:=Io Z (f:=f) (u:=u) a (k:=K) h2.ok h2.ra h.ga hk;rw[h.lk];exact⟨r1,_,kd r2 rfl,(h.up r3).mono (by have:=(Qs a.h a.elems.length f u).1;omega)⟩
theorem akq {n K:Nat} {m:Po E A} {a b:Tr E} (h:St O S dp n m a b) (hk:a.h<K) :
  Deep O K m a.root/\(br O m a.root).all.n=(a.elems.length:Int)/\∃ m' kk,cv O K (aK m a.root) a.root=(a.elems,m')/\Same O S dp n kk m m' a b:=by
 have h2:=h.aE a.root;obtain⟨r1,kk,r2⟩:=Kx a (k:=K) h2.ok h2.ra hk;exact⟨Bx a h.ok h.ra hk,h.nn Z,_,_,kd r1 rfl,h.up r2⟩
theorem MZ {n K:Nat} {m:Po E A} {a b:Tr E} (h:St O S dp n m a b) (hk:a.h<K):ji O K (aK m a.root) (br O m a.root) :=
 qa (Bx a h.ok h.ra hk) (fun s=>ir ..)
theorem adH {n K:Nat} {f:Int} {may:A->A->Bool} {P:Nat->Bool} {m:Po E A} {a b:Tr E} (h:St O S dp n m a b) (hA:Asks O S may P a.elems) (hk:a.h<K) :
  ji O K (aK m a.root) (br O m a.root)/\∃ r m' kk,first O may K (aK m a.root) (br O m a.root) ⟨0,O.a0⟩ f=(r,m')/\BZ P 0 a.elems.length f r/\Same O S dp n kk m m' a b:=by
 have h2:=h.aE a.root;obtain⟨r1,kk,r2⟩:=H7 Z (f:=f) hA h.ga a (k:=K) (p:=[]) (s:=[]) h2.ok h2.ra (by simp) hk
 have e0:(([]:List E).length:Int)=0:=rfl;rw[e0,Z.nil,jM,bU] at r1;rw[e0,Z.nil] at r2;refine⟨MZ Z h hk,_,_,_,rfl,?_,h.up (r:=a.root) (k:=kk) ?_⟩
 ·rw[h.lk];exact r1
 ·rw[h.lk];exact r2
theorem agR {n K:Nat} {f:Int} {may:A->A->Bool} {P:Nat->Bool} {m:Po E A} {a b:Tr E} (h:St O S dp n m a b) (hA:Asks O S may P a.elems) (hk:a.h<K) :
  ji O K (aK m a.root) (br O m a.root)/\∃ r m' kk,last O may K (aK m a.root) (br O m a.root) ⟨0,O.a0⟩ f=(r,m')/\EH P 0 a.elems.length f r/\Same O S dp n kk m m' a b:=by
 have h2:=h.aE a.root;obtain⟨r1,kk,r2⟩:=Lz Z (u:=f) hA h.ga a (k:=K) (p:=[]) (s:=[]) h2.ok h2.ra (by simp) hk
 have e0:(([]:List E).length:Int)=0:=rfl;rw[e0,Z.nil,jM,bU] at r1;rw[e0,Z.nil] at r2;refine⟨MZ Z h hk,_,_,_,rfl,?_,h.up (r:=a.root) (k:=kk) ?_⟩
 ·rw[h.lk];exact r1
 ·rw[h.lk];exact r2
theorem ahk {n K:Nat} {e:E} {m:Po E A} {a b:Tr E} (h:St O S dp n m a b) (hn:n+1≤100000) (hg:dp (lx O e a.elems)) (hk:a.h<K) :
  QT O K m a.root e/\∃ a' m',nL O K m a.root e=(((jx O e a.elems).isSome||decide (m.held≠m.cap)),a'.root,m')/\St O S dp (n+1) m' a' b /\
   a'.elems=(if((jx O e a.elems).isSome||decide (m.held≠m.cap))=ao then lx O e a.elems else a.elems)/\mZ (32*a.h+4) m m'/\m'.cap=m.cap:=by
 obtain⟨r1,r2,a',r3,r4,r5,r6,r7⟩:=aiP Z h hn hg hk;exact⟨r1,a',_,kd r2 (kd r3 rfl),r4,r5,r6,r7⟩
theorem adv {n K:Nat} {e:E} {m:Po E A} {a b:Tr E} (h:St O S dp n m a b) (hg:dp (om O e a.elems++(rW O e a.elems).tail)) (hk:2*a.h<K) :
  qk O K K m a.root e/\∃ a' m',jL O K m a.root e=((iw O e a.elems).1,(iw O e a.elems).2,a'.root,m')/\St O S dp (n+1) m' a' b/\a'.elems=na O e a.elems/\mZ (120*a.h+5) m m'/\m'.cap=m.cap:=by
 obtain⟨r1,r2,r3,a',r4,r5,r6,r7,r8⟩:=af6 Z h hg hk;exact⟨r1,a',_,kd r2 (kd r3 (kd r4 rfl)),r5,r6,r7,r8⟩
theorem acD {n K:Nat} {e:E} {m:Po E A} {a:Tr E} (h:St O S dp n m a .nil) (hk:2*a.items.length<K) :
  JB O K K m a.root e/\∃ x y m',lV O K K m a.root e=(x.root,y.root,m')/\St O S dp n m' x y/\x.elems=om O e a.elems/\y.elems=rW O e a.elems/\m'.cap=m.cap:=by
 obtain⟨r1,x,y,r2,r3,r4,r5,r6,r7⟩:=adp Z (e:=e) h hk;exact⟨r1,x,y,_,kd r2 (kd r3 rfl),r4,r5,r6,r7⟩
end
end Gv
namespace Gv
open Rx
set_option linter.unusedSectionVars false
structure Kd (E A:Type) where
 O:iO E A
 S:List E->A
 dp:List E->Prop
 dec:∀ l,Decidable (dp l)
 Z:yG O S dp
 short:∀ x,dp x->x.length≤1000
 ans:dp []
 anb:∀ x y,dp (x++y)->dp (x++y.tail)
instance {E A:Type} (k:Kd E A) (l:List E):Decidable (k.dp l):=k.dec l
theorem rZ {E:Type} (a:Tr E):a.h≤a.elems.length:=by rw[Tr.e9];exact a.A5
theorem acH {E:Type} {t:Tr E} (h:t.elems=[]):t=.nil:=by
 cases t with
 |nil=>rfl
 |node r l e q=>rw[Tr.gG] at h;simp at h
section
variable {E A:Type}
def P2 (k:Kd E A) (n:Nat) (m:Po E A) (ra rb:Ref) (la lb:List E) (c:Int):Prop:=∃ a b:Tr E,a.root=ra/\b.root=rb/\St k.O k.S k.dp n m a b/\a.elems=la/\b.elems=lb/\m.cap=c
abbrev P1 (k:Kd E A) (n:Nat) (m:Po E A) (r:Ref) (l:List E) (c:Int):Prop:=P2 k n m r r0 l [] c
structure Sm (k:Kd E A) (n v:Nat) (m m':Po E A) (ra rb:Ref) (la lb:List E) (c:Int):Prop where
 p:P2 k n m' ra rb la lb c
 qA:mZ v m m'
variable {k:Kd E A} {n:Nat} {m:Po E A} {ra rb:Ref} {la lb:List E} {c:Int}
theorem FN {v:Nat} {a b:Tr E} {m':Po E A} (h:Same k.O k.S k.dp n v m m' a b) (h6:m.cap=c):Sm k n v m m' a.root b.root a.elems b.elems c :=
 ⟨⟨a,b,rfl,rfl,h.st,rfl,rfl,h.cap.trans h6⟩,h.qA⟩
namespace P2
theorem swap (h:P2 k n m ra rb la lb c):P2 k n m rb ra lb la c:=by
 obtain⟨a,b,h1,h2,h3,h4,h5,h6⟩:=h;exact⟨b,a,h2,h1,h3.swap,h5,h4,h6⟩
theorem mono {q:Nat} (h:P2 k n m ra rb la lb c) (hk:n≤q):P2 k q m ra rb la lb c:=by
 obtain⟨a,b,h1,h2,h3,h4,h5,h6⟩:=h;exact⟨a,b,h1,h2,h3.mono hk,h4,h5,h6⟩
theorem empty (k:Kd E A) (c:Int):P1 k 0 ⟨[],[],[],[],0,c,0⟩ r0 [] c :=
 ⟨.nil,.nil,rfl,rfl,St.empty k.ans c 0,rfl,rfl,rfl⟩
theorem qi {m':Po E A} (h:P2 k n m ra rb la lb c) (hu:∃ v,iM [] v (zn k.O) m m'):P2 k n m' ra rb la lb c:=by
 obtain⟨a,b,h1,h2,h3,h4,h5,h6⟩:=h;obtain⟨v,hu⟩:=hu;exact⟨a,b,h1,h2,h3.look hu,h4,h5,hu.cap.trans h6⟩
theorem ok (h:P2 k n m ra rb la lb c) (hn:n≤100000):fY 100000 m:=by
 obtain⟨a,b,h1,h2,h3,h4,h5,h6⟩:=h;exact h3.ok.mono hn
theorem dp (h:P2 k n m ra rb la lb c):k.dp la:=by
 obtain⟨a,b,h1,h2,h3,h4,h5,h6⟩:=h;rw[← h4];exact h3.ga
theorem oB (h:P2 k n m ra rb la lb c):ue k.O la:=by
 obtain⟨a,b,h1,h2,h3,h4,h5,h6⟩:=h;rw[← h4];exact xG.2 h3.sa
theorem len (h:P2 k n m ra rb la lb c):la.length≤1000:=k.short _ h.dp
theorem held (h:P2 k n m ra rb la lb c):m.held=la.length+lb.length:=by
 obtain⟨a,b,h1,h2,h3,h4,h5,h6⟩:=h;rw[h3.held,← h4,← h5,Tr.e9,Tr.e9]
theorem cap (h:P2 k n m ra rb la lb c):m.cap=c:=by
 obtain⟨a,b,h1,h2,h3,h4,h5,h6⟩:=h;exact h6
theorem seen (h:P2 k n m ra rb la lb c) (r:Ref):Sm k n 1 m (aE m r) ra rb la lb c:=by
 obtain⟨a,b,rfl,rfl,h3,rfl,rfl,h6⟩:=h;exact FN (h3.seen r) h6
theorem nn (h:P2 k n m ra rb la lb c):(lk k.O m ra).all.n=(la.length:Int):=by
 obtain⟨a,b,rfl,rfl,h3,rfl,rfl,h6⟩:=h;exact h3.nn k.Z
theorem akW (h:P2 k n m ra rb la lb c):∃ H:Nat,(lk k.O m ra).h=(H:Int)/\H≤nc la.length:=by
 obtain⟨a,b,rfl,rfl,h3,rfl,rfl,h6⟩:=h;refine⟨a.h,h3.hh,?_⟩;rw[Tr.e9];exact a.DB h3.ba
theorem put {K:Nat} {e:E} (h:P2 k n m ra rb la lb c) (hn:n+1≤100000) (hg:k.dp (lx k.O e la)) (hk:la.length<K) :
  QT k.O K m ra e/\∃ r' m',nL k.O K m ra e=(((jx k.O e la).isSome||decide (((la.length+lb.length:Nat):Int)≠c)),r',m') /\
   P2 k (n+1) m' r' rb (if((jx k.O e la).isSome||decide (((la.length+lb.length:Nat):Int)≠c))=ao then lx k.O e la else la) lb c/\mZ (32*nc la.length+4) m m':=by
 have hh:=h.held;obtain⟨a,b,rfl,rfl,h3,rfl,rfl,h6⟩:=h;obtain⟨d,a',m',e1,e2,e3,e4,e5⟩:=ahk k.Z (e:=e) h3 hn hg (iZ (rZ a) hk);have hb:((jx k.O e a.elems).isSome||decide (m.held≠m.cap))=((jx k.O e a.elems).isSome||decide (((a.elems.length+b.elems.length:Nat):Int)≠c)):=by
  rw[hh,h6];push_cast;rfl
 rw[hb] at e1 e3;exact⟨d,a'.root,m',e1,⟨a',b,rfl,rfl,e2,e3,rfl,e5.trans h6⟩,e4.mono (by have:=a.DB h3.ba;rw[Tr.e9];omega)⟩
theorem drop {K:Nat} {e:E} (h:P2 k n m ra rb la lb c) (hk:2*la.length<K) :
  qk k.O K K m ra e/\∃ r' m',jL k.O K m ra e=((iw k.O e la).1,(iw k.O e la).2,r',m')/\P2 k (n+1) m' r' rb (na k.O e la) lb c/\mZ (120*nc la.length+5) m m':=by
 obtain⟨a,b,rfl,rfl,h3,rfl,rfl,h6⟩:=h;have hh:=rZ a;obtain⟨d,a',m',e1,e2,e3,e4,e5⟩:=adv k.Z (K:=K) (e:=e) h3 (k.anb _ _ (by rw[Ho];exact h3.ga)) (by omega)
 exact⟨d,a'.root,m',e1,⟨a',b,rfl,rfl,e2,e3,rfl,e5.trans h6⟩,e4.mono (by have:=a.DB h3.ba;rw[Tr.e9];omega)⟩
theorem find {K:Nat} {e:E} (h:P2 k n m ra rb la lb c) (hk:la.length<K) :
  tX k.O K (aE m ra) (lk k.O m ra) e/\∃ m',iF k.O K (aE m ra) (lk k.O m ra) e=(iw k.O e la,m')/\Sm k n (nc la.length+1) m m' ra rb la lb c:=by
 obtain⟨a,b,rfl,rfl,h3,rfl,rfl,h6⟩:=h;obtain⟨d,m',e1,e2⟩:=aho k.Z (K:=K) (e:=e) h3 (iZ (rZ a) hk);exact⟨d,m',e1,FN (e2.mono (by have:=a.DB h3.ba;rw[Tr.e9];omega)) h6⟩
theorem kB {K:Nat} {e:E} (h:P2 k n m ra rb la lb c) (hk:la.length<K) :
  tq k.O K (aE m ra) (lk k.O m ra) e 0/\∃ m',lQ k.O K (aE m ra) (lk k.O m ra) e 0=(((om k.O e la).length:Int),m')/\Sm k n (2*nc la.length+1) m m' ra rb la lb c:=by
 obtain⟨a,b,rfl,rfl,h3,rfl,rfl,h6⟩:=h;obtain⟨d,m',e1,e2⟩:=aht k.Z (K:=K) (e:=e) h3 (iZ (rZ a) hk);exact⟨d,m',e1,FN (e2.mono (by have:=a.DB h3.ba;rw[Tr.e9];omega)) h6⟩
theorem at_ {K:Nat} {i:Int} (h:P2 k n m ra rb la lb c) (hk:la.length<K) :
  AtD k.O K m ra i/\∃ m',qH k.O K m ra i=(pX k.O i la,m')/\Sm k n (2*nc la.length+1) m m' ra rb la lb c:=by
 obtain⟨a,b,rfl,rfl,h3,rfl,rfl,h6⟩:=h;obtain⟨d,m',e1,e2⟩:=alm k.Z (K:=K) (i:=i) h3 (iZ (rZ a) hk);exact⟨d,m',e1,FN (e2.mono (by have:=a.DB h3.ba;rw[Tr.e9];omega)) h6⟩
theorem FY {K:Nat} {f u:Int} (h:P2 k n m ra rb la lb c) (hk:la.length<K) :
  vr k.O K (aE m ra) (lk k.O m ra) f u/\∃ m',fX k.O K (aE m ra) (lk k.O m ra) f u=(⟨(sub la f.toNat u.toNat).length,k.S (sub la f.toNat u.toNat)⟩,m')/\Sm k n (4*nc la.length+1) m m' ra rb la lb c:=by
 obtain⟨a,b,rfl,rfl,h3,rfl,rfl,h6⟩:=h;obtain⟨d,m',e1,e2⟩:=aip k.Z (K:=K) (f:=f) (u:=u) h3 (iZ (rZ a) hk);exact⟨d,m',e1,FN (e2.mono (by have:=a.DB h3.ba;rw[Tr.e9];omega)) h6⟩
theorem all {K:Nat} (h:P2 k n m ra rb la lb c) (hk:la.length<K) :
  (Deep k.O K m ra/\(lk k.O m ra).all.n=(cv k.O K (aE m ra) ra).1.length/\(cv k.O K (aE m ra) ra).1.length<900000)/\∃ m',cv k.O K (aE m ra) ra=(la,m')/\P2 k n m' ra rb la lb c:=by
 have hl:=h.len;obtain⟨a,b,rfl,rfl,h3,rfl,rfl,h6⟩:=h;obtain⟨d1,d2,m',kk,e1,e2⟩:=akq k.Z (K:=K) h3 (iZ (rZ a) hk);refine⟨⟨d1,?_,?_⟩,m',e1,(FN e2 h6).p⟩
 ·rw[e1];exact d2
 ·rw[e1];simp only;omega
theorem first {K:Nat} {f:Int} {may:A->A->Bool} {P:Nat->Bool} (h:P2 k n m ra rb la lb c) (hA:Asks k.O k.S may P la) (hk:la.length<K) :
  ji k.O K (aE m ra) (lk k.O m ra)/\∃ r m',kJ k.O may K (aE m ra) (lk k.O m ra) ⟨0,k.O.a0⟩ f=(r,m')/\BZ P 0 la.length f r/\P2 k n m' ra rb la lb c:=by
 obtain⟨a,b,rfl,rfl,h3,rfl,rfl,h6⟩:=h;obtain⟨d,r,m',kk,e1,e2,e3⟩:=adH k.Z (K:=K) (f:=f) h3 hA (iZ (rZ a) hk);exact⟨d,r,m',e1,e2,(FN e3 h6).p⟩
theorem last {K:Nat} {f:Int} {may:A->A->Bool} {P:Nat->Bool} (h:P2 k n m ra rb la lb c) (hA:Asks k.O k.S may P la) (hk:la.length<K) :
  ji k.O K (aE m ra) (lk k.O m ra)/\∃ r m',jZ k.O may K (aE m ra) (lk k.O m ra) ⟨0,k.O.a0⟩ f=(r,m')/\EH P 0 la.length f r/\P2 k n m' ra rb la lb c:=by
 obtain⟨a,b,rfl,rfl,h3,rfl,rfl,h6⟩:=h;obtain⟨d,r,m',kk,e1,e2,e3⟩:=agR k.Z (K:=K) (f:=f) h3 hA (iZ (rZ a) hk);exact⟨d,r,m',e1,e2,(FN e3 h6).p⟩
theorem Lc {K:Nat} (h:P2 k n m ra rb la lb c) (hk:la.length<K):ji k.O K (aE m ra) (lk k.O m ra):=by
 obtain⟨a,b,rfl,rfl,h3,rfl,rfl,h6⟩:=h;exact MZ k.Z h3 (iZ (rZ a) hk)
theorem split {K:Nat} {e:E} {r:Ref} {l:List E} (h:P1 k n m r l c) (hk:2*l.length<K) :
  JB k.O K K m r e/\∃ x y m',lV k.O K K m r e=(x,y,m')/\P2 k n m' x y (om k.O e l) (rW k.O e l) c:=by
 obtain⟨a,b,rfl,h2,h3,rfl,h5,h6⟩:=h;obtain rfl:=acH h5;obtain⟨d,x,y,m',e1,e2,e3,e4,e5⟩:=acD k.Z (K:=K) (e:=e) h3 (by rw[← Tr.e9];exact hk)
 exact⟨d,x.root,y.root,m',e1,x,y,rfl,rfl,e2,e3,e4,e5.trans h6⟩
end P2
end
theorem MI {E A:Type} (O:iO E A) {k:Nat} {m m':Po E A} {r:Ref} (h:iM [] k (zn O) (aE m r) m'):∃ k,iM [] k (zn O) m m':=⟨_,(gE (zn O) m r).to h (S:=[]) (fun s hs=>by simp at hs) (a_ _)⟩
theorem Nn {E A:Type} (O:iO E A) {a b c:Po E A} (h:∃ k,iM [] k (zn O) a b) (h':∃ k,iM [] k (zn O) b c):∃ k,iM [] k (zn O) a c:=by
 obtain⟨k,h⟩:=h;obtain⟨k',h'⟩:=h';exact⟨_,h.to h' (S:=[]) (fun s hs=>by simp at hs) (a_ _)⟩
theorem IP {E A:Type} (O:iO E A) (may:A->A->Bool):∀ (k:Nat) (m:Po E A) (n:Node E A) (a:Part A) (f:Int),∃ kk,iM [] kk (zn O) m (first O may k m n a f).2
 |0,m,_,_,_=>⟨0,iM.refl _ _ _ _⟩
 |k+1,m,n,a,f=>by
  obtain⟨k1,h1⟩:=IP O may k (aE m n.l) (lk O m n.l) a f;have h1:=MI O h1;rw[first]
  split
  ·exact⟨0,iM.refl _ _ _ _⟩
  ·split
   ·exact⟨0,iM.refl _ _ _ _⟩
   ·split
    ·exact h1
    ·split
     ·exact h1
     ·obtain⟨k2,h2⟩:=IP O may k (aE (first O may k (aE m n.l) (lk O m n.l) a f).2 n.r) (lk O (first O may k (aE m n.l) (lk O m n.l) a f).2 n.r) (ed O (ed O a (lk O m n.l).all) (one O n.e)) f
      exact Nn O h1 (MI O h2)
theorem J8 {E A:Type} (O:iO E A) (may:A->A->Bool):∀ (k:Nat) (m:Po E A) (n:Node E A) (a:Part A) (f:Int),∃ kk,iM [] kk (zn O) m (last O may k m n a f).2
 |0,m,_,_,_=>⟨0,iM.refl _ _ _ _⟩
 |k+1,m,n,a,f=>by
  obtain⟨k1,h1⟩:=J8 O may k (aE (aE m n.l) n.r) (lk O (aE m n.l) n.r) (ed O (ed O a (lk O m n.l).all) (one O n.e)) f;have h1:=Nn O ⟨_,gE (zn O) m n.l⟩ (MI O h1);rw[last];split
  ·exact⟨0,iM.refl _ _ _ _⟩
  ·split
   ·exact⟨0,iM.refl _ _ _ _⟩
   ·simp only;split
    ·exact h1
    ·split
     ·exact h1
     ·exact Nn O h1 (J8 O may k _ _ _ _)
def KK:Nat:=5000
structure TS {E A:Type} (k:Kd E A) where
 n:Nat
 m:Po E A
 r:Ref
 l:List E
 c:Int
 ok:P1 k n m r l c
namespace TS
section
variable {E A:Type} {k:Kd E A}
theorem Hk (s:TS k):s.l.length≤1000:=s.ok.len
theorem kk (s:TS k):2*s.l.length<KK:=by have:=s.Hk;unfold KK;omega
theorem k1 (s:TS k):s.l.length<KK:=by have:=s.kk;omega
def new (k:Kd E A) (c:Int):TS k:=⟨0,⟨[],[],[],[],0,min (max c 0) 16777216,0⟩,r0,[],min (max c 0) 16777216,P2.empty k _⟩
def gj (s:TS k):Prop:=s.n<100000
instance (s:TS k):Decidable s.gj:=inferInstanceAs (Decidable (_<_))
theorem pp (s:TS k) (h:s.gj):fY 100000 s.m:=s.ok.ok (Nat.le_of_lt h)
def seen (s:TS k):TS k:=⟨s.n,aE s.m s.r,s.r,s.l,s.c,(s.ok.seen s.r).p⟩
def h (s:TS k):Int:=(lk k.O s.m s.r).h
theorem A5 (s:TS k):0≤s.h/\s.h≤nc s.l.length:=by
 obtain⟨H,e,hh⟩:=s.ok.akW;unfold h;rw[e];omega
structure kX (s:TS k) (e:E):Prop where
 lj:s.n<100000
 dp:k.dp (lx k.O e s.l)
def Kr (s:TS k) (e:E):Bool:=(jx k.O e s.l).isSome||decide ((s.l.length:Int)≠s.c)
def MX (s:TS k) (e:E):List E:=if s.Kr e=ao then lx k.O e s.l else s.l
theorem tu {s:TS k} {e:E} (h:s.kX e):QT k.O KK s.m s.r e/\(nL k.O KK s.m s.r e).1=s.Kr e /\
  P1 k (s.n+1) (nL k.O KK s.m s.r e).2.2 (nL k.O KK s.m s.r e).2.1 (s.MX e) s.c/\mZ (32*nc s.l.length+4) s.m (nL k.O KK s.m s.r e).2.2:=by
 obtain⟨d,r',m',e1,e2,e3⟩:=s.ok.put (K:=KK) (e:=e) h.lj h.dp s.k1;rw[e1];simp only[jM,Nat.add_zero] at e2 ⊢;exact⟨d,rfl,e2,e3⟩
instance (s:TS k) (e:E):Decidable (s.kX e):=decidable_of_iff (s.n<100000/\k.dp (lx k.O e s.l)) ⟨fun⟨a,b⟩=>⟨a,b⟩,fun⟨a,b⟩=>⟨a,b⟩⟩
def put (s:TS k) (e:E):TS k:=if h:s.kX e then⟨s.n+1,(nL k.O KK s.m s.r e).2.2,(nL k.O KK s.m s.r e).2.1,s.MX e,s.c,(tu h).2.2.1⟩ else s
theorem put_eq {s:TS k} {e:E} (h:s.kX e):s.put e=⟨s.n+1,(nL k.O KK s.m s.r e).2.2,(nL k.O KK s.m s.r e).2.1,s.MX e,s.c,(tu h).2.2.1⟩:=by unfold put;rw[dif_pos h]
theorem Zx {s:TS k} {e:E} (h:s.kX e):(s.put e).l=s.MX e:=by rw[put_eq h]
theorem Tg {s:TS k} {e:E} (h:s.kX e):(s.put e).n=s.n+1:=by rw[put_eq h]
theorem Tn {s:TS k} {e:E} (h:s.kX e):(s.put e).c=s.c:=by rw[put_eq h]
theorem Lv {s:TS k} {e:E} (h:s.kX e):mZ (32*nc s.l.length+4) s.m (s.put e).m:=by rw[put_eq h];exact(tu h).2.2.2
theorem tc (s:TS k) (e:E):qk k.O KK KK s.m s.r e/\(jL k.O KK s.m s.r e).1=(iw k.O e s.l).1/\(jL k.O KK s.m s.r e).2.1=(iw k.O e s.l).2 /\
  P1 k (s.n+1) (jL k.O KK s.m s.r e).2.2.2 (jL k.O KK s.m s.r e).2.2.1 (na k.O e s.l) s.c/\mZ (120*nc s.l.length+5) s.m (jL k.O KK s.m s.r e).2.2.2:=by
 obtain⟨d,r',m',e1,e2,e3⟩:=s.ok.drop (K:=KK) (e:=e) s.kk;rw[e1];exact⟨d,rfl,rfl,e2,e3⟩
def drop (s:TS k) (e:E):TS k:=⟨s.n+1,(jL k.O KK s.m s.r e).2.2.2,(jL k.O KK s.m s.r e).2.2.1,na k.O e s.l,s.c,(s.tc e).2.2.2.1⟩
def find (s:TS k) (e:E):TS k:=⟨s.n,(iF k.O KK (aE s.m s.r) (lk k.O s.m s.r) e).2,s.r,s.l,s.c,by obtain⟨d,m',e1,e2⟩:=s.ok.find (K:=KK) (e:=e) s.k1;rw[e1];exact e2.p⟩
def kB (s:TS k) (e:E):TS k:=⟨s.n,(lQ k.O KK (aE s.m s.r) (lk k.O s.m s.r) e 0).2,s.r,s.l,s.c,by obtain⟨d,m',e1,e2⟩:=s.ok.kB (K:=KK) (e:=e) s.k1;rw[e1];exact e2.p⟩
def at_ (s:TS k) (i:Int):TS k:=⟨s.n,(qH k.O KK s.m s.r i).2,s.r,s.l,s.c,by obtain⟨d,m',e1,e2⟩:=s.ok.at_ (K:=KK) (i:=i) s.k1;rw[e1];exact e2.p⟩
def FY (s:TS k) (f u:Int):TS k:=⟨s.n,(fX k.O KK (aE s.m s.r) (lk k.O s.m s.r) f u).2,s.r,s.l,s.c,by obtain⟨d,m',e1,e2⟩:=s.ok.FY (K:=KK) (f:=f) (u:=u) s.k1;rw[e1];exact e2.p⟩
def all (s:TS k):TS k:=⟨s.n,(cv k.O KK (aE s.m s.r) s.r).2,s.r,s.l,s.c,by obtain⟨d,m',e1,e2⟩:=s.ok.all (K:=KK) s.k1;rw[e1];exact e2⟩
theorem Ii (s:TS k) (e:E):mZ (nc s.l.length+1) s.m (s.find e).m:=by
 obtain⟨d,m',e1,e2⟩:=s.ok.find (K:=KK) (e:=e) s.k1;show mZ _ s.m (iF k.O KK (aE s.m s.r) (lk k.O s.m s.r) e).2
 rw[e1];exact e2.qA
theorem ad_ (s:TS k) (e:E):mZ (2*nc s.l.length+1) s.m (s.kB e).m:=by
 obtain⟨d,m',e1,e2⟩:=s.ok.kB (K:=KK) (e:=e) s.k1;show mZ _ s.m (lQ k.O KK (aE s.m s.r) (lk k.O s.m s.r) e 0).2
 rw[e1];exact e2.qA
theorem KZ (s:TS k) (f u:Int):mZ (4*nc s.l.length+1) s.m (s.FY f u).m:=by
 obtain⟨d,m',e1,e2⟩:=s.ok.FY (K:=KK) (f:=f) (u:=u) s.k1;show mZ _ s.m (fX k.O KK (aE s.m s.r) (lk k.O s.m s.r) f u).2
 rw[e1];exact e2.qA
theorem sy (s:TS k):mZ 1 s.m s.seen.m:=(s.ok.seen s.r).qA
theorem Nh (s:TS k) (e:E):mZ (120*nc s.l.length+5) s.m (s.drop e).m:=(s.tc e).2.2.2.2
def ur (may:A->A->Bool) (s:TS k) (f:Int):Int:=(kJ k.O may KK (aE s.m s.r) (lk k.O s.m s.r) ⟨0,k.O.a0⟩ f).1
def AT (may:A->A->Bool) (s:TS k) (f:Int):Int:=(jZ k.O may KK (aE s.m s.r) (lk k.O s.m s.r) ⟨0,k.O.a0⟩ f).1
def first (may:A->A->Bool) (s:TS k) (f:Int):TS k:=⟨s.n,(kJ k.O may KK (aE s.m s.r) (lk k.O s.m s.r) ⟨0,k.O.a0⟩ f).2,s.r,s.l,s.c,P2.qi (s.ok.seen s.r).p (IP k.O may KK _ _ _ _)⟩
def last (may:A->A->Bool) (s:TS k) (f:Int):TS k:=⟨s.n,(jZ k.O may KK (aE s.m s.r) (lk k.O s.m s.r) ⟨0,k.O.a0⟩ f).2,s.r,s.l,s.c,P2.qi (s.ok.seen s.r).p (J8 k.O may KK _ _ _ _)⟩
theorem VG {may:A->A->Bool} {P:Nat->Bool} {s:TS k} {f:Int} (h:Asks k.O k.S may P s.l):BZ P 0 s.l.length f (s.ur may f):=by
 obtain⟨d,r,m',e1,e2,e3⟩:=s.ok.first (K:=KK) (f:=f) h s.k1
 unfold ur;rw[e1];exact e2
theorem Xs {may:A->A->Bool} {P:Nat->Bool} {s:TS k} {f:Int} (h:Asks k.O k.S may P s.l):EH P 0 s.l.length f (s.AT may f):=by
 obtain⟨d,r,m',e1,e2,e3⟩:=s.ok.last (K:=KK) (f:=f) h s.k1;unfold AT;rw[e1];exact e2
theorem Lc (s:TS k):ji k.O KK (aE s.m s.r) (lk k.O s.m s.r):=s.ok.Lc s.k1
end
end TS
end Gv
namespace G8
open Rx
set_option maxRecDepth 100000
def k8:Gv.Kd Wv.Mk Wv.Sw:=⟨Wv.O8,Wv.S8,Wv.FU,(fun l=>inferInstanceAs (Decidable (l.length≤60))),Wv.TK,(fun x h=>jo h (by decide)),dh _,(fun x y h=>by
 unfold Wv.FU at *
 rw[bF] at *
 rw[List.length_tail];omega)⟩
abbrev Ts:=Gv.TS k8
inductive Rt
 |tree (s:Ts)
def H4:Rt->Hp Rs
 |.tree s=>[aa (.inl (110,[.pointer (aa ⟨1,0,aj⟩),.int .i64 s.r.i,.int .i64 s.r.g])),aa (.inr (.inr (.inr (.da s.m))))]
def L2:EP Rt Rs where
 lay:=H4
 ne x:=by cases x<;>exact sF _
 own x b X h:=by
  cases x with
  |tree s =>
   match b,h with
   |0,h=>simp only[H4,cd,ct] at h;subst h;rfl
   |1,h=>simp only[H4,List.getElem?_cons_succ,cd,ct] at h;subst h;rfl
   |b+2,h=>simp[H4] at h
 ins x:=by cases x<;>rfl
def D2:fJ Rt:=F9 D L2
abbrev oT (s:Ts):Option (SB Rt):=aa (.inr (.inr (.inr (.tree s))))
def pC (n:Nat) (c:aW):Prop:=∃ l:List Int,c=⟨l,[],[]⟩/\l.length=n
def Pw (n:Nat) (c:aW):Prop:=∃ l:List Bool,c=⟨[],l,[]⟩/\l.length=n
def q9 (n:Nat) (gs:List Int) (lv:List Bool) (i g:Int):Bool:=decide (0≤i)&&decide (i<n)&&lv.getD i.toNat an&&decide (gs.getD i.toNat 0=g)
structure ac9 (n:Nat) (c0 c1 c2 c3 c4 c5 c6 c7 c8 c9 oq ob oa zU zx zQ zw zt yZ zr zj za zX zC zH zK zp zV zu zP ym yp:aW):Prop where
 Dj:pC n c0
 OQ:Pw n c1
 pT:pC n c2
 SI:pC n c3
 hc4:Pw n c4
 hc5:Pw n c5
 hc6:pC n c6
 hc7:pC n c7
 hc8:pC n c8
 hc9:pC n c9
 amT:pC n oq
 anq:pC n ob
 am8:pC n oa
 apE:pC n zU
 ao8:pC n zx
 api:pC n zQ
 apB:pC n zw
 apJ:pC n zt
 ao':pC n yZ
 aph:pC n zr
 apl:pC n zj
 apa:pC n za
 apK:pC n zX
 apu:Pw n zC
 apz:pC n zH
 apT:pC n zK
 apW:Pw n zp
 apU:pC n zV
 apo:pC n zu
 apm:pC n zP
 apv:pC n ym
 apL:Pw n yp
def mS (n:Nat):List aW->Prop
 |[c0,c1,c2,c3,c4,c5,c6,c7,c8,c9,oq,ob,oa,zU,zx,zQ,zw,zt,yZ,zr,zj,za,zX,zC,zH,zK,zp,zV,zu,zP,ym,yp]=>ac9 n c0 c1 c2 c3 c4 c5 c6 c7 c8 c9 oq ob oa zU zx zQ zw zt yZ zr zj za zX zC zH zK zp zV zu zP ym yp
 |_=>False
def Us:List Value->Hp Empty->Option Bool:=fun args hh=>match args,hh with
 |[.pointer (aa ⟨0,0,aj⟩),.agg ⟨[.int .i64 i,.int .i64 g]⟩],[aa (.inl (186,[.slice (aa ⟨1,0,aa 32000⟩) n cp,.slice (aa ⟨2,0,aa 1000⟩) fn fc,.int .i64 hd,.int .i64 ca,.int .i64 vi])),aa (.inr (.inl (189,⟨tm,n2,[c0,c1,c2,c3,c4,c5,c6,c7,c8,c9,oq,ob,oa,zU,zx,zQ,zw,zt,yZ,zr,zj,za,zX,zC,zH,zK,zp,zV,zu,zP,ym,yp]⟩))),aa (.inr (.inl (3,⟨[.int .i64 0],f2,[⟨fr,[],[]⟩]⟩)))]=>aa (q9 n ym.i yp.b i g)
 |_,_=>aj
def J1:Prim Empty:=fun args hh=>match args,hh with
 |[.pointer (aa ⟨0,0,aj⟩),.agg ⟨[.int .i64 i,.int .i64 g]⟩],[aa (.inl (186,[.slice (aa ⟨1,0,aa 32000⟩) n cp,.slice (aa ⟨2,0,aa 1000⟩) fn fc,.int .i64 hd,.int .i64 ca,.int .i64 vi])),aa (.inr (.inl (189,⟨tm,n2,[c0,c1,c2,c3,c4,c5,c6,c7,c8,c9,oq,ob,oa,zU,zx,zQ,zw,zt,yZ,zr,zj,za,zX,zC,zH,zK,zp,zV,zu,zP,ym,yp]⟩))),aa (.inr (.inl (3,⟨[.int .i64 0],f2,[⟨fr,[],[]⟩]⟩)))]=>aa ⟨tm=di/\n2=n/\n<1000000/\mS n [c0,c1,c2,c3,c4,c5,c6,c7,c8,c9,oq,ob,oa,zU,zx,zQ,zw,zt,yZ,zr,zj,za,zX,zC,zH,zK,zp,zV,zu,zP,ym,yp],.pointer (aa ⟨1,i.toNat,aa 32000⟩),aj,[aa (.inl (186,[.slice (aa ⟨1,0,aa 32000⟩) n cp,.slice (aa ⟨2,0,aa 1000⟩) fn fc,.int .i64 hd,.int .i64 ca,.int .i64 (ar.wrap (vi+1))])),aa (.inr (.inl (189,⟨tm,n2,[c0,c1,c2,c3,c4,c5,c6,c7,c8,c9,oq,ob,oa,zU,zx,zQ,zw,zt,yZ,zr,zj,za,zX,zC,zH,zK,zp,zV,zu,zP,ym,yp]⟩))),aa (.inr (.inl (3,⟨[.int .i64 0],f2,[⟨fr,[],[]⟩]⟩)))],[],[(0,0)]⟩
 |_,_=>aj
def Kw:Prim Empty:=fun args hh=>match args,hh with
 |[.pointer (aa ⟨0,0,aj⟩),.agg ⟨[.int .i64 i,.int .i64 g]⟩],[aa (.inl (186,[.slice (aa ⟨1,0,aa 32000⟩) n cp,.slice (aa ⟨2,0,aa 1000⟩) fn fc,.int .i64 hd,.int .i64 ca,.int .i64 vi])),aa (.inr (.inl (189,⟨tm,n2,[c0,c1,c2,c3,c4,c5,c6,c7,c8,c9,oq,ob,oa,zU,zx,zQ,zw,zt,yZ,zr,zj,za,zX,zC,zH,zK,zp,zV,zu,zP,ym,yp]⟩))),aa (.inr (.inl (3,⟨[.int .i64 0],f2,[⟨fr,[],[]⟩]⟩)))]=>aa ⟨tm=di/\n2=n/\n<1000000/\mS n [c0,c1,c2,c3,c4,c5,c6,c7,c8,c9,oq,ob,oa,zU,zx,zQ,zw,zt,yZ,zr,zj,za,zX,zC,zH,zK,zp,zV,zu,zP,ym,yp],.pointer aj,aj,hh,[],[]⟩
 |_,_=>aj
def qy:je Empty:=⟨Us,J1,Kw⟩
def Vw:eJ Empty:=[(1000000000,lP)]
theorem J4:cN sR Tryz.prog Vw:=⟨ix,trivial⟩
theorem JU:rz sR Tryz.prog 145 (rU qy ao) (qy.go ao):=by
 refine wa (fn:=Tryz.f145) (root:=dC Tryz.f145) (by kernel_rfl) (by kernel_rfl) (by kernel_rfl) fun args hh x hx=>?_
 unfold qy je.go J1 at hx;simp only at hx;split at hx
 ·rename_i i g n cp fn fc hd ca vi tm n2 c0 c1 c2 c3 c4 c5 c6 c7 c8 c9 oq ob oa zU zx zQ zw zt yZ zr zj za zX zC zH zK zp zV zu zP ym yp f2 fr;cases hx;refine⟨a_ _,(fun b hb=>by cases hb),(fun hw=>by first|rfl|cases hw),fun mO hv=>?_⟩
  obtain⟨rfl,rfl,u_,⟨⟨l0,rfl,nZ⟩,⟨l1,rfl,zk⟩,⟨l2,rfl,Bo⟩,⟨l3,rfl,yf⟩,⟨l4,rfl,yr⟩,⟨l5,rfl,Fe⟩,⟨l6,rfl,Ef⟩,⟨l7,rfl,EK⟩,⟨l8,rfl,E6⟩,⟨l9,rfl,Ec⟩,⟨qI,rfl,yQ⟩,⟨nG,rfl,yH⟩,⟨mT,rfl,yL⟩,⟨C1,rfl,Ns⟩,⟨Cz,rfl,N5⟩,⟨CM,rfl,M6⟩,⟨C7,rfl,MC⟩,⟨CE,rfl,NF⟩,⟨CO,rfl,MS⟩,⟨C0,rfl,NV⟩,⟨CJ,rfl,MG⟩,⟨C9,rfl,Nx⟩,⟨CS,rfl,M5⟩,⟨CY,rfl,NW⟩,⟨CD,rfl,MU⟩,⟨Cu,rfl,Ng⟩,⟨C6,rfl,NT⟩,⟨CP,rfl,MO⟩,⟨Cv,rfl,Na⟩,⟨CZ,rfl,NS⟩,⟨uu,rfl,Nr⟩,⟨sq,rfl,NG⟩⟩⟩:=hv;have hw:q9 n2 uu sq i g=ao:=by
   rcases mO with⟨h,_⟩|h
   ·exact(wv _ h).elim
   ·exact pa h
  clear mO;generalize hG:cj (R:=Empty) _ _=G;refine cL (T:=Vw) J4 mixed 200 ?_;refine bK (q:=let Z1:=bm ar;(decide (i<(0:Int))=ao->Vc (aC (decide (i<(0:Int)))=aC ao)/\aX (G (aB aj) [aa (.inl (186,[.slice (aa ⟨1,0,aa 32000⟩) n2 cp,.slice (aa ⟨2,0,aa 1000⟩) fn fc,Z1 hd,Z1 ca,Z1 vi])),aa (.inr (.inl (189,Row.mk di n2 (cV l0 l1 l2 l3 l4 l5 l6 l7 l8 l9 qI nG mT C1 Cz CM C7 CE CO C0 CJ C9 CS CY CD Cu C6 CP Cv CZ uu sq)))),aa (.inr (.inl (3,Row.mk [Z1 0] f2 [aW.mk fr [] []]))),aa (.inl (108,[Z1 i,Z1 g]))]))/\(decide (i<(0:Int))=an->Vc (aC (decide (i<(0:Int)))=aC an)/\(decide (i≥(↑n2:Int))=ao->aX (G (aB aj) [aa (.inl (186,[.slice (aa ⟨1,0,aa 32000⟩) n2 cp,.slice (aa ⟨2,0,aa 1000⟩) fn fc,Z1 hd,Z1 ca,Z1 vi])),aa (.inr (.inl (189,Row.mk di n2 (cV l0 l1 l2 l3 l4 l5 l6 l7 l8 l9 qI nG mT C1 Cz CM C7 CE CO C0 CJ C9 CS CY CD Cu C6 CP Cv CZ uu sq)))),aa (.inr (.inl (3,Row.mk [Z1 0] f2 [aW.mk fr [] []]))),aa (.inl (108,[Z1 i,Z1 g]))]))/\(decide (i≥(↑n2:Int))=an->Vc ((0:Int)≤i/\i<(↑n2:Int)/\0+n2≤n2)/\Vc (0+aG i<n2)/\((!aI sq (0+aG i) an)=ao->Vc (0+aG i<n2)/\Vc ((aC !aI sq (0+aG i) an)=aC ao)/\aX (G (aB aj) [aa (.inl (186,[.slice (aa ⟨1,0,aa 32000⟩) n2 cp,.slice (aa ⟨2,0,aa 1000⟩) fn fc,Z1 hd,Z1 ca,Z1 vi])),aa (.inr (.inl (189,Row.mk di n2 (cV l0 l1 l2 l3 l4 l5 l6 l7 l8 l9 qI nG mT C1 Cz CM C7 CE CO C0 CJ C9 CS CY CD Cu C6 CP Cv CZ uu sq)))),aa (.inr (.inl (3,Row.mk [Z1 0] f2 [aW.mk fr [] []]))),aa (.inl (108,[Z1 i,Z1 g]))]))/\((!aI sq (0+aG i) an)=an->Vc (0+aG i<n2)/\Vc ((aC !aI sq (0+aG i) an)=aC an)/\Vc (0+aG i<n2)/\((aI uu (0+aG i) (0:Int) != g)=ao->aX (G (aB aj) [aa (.inl (186,[.slice (aa ⟨1,0,aa 32000⟩) n2 cp,.slice (aa ⟨2,0,aa 1000⟩) fn fc,Z1 hd,Z1 ca,Z1 vi])),aa (.inr (.inl (189,Row.mk di n2 (cV l0 l1 l2 l3 l4 l5 l6 l7 l8 l9 qI nG mT C1 Cz CM C7 CE CO C0 CJ C9 CS CY CD Cu C6 CP Cv CZ uu sq)))),aa (.inr (.inl (3,Row.mk [Z1 0] f2 [aW.mk fr [] []]))),aa (.inl (108,[Z1 i,Z1 g]))]))/\((aI uu (0+aG i) (0:Int) != g)=an->Vc True/\aX (G (aB (aa (RR 1 (0+aG i) (aa 32000)))) [aa (.inl (186,[.slice (aa ⟨1,0,aa 32000⟩) n2 cp,.slice (aa ⟨2,0,aa 1000⟩) fn fc,Z1 hd,Z1 ca,Z1 (ck ar (vi+(1:Int)))])),aa (.inr (.inl (189,Row.mk di n2 (cV l0 l1 l2 l3 l4 l5 l6 l7 l8 l9 qI nG mT C1 Cz CM C7 CE CO C0 CJ C9 CS CY CD Cu C6 CP Cv CZ uu sq)))),aa (.inr (.inl (3,Row.mk [Z1 0] f2 [aW.mk fr [] []]))),aa (.inl (108,[Z1 i,Z1 g]))])))))) ?_ (by kernel_rfl)
  intro Z1;subst Z1;have e0:0+i.toNat=i.toNat:=bU _;rw[e0];clear nZ zk Bo yf yr Fe Ef EK E6 Ec yQ yH yL Ns N5 M6 MC NF MS NV MG Nx M5 NW MU Ng NT MO Na NS Nr NG;subst hG;have rR:q9 n2 uu sq i g=(decide (0≤i)&&decide (i<n2)&&(sq).getD i.toNat an&&decide ((uu).getD i.toNat 0=g)):=rfl;refine⟨fun h=>⟨⟨congrArg aC h⟩,⟨?_⟩⟩,fun h=>⟨⟨congrArg aC h⟩,fun h2=>⟨?_⟩,fun h2=>?_⟩⟩
  rotate_left 2
  ·have i0:=of_decide_eq_false h;have i1:=of_decide_eq_false h2;rw[decide_eq_true (by omega),decide_eq_true (by omega),jh,jh] at rR
   refine⟨⟨by omega,by omega,by omega⟩,⟨by omega⟩,fun h3=>⟨⟨by omega⟩,⟨congrArg aC h3⟩,⟨?_⟩⟩,fun h3=>⟨⟨by omega⟩,⟨congrArg aC h3⟩,⟨by omega⟩,fun h4=>⟨?_⟩,fun h4=>⟨⟨trivial⟩,⟨?_⟩⟩⟩⟩
   ·rw[Bool.not_eq_true'] at h3;rw[hw,h3] at rR;cases rR
   ·rw[hw,decide_eq_false (ne_of_beq_false (by simpa using h4)),uM] at rR;cases rR
   ·exact⟨[0,1,2],rfl,rfl,⟨.inl rfl,⟨_,rfl,.inl rfl⟩,⟨_,rfl,.inl rfl⟩,trivial⟩,rfl,rfl,rfl,rfl⟩
  ·have:=of_decide_eq_true h;rw[hw,decide_eq_false (by omega)] at rR;cases rR
  ·have:=of_decide_eq_true h2;rw[hw,decide_eq_false (p:=i<n2) (by omega),uM] at rR;cases rR
 ·cases hx
theorem JN:rz sR Tryz.prog 145 (rU qy an) (qy.go an):=by
 refine wa (fn:=Tryz.f145) (root:=dC Tryz.f145) (by kernel_rfl) (by kernel_rfl) (by kernel_rfl) fun args hh x hx=>?_
 unfold qy je.go Kw at hx;simp only at hx;split at hx
 ·rename_i i g n cp fn fc hd ca vi tm n2 c0 c1 c2 c3 c4 c5 c6 c7 c8 c9 oq ob oa zU zx zQ zw zt yZ zr zj za zX zC zH zK zp zV zu zP ym yp f2 fr;cases hx;refine⟨a_ _,(fun b hb=>by cases hb),(fun hw=>by first|rfl|cases hw),fun mO hv=>?_⟩
  obtain⟨rfl,rfl,u_,⟨⟨l0,rfl,nZ⟩,⟨l1,rfl,zk⟩,⟨l2,rfl,Bo⟩,⟨l3,rfl,yf⟩,⟨l4,rfl,yr⟩,⟨l5,rfl,Fe⟩,⟨l6,rfl,Ef⟩,⟨l7,rfl,EK⟩,⟨l8,rfl,E6⟩,⟨l9,rfl,Ec⟩,⟨qI,rfl,yQ⟩,⟨nG,rfl,yH⟩,⟨mT,rfl,yL⟩,⟨C1,rfl,Ns⟩,⟨Cz,rfl,N5⟩,⟨CM,rfl,M6⟩,⟨C7,rfl,MC⟩,⟨CE,rfl,NF⟩,⟨CO,rfl,MS⟩,⟨C0,rfl,NV⟩,⟨CJ,rfl,MG⟩,⟨C9,rfl,Nx⟩,⟨CS,rfl,M5⟩,⟨CY,rfl,NW⟩,⟨CD,rfl,MU⟩,⟨Cu,rfl,Ng⟩,⟨C6,rfl,NT⟩,⟨CP,rfl,MO⟩,⟨Cv,rfl,Na⟩,⟨CZ,rfl,NS⟩,⟨uu,rfl,Nr⟩,⟨sq,rfl,NG⟩⟩⟩:=hv;have hw:q9 n2 uu sq i g=an:=by
   rcases mO with⟨h,_⟩|h
   ·exact(wv _ h).elim
   ·exact pa h
  clear mO;generalize hG:cj (R:=Empty) _ _=G;refine cL (T:=Vw) J4 mixed 200 ?_;refine bK (q:=let Z1:=bm ar;(decide (i<(0:Int))=ao->Vc (aC (decide (i<(0:Int)))=aC ao)/\aX (G (aB aj) [aa (.inl (186,[.slice (aa ⟨1,0,aa 32000⟩) n2 cp,.slice (aa ⟨2,0,aa 1000⟩) fn fc,Z1 hd,Z1 ca,Z1 vi])),aa (.inr (.inl (189,Row.mk di n2 (cV l0 l1 l2 l3 l4 l5 l6 l7 l8 l9 qI nG mT C1 Cz CM C7 CE CO C0 CJ C9 CS CY CD Cu C6 CP Cv CZ uu sq)))),aa (.inr (.inl (3,Row.mk [Z1 0] f2 [aW.mk fr [] []]))),aa (.inl (108,[Z1 i,Z1 g]))]))/\(decide (i<(0:Int))=an->Vc (aC (decide (i<(0:Int)))=aC an)/\(decide (i≥(↑n2:Int))=ao->aX (G (aB aj) [aa (.inl (186,[.slice (aa ⟨1,0,aa 32000⟩) n2 cp,.slice (aa ⟨2,0,aa 1000⟩) fn fc,Z1 hd,Z1 ca,Z1 vi])),aa (.inr (.inl (189,Row.mk di n2 (cV l0 l1 l2 l3 l4 l5 l6 l7 l8 l9 qI nG mT C1 Cz CM C7 CE CO C0 CJ C9 CS CY CD Cu C6 CP Cv CZ uu sq)))),aa (.inr (.inl (3,Row.mk [Z1 0] f2 [aW.mk fr [] []]))),aa (.inl (108,[Z1 i,Z1 g]))]))/\(decide (i≥(↑n2:Int))=an->Vc ((0:Int)≤i/\i<(↑n2:Int)/\0+n2≤n2)/\Vc (0+aG i<n2)/\((!aI sq (0+aG i) an)=ao->Vc (0+aG i<n2)/\Vc ((aC !aI sq (0+aG i) an)=aC ao)/\aX (G (aB aj) [aa (.inl (186,[.slice (aa ⟨1,0,aa 32000⟩) n2 cp,.slice (aa ⟨2,0,aa 1000⟩) fn fc,Z1 hd,Z1 ca,Z1 vi])),aa (.inr (.inl (189,Row.mk di n2 (cV l0 l1 l2 l3 l4 l5 l6 l7 l8 l9 qI nG mT C1 Cz CM C7 CE CO C0 CJ C9 CS CY CD Cu C6 CP Cv CZ uu sq)))),aa (.inr (.inl (3,Row.mk [Z1 0] f2 [aW.mk fr [] []]))),aa (.inl (108,[Z1 i,Z1 g]))]))/\((!aI sq (0+aG i) an)=an->Vc (0+aG i<n2)/\Vc ((aC !aI sq (0+aG i) an)=aC an)/\Vc (0+aG i<n2)/\((aI uu (0+aG i) (0:Int) != g)=ao->aX (G (aB aj) [aa (.inl (186,[.slice (aa ⟨1,0,aa 32000⟩) n2 cp,.slice (aa ⟨2,0,aa 1000⟩) fn fc,Z1 hd,Z1 ca,Z1 vi])),aa (.inr (.inl (189,Row.mk di n2 (cV l0 l1 l2 l3 l4 l5 l6 l7 l8 l9 qI nG mT C1 Cz CM C7 CE CO C0 CJ C9 CS CY CD Cu C6 CP Cv CZ uu sq)))),aa (.inr (.inl (3,Row.mk [Z1 0] f2 [aW.mk fr [] []]))),aa (.inl (108,[Z1 i,Z1 g]))]))/\((aI uu (0+aG i) (0:Int) != g)=an->Vc True/\aX (G (aB (aa (RR 1 (0+aG i) (aa 32000)))) [aa (.inl (186,[.slice (aa ⟨1,0,aa 32000⟩) n2 cp,.slice (aa ⟨2,0,aa 1000⟩) fn fc,Z1 hd,Z1 ca,Z1 (ck ar (vi+(1:Int)))])),aa (.inr (.inl (189,Row.mk di n2 (cV l0 l1 l2 l3 l4 l5 l6 l7 l8 l9 qI nG mT C1 Cz CM C7 CE CO C0 CJ C9 CS CY CD Cu C6 CP Cv CZ uu sq)))),aa (.inr (.inl (3,Row.mk [Z1 0] f2 [aW.mk fr [] []]))),aa (.inl (108,[Z1 i,Z1 g]))])))))) ?_ (by kernel_rfl)
  intro Z1;subst Z1;have e0:0+i.toNat=i.toNat:=bU _;rw[e0];clear nZ zk Bo yf yr Fe Ef EK E6 Ec yQ yH yL Ns N5 M6 MC NF MS NV MG Nx M5 NW MU Ng NT MO Na NS Nr NG;subst hG;have rR:q9 n2 uu sq i g=(decide (0≤i)&&decide (i<n2)&&(sq).getD i.toNat an&&decide ((uu).getD i.toNat 0=g)):=rfl;refine⟨fun h=>⟨⟨congrArg aC h⟩,⟨?_⟩⟩,fun h=>⟨⟨congrArg aC h⟩,fun h2=>⟨?_⟩,fun h2=>?_⟩⟩
  rotate_left 2
  ·have i0:=of_decide_eq_false h;have i1:=of_decide_eq_false h2;rw[decide_eq_true (by omega),decide_eq_true (by omega),jh,jh] at rR
   refine⟨⟨by omega,by omega,by omega⟩,⟨by omega⟩,fun h3=>⟨⟨by omega⟩,⟨congrArg aC h3⟩,⟨?_⟩⟩,fun h3=>⟨⟨by omega⟩,⟨congrArg aC h3⟩,⟨by omega⟩,fun h4=>⟨?_⟩,fun h4=>⟨⟨trivial⟩,⟨?_⟩⟩⟩⟩
   ·exact⟨[0,1,2],rfl,rfl,⟨.inl rfl,⟨_,rfl,.inl rfl⟩,⟨_,rfl,.inl rfl⟩,trivial⟩,rfl,rfl,rfl,rfl⟩
   ·exact⟨[0,1,2],rfl,rfl,⟨.inl rfl,⟨_,rfl,.inl rfl⟩,⟨_,rfl,.inl rfl⟩,trivial⟩,rfl,rfl,rfl,rfl⟩
   ·rw[hw,decide_eq_true (by simpa using h4),Bool.and_true] at rR;rw[Bool.not_eq_false'] at h3;rw[h3] at rR;cases rR
  ·exact⟨[0,1,2],rfl,rfl,⟨.inl rfl,⟨_,rfl,.inl rfl⟩,⟨_,rfl,.inl rfl⟩,trivial⟩,rfl,rfl,rfl,rfl⟩
  ·exact⟨[0,1,2],rfl,rfl,⟨.inl rfl,⟨_,rfl,.inl rfl⟩,⟨_,rfl,.inl rfl⟩,trivial⟩,rfl,rfl,rfl,rfl⟩
 ·cases hx
theorem MJ:b9 sR Tryz.prog 145 qy:=fun b=>by cases b;exact JN;exact JU
theorem RH:Vc (fits (-1)):=⟨⟨by omega,by omega⟩⟩
theorem Vk {n:Nat} (h:n<1000000):Vc (0+n≤n/\1≤1/\(n+1)*256≤140737488355328/\n+1≤140737488355328):=⟨by omega,by omega,by omega,by omega⟩
theorem Q7 {n:Nat} (h:n<1000000):Vc (fits (((n+1:Nat):Int)-1)):=⟨⟨by omega,by omega⟩⟩
theorem ZU (n:Nat):((n+1:Nat):Int)-1=n:=by omega
def Zo:List Value->Hp Empty->Option Bool:=fun args hh=>match args,hh with
 |[.pointer (aa ⟨0,0,aj⟩)],[aa (.inl (186,[.slice (aa ⟨1,0,aa 32000⟩) n cp,.slice (aa ⟨2,0,aa 1000⟩) fn fc,.int .i64 hd,.int .i64 ca,.int .i64 vi])),aa (.inr (.inl (189,⟨tm,n2,[c0,c1,c2,c3,c4,c5,c6,c7,c8,c9,oq,ob,oa,zU,zx,zQ,zw,zt,yZ,zr,zj,za,zX,zC,zH,zK,zp,zV,zu,zP,ym,yp]⟩))),aa (.inr (.inl (3,⟨[.int .i64 0],f2,[⟨fr,[],[]⟩]⟩)))]=>aa (decide (fn=0))
 |_,_=>aj
def PT:Prim Empty:=fun args hh=>match args,hh with
 |[.pointer (aa ⟨0,0,aj⟩)],[aa (.inl (186,[.slice (aa ⟨1,0,aa 32000⟩) n cp,.slice (aa ⟨2,0,aa 1000⟩) fn fc,.int .i64 hd,.int .i64 ca,.int .i64 vi])),aa (.inr (.inl (189,⟨tm,n2,[c0,c1,c2,c3,c4,c5,c6,c7,c8,c9,oq,ob,oa,zU,zx,zQ,zw,zt,yZ,zr,zj,za,zX,zC,zH,zK,zp,zV,zu,zP,ym,yp]⟩))),aa (.inr (.inl (3,⟨[.int .i64 0],f2,[⟨fr,[],[]⟩]⟩)))]=>aa ⟨fn=0/\f2=fn/\fc=0/\cp=0/\tm=di/\n2=n/\n<1000000/\mS n [c0,c1,c2,c3,c4,c5,c6,c7,c8,c9,oq,ob,oa,zU,zx,zQ,zw,zt,yZ,zr,zj,za,zX,zC,zH,zK,zp,zV,zu,zP,ym,yp],.int .i64 n,aj,[aa (.inl (186,[.slice (aa ⟨3,0,aa 32000⟩) (n+1) 0,.slice (aa ⟨2,0,aa 1000⟩) fn fc,.int .i64 hd,.int .i64 ca,.int .i64 vi])),aj,aa (.inr (.inl (3,⟨[.int .i64 0],f2,[⟨fr,[],[]⟩]⟩))),aa (.inr (.inl (189,⟨tm,(n+1),[⟨c0.i++[0],[],[]⟩,⟨[],c1.b++[an],[]⟩,⟨c2.i++[0],[],[]⟩,⟨c3.i++[0],[],[]⟩,⟨[],c4.b++[an],[]⟩,⟨[],c5.b++[an],[]⟩,⟨c6.i++[0],[],[]⟩,⟨c7.i++[0],[],[]⟩,⟨c8.i++[0],[],[]⟩,⟨c9.i++[0],[],[]⟩,⟨oq.i++[0],[],[]⟩,⟨ob.i++[0],[],[]⟩,⟨oa.i++[0],[],[]⟩,⟨zU.i++[0],[],[]⟩,⟨zx.i++[0],[],[]⟩,⟨zQ.i++[0],[],[]⟩,⟨zw.i++[0],[],[]⟩,⟨zt.i++[0],[],[]⟩,⟨yZ.i++[0],[],[]⟩,⟨zr.i++[0],[],[]⟩,⟨zj.i++[0],[],[]⟩,⟨za.i++[0],[],[]⟩,⟨zX.i++[0],[],[]⟩,⟨[],zC.b++[an],[]⟩,⟨zH.i++[0],[],[]⟩,⟨zK.i++[0],[],[]⟩,⟨[],zp.b++[an],[]⟩,⟨zV.i++[0],[],[]⟩,⟨zu.i++[0],[],[]⟩,⟨zP.i++[0],[],[]⟩,⟨ym.i++[0],[],[]⟩,⟨[],yp.b++[an],[]⟩]⟩)))],[],[(0,0)]⟩
 |_,_=>aj
def Pd:Prim Empty:=fun args hh=>match args,hh with
 |[.pointer (aa ⟨0,0,aj⟩)],[aa (.inl (186,[.slice (aa ⟨1,0,aa 32000⟩) n cp,.slice (aa ⟨2,0,aa 1000⟩) fn fc,.int .i64 hd,.int .i64 ca,.int .i64 vi])),aa (.inr (.inl (189,⟨tm,n2,[c0,c1,c2,c3,c4,c5,c6,c7,c8,c9,oq,ob,oa,zU,zx,zQ,zw,zt,yZ,zr,zj,za,zX,zC,zH,zK,zp,zV,zu,zP,ym,yp]⟩))),aa (.inr (.inl (3,⟨[.int .i64 0],f2,[⟨fr,[],[]⟩]⟩)))]=>aa ⟨fn≠0/\f2=fn/\fr.length=fn/\fc=0/\cp=0/\fn<1000000/\tm=di/\n2=n/\n<1000000/\mS n [c0,c1,c2,c3,c4,c5,c6,c7,c8,c9,oq,ob,oa,zU,zx,zQ,zw,zt,yZ,zr,zj,za,zX,zC,zH,zK,zp,zV,zu,zP,ym,yp],.int .i64 (fr.getD (fn-1) 0),aj,[aa (.inl (186,[.slice (aa ⟨1,0,aa 32000⟩) n 0,.slice (aa ⟨2,0,aa 1000⟩) (fn-1) 0,.int .i64 hd,.int .i64 ca,.int .i64 vi])),aa (.inr (.inl (189,⟨tm,n2,[c0,c1,c2,c3,c4,c5,c6,c7,c8,c9,oq,ob,oa,zU,zx,zQ,zw,zt,yZ,zr,zj,za,zX,zC,zH,zK,zp,zV,zu,zP,ym,yp]⟩))),aa (.inr (.inl (3,⟨[.int .i64 0],(fn-1),[⟨(fr.take (fn-1)),[],[]⟩]⟩)))],[],[(0,0)]⟩
 |_,_=>aj
def tw:je Empty:=⟨Zo,PT,Pd⟩
theorem NO:rz sR Tryz.prog 135 (rU tw ao) (tw.go ao):=by
 refine wa (fn:=Tryz.f135) (root:=dC Tryz.f135) (by kernel_rfl) (by kernel_rfl) (by kernel_rfl) fun args hh x hx=>?_
 unfold tw je.go PT at hx;simp only at hx;split at hx
 ·rename_i n cp fn fc hd ca vi tm n2 c0 c1 c2 c3 c4 c5 c6 c7 c8 c9 oq ob oa zU zx zQ zw zt yZ zr zj za zX zC zH zK zp zV zu zP ym yp f2 fr;cases hx;refine⟨by first|exact a_ _|exact ma _,(fun b hb=>by cases hb),(fun hw=>by first|rfl|cases hw),fun mO hv=>?_⟩
  obtain⟨rfl,rfl,rfl,rfl,hv⟩:=hv;obtain⟨rfl,rfl,u_,⟨⟨l0,rfl,nZ⟩,⟨l1,rfl,zk⟩,⟨l2,rfl,Bo⟩,⟨l3,rfl,yf⟩,⟨l4,rfl,yr⟩,⟨l5,rfl,Fe⟩,⟨l6,rfl,Ef⟩,⟨l7,rfl,EK⟩,⟨l8,rfl,E6⟩,⟨l9,rfl,Ec⟩,⟨qI,rfl,yQ⟩,⟨nG,rfl,yH⟩,⟨mT,rfl,yL⟩,⟨C1,rfl,Ns⟩,⟨Cz,rfl,N5⟩,⟨CM,rfl,M6⟩,⟨C7,rfl,MC⟩,⟨CE,rfl,NF⟩,⟨CO,rfl,MS⟩,⟨C0,rfl,NV⟩,⟨CJ,rfl,MG⟩,⟨C9,rfl,Nx⟩,⟨CS,rfl,M5⟩,⟨CY,rfl,NW⟩,⟨CD,rfl,MU⟩,⟨Cu,rfl,Ng⟩,⟨C6,rfl,NT⟩,⟨CP,rfl,MO⟩,⟨Cv,rfl,Na⟩,⟨CZ,rfl,NS⟩,⟨uu,rfl,Nr⟩,⟨sq,rfl,NG⟩⟩⟩:=hv;clear mO;generalize hG:cj (R:=Empty) _ _=G;refine cL (T:=[]) trivial mixed 200 ?_;refine bK (q:=let Z2:=bm ar;let Z1:=(0:Int);Vc (fits (-1:Int))/\(ao=ao->Vc (0+n2≤n2/\1≤1/\(n2+1)*256≤140737488355328/\n2+1≤140737488355328)/\Vc (fits ((↑(n2+1):Int)-(1:Int)))/\aX (G (Z2 ((↑(n2+1):Int)-(1:Int))) [aa (.inl (186,[.slice (aa ⟨4,0,aa 32000⟩) (n2+1) 0,.slice (aa ⟨2,0,aa 1000⟩) 0 0,Z2 hd,Z2 ca,Z2 vi])),aj,aa (.inr (.inl (3,Row.mk [Z2 0] 0 [aW.mk fr [] []]))),aa (.inr (.inl (189,Row.mk di 1 [aW.mk [Z1] [] [],aW.mk [] [an] [],aW.mk [Z1] [] [],aW.mk [Z1] [] [],aW.mk [] [an] [],aW.mk [] [an] [],aW.mk [Z1] [] [],aW.mk [Z1] [] [],aW.mk [Z1] [] [],aW.mk [Z1] [] [],aW.mk [Z1] [] [],aW.mk [Z1] [] [],aW.mk [Z1] [] [],aW.mk [Z1] [] [],aW.mk [Z1] [] [],aW.mk [Z1] [] [],aW.mk [Z1] [] [],aW.mk [Z1] [] [],aW.mk [Z1] [] [],aW.mk [Z1] [] [],aW.mk [Z1] [] [],aW.mk [Z1] [] [],aW.mk [Z1] [] [],aW.mk [] [an] [],aW.mk [Z1] [] [],aW.mk [Z1] [] [],aW.mk [] [an] [],aW.mk [Z1] [] [],aW.mk [Z1] [] [],aW.mk [Z1] [] [],aW.mk [Z1] [] [],aW.mk [] [an] []]))),aa (.inr (.inl (189,Row.mk di (n2+1) (cV (cut l0 0 n2++[Z1]) (cut l1 0 n2++[an]) (cut l2 0 n2++[Z1]) (cut l3 0 n2++[Z1]) (cut l4 0 n2++[an]) (cut l5 0 n2++[an]) (cut l6 0 n2++[Z1]) (cut l7 0 n2++[Z1]) (cut l8 0 n2++[Z1]) (cut l9 0 n2++[Z1]) (cut qI 0 n2++[Z1]) (cut nG 0 n2++[Z1]) (cut mT 0 n2++[Z1]) (cut C1 0 n2++[Z1]) (cut Cz 0 n2++[Z1]) (cut CM 0 n2++[Z1]) (cut C7 0 n2++[Z1]) (cut CE 0 n2++[Z1]) (cut CO 0 n2++[Z1]) (cut C0 0 n2++[Z1]) (cut CJ 0 n2++[Z1]) (cut C9 0 n2++[Z1]) (cut CS 0 n2++[Z1]) (cut CY 0 n2++[an]) (cut CD 0 n2++[Z1]) (cut Cu 0 n2++[Z1]) (cut C6 0 n2++[an]) (cut CP 0 n2++[Z1]) (cut Cv 0 n2++[Z1]) (cut CZ 0 n2++[Z1]) (cut uu 0 n2++[Z1]) (cut sq 0 n2++[an])))))]))/\(ao=an->Vc (Z1≤(-1:Int)/\(-1:Int)<Z1/\0≤0)/\Vc (0<0)/\Vc (Z1≤(-1:Int)/\(-1:Int)≤Z1/\0≤0)/\aX (G (Z2 (aI fr 0 Z1)) [aa (.inl (186,[.slice (aa ⟨1,0,aa 32000⟩) n2 0,.slice (aa ⟨2,0,aa 1000⟩) 0 0,Z2 hd,Z2 ca,Z2 vi])),aa (.inr (.inl (189,Row.mk di n2 (cV l0 l1 l2 l3 l4 l5 l6 l7 l8 l9 qI nG mT C1 Cz CM C7 CE CO C0 CJ C9 CS CY CD Cu C6 CP Cv CZ uu sq)))),aa (.inr (.inl (3,Row.mk [Z2 0] 0 [aW.mk fr [] []])))]))) ?_ (by kernel_rfl)
  intro Z2 Z1;subst Z1 Z2;subst hG;refine⟨RH,fun _=>⟨Vk u_,Q7 u_,⟨?_⟩⟩,fun h=>by cases h⟩
  simp only[fE nZ,fE zk,fE Bo,fE yf,fE yr,fE Fe,fE Ef,fE EK,fE E6,fE Ec,fE yQ,fE yH,fE yL,fE Ns,fE N5,fE M6,fE MC,fE NF,fE MS,fE NV,fE MG,fE Nx,fE M5,fE NW,fE MU,fE Ng,fE NT,fE MO,fE Na,fE NS,fE Nr,fE NG,ZU];exact⟨[0,1,2,4],rfl,rfl,⟨.inl rfl,⟨_,rfl,.inl rfl⟩,⟨_,rfl,.inl rfl⟩,trivial⟩,rfl,rfl,rfl,(by kernel_rfl)⟩
 ·cases hx
theorem NY:rz sR Tryz.prog 135 (rU tw an) (tw.go an):=by
 refine wa (fn:=Tryz.f135) (root:=dC Tryz.f135) (by kernel_rfl) (by kernel_rfl) (by kernel_rfl) fun args hh x hx=>?_
 unfold tw je.go Pd at hx;simp only at hx;split at hx
 ·rename_i n cp fn fc hd ca vi tm n2 c0 c1 c2 c3 c4 c5 c6 c7 c8 c9 oq ob oa zU zx zQ zw zt yZ zr zj za zX zC zH zK zp zV zu zP ym yp f2 fr;cases hx;refine⟨by first|exact a_ _|exact ma _,(fun b hb=>by cases hb),(fun hw=>by first|rfl|cases hw),fun mO hv=>?_⟩
  obtain⟨h0,rfl,hf,rfl,rfl,Vs,hv⟩:=hv;obtain⟨rfl,rfl,u_,⟨⟨l0,rfl,nZ⟩,⟨l1,rfl,zk⟩,⟨l2,rfl,Bo⟩,⟨l3,rfl,yf⟩,⟨l4,rfl,yr⟩,⟨l5,rfl,Fe⟩,⟨l6,rfl,Ef⟩,⟨l7,rfl,EK⟩,⟨l8,rfl,E6⟩,⟨l9,rfl,Ec⟩,⟨qI,rfl,yQ⟩,⟨nG,rfl,yH⟩,⟨mT,rfl,yL⟩,⟨C1,rfl,Ns⟩,⟨Cz,rfl,N5⟩,⟨CM,rfl,M6⟩,⟨C7,rfl,MC⟩,⟨CE,rfl,NF⟩,⟨CO,rfl,MS⟩,⟨C0,rfl,NV⟩,⟨CJ,rfl,MG⟩,⟨C9,rfl,Nx⟩,⟨CS,rfl,M5⟩,⟨CY,rfl,NW⟩,⟨CD,rfl,MU⟩,⟨Cu,rfl,Ng⟩,⟨C6,rfl,NT⟩,⟨CP,rfl,MO⟩,⟨Cv,rfl,Na⟩,⟨CZ,rfl,NS⟩,⟨uu,rfl,Nr⟩,⟨sq,rfl,NG⟩⟩⟩:=hv;clear mO;generalize hG:cj (R:=Empty) _ _=G;refine cL (T:=[]) trivial mixed 200 ?_;refine bK (q:=let Z2:=bm ar;let Z1:=(0:Int);Vc (fits ((↑f2:Int)-(1:Int)))/\(decide ((↑f2:Int)-(1:Int)<Z1)=ao->Vc (0+n2≤n2/\1≤1/\(n2+1)*256≤140737488355328/\n2+1≤140737488355328)/\Vc (fits ((↑(n2+1):Int)-(1:Int)))/\aX (G (Z2 ((↑(n2+1):Int)-(1:Int))) [aa (.inl (186,[.slice (aa ⟨4,0,aa 32000⟩) (n2+1) 0,.slice (aa ⟨2,0,aa 1000⟩) f2 0,Z2 hd,Z2 ca,Z2 vi])),aj,aa (.inr (.inl (3,Row.mk [Z2 0] f2 [aW.mk fr [] []]))),aa (.inr (.inl (189,Row.mk di 1 [aW.mk [Z1] [] [],aW.mk [] [an] [],aW.mk [Z1] [] [],aW.mk [Z1] [] [],aW.mk [] [an] [],aW.mk [] [an] [],aW.mk [Z1] [] [],aW.mk [Z1] [] [],aW.mk [Z1] [] [],aW.mk [Z1] [] [],aW.mk [Z1] [] [],aW.mk [Z1] [] [],aW.mk [Z1] [] [],aW.mk [Z1] [] [],aW.mk [Z1] [] [],aW.mk [Z1] [] [],aW.mk [Z1] [] [],aW.mk [Z1] [] [],aW.mk [Z1] [] [],aW.mk [Z1] [] [],aW.mk [Z1] [] [],aW.mk [Z1] [] [],aW.mk [Z1] [] [],aW.mk [] [an] [],aW.mk [Z1] [] [],aW.mk [Z1] [] [],aW.mk [] [an] [],aW.mk [Z1] [] [],aW.mk [Z1] [] [],aW.mk [Z1] [] [],aW.mk [Z1] [] [],aW.mk [] [an] []]))),aa (.inr (.inl (189,Row.mk di (n2+1) (cV (cut l0 0 n2++[Z1]) (cut l1 0 n2++[an]) (cut l2 0 n2++[Z1]) (cut l3 0 n2++[Z1]) (cut l4 0 n2++[an]) (cut l5 0 n2++[an]) (cut l6 0 n2++[Z1]) (cut l7 0 n2++[Z1]) (cut l8 0 n2++[Z1]) (cut l9 0 n2++[Z1]) (cut qI 0 n2++[Z1]) (cut nG 0 n2++[Z1]) (cut mT 0 n2++[Z1]) (cut C1 0 n2++[Z1]) (cut Cz 0 n2++[Z1]) (cut CM 0 n2++[Z1]) (cut C7 0 n2++[Z1]) (cut CE 0 n2++[Z1]) (cut CO 0 n2++[Z1]) (cut C0 0 n2++[Z1]) (cut CJ 0 n2++[Z1]) (cut C9 0 n2++[Z1]) (cut CS 0 n2++[Z1]) (cut CY 0 n2++[an]) (cut CD 0 n2++[Z1]) (cut Cu 0 n2++[Z1]) (cut C6 0 n2++[an]) (cut CP 0 n2++[Z1]) (cut Cv 0 n2++[Z1]) (cut CZ 0 n2++[Z1]) (cut uu 0 n2++[Z1]) (cut sq 0 n2++[an])))))]))/\(decide ((↑f2:Int)-(1:Int)<Z1)=an->Vc (Z1≤(↑f2:Int)-(1:Int)/\(↑f2:Int)-(1:Int)<(↑f2:Int)/\0+f2≤f2)/\Vc (0+aG ((↑f2:Int)-(1:Int))<f2)/\Vc (Z1≤(↑f2:Int)-(1:Int)/\(↑f2:Int)-(1:Int)≤(↑f2:Int)/\0+f2≤f2)/\aX (G (Z2 (aI fr (0+aG ((↑f2:Int)-(1:Int))) Z1)) [aa (.inl (186,[.slice (aa ⟨1,0,aa 32000⟩) n2 0,.slice (aa ⟨2,0,aa 1000⟩) (aG ((↑f2:Int)-(1:Int))) 0,Z2 hd,Z2 ca,Z2 vi])),aa (.inr (.inl (189,Row.mk di n2 (cV l0 l1 l2 l3 l4 l5 l6 l7 l8 l9 qI nG mT C1 Cz CM C7 CE CO C0 CJ C9 CS CY CD Cu C6 CP Cv CZ uu sq)))),aa (.inr (.inl (3,Row.mk [Z2 0] f2 [aW.mk fr [] []])))]))) ?_ (by kernel_rfl)
  intro Z2 Z1;subst Z1 Z2;subst hG;clear nZ zk Bo yf yr Fe Ef EK E6 Ec yQ yH yL Ns N5 M6 MC NF MS NV MG Nx M5 NW MU Ng NT MO Na NS Nr NG;have e1:((f2:Int)-1).toNat=f2-1:=by omega
  simp only[e1,bU];refine⟨⟨by omega,by omega⟩,fun h=>absurd (of_decide_eq_true h) (by omega),fun _=>⟨⟨by omega,by omega,by omega⟩,⟨by omega⟩,⟨by omega,by omega,by omega⟩,⟨?_⟩⟩⟩
  exact⟨[0,1,2],rfl,rfl,⟨.inl rfl,⟨_,rfl,.inl rfl⟩,⟨_,rfl,.inr ⟨rfl,Be _ _,by simp[BJ]⟩⟩,trivial⟩,rfl,rfl,rfl,(by kernel_rfl)⟩
 ·cases hx
theorem Rw:b9 sR Tryz.prog 135 tw:=fun b=>by cases b;exact NY;exact NO
def TA:eJ Empty:=[(135,bJ zN 2 tw),(145,bJ zN 2 qy)]
theorem xK:cN sR Tryz.prog TA:=⟨aU _ _ Rw,aU _ _ MJ,trivial⟩
abbrev PP (m:Pl):Prop:=Gv.fY 100000 m
theorem BC (m:Pl) (i g:Int):q9 m.vs.length m.dE m.live i g=yz m ⟨i,g⟩:=rfl
theorem Ep {m:Pl} {i g:Int} (h:yz m ⟨i,g⟩=ao):0≤i/\i<m.vs.length/\m.live.getD i.toNat an=ao/\m.dE.getD i.toNat 0=g:=Gv.sx h
theorem gP {α:Type} (f:Nd->α) (m:Pl) (k:Nat) (a:α) (ha:f zd=a):(m.vs.map f).getD k a=f (m.vs.getD k zd):=by
 subst ha;simp only[au,fh];cases m.vs[k]?<;>rfl
theorem Hr (m:Pl) (k:Nat):gM m.vs k=bj (m.vs.getD k zd):=by
 unfold gM bj;simp only[gP (fun n:Nd=>n.e.t) m _ 0 rfl,gP (fun n:Nd=>n.e.ins) m _ an rfl,gP (fun n:Nd=>n.e.it.k) m _ 0 rfl,gP (fun n:Nd=>n.e.it.i) m _ 0 rfl,gP (fun n:Nd=>n.e.here) m _ an rfl,gP (fun n:Nd=>n.e.tf) m _ an rfl,gP (fun n:Nd=>n.e.tk.k) m _ 0 rfl,gP (fun n:Nd=>n.e.tk.i) m _ 0 rfl,gP (fun n:Nd=>n.l.i) m _ 0 rfl,gP (fun n:Nd=>n.l.g) m _ 0 rfl,gP (fun n:Nd=>n.r.i) m _ 0 rfl,gP (fun n:Nd=>n.r.g) m _ 0 rfl,gP (fun n:Nd=>n.all.n) m _ 0 rfl,gP (fun n:Nd=>n.all.sum.c.n) m _ 0 rfl,gP (fun n:Nd=>n.all.sum.c.s) m _ 0 rfl,gP (fun n:Nd=>n.all.sum.c.l) m _ 0 rfl,gP (fun n:Nd=>n.all.sum.w.n) m _ 0 rfl,gP (fun n:Nd=>n.all.sum.w.s) m _ 0 rfl,gP (fun n:Nd=>n.all.sum.w.l) m _ 0 rfl,gP (fun n:Nd=>n.all.sum.d) m _ 0 rfl,gP (fun n:Nd=>n.all.sum.f) m _ 0 rfl,gP (fun n:Nd=>n.all.sum.m.k) m _ 0 rfl,gP (fun n:Nd=>n.all.sum.m.i) m _ 0 rfl,gP (fun n:Nd=>n.all.sum.gf) m _ an rfl,gP (fun n:Nd=>n.all.sum.g.k) m _ 0 rfl,gP (fun n:Nd=>n.all.sum.g.i) m _ 0 rfl,gP (fun n:Nd=>n.all.sum.lf) m _ an rfl,gP (fun n:Nd=>n.all.sum.l.k) m _ 0 rfl,gP (fun n:Nd=>n.all.sum.l.i) m _ 0 rfl,gP (fun n:Nd=>n.h) m _ 0 rfl]
theorem BA (m:Pl) (k:Nat) (x:Nd) (g:List Int) (b:List Bool):(⟨di,m.vs.length,cS m.vs k x g b⟩:Row)=⟨di,(m.vs.set k x).length,cM (m.vs.set k x) g b⟩:=by
 unfold cS cM;simp only[Fq,fb]
theorem gN {α:Type} (f:Nd->α) (m:Pl):(m.vs.map f).length=m.vs.length:=fS ..
theorem BQ {m:Pl} (hv:PP m):mS m.vs.length (cM m.vs m.dE m.live):=⟨⟨_,rfl,gN _ m⟩,⟨_,rfl,gN _ m⟩,⟨_,rfl,gN _ m⟩,⟨_,rfl,gN _ m⟩,⟨_,rfl,gN _ m⟩,⟨_,rfl,gN _ m⟩,⟨_,rfl,gN _ m⟩,⟨_,rfl,gN _ m⟩,⟨_,rfl,gN _ m⟩,⟨_,rfl,gN _ m⟩,⟨_,rfl,gN _ m⟩,⟨_,rfl,gN _ m⟩,⟨_,rfl,gN _ m⟩,⟨_,rfl,gN _ m⟩,⟨_,rfl,gN _ m⟩,⟨_,rfl,gN _ m⟩,⟨_,rfl,gN _ m⟩,⟨_,rfl,gN _ m⟩,⟨_,rfl,gN _ m⟩,⟨_,rfl,gN _ m⟩,⟨_,rfl,gN _ m⟩,⟨_,rfl,gN _ m⟩,⟨_,rfl,gN _ m⟩,⟨_,rfl,gN _ m⟩,⟨_,rfl,gN _ m⟩,⟨_,rfl,gN _ m⟩,⟨_,rfl,gN _ m⟩,⟨_,rfl,gN _ m⟩,⟨_,rfl,gN _ m⟩,⟨_,rfl,gN _ m⟩,⟨_,rfl,hv.dE⟩,⟨_,rfl,hv.live⟩⟩
theorem uw {m:Pl} (hv:PP m):True/\True/\m.vs.length<1000000/\mS m.vs.length (cM m.vs m.dE m.live):=⟨trivial,trivial,by have:=hv.cells;omega,BQ hv⟩
def Nu:Prim Rs:=fun args hh=>match args,hh with
 |[.int .i64 c],[]=>aa ⟨True,.pointer (aa ⟨0,0,aj⟩),aj,[aa (.inr (.inr (.inr (.da ⟨[],[],[],[],0,min (max c 0) 16777216,0⟩))))],[],[(0,0)]⟩
 |_,_=>aj
theorem UI:b9 D Tryz.prog 130 (a9 Nu):=by
 refine pZ (rh (L:=L) (D0:=sR) (fn:=Tryz.f130) (root:=dC Tryz.f130) (by kernel_rfl) (by kernel_rfl) (by kernel_rfl) fun args hh x hx=>?_)
 unfold Nu at hx;split at hx
 ·rename_i c;cases hx;refine q4 fun _ hv=>?_
  generalize hG:xB (R:=Rs) (R0:=Empty) _ _ _=G;refine cL (T:=TA) xK mixed 200 ?_;refine bK (q:=aX (G (aB (aa ⟨0,0,aj⟩)) [aa (.inl (186,[.slice aj 0 0,.slice aj 0 0,.int ar 0,.int ar (if(16777216:Int)<if(0:Int)>c then(0:Int) else c then(16777216:Int) else if(0:Int)>c then(0:Int) else c),.int ar 0]))])) ?_ (by kernel_rfl)
  subst hG;have e:(if 16777216<if 0>c then 0 else c then 16777216 else if 0>c then 0 else c)=min (max c 0) 16777216:=by
   by_cases h1:0>c
   ·rw[if_pos h1];simp;omega
   ·rw[if_neg h1];split<;>omega
  rw[e];refine⟨⟨[0,1,1],rfl,rfl,⟨.inl rfl,⟨rfl,sF _,rfl⟩,⟨rfl,sF _,rfl⟩,trivial⟩,rfl,rfl,rfl,rfl,rfl⟩⟩
 ·cases hx
def NN:Prim Rs:=fun args hh=>match args,hh with
 |[.pointer (aa ⟨0,0,aj⟩),.agg ⟨[.int .i64 i,.int .i64 g]⟩],[aa (.inr (.inr (.inr (.da m))))]=>aa ⟨PP m,.tuple #[.agg ⟨bj (jQ zd m ⟨i,g⟩)⟩,.bool (yz m ⟨i,g⟩)],aj,[aa (.inr (.inr (.inr (.da (aK m ⟨i,g⟩)))))],[],[(0,0)]⟩
 |_,_=>aj
theorem V3:b9 D Tryz.prog 121 (a9 NN):=by
 refine pZ (rh (L:=L) (D0:=sR) (fn:=Tryz.f121) (root:=dC Tryz.f121) (by kernel_rfl) (by kernel_rfl) (by kernel_rfl) fun args hh x hx=>?_)
 unfold NN at hx;split at hx
 ·rename_i i g m;cases hx;refine q4 fun _ hv=>?_
  generalize hG:xB (R:=Rs) (R0:=Empty) _ _ _=G;refine cL (T:=TA) xK mixed 200 ?_;refine bK (q:=let Z3:=bm ar;let Z1:=(ae (cH m));let Z2:=(bj (fy (Wv.Mk.mk 0 an (cU 0 0) an an (cU 0 0)) (aO 0 0) (aO 0 0) (my 0 (Wv.Sw.mk (iP 0 0 0) (iP 0 0 0) 0 0 (cU 0 0) an (cU 0 0) an (cU 0 0))) 0));(q9 Z1 (dN m) (eV m) i g=ao->Vc (di=di/\ae (cH m)=ae (cH m)/\ae (cH m)<1000000/\mS Z1 (cM (cH m) (dN m) (eV m)))/\Vc (aG i<ae (cH m))/\aX (G (cq (aJ [.agg (aJ (gM (cH m) (aG i))),.bool ao])) [aa (.inl (186,[.slice (aa ⟨1,0,aa 32000⟩) Z1 0,.slice (aa ⟨2,0,aa 1000⟩) (ae (dT m)) 0,Z3 (fM m),Z3 (ic m),Z3 (ck ar (gU m+(1:Int)))])),aa (.inr (.inl (189,Row.mk di Z1 (cM (cH m) (dN m) (eV m))))),aa (.inr (.inl (3,Row.mk [Z3 0] (ae (dT m)) [aW.mk (dT m) [] []]))),aa (.inl (108,[Z3 i,Z3 g])),aa (.inl (136,(gM (cH m) (aG i))))]))/\(q9 Z1 (dN m) (eV m) i g=an->Vc (di=di/\ae (cH m)=ae (cH m)/\ae (cH m)<1000000/\mS Z1 (cM (cH m) (dN m) (eV m)))/\aX (G (cq (aJ [.agg (aJ Z2),.bool an])) [aa (.inl (186,[.slice (aa ⟨1,0,aa 32000⟩) Z1 0,.slice (aa ⟨2,0,aa 1000⟩) (ae (dT m)) 0,Z3 (fM m),Z3 (ic m),Z3 (gU m)])),aa (.inr (.inl (189,Row.mk di Z1 (cM (cH m) (dN m) (eV m))))),aa (.inr (.inl (3,Row.mk [Z3 0] (ae (dT m)) [aW.mk (dT m) [] []]))),aa (.inl (108,[Z3 i,Z3 g])),aa (.inl (136,Z2)),aa (.inl (136,Z2))]))) ?_ (by kernel_rfl)
  intro Z3 Z1 Z2;subst Z2 Z1 Z3;subst hG;simp only[BC,bU];refine⟨fun h=>⟨⟨uw hv⟩,⟨by have:=Ep h;omega⟩,⟨?_⟩⟩,fun h=>⟨⟨uw hv⟩,⟨?_⟩⟩⟩
  ·have e1:jQ zd m ⟨i,g⟩=m.vs.getD i.toNat zd:=by unfold jQ;rw[if_pos h]
   have e2:aK m ⟨i,g⟩=HK m:=by unfold aK;rw[if_pos h]
   rw[Hr m i.toNat,e1,e2,h];exact⟨[0,1,2],rfl,rfl,⟨.inl rfl,⟨_,rfl,.inl rfl⟩,⟨_,rfl,.inl rfl⟩,trivial⟩,rfl,rfl,rfl,rfl,rfl⟩
  ·have e1:jQ zd m ⟨i,g⟩=zd:=by unfold jQ;rw[if_neg (by rw[h];decide)]
   have e2:aK m ⟨i,g⟩=m:=by unfold aK;rw[if_neg (by rw[h];decide)]
   rw[e1,e2,h];exact⟨[0,1,2],rfl,rfl,⟨.inl rfl,⟨_,rfl,.inl rfl⟩,⟨_,rfl,.inl rfl⟩,trivial⟩,rfl,rfl,rfl,rfl,rfl⟩
 ·cases hx
def MB:Prim Rs:=fun args hh=>match args,hh with
 |[.pointer (aa ⟨0,0,aj⟩),.agg ⟨[.int .i64 i,.int .i64 g]⟩,.agg ⟨xN⟩],[aa (.inr (.inr (.inr (.da m))))]=>aa ⟨xN=bj (fU xN)/\PP m,.bool (yz m ⟨i,g⟩),aj,[aa (.inr (.inr (.inr (.da (th m ⟨i,g⟩ (fU xN))))))],[],[(0,0)]⟩
 |_,_=>aj
theorem VZ:b9 D Tryz.prog 173 (a9 MB):=by
 refine pZ (rh (L:=L) (D0:=sR) (fn:=Tryz.f173) (root:=dC Tryz.f173) (by kernel_rfl) (by kernel_rfl) (by kernel_rfl) fun args hh x hx=>?_)
 unfold MB at hx;split at hx
 ·rename_i i g xN m;cases hx;refine q4 fun _ hv=>?_
  obtain⟨hq,hv⟩:=hv;generalize fU xN=x at *;subst hq
  generalize hG:xB (R:=Rs) (R0:=Empty) _ _ _=G;refine cL (T:=TA) xK mixed 200 ?_;refine bK (q:=let Z2:=bm ar;let Z1:=(ae (cH m));(q9 Z1 (dN m) (eV m) i g=ao->Vc (di=di/\ae (cH m)=ae (cH m)/\ae (cH m)<1000000/\mS Z1 (cM (cH m) (dN m) (eV m)))/\Vc (aG i<ae (cH m))/\aX (G (aC ao) [aa (.inl (186,[.slice (aa ⟨1,0,aa 32000⟩) Z1 0,.slice (aa ⟨2,0,aa 1000⟩) (ae (dT m)) 0,Z2 (fM m),Z2 (ic m),Z2 (ck ar (gU m+(1:Int)))])),aa (.inr (.inl (189,Row.mk di Z1 (cS (cH m) (aG i) x (dN m) (eV m))))),aa (.inr (.inl (3,Row.mk [Z2 0] (ae (dT m)) [aW.mk (dT m) [] []]))),aa (.inl (108,[Z2 i,Z2 g])),aa (.inl (136,(bj x)))]))/\(q9 Z1 (dN m) (eV m) i g=an->Vc (di=di/\ae (cH m)=ae (cH m)/\ae (cH m)<1000000/\mS Z1 (cM (cH m) (dN m) (eV m)))/\aX (G (aC an) [aa (.inl (186,[.slice (aa ⟨1,0,aa 32000⟩) Z1 0,.slice (aa ⟨2,0,aa 1000⟩) (ae (dT m)) 0,Z2 (fM m),Z2 (ic m),Z2 (gU m)])),aa (.inr (.inl (189,Row.mk di Z1 (cM (cH m) (dN m) (eV m))))),aa (.inr (.inl (3,Row.mk [Z2 0] (ae (dT m)) [aW.mk (dT m) [] []]))),aa (.inl (108,[Z2 i,Z2 g])),aa (.inl (136,(bj x)))]))) ?_ (by kernel_rfl)
  intro Z2 Z1;subst Z1 Z2;subst hG;simp only[BC,bU];refine⟨fun h=>⟨⟨uw hv⟩,⟨by have:=Ep h;omega⟩,⟨?_⟩⟩,fun h=>⟨⟨uw hv⟩,⟨?_⟩⟩⟩
  ·have e2:∀ y,th m ⟨i,g⟩ y={ HK m with vs:=m.vs.set i.toNat y }:=fun y=>by unfold th;rw[if_pos h]
   rw[e2,h];exact⟨[0,1,2],rfl,rfl,⟨.inl (by rw[fb];rfl),⟨_,rfl,.inl (BA m i.toNat x _ _).symm⟩,⟨_,rfl,.inl rfl⟩,trivial⟩,rfl,rfl,rfl,rfl,rfl⟩
  ·have e2:∀ y,th m ⟨i,g⟩ y=m:=fun y=>by unfold th;rw[if_neg (by rw[h];decide)]
   rw[e2,h];exact⟨[0,1,2],rfl,rfl,⟨.inl rfl,⟨_,rfl,.inl rfl⟩,⟨_,rfl,.inl rfl⟩,trivial⟩,rfl,rfl,rfl,rfl,rfl⟩
 ·cases hx
def B7:Prim Rs:=fun args hh=>match args,hh with
 |[.pointer (aa ⟨0,0,aj⟩)],[aa (.inr (.inr (.inr (.da m))))]=>aa ⟨True,.int .i64 m.cW,aj,hh,[],[]⟩
 |_,_=>aj
theorem Kb:b9 D Tryz.prog 117 (a9 B7):=by
 refine pZ (rh (L:=L) (D0:=sR) (fn:=Tryz.f117) (root:=dC Tryz.f117) (by kernel_rfl) (by kernel_rfl) (by kernel_rfl) fun args hh x hx=>?_)
 unfold B7 at hx;split at hx
 ·rename_i m;cases hx;refine q4 fun _ hv=>?_
  generalize hG:xB (R:=Rs) (R0:=Empty) _ _ _=G;refine cL (T:=TA) xK mixed 200 ?_;refine bK (q:=let Z1:=bm ar;aX (G (Z1 (gU m)) [aa (.inl (186,[.slice (aa ⟨1,0,aa 32000⟩) (ae (cH m)) 0,.slice (aa ⟨2,0,aa 1000⟩) (ae (dT m)) 0,Z1 (fM m),Z1 (ic m),Z1 (gU m)])),aa (.inr (.inl (189,Row.mk di (ae (cH m)) (cM (cH m) (dN m) (eV m))))),aa (.inr (.inl (3,Row.mk [Z1 0] (ae (dT m)) [aW.mk (dT m) [] []])))])) ?_ (by kernel_rfl)
  intro Z1;subst Z1;subst hG;exact⟨⟨[0,1,2],rfl,rfl,⟨.inl rfl,⟨_,rfl,.inl rfl⟩,⟨_,rfl,.inl rfl⟩,trivial⟩,rfl,rfl,rfl,rfl,rfl⟩⟩
 ·cases hx
def Cr:Prim Rs:=fun args hh=>match args,hh with
 |[.pointer (aa ⟨0,0,aj⟩),.agg ⟨[.int .i64 i,.int .i64 g]⟩],[aa (.inr (.inr (.inr (.da m))))]=>aa ⟨PP m,.tuple #[.agg ⟨bj (jQ zd m ⟨i,g⟩)⟩,.bool (yz m ⟨i,g⟩)],aj,[aa (.inr (.inr (.inr (.da (wg zd m ⟨i,g⟩)))))],[],[(0,0)]⟩
 |_,_=>aj
theorem tc:b9 D Tryz.prog 114 (a9 Cr):=by
 refine pZ (rh (L:=L) (D0:=sR) (fn:=Tryz.f114) (root:=dC Tryz.f114) (by kernel_rfl) (by kernel_rfl) (by kernel_rfl) fun args hh x hx=>?_)
 unfold Cr at hx;split at hx
 ·rename_i i g m;cases hx;refine q4 fun _ hv=>?_
  generalize hG:xB (R:=Rs) (R0:=Empty) _ _ _=G;refine cL (T:=TA) xK mixed 200 ?_;refine bK (q:=let Z7:=bm ar;let Z1:=(ae (cH m));let Z2:=(aG i<ae (cH m));let Z3:=(aI (dN m) (aG i) (0:Int)<(4294967295:Int));let Z4:=(cq (aJ [.agg (aJ (gM (cH m) (aG i))),.bool ao]));let Z5:=(bj (fy (Wv.Mk.mk 0 an (cU 0 0) an an (cU 0 0)) (aO 0 0) (aO 0 0) (my 0 (Wv.Sw.mk (iP 0 0 0) (iP 0 0 0) 0 0 (cU 0 0) an (cU 0 0) an (cU 0 0))) 0));let Z6:=(ae (dT m));(q9 Z1 (dN m) (eV m) i g=ao->Vc (di=di/\ae (cH m)=ae (cH m)/\ae (cH m)<1000000/\mS Z1 (cM (cH m) (dN m) (eV m)))/\Vc Z2/\Vc Z2/\Vc Z2/\Vc (fits (fM m-(1:Int)))/\Vc Z2/\(decide Z3=ao->Vc (0+ae (dT m)≤ae (dT m)/\1≤1/\(ae (dT m)+1)*8≤140737488355328/\ae (dT m)+1≤140737488355328)/\aX (G Z4 [aa (.inl (186,[.slice (aa ⟨1,0,aa 32000⟩) Z1 0,.slice (aa ⟨8,0,aa 1000⟩) (ae (dT m)+1) 0,Z7 (fM m-(1:Int)),Z7 (ic m),Z7 (ck ar (gU m+(1:Int)))])),aa (.inr (.inl (189,Row.mk di Z1 (cS (cH m) (aG i) zd (dN m) (qc (eV m) (aG i) an))))),aj,aa (.inl (108,[Z7 i,Z7 g])),aa (.inl (136,(gM (cH m) (aG i)))),aa (.inl (136,Z5)),aa (.inl (136,(gM (cH m) (aG i)))),aa (.inr (.inl (3,Row.mk [Z7 0] 1 [aW.mk [i] [] []]))),aa (.inr (.inl (3,Row.mk [Z7 0] (ae (dT m)+1) [aW.mk (cut (dT m) 0 Z6++cut [i] 0 1) [] []])))]))/\(decide Z3=an->aX (G Z4 [aa (.inl (186,[.slice (aa ⟨1,0,aa 32000⟩) Z1 0,.slice (aa ⟨2,0,aa 1000⟩) Z6 0,Z7 (fM m-(1:Int)),Z7 (ic m),Z7 (ck ar (gU m+(1:Int)))])),aa (.inr (.inl (189,Row.mk di Z1 (cS (cH m) (aG i) zd (dN m) (qc (eV m) (aG i) an))))),aa (.inr (.inl (3,Row.mk [Z7 0] Z6 [aW.mk (dT m) [] []]))),aa (.inl (108,[Z7 i,Z7 g])),aa (.inl (136,(gM (cH m) (aG i)))),aa (.inl (136,Z5)),aa (.inl (136,(gM (cH m) (aG i))))])))/\(q9 Z1 (dN m) (eV m) i g=an->Vc (di=di/\ae (cH m)=ae (cH m)/\ae (cH m)<1000000/\mS Z1 (cM (cH m) (dN m) (eV m)))/\aX (G (cq (aJ [.agg (aJ Z5),.bool an])) [aa (.inl (186,[.slice (aa ⟨1,0,aa 32000⟩) Z1 0,.slice (aa ⟨2,0,aa 1000⟩) Z6 0,Z7 (fM m),Z7 (ic m),Z7 (gU m)])),aa (.inr (.inl (189,Row.mk di Z1 (cM (cH m) (dN m) (eV m))))),aa (.inr (.inl (3,Row.mk [Z7 0] Z6 [aW.mk (dT m) [] []]))),aa (.inl (108,[Z7 i,Z7 g])),aa (.inl (136,Z5)),aa (.inl (136,Z5))]))) ?_ (by kernel_rfl)
  intro Z7 Z1 Z2 Z3 Z4 Z5 Z6;subst Z6 Z5 Z4 Z3 Z2 Z1 Z7;subst hG;simp only[BC,bU];have hgb:=Dg (i:=i.toNat) hv.gen;have hhl:=hv.SF;have hfr:=hv.pJ;refine⟨fun h=>?_,fun h=>⟨⟨uw hv⟩,⟨?_⟩⟩⟩
  ·have ch:i.toNat<m.vs.length:=by have:=Ep h;omega
   have g3:m.dE.getD i.toNat 0<4294967295:=by omega
   have e1:jQ zd m ⟨i,g⟩=m.vs.getD i.toNat zd:=by unfold jQ;rw[if_pos h]
   have e2:wg zd m ⟨i,g⟩={ HK m with vs:=m.vs.set i.toNat zd,live:=m.live.set i.toNat an,held:=m.held-1,free:=m.free++[i] }:=by unfold wg;rw[if_pos h,if_pos g3]
   have ec:cut m.free 0 m.free.length++cut [i] 0 1=m.free++[i]:=by rw[fE rfl];rfl
   rw[ec];refine⟨⟨uw hv⟩,⟨ch⟩,⟨ch⟩,⟨ch⟩,⟨⟨by omega,by omega⟩⟩,⟨ch⟩,fun _=>⟨⟨by omega,by omega,by omega,by omega⟩,⟨?_⟩⟩,fun h2=>absurd g3 (of_decide_eq_false h2)⟩
   rw[Hr m i.toNat,e1,e2,h];exact⟨[0,1,8],rfl,rfl,⟨.inl (by rw[fb,bF];rfl),⟨_,rfl,.inl (BA m i.toNat zd _ _).symm⟩,⟨_,rfl,.inl (by rw[bF];rfl)⟩,trivial⟩,rfl,rfl,rfl,rfl,rfl⟩
  ·have e1:jQ zd m ⟨i,g⟩=zd:=by unfold jQ;rw[if_neg (by rw[h];decide)]
   have e2:wg zd m ⟨i,g⟩=m:=by unfold wg;rw[if_neg (by rw[h];decide)]
   rw[e1,e2,h];exact⟨[0,1,2],rfl,rfl,⟨.inl rfl,⟨_,rfl,.inl rfl⟩,⟨_,rfl,.inl rfl⟩,trivial⟩,rfl,rfl,rfl,rfl,rfl⟩
 ·cases hx
theorem QQ (m:Pl) (k:Nat) (x:Nd) (g:List Int) (b:List Bool):(⟨di,m.vs.length+1,cG m.vs k x g b⟩:Row)=⟨di,((m.vs++[zd]).set k x).length,cM ((m.vs++[zd]).set k x) g b⟩:=by
 unfold cG cM;simp only[Fq,dJ,fb,bF,gw,List.map_nil,cy,jM]
 rfl
theorem Ei {m:Pl} (h0:m.held=m.cap) (x:Nd):tD zd m x=m/\lu zd m=⟨0,0⟩:=by
 unfold tD lu;rw[if_pos h0,if_pos h0];exact⟨rfl,rfl⟩
theorem E3 {m:Pl} (h0:¬ m.held=m.cap) (hf:m.free.length=0) (x:Nd):tD zd m x=⟨(m.vs++[zd]).set m.vs.length x,(m.dE++[0]).set m.vs.length ((m.dE++[0]).getD m.vs.length 0+1),(m.live++[an]).set m.vs.length ao,m.free,m.held+1,m.cap,m.cW⟩/\lu zd m=⟨m.vs.length,(m.dE++[0]).getD m.vs.length 0+1⟩:=by
 have en:vw m=m.vs.length:=by rw[vw,if_pos hf]
 unfold tD lu Gv.Ax KS;rw[if_neg h0,if_neg h0];simp only[if_pos hf,en,iJ]
 constructor<;>first|rfl|trivial
theorem E0 {m:Pl} (h0:¬ m.held=m.cap) (hf:¬ m.free.length=0) (x:Nd):tD zd m x=⟨m.vs.set (m.free.getD (m.free.length-1) 0).toNat x,m.dE.set (m.free.getD (m.free.length-1) 0).toNat (m.dE.getD (m.free.getD (m.free.length-1) 0).toNat 0+1),m.live.set (m.free.getD (m.free.length-1) 0).toNat ao,m.free.take (m.free.length-1),m.held+1,m.cap,m.cW⟩/\lu zd m=⟨m.free.getD (m.free.length-1) 0,m.dE.getD (m.free.getD (m.free.length-1) 0).toNat 0+1⟩:=by
 have en:vw m=m.free.getD (m.free.length-1) 0:=by rw[vw,if_neg hf]
 unfold tD lu Gv.Ax KS;rw[if_neg h0,if_neg h0];simp only[if_neg hf,en]
 constructor<;>first|rfl|trivial
structure Bds (m:Pl):Prop where
 dE:m.dE.length=m.vs.length
 cells:m.vs.length<1000000
 pJ:m.free.length<1000000
 held:-1000000≤m.held/\m.held<1000000
 gen:∀ i,0≤m.dE.getD i 0/\m.dE.getD i 0≤100000
 last:¬ m.free.length=0->0≤m.free.getD (m.free.length-1) 0/\m.free.getD (m.free.length-1) 0<m.vs.length
theorem bds {m:Pl} (hv:PP m):Bds m:=by
 have v1:=hv.dE;have v3:=hv.cells;have v4:=hv.pJ;have v5:=hv.SF;refine⟨v1,by omega,by omega,by omega,fun i=>?_,fun h=>?_⟩
 ·have:=Dg (i:=i) hv.gen;omega
 ·have:=hv.inn _ (yF (d:=0) (l:=m.free) (i:=m.free.length-1) (by omega))
  exact⟨this.1,this.2.1⟩
theorem Ex (l:List Int) (k:Nat) (x:Int) (h:k<l.length):(l.set k x).getD k 0=x:=by
 rw[oc,if_pos ⟨rfl,h⟩]
def Ia:Prim Rs:=fun args hh=>match args,hh with
 |[.pointer (aa ⟨0,0,aj⟩),.agg ⟨xN⟩],[aa (.inr (.inr (.inr (.da m))))]=>aa ⟨xN=bj (fU xN)/\PP m,.tuple #[.agg ⟨[.int .i64 (lu zd m).i,.int .i64 (lu zd m).g]⟩,.bool (!decide (m.held=m.cap))],aj,[aa (.inr (.inr (.inr (.da (tD zd m (fU xN))))))],[],[(0,0)]⟩
 |_,_=>aj
theorem tu:b9 D Tryz.prog 97 (a9 Ia):=by
 refine pZ (rh (L:=L) (D0:=sR) (fn:=Tryz.f97) (root:=dC Tryz.f97) (by kernel_rfl) (by kernel_rfl) (by kernel_rfl) fun args hh x hx=>?_)
 unfold Ia at hx;split at hx
 ·rename_i xN m;cases hx;refine q4 fun _ hv=>?_
  obtain⟨hq,hv⟩:=hv;generalize fU xN=x at *;subst hq
  generalize hG:xB (R:=Rs) (R0:=Empty) _ _ _=G;refine cL (T:=TA) xK mixed 200 ?_;refine bK (q:=let b6:=bm ar;let Z1:=(cH m);let Z2:=(ae Z1);let Z3:=(dT m);let Z4:=(cM Z1 (dN m) (eV m));let Z5:=(aI (dN m++[(0:Int)]) (0+(Z2:Int).toNat) (0:Int)+(1:Int));let Z6:=(qc (dN m++[(0:Int)]) (0+(Z2:Int).toNat) Z5);let Z7:=(ae Z3-1);let Z8:=(aI Z3 Z7 (0:Int));let Z9:=(aI (dN m) (0+aG Z8) (0:Int)+(1:Int));let dO:=(aI (qc (dN m) (0+aG Z8) Z9) (0+aG Z8) (0:Int));((fM m==ic m)=ao->aX (G (cq (aJ [.agg (aJ [b6 0,b6 0]),.bool an])) [aa (.inl (186,[.slice (aa ⟨1,0,aa 32000⟩) Z2 0,.slice (aa ⟨2,0,aa 1000⟩) (ae Z3) 0,b6 (fM m),b6 (ic m),b6 (gU m)])),aa (.inr (.inl (189,Row.mk di Z2 Z4))),aa (.inr (.inl (3,Row.mk [b6 0] (ae Z3) [aW.mk Z3 [] []]))),aa (.inl (136,(bj x))),aa (.inl (108,[b6 0,b6 0]))]))/\((fM m==ic m)=an->(decide (ae Z3=0)=ao->Vc (ae Z3=0/\ae Z3=ae Z3/\0=0/\0=0/\di=di/\ae Z1=ae Z1/\ae Z1<1000000/\mS Z2 Z4)/\Vc ((0:Int)≤(↑Z2:Int)/\(↑Z2:Int)<(↑(ae Z1+1):Int)/\0+(ae Z1+1)≤ae Z1+1)/\Vc (0+(Z2:Int).toNat<ae Z1+1)/\Vc (0+(Z2:Int).toNat<ae Z1+1)/\Vc (0+(Z2:Int).toNat<ae Z1+1)/\Vc (fits Z5)/\Vc (0+(Z2:Int).toNat<ae Z1+1)/\Vc (fits (fM m+(1:Int)))/\Vc (0+(Z2:Int).toNat<ae Z1+1)/\aX (G (cq (aJ [.agg (aJ [b6 (↑Z2:Int),b6 (aI Z6 (0+(Z2:Int).toNat) (0:Int))]),.bool ao])) [aa (.inl (186,[.slice (aa ⟨5,0,aa 32000⟩) (ae Z1+1) 0,.slice (aa ⟨2,0,aa 1000⟩) (ae Z3) 0,b6 (fM m+(1:Int)),b6 (ic m),b6 (gU m)])),aj,aa (.inr (.inl (3,Row.mk [b6 0] (ae Z3) [aW.mk Z3 [] []]))),aa (.inl (136,(bj x))),aa (.inl (108,[b6 (↑Z2:Int),b6 (aI Z6 (0+(Z2:Int).toNat) (0:Int))])),aa (.inr (.inl (189,Row.mk di (ae Z1+1) (cG Z1 (0+(Z2:Int).toNat) x Z6 (qc (eV m++[an]) (0+(Z2:Int).toNat) ao)))))]))/\(decide (ae Z3=0)=an->Vc (ae Z3≠0/\ae Z3=ae Z3/\ae Z3=ae Z3/\0=0/\0=0/\ae Z3<1000000/\di=di/\ae Z1=ae Z1/\ae Z1<1000000/\mS Z2 Z4)/\Vc ((0:Int)≤aI Z3 Z7 (0:Int)/\aI Z3 Z7 (0:Int)<(↑Z2:Int)/\0+ae Z1≤ae Z1)/\Vc (0+aG Z8<ae Z1)/\Vc (0+aG Z8<ae Z1)/\Vc (0+aG Z8<ae Z1)/\Vc (fits Z9)/\Vc (0+aG Z8<ae Z1)/\Vc (fits (fM m+(1:Int)))/\Vc (0+aG Z8<ae Z1)/\aX (G (cq (aJ [.agg (aJ [b6 Z8,b6 dO]),.bool ao])) [aa (.inl (186,[.slice (aa ⟨1,0,aa 32000⟩) Z2 0,.slice (aa ⟨2,0,aa 1000⟩) Z7 0,b6 (fM m+(1:Int)),b6 (ic m),b6 (gU m)])),aa (.inr (.inl (189,Row.mk di Z2 (cS Z1 (0+aG Z8) x (qc (dN m) (0+aG Z8) Z9) (qc (eV m) (0+aG Z8) ao))))),aa (.inr (.inl (3,Row.mk [b6 0] Z7 [aW.mk (List.take Z7 Z3) [] []]))),aa (.inl (136,(bj x))),aa (.inl (108,[b6 Z8,b6 dO]))])))) ?_ (by kernel_rfl)
  intro b6 Z1 Z2 Z3 Z4 Z5 Z6 Z7 Z8 Z9 dO;subst dO Z9 Z8 Z7 Z6 Z5 Z4 Z3 Z2 Z1 b6;subst hG;simp only[bU,iJ];have hb:=bds hv;refine⟨fun h=>?_,fun h=>⟨fun hf=>?_,fun hf=>?_⟩⟩
  ·have h0:m.held=m.cap:=eq_of_beq h;rw[(Ei h0 x).1,(Ei h0 x).2,decide_eq_true h0];exact⟨⟨[0,1,2],rfl,rfl,⟨.inl rfl,⟨_,rfl,.inl rfl⟩,⟨_,rfl,.inl rfl⟩,trivial⟩,rfl,rfl,rfl,rfl,rfl⟩⟩
  ·have h0:¬ m.held=m.cap:=fun c=>by rw[c,beq_self_eq_true] at h;cases h
   have h1:m.free.length=0:=of_decide_eq_true hf;have hk:m.vs.length<(m.dE++[0]).length:=by rw[bF,hb.dE];exact fC _
   have e1:(m.dE++[0]).getD m.vs.length 0=0:=by rw[uD,if_pos hb.dE.symm]
   rw[(E3 h0 h1 x).1,(E3 h0 h1 x).2,decide_eq_false h0,Ex _ _ _ hk];refine⟨⟨h1,trivial,trivial,trivial,trivial,trivial,hb.cells,BQ hv⟩,⟨by omega,by omega,a_ _⟩,⟨fC _⟩,⟨fC _⟩,⟨fC _⟩,⟨by rw[e1];exact⟨by omega,by omega⟩⟩,⟨fC _⟩,⟨by have:=hb.held;exact⟨by omega,by omega⟩⟩,⟨fC _⟩,⟨[0,5,2],rfl,rfl,?_,rfl,rfl,rfl,rfl,rfl⟩⟩
   exact⟨.inl (by rw[fb,bF];rfl),⟨_,rfl,.inl (QQ m m.vs.length x _ _).symm⟩,⟨_,rfl,.inl rfl⟩,trivial⟩
  ·have h0:¬ m.held=m.cap:=fun c=>by rw[c,beq_self_eq_true] at h;cases h
   have h1:¬ m.free.length=0:=of_decide_eq_false hf;have hl:=hb.last h1;have hk:(m.free.getD (m.free.length-1) 0).toNat<m.vs.length:=by omega
   rw[(E0 h0 h1 x).1,(E0 h0 h1 x).2,decide_eq_false h0,Ex _ _ _ (by rw[hb.dE];exact hk)]
   refine⟨⟨h1,trivial,trivial,trivial,trivial,hb.pJ,trivial,trivial,hb.cells,BQ hv⟩,⟨hl.1,hl.2,a_ _⟩,⟨hk⟩,⟨hk⟩,⟨hk⟩,⟨by have:=hb.gen (m.free.getD (m.free.length-1) 0).toNat;exact⟨by omega,by omega⟩⟩,⟨hk⟩,⟨by have:=hb.held;exact⟨by omega,by omega⟩⟩,⟨hk⟩,⟨[0,1,2],rfl,rfl,?_,rfl,rfl,rfl,rfl,rfl⟩⟩
   exact⟨.inl (by rw[fb,dQ,tE (Be _ _)];rfl),⟨_,rfl,.inl (BA m _ x _ _).symm⟩,⟨_,rfl,.inl (by rw[dQ,tE (Be _ _)])⟩,trivial⟩
 ·cases hx
end G8
namespace Rx
open Go.RowKit State
theorem oh {R:Type} {D:fJ R} {P:Program} {T:eJ R} (hT:cN D P T) (LV:P.follows .mixedOrders=ao) {root:Code} {n0:Nat} {k:Exit->SS R->Prop} (n:Nat) {todo:List (It R)} {σ:SS R} {q:Prop} (hq:q)
  (e:rx D P T root n0 k n todo σ=q):At D P root n0 k todo σ:=cL hT LV n (by rw[e];exact hq)
end Rx
namespace Wv
open Rx
set_option maxRecDepth 100000
def adr {R:Type}:Prim R:=fun args hh=>match args,hh with
 |[.int .i64 a],[]=>aa ⟨True,.bool an,aj,hh,[],[]⟩
 |_,_=>aj
theorem ajv {R:Type} {D:fJ R}:b9 D Tryz.prog 176 (a9 adr):=by
 refine fu Tryz.f176 fun args hh x hx=>?_
 unfold adr at hx;split at hx
 ·rename_i a;cases hx;refine q4 fun _ hv=>?_
  generalize hG:cj (R:=R) _ _=G;refine oh (T:=[]) trivial mixed 200 (q:=aX (G (aC (a != a)) [])) ?_ (by kernel_rfl)
  subst hG
  repeat' (first|apply cX|apply Vc.mk|apply fits.mk|intro h|apply aX.mk)
  all_goals (try simp only[sB] at *)
  all_goals first|contradiction|omega|exact jv ‹_›|exact jw ‹_›|exact ju ‹_›|exact⟨rfl,by omega⟩|exact rfl|(simp[*,-au];done)|skip
  rw[show(a != a)=an by simp]
  exact⟨[],rfl,rfl,trivial,rfl,rfl,rfl,rfl⟩
 ·cases hx
def aiW {R:Type}:eJ R:=[(176,bJ zN 2 (a9 adr))]
theorem agO {R:Type} {D:fJ R}:cN D Tryz.prog (aiW:eJ R):=⟨aU _ _ ajv,trivial⟩
def TP {R:Type}:Prim R:=fun args hh=>match args,hh with
 |[.int .i64 a,.int .i64 b],[]=>aa ⟨True,.int .i64 (CB a b),aj,hh,[],[]⟩
 |_,_=>aj
theorem X1 {R:Type} {D:fJ R}:b9 D Tryz.prog 162 (a9 TP):=by
 refine fu Tryz.f162 fun args hh x hx=>?_
 unfold TP at hx;split at hx
 ·rename_i a b;cases hx;refine q4 fun _ hv=>?_
  generalize hG:cj (R:=R) _ _=G;refine oh (T:=aiW) agO mixed 200 (q:=let Z1:=bm ar;Vc True/\Vc True/\(an=ao->(an=ao->aX (G (Z1 0) []))/\(an=an->aX (G (Z1 (-1:Int)) [])))/\(an=an->(an=ao->aX (G (Z1 1) []))/\(an=an->(decide (a<b)=ao->aX (G (Z1 (-1:Int)) []))/\(decide (a<b)=an->(decide (a>b)=ao->aX (G (Z1 1) []))/\(decide (a>b)=an->aX (G (Z1 0) [])))))) ?_ (by kernel_rfl)
  intro Z1;subst Z1;have fin:∀ (t:Int) (hp:Hp R),t=CB a b->G (.int .i64 t) hp:=by
   intro t hp ht;subst ht;subst hG;exact⟨⟨[],rfl,rfl,trivial,rfl,rfl,rfl,rfl⟩⟩
  clear hG
  repeat' (first|apply cX|apply Vc.mk|apply fits.mk|intro h|apply aX.mk)
  all_goals (try simp only[sB] at *)
  all_goals first|contradiction|omega|exact jv ‹_›|exact jw ‹_›|exact ju ‹_›|exact⟨rfl,by omega⟩|exact rfl|(simp[*,-au];done)|skip
  ·have h:a<b:=by assumption
   exact fin _ _ (by rw[CB,if_pos h])
  ·have h2:a>b:=by assumption
   exact fin _ _ (by rw[CB,if_neg (by omega),if_pos h2])
  ·exact fin _ _ (by rw[CB,if_neg (by omega),if_neg (by omega)])
 ·cases hx
def Ss (a b:Int):Int:=if a≠0 then a else b
def adx {R:Type}:Prim R:=fun args hh=>match args,hh with
 |[.slice (aa ⟨0,0,aa 1000⟩) n c],[aa (.inr (.inr (.inl ⟨[.int .i64 0],n',[⟨[a,b],[],[]⟩]⟩)))]=>aa ⟨n=2/\n'=2,.int .i64 (Ss a b),aj,hh,[],[]⟩
 |_,_=>aj
theorem aku {R:Type} {D:fJ R}:b9 D Tryz.prog 161 (a9 adx):=by
 refine fu Tryz.f161 fun args hh x hx=>?_
 unfold adx at hx;split at hx
 ·rename_i n c n' a b;cases hx;refine q4 fun _ hv=>?_
  obtain⟨rfl,rfl⟩:=hv;generalize hG:cj (R:=R) _ _=G;refine oh (T:=[]) trivial mixed 200 (q:=let Z1:=bm ar;At D Tryz.prog (dC Tryz.f161) 1 (ia Tryz.prog (dv (dw Tryz.f161)) G) [dd [1,1,0,1,0],kp (dd 0),dd [1,1,1]] (SS.mk (aa (bD (aa ⟨0,0,aa 1000⟩) 2 c)::aj::aa (Z1 0)::aa (Z1 0)::aj::aj::aa (bD (aa ⟨0,0,aa 1000⟩) 2 c)::aa (Z1 2)::aa (Z1 0)::n4 (n4 (aj::[]))) [] [aa (kp (kp (dd (Row.mk [Z1 0] 2 [aW.mk [a,b] [] []]))))])) ?_ (by kernel_rfl)
  intro Z1;subst Z1;refine ld (by kernel_rfl) (ι:=Nat) (fun x=>x≤2/\(1≤x->a=0)/\(2≤x->b=0)) [2,3,6,7,8] (fun x=>[.int .i64 0,.int .i64 0,.slice (aa ⟨0,0,aa 1000⟩) 2 c,.int .i64 2,.int .i64 x]) (fun x=>[aa (.inr (.inr (.inl ⟨[.int .i64 0],2,[⟨[a,b],[],[]⟩]⟩)))]) (fun x=>2-x) 18 (fun x hx=>⟨rfl,rfl,by simp⟩) ⟨0,⟨dh _,fun h=>by omega,fun h=>by omega⟩,⟨[0],rfl,⟨rfl,trivial⟩,rfl,rfl,rfl,rfl⟩⟩ fun x hx=>?_
  refine oh (T:=[]) trivial mixed 200 (q:=let Z2:=bm ar;let Z1:=(aI [a,b] (0+(x:Int).toNat) (0:Int) != (0:Int));(decide ((↑x:Int)<(2:Int))=ao->Vc ((0:Int)≤(↑x:Int)/\(↑x:Int)<(2:Int)/\2≤2)/\Vc (0+(x:Int).toNat<2)/\(Z1=ao->aX (G (Z2 (aI [a,b] (0+(x:Int).toNat) (0:Int))) [aa (kp (kp (dd (Row.mk [Z2 0] 2 [aW.mk [a,b] [] []]))))]))/\(Z1=an->Vc (fits ((↑x:Int)+(1:Int)))/\aX (∃ j,(j≤2/\(1≤j->a=(0:Int))/\(2≤j->b=(0:Int)))/\2-j<2-x/\km R 1 18 [2,3,6,7,8] [Z2 0,Z2 0,.slice (aa ⟨0,0,aa 1000⟩) 2 c,Z2 2,Z2 (↑j:Int)] [aa (kp (kp (dd (Row.mk [Z2 0] 2 [aW.mk [a,b] [] []]))))] [aa (Z2 0),aa (Z2 0),aa (bD (aa ⟨0,0,aa 1000⟩) 2 c),aa (Z2 2),aa (Z2 ((↑x:Int)+(1:Int)))] [aa (kp (kp (dd (Row.mk [Z2 0] 2 [aW.mk [a,b] [] []]))))] 18)))/\(decide ((↑x:Int)<(2:Int))=an->aX (G (Z2 0) [aa (kp (kp (dd (Row.mk [Z2 0] 2 [aW.mk [a,b] [] []]))))]))) ?_ (by kernel_rfl)
  intro Z2 Z1;subst Z1 Z2;obtain⟨h1,h2,h3⟩:=hx;have fin:∀ (t:Int) (rest:Hp R),t=Ss a b->G (.int .i64 t) ([aa (.inr (.inr (.inl ⟨[.int .i64 0],2,[⟨[a,b],[],[]⟩]⟩)))]++rest):=by
   intro t hp ht;subst ht;subst hG;exact⟨⟨[0],rfl,rfl,⟨rfl,trivial⟩,rfl,rfl,rfl,rfl⟩⟩
  clear hG;rcases(show x=0∨x=1∨x=2 by omega) with e|e|e<;>subst e
  ·have g0:[a,b].getD (0+((0:Nat):Int).toNat) 0=a:=rfl;rw[g0]
   repeat' (first|apply cX|apply Vc.mk|apply fits.mk|intro h|apply aX.mk)
   all_goals (try simp only[sB] at *)
   all_goals first|contradiction|omega|exact jv ‹_›|exact jw ‹_›|exact ju ‹_›|exact⟨rfl,by omega⟩|exact rfl|(simp[*,-au];done)|skip
   ·have h:a≠0:=by assumption
    exact fin _ [] (by rw[Ss,if_pos h])
   ·have h:a=0:=by assumption
    exact⟨1,⟨by omega,fun _=>h,fun h=>by omega⟩,by omega,⟨[0],rfl,⟨rfl,trivial⟩,rfl,rfl,rfl,rfl⟩⟩
  ·have g0:[a,b].getD (0+((1:Nat):Int).toNat) 0=b:=rfl;rw[g0];have h0:=h2 (a_ _)
   repeat' (first|apply cX|apply Vc.mk|apply fits.mk|intro h|apply aX.mk)
   all_goals (try simp only[sB] at *)
   all_goals first|contradiction|omega|exact jv ‹_›|exact jw ‹_›|exact ju ‹_›|exact⟨rfl,by omega⟩|exact rfl|(simp[*,-au];done)|skip
   ·exact fin _ [] (by rw[Ss,if_neg (by omega)])
   ·have h:b=0:=by assumption
    exact⟨2,⟨by omega,fun _=>h0,fun _=>h⟩,by omega,⟨[0],rfl,⟨rfl,trivial⟩,rfl,rfl,rfl,rfl⟩⟩
  ·have h0:=h2 (by omega)
   have h1:=h3 (by omega)
   repeat' (first|apply cX|apply Vc.mk|apply fits.mk|intro h|apply aX.mk)
   all_goals (try simp only[sB] at *)
   all_goals first|contradiction|omega|exact jv ‹_›|exact jw ‹_›|exact ju ‹_›|exact⟨rfl,by omega⟩|exact rfl|(simp[*,-au];done)|skip
   all_goals first|(exfalso;omega)|skip
   exact fin _ [] (by rw[Ss,if_neg (by omega),h1])
 ·cases hx
def z0:Nat->Bool:=fun j=>fp j 0
def TCm {R:Type}:eJ R:=[(162,bJ zN 2 (a9 TP)),(161,ve z0 2 (a9 adx))]
theorem akz {R:Type} {D:fJ R}:cN D Tryz.prog (TCm:eJ R):=⟨aU _ _ X1,o4 _ _ aku,trivial⟩
theorem agt (a b c d:Int):Ss (CB a c) (CB b d)=kP ⟨a,b⟩ ⟨c,d⟩:=by
 unfold Ss CB kP;simp only
 repeat' split
 all_goals omega
def ZB {R:Type}:Prim R:=fun args hh=>match args,hh with
 |[.agg ⟨[.int .i64 a,.int .i64 b]⟩,.agg ⟨[.int .i64 c,.int .i64 d]⟩],[]=>aa ⟨True,.int .i64 (kP ⟨a,b⟩ ⟨c,d⟩),aj,hh,[],[]⟩
 |_,_=>aj
theorem aav {R:Type} {D:fJ R}:b9 D Tryz.prog 140 (a9 ZB):=by
 refine fu Tryz.f140 fun args hh x hx=>?_
 unfold ZB at hx;split at hx
 ·rename_i a b c d;cases hx;refine q4 fun _ hv=>?_
  generalize hG:cj (R:=R) _ _=G;refine oh (T:=TCm) akz mixed 200 (q:=let Z1:=bm ar;Vc True/\Vc True/\Vc ((2≤2/\True)/\2=2/\2=2)/\aX (G (Z1 (Ss (CB a c) (CB b d))) [aa (dd (31,[Z1 a,Z1 b])),aa (dd (31,[Z1 c,Z1 d])),aa (kp (dd (3,Row.mk [Z1 0] 2 [aW.mk [CB a c,CB b d] [] []])))])) ?_ (by kernel_rfl)
  intro Z1;subst Z1;subst hG;simp only[← agt]
  repeat' (first|apply cX|apply Vc.mk|apply fits.mk|intro h|apply aX.mk)
  all_goals (try simp only[sB] at *)
  all_goals first|contradiction|omega|exact jv ‹_›|exact jw ‹_›|exact ju ‹_›|exact⟨rfl,by omega⟩|exact rfl|(simp[*,-au];done)|skip
  exact⟨[],rfl,rfl,trivial,rfl,rfl,rfl,rfl⟩
 ·cases hx
def TCc {R:Type}:eJ R:=[(162,bJ zN 2 (a9 TP))]
theorem ajt {R:Type} {D:fJ R}:cN D Tryz.prog (TCc:eJ R):=⟨aU _ _ X1,trivial⟩
def TPl {R:Type}:eJ R:=[(227,bJ zN 2 (a9 Ti.ed))]
theorem ack {R:Type} {D:fJ R}:cN D Tryz.prog TPl:=⟨aU _ _ Ti.uy,trivial⟩
def adm {R:Type}:Prim R:=fun args hh=>match args,hh with
 |[.slice (aa ⟨0,0,aa 1000⟩) n c],[aa (.inr (.inr (.inl ⟨[.int .i64 0],n',[⟨[w],[],[]⟩]⟩)))]=>aa ⟨n=1/\n'=1,.agg ⟨[.int .i64 1,.int .i64 w,.int .i64 w]⟩,aj,hh,[],[]⟩
 |_,_=>aj
theorem ai0 {R:Type} {D:fJ R}:b9 D Tryz.prog 226 (a9 adm):=by
 refine fu Tryz.f226 fun args hh x hx=>?_
 unfold adm at hx;split at hx
 ·rename_i n c n' w;cases hx;refine q4 fun _ hv=>?_
  obtain⟨rfl,rfl⟩:=hv;generalize hG:cj (R:=R) _ _=G;refine oh (T:=TPl) ack mixed 200 (q:=let Z1:=bm ar;At D Tryz.prog (dC Tryz.f226) 1 (ia Tryz.prog (dv (dw Tryz.f226)) G) [dd [1,1,0,1,0],kp (dd 0),dd [1,1,1]] (SS.mk (aa (bD (aa ⟨0,0,aa 1000⟩) 1 c)::aj::aa (aB (aa ⟨1,0,aj⟩))::aa (aB (aa ⟨2,0,aj⟩))::aj::aj::aa (bD (aa ⟨0,0,aa 1000⟩) 1 c)::aa (Z1 1)::aa (Z1 0)::n4 (n4 (aj::aj::[]))) [] [aa (kp (kp (dd (Row.mk [Z1 0] 1 [aW.mk [w] [] []])))),aa (dd (51,[Z1 0,Z1 0,Z1 0])),aa (dd (51,[Z1 0,Z1 0,Z1 0]))])) ?_ (by kernel_rfl)
  intro Z1;subst Z1;refine ld (by kernel_rfl) (ι:=Nat×Ti.Td) (fun x=>x.1≤1/\x.2=if x.1=0 then⟨0,0,0⟩ else⟨1,w,w⟩) [2,3,6,7,8] (fun x=>[.pointer (aa ⟨1,0,aj⟩),.pointer (aa ⟨2,0,aj⟩),.slice (aa ⟨0,0,aa 1000⟩) 1 c,.int .i64 1,.int .i64 x.1]) (fun x=>[aa (.inr (.inr (.inl ⟨[.int .i64 0],1,[⟨[w],[],[]⟩]⟩))),aa (.inl (51,[.int .i64 0,.int .i64 0,.int .i64 0])),aa (.inl (51,[.int .i64 x.2.n,.int .i64 x.2.s,.int .i64 x.2.l]))]) (fun x=>1-x.1) 19 (fun x hx=>⟨rfl,rfl,by simp⟩) ⟨(0,⟨0,0,0⟩),⟨dh _,rfl⟩,⟨[0,1,2],rfl,⟨rfl,.inl rfl,.inl rfl,trivial⟩,rfl,rfl,rfl,rfl⟩⟩ fun x hx=>?_
  refine oh (T:=TPl) ack mixed 200 (q:=let Z3:=bm ar;let Z1:=(↑(ax x):Int);let Z2:=(Qi (av x) (iP (1:Int) (aI [w] (0+aG Z1) (0:Int)) (aI [w] (0+aG Z1) (0:Int))));(decide (Z1<(1:Int))=ao->Vc ((0:Int)≤Z1/\Z1<(1:Int)/\1≤1)/\Vc (0+aG Z1<1)/\Vc True/\Vc (fits (Z1+(1:Int)))/\aX (∃ j,(ax j≤1/\av j=if ax j=0 then iP (0:Int) (0:Int) (0:Int) else iP (1:Int) w w)/\1-ax j<1-ax x/\km R 1 19 [2,3,6,7,8] [.pointer (aa ⟨1,0,aj⟩),.pointer (aa ⟨2,0,aj⟩),.slice (aa ⟨0,0,aa 1000⟩) 1 c,Z3 1,Z3 (↑(ax j):Int)] [aa (kp (kp (dd (Row.mk [Z3 0] 1 [aW.mk [w] [] []])))),aa (dd ((51:TypeId),[Z3 0,Z3 0,Z3 0])),aa (dd ((51:TypeId),[Z3 (pt (av j)),Z3 (pv (av j)),Z3 (pw (av j))]))] [aa (aB (aa ⟨1,0,aj⟩)),aa (aB (aa ⟨2,0,aj⟩)),aa (bD (aa ⟨0,0,aa 1000⟩) 1 c),aa (Z3 1),aa (Z3 (Z1+(1:Int)))] [aa (kp (kp (dd (Row.mk [Z3 0] 1 [aW.mk [w] [] []])))),aa (dd (51,[Z3 0,Z3 0,Z3 0])),aa (dd (51,[Z3 (pt Z2),Z3 (pv Z2),Z3 (pw Z2)]))] 19))/\(decide (Z1<(1:Int))=an->aX (G (bz (aJ [Z3 (pt (av x)),Z3 (pv (av x)),Z3 (pw (av x))])) [aa (kp (kp (dd (Row.mk [Z3 0] 1 [aW.mk [w] [] []])))),aa (dd (51,[Z3 (pt (av x)),Z3 (pv (av x)),Z3 (pw (av x))])),aa (dd (51,[Z3 (pt (av x)),Z3 (pv (av x)),Z3 (pw (av x))]))]))) ?_ (by kernel_rfl)
  intro Z3 Z1 Z2;subst Z2 Z1 Z3;obtain⟨i,t⟩:=x;obtain⟨h1,h2⟩:=hx;rcases(show i=0∨i=1 by omega) with hi|hi
  ·have ht:t=⟨0,0,0⟩:=h2.trans (if_pos hi);rw[hi,ht];refine⟨fun h=>⟨⟨by omega,by omega,a_ _⟩,⟨Qj⟩,⟨trivial⟩,⟨⟨by omega,by omega⟩⟩,⟨(1,⟨1,w,w⟩),⟨a_ _,rfl⟩,Qj,⟨[0,1,2],rfl,⟨rfl,.inl rfl,.inl rfl,trivial⟩,rfl,rfl,rfl,rfl⟩⟩⟩,fun h=>by simp at h⟩
  ·have ht:t=⟨1,w,w⟩:=h2.trans (if_neg (show ¬ i=0 by omega))
   rw[hi,ht];refine⟨fun h=>by simp at h,fun h=>⟨?_⟩⟩
   subst hG;exact⟨⟨[0],rfl,rfl,⟨rfl,trivial⟩,rfl,rfl,rfl,rfl⟩⟩
 ·cases hx
def TOf {R:Type}:eJ R:=[(226,ve z0 2 (a9 adm))]
theorem abd {R:Type} {D:fJ R}:cN D Tryz.prog (TOf:eJ R):=⟨o4 _ _ ai0,trivial⟩
def Zt {R:Type}:Prim R:=fun args hh=>match args,hh with
 |[.agg ⟨[.int .i64 a,.int .i64 b]⟩,.bool hr],[]=>aa ⟨True,.agg ⟨[.int .i64 (sk ⟨a,b⟩ hr).c.n,.int .i64 (sk ⟨a,b⟩ hr).c.s,.int .i64 (sk ⟨a,b⟩ hr).c.l,.int .i64 (sk ⟨a,b⟩ hr).w.n,.int .i64 (sk ⟨a,b⟩ hr).w.s,.int .i64 (sk ⟨a,b⟩ hr).w.l,.int .i64 (sk ⟨a,b⟩ hr).d,.int .i64 (sk ⟨a,b⟩ hr).f,.int .i64 (sk ⟨a,b⟩ hr).m.k,.int .i64 (sk ⟨a,b⟩ hr).m.i,.bool (sk ⟨a,b⟩ hr).gf,.int .i64 (sk ⟨a,b⟩ hr).g.k,.int .i64 (sk ⟨a,b⟩ hr).g.i,.bool (sk ⟨a,b⟩ hr).lf,.int .i64 (sk ⟨a,b⟩ hr).l.k,.int .i64 (sk ⟨a,b⟩ hr).l.i]⟩,aj,hh,[],[]⟩
 |_,_=>aj
theorem ags {R:Type} {D:fJ R}:b9 D Tryz.prog 224 (a9 Zt):=by
 refine fu Tryz.f224 fun args hh x hx=>?_
 unfold Zt at hx;split at hx
 ·rename_i a b hr;cases hx;refine q4 fun _ hv=>?_
  generalize hG:cj (R:=R) _ _=G;refine oh (T:=TOf) abd mixed 200 (q:=let Z1:=bm ar;(hr=ao->Vc ((1≤1/\True)/\1=1/\1=1)/\Vc ((1≤1/\True)/\1=1/\1=1)/\aX (G (bz (aJ [Z1 1,Z1 1,Z1 1,Z1 1,Z1 0,Z1 0,Z1 0,Z1 0,Z1 0,Z1 0,.bool an,Z1 0,Z1 0,.bool ao,Z1 a,Z1 b])) [aa (dd (31,[Z1 a,Z1 b])),aa (dd (53,[Z1 1,Z1 1,Z1 1,Z1 1,Z1 0,Z1 0,Z1 0,Z1 0,Z1 0,Z1 0,.bool an,Z1 0,Z1 0,.bool ao,Z1 a,Z1 b])),aa (dd (47,[.bool ao,Z1 a,Z1 b])),aa (kp (dd (3,Row.mk [Z1 0] 1 [aW.mk [(1:Int)] [] []]))),aa (kp (dd (3,Row.mk [Z1 0] 1 [aW.mk [(0:Int)] [] []])))]))/\(hr=an->Vc ((1≤1/\True)/\1=1/\1=1)/\Vc ((1≤1/\True)/\1=1/\1=1)/\aX (G (bz (aJ [Z1 1,Z1 1,Z1 1,Z1 1,Z1 1,Z1 1,Z1 0,Z1 0,Z1 0,Z1 0,.bool ao,Z1 a,Z1 b,.bool an,Z1 0,Z1 0])) [aa (dd (31,[Z1 a,Z1 b])),aa (dd (53,[Z1 1,Z1 1,Z1 1,Z1 1,Z1 1,Z1 1,Z1 0,Z1 0,Z1 0,Z1 0,.bool ao,Z1 a,Z1 b,.bool an,Z1 0,Z1 0])),aa (dd (47,[.bool ao,Z1 a,Z1 b])),aa (kp (dd (3,Row.mk [Z1 0] 1 [aW.mk [(1:Int)] [] []]))),aa (kp (dd (3,Row.mk [Z1 0] 1 [aW.mk [(1:Int)] [] []])))]))) ?_ (by kernel_rfl)
  intro Z1;subst Z1;have fin:∀ (z:Sw) (hp:Hp R),z=sk ⟨a,b⟩ hr->G (.agg ⟨[.int .i64 z.c.n,.int .i64 z.c.s,.int .i64 z.c.l,.int .i64 z.w.n,.int .i64 z.w.s,.int .i64 z.w.l,.int .i64 z.d,.int .i64 z.f,.int .i64 z.m.k,.int .i64 z.m.i,.bool z.gf,.int .i64 z.g.k,.int .i64 z.g.i,.bool z.lf,.int .i64 z.l.k,.int .i64 z.l.i]⟩) hp:=by
   intro z hp ht;subst ht;subst hG;exact⟨⟨[],rfl,rfl,trivial,rfl,rfl,rfl,rfl⟩⟩
  clear hG
  repeat' (first|apply cX|apply Vc.mk|apply fits.mk|intro h|apply aX.mk)
  all_goals (try simp only[sB] at *)
  all_goals first|contradiction|omega|exact jv ‹_›|exact jw ‹_›|exact ju ‹_›|exact⟨rfl,by omega⟩|exact rfl|(simp[*,-au];done)|skip
  ·have h:hr=ao:=by assumption
   exact fin ⟨⟨1,1,1⟩,⟨1,0,0⟩,0,0,⟨0,0⟩,an,⟨0,0⟩,ao,⟨a,b⟩⟩ _ (by rw[sk,if_pos h])
  ·have h:hr=an:=by assumption
   exact fin ⟨⟨1,1,1⟩,⟨1,1,1⟩,0,0,⟨0,0⟩,ao,⟨a,b⟩,an,⟨0,0⟩⟩ _ (by rw[sk,if_neg (by rw[h];decide)])
 ·cases hx
def ZT {R:Type}:Prim R:=fun args hh=>match args,hh with
 |[.agg ⟨[.bool a,.int .i64 b,.int .i64 c]⟩],[]=>aa ⟨True,.agg ⟨[.int .i64 (sj a ⟨b,c⟩).c.n,.int .i64 (sj a ⟨b,c⟩).c.s,.int .i64 (sj a ⟨b,c⟩).c.l,.int .i64 (sj a ⟨b,c⟩).w.n,.int .i64 (sj a ⟨b,c⟩).w.s,.int .i64 (sj a ⟨b,c⟩).w.l,.int .i64 (sj a ⟨b,c⟩).d,.int .i64 (sj a ⟨b,c⟩).f,.int .i64 (sj a ⟨b,c⟩).m.k,.int .i64 (sj a ⟨b,c⟩).m.i,.bool (sj a ⟨b,c⟩).gf,.int .i64 (sj a ⟨b,c⟩).g.k,.int .i64 (sj a ⟨b,c⟩).g.i,.bool (sj a ⟨b,c⟩).lf,.int .i64 (sj a ⟨b,c⟩).l.k,.int .i64 (sj a ⟨b,c⟩).l.i]⟩,aj,hh,[],[]⟩
 |_,_=>aj
theorem ahe {R:Type} {D:fJ R}:b9 D Tryz.prog 225 (a9 ZT):=by
 refine fu Tryz.f225 fun args hh x hx=>?_
 unfold ZT at hx;split at hx
 ·rename_i a b c;cases hx;refine q4 fun _ hv=>?_
  generalize hG:cj (R:=R) _ _=G;refine oh (T:=TOf) abd mixed 200 (q:=let Z1:=bm ar;Vc ((1≤1/\True)/\1=1/\1=1)/\Vc ((1≤1/\True)/\1=1/\1=1)/\(a=ao->aX (G (bz (aJ [Z1 1,Z1 (-1:Int),Z1 (-1:Int),Z1 1,Z1 (-1:Int),Z1 (-1:Int),Z1 1,Z1 0,Z1 b,Z1 c,.bool an,Z1 0,Z1 0,.bool an,Z1 0,Z1 0])) [aa (dd (47,[.bool a,Z1 b,Z1 c])),aa (dd (53,[Z1 1,Z1 (-1:Int),Z1 (-1:Int),Z1 1,Z1 (-1:Int),Z1 (-1:Int),Z1 1,Z1 0,Z1 b,Z1 c,.bool an,Z1 0,Z1 0,.bool an,Z1 0,Z1 0])),aa (kp (dd (3,Row.mk [Z1 0] 1 [aW.mk [(-1:Int)] [] []]))),aa (kp (dd (3,Row.mk [Z1 0] 1 [aW.mk [(-1:Int)] [] []]))),aa (dd (53,[Z1 1,Z1 (-1:Int),Z1 (-1:Int),Z1 1,Z1 (-1:Int),Z1 (-1:Int),Z1 1,Z1 0,Z1 b,Z1 c,.bool an,Z1 0,Z1 0,.bool an,Z1 0,Z1 0]))]))/\(a=an->aX (G (bz (aJ [Z1 1,Z1 (-1:Int),Z1 (-1:Int),Z1 1,Z1 (-1:Int),Z1 (-1:Int),Z1 1,Z1 1,Z1 0,Z1 0,.bool an,Z1 0,Z1 0,.bool an,Z1 0,Z1 0])) [aa (dd (47,[.bool a,Z1 b,Z1 c])),aa (dd (53,[Z1 1,Z1 (-1:Int),Z1 (-1:Int),Z1 1,Z1 (-1:Int),Z1 (-1:Int),Z1 1,Z1 1,Z1 0,Z1 0,.bool an,Z1 0,Z1 0,.bool an,Z1 0,Z1 0])),aa (kp (dd (3,Row.mk [Z1 0] 1 [aW.mk [(-1:Int)] [] []]))),aa (kp (dd (3,Row.mk [Z1 0] 1 [aW.mk [(-1:Int)] [] []]))),aa (dd (53,[Z1 1,Z1 (-1:Int),Z1 (-1:Int),Z1 1,Z1 (-1:Int),Z1 (-1:Int),Z1 1,Z1 1,Z1 0,Z1 0,.bool an,Z1 0,Z1 0,.bool an,Z1 0,Z1 0]))]))) ?_ (by kernel_rfl)
  intro Z1;subst Z1;have fin:∀ (z:Sw) (hp:Hp R),z=sj a ⟨b,c⟩->G (.agg ⟨[.int .i64 z.c.n,.int .i64 z.c.s,.int .i64 z.c.l,.int .i64 z.w.n,.int .i64 z.w.s,.int .i64 z.w.l,.int .i64 z.d,.int .i64 z.f,.int .i64 z.m.k,.int .i64 z.m.i,.bool z.gf,.int .i64 z.g.k,.int .i64 z.g.i,.bool z.lf,.int .i64 z.l.k,.int .i64 z.l.i]⟩) hp:=by
   intro z hp ht;subst ht;subst hG;exact⟨⟨[],rfl,rfl,trivial,rfl,rfl,rfl,rfl⟩⟩
  clear hG
  repeat' (first|apply cX|apply Vc.mk|apply fits.mk|intro h|apply aX.mk)
  all_goals (try simp only[sB] at *)
  all_goals first|contradiction|omega|exact jv ‹_›|exact jw ‹_›|exact ju ‹_›|exact⟨rfl,by omega⟩|exact rfl|(simp[*,-au];done)|skip
  ·have h:a=ao:=by assumption
   exact fin ⟨⟨1,-1,-1⟩,⟨1,-1,-1⟩,1,0,⟨b,c⟩,an,⟨0,0⟩,an,⟨0,0⟩⟩ _ (by rw[sj,if_pos h])
  ·have h:a=an:=by assumption
   exact fin ⟨⟨1,-1,-1⟩,⟨1,-1,-1⟩,1,1,⟨0,0⟩,an,⟨0,0⟩,an,⟨0,0⟩⟩ _ (by rw[sj,if_neg (by rw[h];decide)])
 ·cases hx
def aid {R:Type}:eJ R:=[(224,bJ zN 2 (a9 Zt)),(225,bJ zN 2 (a9 ZT))]
theorem agY {R:Type} {D:fJ R}:cN D Tryz.prog (aid:eJ R):=⟨aU _ _ ags,aU _ _ ahe,trivial⟩
def ZV {R:Type}:Prim R:=fun args hh=>match args,hh with
 |[.agg ⟨[.int .i64 k0,.bool k1,.int .i64 k2,.int .i64 k3,.bool k4,.bool k5,.int .i64 k6,.int .i64 k7]⟩],[]=>aa ⟨True,.agg ⟨[.int .i64 (O8.sum (⟨k0,k1,⟨k2,k3⟩,k4,k5,⟨k6,k7⟩⟩:Mk)).c.n,.int .i64 (O8.sum (⟨k0,k1,⟨k2,k3⟩,k4,k5,⟨k6,k7⟩⟩:Mk)).c.s,.int .i64 (O8.sum (⟨k0,k1,⟨k2,k3⟩,k4,k5,⟨k6,k7⟩⟩:Mk)).c.l,.int .i64 (O8.sum (⟨k0,k1,⟨k2,k3⟩,k4,k5,⟨k6,k7⟩⟩:Mk)).w.n,.int .i64 (O8.sum (⟨k0,k1,⟨k2,k3⟩,k4,k5,⟨k6,k7⟩⟩:Mk)).w.s,.int .i64 (O8.sum (⟨k0,k1,⟨k2,k3⟩,k4,k5,⟨k6,k7⟩⟩:Mk)).w.l,.int .i64 (O8.sum (⟨k0,k1,⟨k2,k3⟩,k4,k5,⟨k6,k7⟩⟩:Mk)).d,.int .i64 (O8.sum (⟨k0,k1,⟨k2,k3⟩,k4,k5,⟨k6,k7⟩⟩:Mk)).f,.int .i64 (O8.sum (⟨k0,k1,⟨k2,k3⟩,k4,k5,⟨k6,k7⟩⟩:Mk)).m.k,.int .i64 (O8.sum (⟨k0,k1,⟨k2,k3⟩,k4,k5,⟨k6,k7⟩⟩:Mk)).m.i,.bool (O8.sum (⟨k0,k1,⟨k2,k3⟩,k4,k5,⟨k6,k7⟩⟩:Mk)).gf,.int .i64 (O8.sum (⟨k0,k1,⟨k2,k3⟩,k4,k5,⟨k6,k7⟩⟩:Mk)).g.k,.int .i64 (O8.sum (⟨k0,k1,⟨k2,k3⟩,k4,k5,⟨k6,k7⟩⟩:Mk)).g.i,.bool (O8.sum (⟨k0,k1,⟨k2,k3⟩,k4,k5,⟨k6,k7⟩⟩:Mk)).lf,.int .i64 (O8.sum (⟨k0,k1,⟨k2,k3⟩,k4,k5,⟨k6,k7⟩⟩:Mk)).l.k,.int .i64 (O8.sum (⟨k0,k1,⟨k2,k3⟩,k4,k5,⟨k6,k7⟩⟩:Mk)).l.i]⟩,aj,hh,[],[]⟩
 |_,_=>aj
theorem agG {R:Type} {D:fJ R}:b9 D Tryz.prog 223 (a9 ZV):=by
 refine fu Tryz.f223 fun args hh x hx=>?_
 unfold ZV at hx;split at hx
 ·rename_i k0 k1 k2 k3 k4 k5 k6 k7;cases hx;refine q4 fun _ hv=>?_
  generalize hG:cj (R:=R) _ _=G;refine oh (T:=aid) agY mixed 200 (q:=let Z3:=bm ar;let Z1:=(sk (It.mk k2 k3) k4);let Z2:=(sj k5 (It.mk k6 k7));(k1=ao->Vc True/\aX (G (bz (aJ [Z3 (pt (Sw.c Z1)),Z3 (pv (Sw.c Z1)),Z3 (pw (Sw.c Z1)),Z3 (pt (Sw.w Z1)),Z3 (pv (Sw.w Z1)),Z3 (pw (Sw.w Z1)),Z3 (Sw.d Z1),Z3 (Sw.f Z1),Z3 (It.k (Sw.m Z1)),Z3 (It.i (Sw.m Z1)),.bool (Sw.gf Z1),Z3 (It.k (Sw.g Z1)),Z3 (It.i (Sw.g Z1)),.bool (Sw.lf Z1),Z3 (It.k (Sw.l Z1)),Z3 (It.i (Sw.l Z1))])) [aa (dd (49,[Z3 k0,.bool k1,Z3 k2,Z3 k3,.bool k4,.bool k5,Z3 k6,Z3 k7])),aa (dd (53,[Z3 (pt (Sw.c Z1)),Z3 (pv (Sw.c Z1)),Z3 (pw (Sw.c Z1)),Z3 (pt (Sw.w Z1)),Z3 (pv (Sw.w Z1)),Z3 (pw (Sw.w Z1)),Z3 (Sw.d Z1),Z3 (Sw.f Z1),Z3 (It.k (Sw.m Z1)),Z3 (It.i (Sw.m Z1)),.bool (Sw.gf Z1),Z3 (It.k (Sw.g Z1)),Z3 (It.i (Sw.g Z1)),.bool (Sw.lf Z1),Z3 (It.k (Sw.l Z1)),Z3 (It.i (Sw.l Z1))]))]))/\(k1=an->Vc True/\aX (G (bz (aJ [Z3 (pt (Sw.c Z2)),Z3 (pv (Sw.c Z2)),Z3 (pw (Sw.c Z2)),Z3 (pt (Sw.w Z2)),Z3 (pv (Sw.w Z2)),Z3 (pw (Sw.w Z2)),Z3 (Sw.d Z2),Z3 (Sw.f Z2),Z3 (It.k (Sw.m Z2)),Z3 (It.i (Sw.m Z2)),.bool (Sw.gf Z2),Z3 (It.k (Sw.g Z2)),Z3 (It.i (Sw.g Z2)),.bool (Sw.lf Z2),Z3 (It.k (Sw.l Z2)),Z3 (It.i (Sw.l Z2))])) [aa (dd (49,[Z3 k0,.bool k1,Z3 k2,Z3 k3,.bool k4,.bool k5,Z3 k6,Z3 k7])),aa (dd (53,[Z3 (pt (Sw.c Z2)),Z3 (pv (Sw.c Z2)),Z3 (pw (Sw.c Z2)),Z3 (pt (Sw.w Z2)),Z3 (pv (Sw.w Z2)),Z3 (pw (Sw.w Z2)),Z3 (Sw.d Z2),Z3 (Sw.f Z2),Z3 (It.k (Sw.m Z2)),Z3 (It.i (Sw.m Z2)),.bool (Sw.gf Z2),Z3 (It.k (Sw.g Z2)),Z3 (It.i (Sw.g Z2)),.bool (Sw.lf Z2),Z3 (It.k (Sw.l Z2)),Z3 (It.i (Sw.l Z2))]))]))) ?_ (by kernel_rfl)
  intro Z3 Z1 Z2;subst Z2 Z1 Z3;have fin:∀ (z:Sw) (hp:Hp R),z=O8.sum (⟨k0,k1,⟨k2,k3⟩,k4,k5,⟨k6,k7⟩⟩:Mk)->G (.agg ⟨[.int .i64 z.c.n,.int .i64 z.c.s,.int .i64 z.c.l,.int .i64 z.w.n,.int .i64 z.w.s,.int .i64 z.w.l,.int .i64 z.d,.int .i64 z.f,.int .i64 z.m.k,.int .i64 z.m.i,.bool z.gf,.int .i64 z.g.k,.int .i64 z.g.i,.bool z.lf,.int .i64 z.l.k,.int .i64 z.l.i]⟩) hp:=by
   intro z hp ht;subst ht;subst hG;exact⟨⟨[],rfl,rfl,trivial,rfl,rfl,rfl,rfl⟩⟩
  clear hG
  repeat' (first|apply cX|apply Vc.mk|apply fits.mk|intro h|apply aX.mk)
  all_goals (try simp only[sB] at *)
  all_goals first|contradiction|omega|exact jv ‹_›|exact jw ‹_›|exact ju ‹_›|exact⟨rfl,by omega⟩|exact rfl|(simp[*,-au];done)|skip
  ·have h:k1=ao:=by assumption
   exact fin (sk ⟨k2,k3⟩ k4) _ (by show _=if k1=ao then _ else _;rw[if_pos h])
  ·have h:k1=an:=by assumption
   exact fin (sj k5 ⟨k6,k7⟩) _ (by show _=if k1=ao then _ else _;rw[if_neg (by rw[h];decide)])
 ·cases hx
def Ig {R:Type}:Prim R:=fun args hh=>match args,hh with
 |[.agg ⟨[.int .i64 k0,.bool k1,.int .i64 k2,.int .i64 k3,.bool k4,.bool k5,.int .i64 k6,.int .i64 k7]⟩,.agg ⟨[.int .i64 x0,.bool x1,.int .i64 x2,.int .i64 x3,.bool x4,.bool x5,.int .i64 x6,.int .i64 x7]⟩],[]=>aa ⟨True,.int .i64 (O8.cmp (⟨k0,k1,⟨k2,k3⟩,k4,k5,⟨k6,k7⟩⟩:Mk) (⟨x0,x1,⟨x2,x3⟩,x4,x5,⟨x6,x7⟩⟩:Mk)),aj,hh,[],[]⟩
 |_,_=>aj
theorem B8 {R:Type} {D:fJ R}:b9 D Tryz.prog 222 (a9 Ig):=by
 refine fu Tryz.f222 fun args hh x hx=>?_
 unfold Ig at hx;split at hx
 ·rename_i k0 k1 k2 k3 k4 k5 k6 k7 x0 x1 x2 x3 x4 x5 x6 x7;cases hx;refine q4 fun _ hv=>?_
  generalize hG:cj (R:=R) _ _=G;refine oh (T:=TCc) ajt mixed 200 (q:=let Z1:=bm ar;Vc True/\aX (G (Z1 (CB k0 x0)) [aa (dd (49,[Z1 k0,.bool k1,Z1 k2,Z1 k3,.bool k4,.bool k5,Z1 k6,Z1 k7])),aa (dd (49,[Z1 x0,.bool x1,Z1 x2,Z1 x3,.bool x4,.bool x5,Z1 x6,Z1 x7]))])) ?_ (by kernel_rfl)
  intro Z1;subst Z1;subst hG
  repeat' (first|apply cX|apply Vc.mk|apply fits.mk|intro h|apply aX.mk)
  all_goals (try simp only[sB] at *)
  all_goals first|contradiction|omega|exact jv ‹_›|exact jw ‹_›|exact ju ‹_›|exact⟨rfl,by omega⟩|exact rfl|(simp[*,-au];done)|skip
  exact⟨[],rfl,rfl,trivial,rfl,rfl,rfl,rfl⟩
 ·cases hx
def Z_ {R:Type}:Prim R:=fun args hh=>match args,hh with
 |[.int .i64 a],[]=>aa ⟨True,.agg ⟨[.int .i64 a,.bool an,.int .i64 0,.int .i64 0,.bool an,.bool an,.int .i64 0,.int .i64 0]⟩,aj,hh,[],[]⟩
 |_,_=>aj
theorem abL {R:Type} {D:fJ R}:b9 D Tryz.prog 66 (a9 Z_):=by
 refine fu Tryz.f66 fun args hh x hx=>?_
 unfold Z_ at hx;split at hx
 ·rename_i a;cases hx;refine q4 fun _ hv=>?_
  generalize hG:cj (R:=R) _ _=G;refine oh (T:=[]) trivial mixed 200 (q:=let Z1:=bm ar;aX (G (bz (aJ [Z1 a,.bool an,Z1 0,Z1 0,.bool an,.bool an,Z1 0,Z1 0])) [aa (dd (49,[Z1 a,.bool an,Z1 0,Z1 0,.bool an,.bool an,Z1 0,Z1 0]))])) ?_ (by kernel_rfl)
  intro Z1;subst Z1;subst hG
  repeat' (first|apply cX|apply Vc.mk|apply fits.mk|intro h|apply aX.mk)
  all_goals (try simp only[sB] at *)
  all_goals first|contradiction|omega|exact jv ‹_›|exact jw ‹_›|exact ju ‹_›|exact⟨rfl,by omega⟩|exact rfl|(simp[*,-au];done)|skip
  exact⟨[],rfl,rfl,trivial,rfl,rfl,rfl,rfl⟩
 ·cases hx
def aet {R:Type}:Prim R:=fun args hh=>match args,hh with
 |[.agg ⟨[.int .i64 x0,.int .i64 x1,.int .i64 x2,.int .i64 x3,.int .i64 x4,.int .i64 x5,.int .i64 x6,.int .i64 x7,.int .i64 x8,.int .i64 x9,.bool rB,.int .i64 rE,.int .i64 rF,.bool rA,.int .i64 rv,.int .i64 rD]⟩],[]=>aa ⟨True,.bool (x6 != x7),aj,hh,[],[]⟩
 |_,_=>aj
theorem akg {R:Type} {D:fJ R}:b9 D Tryz.prog 230 (a9 aet):=by
 refine fu Tryz.f230 fun args hh x hx=>?_
 unfold aet at hx;split at hx
 ·rename_i x0 x1 x2 x3 x4 x5 x6 x7 x8 x9 rB rE rF rA rv rD;cases hx;refine q4 fun _ hv=>?_
  generalize hG:cj (R:=R) _ _=G;refine oh (T:=[]) trivial mixed 200 (q:=let Z1:=bm ar;aX (G (aC (x6 != x7)) [aa (dd (53,[Z1 x0,Z1 x1,Z1 x2,Z1 x3,Z1 x4,Z1 x5,Z1 x6,Z1 x7,Z1 x8,Z1 x9,.bool rB,Z1 rE,Z1 rF,.bool rA,Z1 rv,Z1 rD]))])) ?_ (by kernel_rfl)
  intro Z1;subst Z1;subst hG
  repeat' (first|apply cX|apply Vc.mk|apply fits.mk|intro h|apply aX.mk)
  all_goals (try simp only[sB] at *)
  all_goals first|contradiction|omega|exact jv ‹_›|exact jw ‹_›|exact ju ‹_›|exact⟨rfl,by omega⟩|exact rfl|(simp[*,-au];done)|skip
  exact⟨[],rfl,rfl,trivial,rfl,rfl,rfl,rfl⟩
 ·cases hx
def TMo {R:Type}:eJ R:=[(230,bJ zN 2 (a9 aet)),(140,bJ zN 2 (a9 ZB))]
theorem abp {R:Type} {D:fJ R}:cN D Tryz.prog (TMo:eJ R):=⟨aU _ _ akg,aU _ _ aav,trivial⟩
def Y6 {R:Type}:Prim R:=fun args hh=>match args,hh with
 |[.agg ⟨[.int .i64 x0,.int .i64 x1,.int .i64 x2,.int .i64 x3,.int .i64 x4,.int .i64 x5,.int .i64 x6,.int .i64 x7,.int .i64 x8,.int .i64 x9,.bool rB,.int .i64 rE,.int .i64 rF,.bool rA,.int .i64 rv,.int .i64 rD]⟩,.agg ⟨[.int .i64 y0,.int .i64 y1,.int .i64 y2,.int .i64 y3,.int .i64 y4,.int .i64 y5,.int .i64 y6,.int .i64 y7,.int .i64 y8,.int .i64 y9,.bool sP,.int .i64 sU,.int .i64 sV,.bool sT,.int .i64 sS,.int .i64 sW]⟩],[]=>aa ⟨True,.agg ⟨[.int .i64 (Eo (⟨⟨x0,x1,x2⟩,⟨x3,x4,x5⟩,x6,x7,⟨x8,x9⟩,rB,⟨rE,rF⟩,rA,⟨rv,rD⟩⟩:Sw) (⟨⟨y0,y1,y2⟩,⟨y3,y4,y5⟩,y6,y7,⟨y8,y9⟩,sP,⟨sU,sV⟩,sT,⟨sS,sW⟩⟩:Sw)).k,.int .i64 (Eo (⟨⟨x0,x1,x2⟩,⟨x3,x4,x5⟩,x6,x7,⟨x8,x9⟩,rB,⟨rE,rF⟩,rA,⟨rv,rD⟩⟩:Sw) (⟨⟨y0,y1,y2⟩,⟨y3,y4,y5⟩,y6,y7,⟨y8,y9⟩,sP,⟨sU,sV⟩,sT,⟨sS,sW⟩⟩:Sw)).i]⟩,aj,hh,[],[]⟩
 |_,_=>aj
theorem agd {R:Type} {D:fJ R}:b9 D Tryz.prog 231 (a9 Y6):=by
 refine fu Tryz.f231 fun args hh x hx=>?_
 unfold Y6 at hx;split at hx
 ·rename_i x0 x1 x2 x3 x4 x5 x6 x7 x8 x9 rB rE rF rA rv rD y0 y1 y2 y3 y4 y5 y6 y7 y8 y9 sP sU sV sT sS sW;cases hx;refine q4 fun _ hv=>?_
  generalize hG:cj (R:=R) _ _=G;refine oh (T:=TMo) abp mixed 200 (q:=let Z1:=bm ar;Vc True/\((!y6 != y7)=ao->aX (G (bz (aJ [Z1 x8,Z1 x9])) [aa (dd (53,[Z1 x0,Z1 x1,Z1 x2,Z1 x3,Z1 x4,Z1 x5,Z1 x6,Z1 x7,Z1 x8,Z1 x9,.bool rB,Z1 rE,Z1 rF,.bool rA,Z1 rv,Z1 rD])),aa (dd (53,[Z1 y0,Z1 y1,Z1 y2,Z1 y3,Z1 y4,Z1 y5,Z1 y6,Z1 y7,Z1 y8,Z1 y9,.bool sP,Z1 sU,Z1 sV,.bool sT,Z1 sS,Z1 sW])),aa (dd (31,[Z1 x8,Z1 x9]))]))/\((!y6 != y7)=an->Vc True/\((!x6 != x7)=an->Vc True/\(decide (kP (It.mk y8 y9) (It.mk x8 x9)>(0:Int))=ao->aX (G (bz (aJ [Z1 y8,Z1 y9])) [aa (dd (53,[Z1 x0,Z1 x1,Z1 x2,Z1 x3,Z1 x4,Z1 x5,Z1 x6,Z1 x7,Z1 x8,Z1 x9,.bool rB,Z1 rE,Z1 rF,.bool rA,Z1 rv,Z1 rD])),aa (dd (53,[Z1 y0,Z1 y1,Z1 y2,Z1 y3,Z1 y4,Z1 y5,Z1 y6,Z1 y7,Z1 y8,Z1 y9,.bool sP,Z1 sU,Z1 sV,.bool sT,Z1 sS,Z1 sW])),aa (dd (31,[Z1 y8,Z1 y9]))]))/\(decide (kP (It.mk y8 y9) (It.mk x8 x9)>(0:Int))=an->aX (G (bz (aJ [Z1 x8,Z1 x9])) [aa (dd (53,[Z1 x0,Z1 x1,Z1 x2,Z1 x3,Z1 x4,Z1 x5,Z1 x6,Z1 x7,Z1 x8,Z1 x9,.bool rB,Z1 rE,Z1 rF,.bool rA,Z1 rv,Z1 rD])),aa (dd (53,[Z1 y0,Z1 y1,Z1 y2,Z1 y3,Z1 y4,Z1 y5,Z1 y6,Z1 y7,Z1 y8,Z1 y9,.bool sP,Z1 sU,Z1 sV,.bool sT,Z1 sS,Z1 sW])),aa (dd (31,[Z1 x8,Z1 x9]))])))/\((!x6 != x7)=ao->aX (G (bz (aJ [Z1 y8,Z1 y9])) [aa (dd (53,[Z1 x0,Z1 x1,Z1 x2,Z1 x3,Z1 x4,Z1 x5,Z1 x6,Z1 x7,Z1 x8,Z1 x9,.bool rB,Z1 rE,Z1 rF,.bool rA,Z1 rv,Z1 rD])),aa (dd (53,[Z1 y0,Z1 y1,Z1 y2,Z1 y3,Z1 y4,Z1 y5,Z1 y6,Z1 y7,Z1 y8,Z1 y9,.bool sP,Z1 sU,Z1 sV,.bool sT,Z1 sS,Z1 sW])),aa (dd (31,[Z1 y8,Z1 y9]))])))) ?_ (by kernel_rfl)
  intro Z1;subst Z1;have fin:∀ (z:It) (hp:Hp R),z=Eo (⟨⟨x0,x1,x2⟩,⟨x3,x4,x5⟩,x6,x7,⟨x8,x9⟩,rB,⟨rE,rF⟩,rA,⟨rv,rD⟩⟩:Sw) (⟨⟨y0,y1,y2⟩,⟨y3,y4,y5⟩,y6,y7,⟨y8,y9⟩,sP,⟨sU,sV⟩,sT,⟨sS,sW⟩⟩:Sw)->G (.agg ⟨[.int .i64 z.k,.int .i64 z.i]⟩) hp:=by
   intro z hp ht;subst ht;subst hG;exact⟨⟨[],rfl,rfl,trivial,rfl,rfl,rfl,rfl⟩⟩
  clear hG
  repeat' (first|apply cX|apply Vc.mk|apply fits.mk|intro h|apply aX.mk)
  all_goals (try simp only[sB] at *)
  all_goals first|contradiction|omega|exact jv ‹_›|exact jw ‹_›|exact ju ‹_›|exact⟨rfl,by omega⟩|exact rfl|(simp[*,-au];done)|skip
  all_goals first
   |exact fin ⟨x8,x9⟩ _ (by simp only[Eo];rw[if_pos (by assumption)])
   |exact fin ⟨y8,y9⟩ _ (by simp only[Eo];rw[if_neg (by assumption),if_pos (by first|exact .inl (by assumption)|exact .inr ((wT _ _).1 (by assumption)))])
   |exact fin ⟨x8,x9⟩ _ (by simp only[Eo];rw[if_neg (by assumption),if_neg (by rintro (h|h);contradiction;have:=(wT ⟨y8,y9⟩ ⟨x8,x9⟩).2 h;omega)])
 ·cases hx
def Zq {R:Type}:Prim R:=fun args hh=>match args,hh with
 |[.agg ⟨[.bool x0,.int .i64 x1,.int .i64 x2]⟩,.agg ⟨[.bool y0,.int .i64 y1,.int .i64 y2]⟩,.int .i64 sd],[]=>aa ⟨True,.agg ⟨[.bool (vj sd x0 ⟨x1,x2⟩ y0 ⟨y1,y2⟩).1,.int .i64 (vj sd x0 ⟨x1,x2⟩ y0 ⟨y1,y2⟩).2.k,.int .i64 (vj sd x0 ⟨x1,x2⟩ y0 ⟨y1,y2⟩).2.i]⟩,aj,hh,[],[]⟩
 |_,_=>aj
theorem ahs {R:Type} {D:fJ R}:b9 D Tryz.prog 232 (a9 Zq):=by
 refine fu Tryz.f232 fun args hh x hx=>?_
 unfold Zq at hx;split at hx
 ·rename_i x0 x1 x2 y0 y1 y2 sd;cases hx;refine q4 fun _ hv=>?_
  generalize hG:cj (R:=R) _ _=G;refine oh (T:=TMo) abp mixed 200 (q:=let Z1:=bm ar;(y0=ao->((!x0)=an->Vc True/\((kP (It.mk y1 y2) (It.mk x1 x2)==sd)=ao->aX (G (bz (aJ [.bool y0,Z1 y1,Z1 y2])) [aa (dd (47,[.bool x0,Z1 x1,Z1 x2])),aa (dd (47,[.bool y0,Z1 y1,Z1 y2])),aa (dd (47,[.bool y0,Z1 y1,Z1 y2]))]))/\((kP (It.mk y1 y2) (It.mk x1 x2)==sd)=an->((!x0)=ao->aX (G (bz (aJ [.bool an,Z1 0,Z1 0])) [aa (dd (47,[.bool x0,Z1 x1,Z1 x2])),aa (dd (47,[.bool y0,Z1 y1,Z1 y2])),aa (dd (47,[.bool an,Z1 0,Z1 0]))]))/\((!x0)=an->aX (G (bz (aJ [.bool x0,Z1 x1,Z1 x2])) [aa (dd (47,[.bool x0,Z1 x1,Z1 x2])),aa (dd (47,[.bool y0,Z1 y1,Z1 y2])),aa (dd (47,[.bool x0,Z1 x1,Z1 x2]))]))))/\((!x0)=ao->aX (G (bz (aJ [.bool y0,Z1 y1,Z1 y2])) [aa (dd (47,[.bool x0,Z1 x1,Z1 x2])),aa (dd (47,[.bool y0,Z1 y1,Z1 y2])),aa (dd (47,[.bool y0,Z1 y1,Z1 y2]))])))/\(y0=an->((!x0)=ao->aX (G (bz (aJ [.bool an,Z1 0,Z1 0])) [aa (dd (47,[.bool x0,Z1 x1,Z1 x2])),aa (dd (47,[.bool y0,Z1 y1,Z1 y2])),aa (dd (47,[.bool an,Z1 0,Z1 0]))]))/\((!x0)=an->aX (G (bz (aJ [.bool x0,Z1 x1,Z1 x2])) [aa (dd (47,[.bool x0,Z1 x1,Z1 x2])),aa (dd (47,[.bool y0,Z1 y1,Z1 y2])),aa (dd (47,[.bool x0,Z1 x1,Z1 x2]))])))) ?_ (by kernel_rfl)
  intro Z1;subst Z1;have fin:∀ (z:Bool×It) (hp:Hp R),z=vj sd x0 ⟨x1,x2⟩ y0 ⟨y1,y2⟩->G (.agg ⟨[.bool z.1,.int .i64 z.2.k,.int .i64 z.2.i]⟩) hp:=by
   intro z hp ht;subst ht;subst hG;exact⟨⟨[],rfl,rfl,trivial,rfl,rfl,rfl,rfl⟩⟩
  clear hG
  repeat' (first|apply cX|apply Vc.mk|apply fits.mk|intro h|apply aX.mk)
  all_goals (try simp only[sB] at *)
  all_goals first|contradiction|omega|exact jv ‹_›|exact jw ‹_›|exact ju ‹_›|exact⟨rfl,by omega⟩|exact rfl|(simp[*,-au];done)|skip
  all_goals first
   |(exfalso;simp_all;done)
   |exact fin (y0,⟨y1,y2⟩) _ (by simp[vj, *];done)
   |exact fin (an,⟨0,0⟩) _ (by simp[vj, *];done)
   |exact fin (x0,⟨x1,x2⟩) _ (by simp[vj, *];done)
 ·cases hx
def TPs {R:Type}:eJ R:=[(1000000000,lP),(227,bJ zN 2 (a9 Ti.ed)),(231,bJ zN 2 (a9 Y6)),(232,bJ zN 2 (a9 Zq))]
theorem akQ {R:Type} {D:fJ R}:cN D Tryz.prog (TPs:eJ R):=⟨ix,aU _ _ Ti.uy,aU _ _ agd,aU _ _ ahs,trivial⟩
def TT {R:Type}:Prim R:=fun args hh=>match args,hh with
 |[.agg ⟨[.int .i64 x0,.int .i64 x1,.int .i64 x2,.int .i64 x3,.int .i64 x4,.int .i64 x5,.int .i64 x6,.int .i64 x7,.int .i64 x8,.int .i64 x9,.bool rB,.int .i64 rE,.int .i64 rF,.bool rA,.int .i64 rv,.int .i64 rD]⟩,.agg ⟨[.int .i64 y0,.int .i64 y1,.int .i64 y2,.int .i64 y3,.int .i64 y4,.int .i64 y5,.int .i64 y6,.int .i64 y7,.int .i64 y8,.int .i64 y9,.bool sP,.int .i64 sU,.int .i64 sV,.bool sT,.int .i64 sS,.int .i64 sW]⟩],[]=>aa ⟨True,.agg ⟨[.int .i64 (O8.plus (⟨⟨x0,x1,x2⟩,⟨x3,x4,x5⟩,x6,x7,⟨x8,x9⟩,rB,⟨rE,rF⟩,rA,⟨rv,rD⟩⟩:Sw) (⟨⟨y0,y1,y2⟩,⟨y3,y4,y5⟩,y6,y7,⟨y8,y9⟩,sP,⟨sU,sV⟩,sT,⟨sS,sW⟩⟩:Sw)).c.n,.int .i64 (O8.plus (⟨⟨x0,x1,x2⟩,⟨x3,x4,x5⟩,x6,x7,⟨x8,x9⟩,rB,⟨rE,rF⟩,rA,⟨rv,rD⟩⟩:Sw) (⟨⟨y0,y1,y2⟩,⟨y3,y4,y5⟩,y6,y7,⟨y8,y9⟩,sP,⟨sU,sV⟩,sT,⟨sS,sW⟩⟩:Sw)).c.s,.int .i64 (O8.plus (⟨⟨x0,x1,x2⟩,⟨x3,x4,x5⟩,x6,x7,⟨x8,x9⟩,rB,⟨rE,rF⟩,rA,⟨rv,rD⟩⟩:Sw) (⟨⟨y0,y1,y2⟩,⟨y3,y4,y5⟩,y6,y7,⟨y8,y9⟩,sP,⟨sU,sV⟩,sT,⟨sS,sW⟩⟩:Sw)).c.l,.int .i64 (O8.plus (⟨⟨x0,x1,x2⟩,⟨x3,x4,x5⟩,x6,x7,⟨x8,x9⟩,rB,⟨rE,rF⟩,rA,⟨rv,rD⟩⟩:Sw) (⟨⟨y0,y1,y2⟩,⟨y3,y4,y5⟩,y6,y7,⟨y8,y9⟩,sP,⟨sU,sV⟩,sT,⟨sS,sW⟩⟩:Sw)).w.n,.int .i64 (O8.plus (⟨⟨x0,x1,x2⟩,⟨x3,x4,x5⟩,x6,x7,⟨x8,x9⟩,rB,⟨rE,rF⟩,rA,⟨rv,rD⟩⟩:Sw) (⟨⟨y0,y1,y2⟩,⟨y3,y4,y5⟩,y6,y7,⟨y8,y9⟩,sP,⟨sU,sV⟩,sT,⟨sS,sW⟩⟩:Sw)).w.s,.int .i64 (O8.plus (⟨⟨x0,x1,x2⟩,⟨x3,x4,x5⟩,x6,x7,⟨x8,x9⟩,rB,⟨rE,rF⟩,rA,⟨rv,rD⟩⟩:Sw) (⟨⟨y0,y1,y2⟩,⟨y3,y4,y5⟩,y6,y7,⟨y8,y9⟩,sP,⟨sU,sV⟩,sT,⟨sS,sW⟩⟩:Sw)).w.l,.int .i64 (O8.plus (⟨⟨x0,x1,x2⟩,⟨x3,x4,x5⟩,x6,x7,⟨x8,x9⟩,rB,⟨rE,rF⟩,rA,⟨rv,rD⟩⟩:Sw) (⟨⟨y0,y1,y2⟩,⟨y3,y4,y5⟩,y6,y7,⟨y8,y9⟩,sP,⟨sU,sV⟩,sT,⟨sS,sW⟩⟩:Sw)).d,.int .i64 (O8.plus (⟨⟨x0,x1,x2⟩,⟨x3,x4,x5⟩,x6,x7,⟨x8,x9⟩,rB,⟨rE,rF⟩,rA,⟨rv,rD⟩⟩:Sw) (⟨⟨y0,y1,y2⟩,⟨y3,y4,y5⟩,y6,y7,⟨y8,y9⟩,sP,⟨sU,sV⟩,sT,⟨sS,sW⟩⟩:Sw)).f,.int .i64 (O8.plus (⟨⟨x0,x1,x2⟩,⟨x3,x4,x5⟩,x6,x7,⟨x8,x9⟩,rB,⟨rE,rF⟩,rA,⟨rv,rD⟩⟩:Sw) (⟨⟨y0,y1,y2⟩,⟨y3,y4,y5⟩,y6,y7,⟨y8,y9⟩,sP,⟨sU,sV⟩,sT,⟨sS,sW⟩⟩:Sw)).m.k,.int .i64 (O8.plus (⟨⟨x0,x1,x2⟩,⟨x3,x4,x5⟩,x6,x7,⟨x8,x9⟩,rB,⟨rE,rF⟩,rA,⟨rv,rD⟩⟩:Sw) (⟨⟨y0,y1,y2⟩,⟨y3,y4,y5⟩,y6,y7,⟨y8,y9⟩,sP,⟨sU,sV⟩,sT,⟨sS,sW⟩⟩:Sw)).m.i,.bool (O8.plus (⟨⟨x0,x1,x2⟩,⟨x3,x4,x5⟩,x6,x7,⟨x8,x9⟩,rB,⟨rE,rF⟩,rA,⟨rv,rD⟩⟩:Sw) (⟨⟨y0,y1,y2⟩,⟨y3,y4,y5⟩,y6,y7,⟨y8,y9⟩,sP,⟨sU,sV⟩,sT,⟨sS,sW⟩⟩:Sw)).gf,.int .i64 (O8.plus (⟨⟨x0,x1,x2⟩,⟨x3,x4,x5⟩,x6,x7,⟨x8,x9⟩,rB,⟨rE,rF⟩,rA,⟨rv,rD⟩⟩:Sw) (⟨⟨y0,y1,y2⟩,⟨y3,y4,y5⟩,y6,y7,⟨y8,y9⟩,sP,⟨sU,sV⟩,sT,⟨sS,sW⟩⟩:Sw)).g.k,.int .i64 (O8.plus (⟨⟨x0,x1,x2⟩,⟨x3,x4,x5⟩,x6,x7,⟨x8,x9⟩,rB,⟨rE,rF⟩,rA,⟨rv,rD⟩⟩:Sw) (⟨⟨y0,y1,y2⟩,⟨y3,y4,y5⟩,y6,y7,⟨y8,y9⟩,sP,⟨sU,sV⟩,sT,⟨sS,sW⟩⟩:Sw)).g.i,.bool (O8.plus (⟨⟨x0,x1,x2⟩,⟨x3,x4,x5⟩,x6,x7,⟨x8,x9⟩,rB,⟨rE,rF⟩,rA,⟨rv,rD⟩⟩:Sw) (⟨⟨y0,y1,y2⟩,⟨y3,y4,y5⟩,y6,y7,⟨y8,y9⟩,sP,⟨sU,sV⟩,sT,⟨sS,sW⟩⟩:Sw)).lf,.int .i64 (O8.plus (⟨⟨x0,x1,x2⟩,⟨x3,x4,x5⟩,x6,x7,⟨x8,x9⟩,rB,⟨rE,rF⟩,rA,⟨rv,rD⟩⟩:Sw) (⟨⟨y0,y1,y2⟩,⟨y3,y4,y5⟩,y6,y7,⟨y8,y9⟩,sP,⟨sU,sV⟩,sT,⟨sS,sW⟩⟩:Sw)).l.k,.int .i64 (O8.plus (⟨⟨x0,x1,x2⟩,⟨x3,x4,x5⟩,x6,x7,⟨x8,x9⟩,rB,⟨rE,rF⟩,rA,⟨rv,rD⟩⟩:Sw) (⟨⟨y0,y1,y2⟩,⟨y3,y4,y5⟩,y6,y7,⟨y8,y9⟩,sP,⟨sU,sV⟩,sT,⟨sS,sW⟩⟩:Sw)).l.i]⟩,aj,hh,[],[]⟩
 |_,_=>aj
theorem aek {R:Type} {D:fJ R}:b9 D Tryz.prog 229 (a9 TT):=by
 refine fu Tryz.f229 fun args hh x hx=>?_
 unfold TT at hx;split at hx
 ·rename_i x0 x1 x2 x3 x4 x5 x6 x7 x8 x9 rB rE rF rA rv rD y0 y1 y2 y3 y4 y5 y6 y7 y8 y9 sP sU sV sT sS sW;cases hx;refine q4 fun _ hv=>?_
  generalize hG:cj (R:=R) _ _=G;refine oh (T:=TPs) akQ mixed 200 (q:=let Z8:=bm ar;let Z1:=(Qi (iP x0 x1 x2) (iP y0 y1 y2));let Z2:=(Qi (iP x3 x4 x5) (iP y3 y4 y5));let Z3:=(Eo (Sw.mk (iP x0 x1 x2) (iP x3 x4 x5) x6 x7 (It.mk x8 x9) rB (It.mk rE rF) rA (It.mk rv rD)) (Sw.mk (iP y0 y1 y2) (iP y3 y4 y5) y6 y7 (It.mk y8 y9) sP (It.mk sU sV) sT (It.mk sS sW)));let Z4:=(ax (vj (1:Int) rB (It.mk rE rF) sP (It.mk sU sV)));let Z5:=(av (vj (1:Int) rB (It.mk rE rF) sP (It.mk sU sV)));let Z6:=(ax (vj (-1:Int) rA (It.mk rv rD) sT (It.mk sS sW)));let Z7:=(av (vj (-1:Int) rA (It.mk rv rD) sT (It.mk sS sW)));Vc True/\Vc True/\Vc True/\Vc True/\Vc True/\Vc True/\Vc True/\aX (G (bz (aJ [Z8 (pt Z1),Z8 (pv Z1),Z8 (pw Z1),Z8 (pt Z2),Z8 (pv Z2),Z8 (pw Z2),Z8 (ck ar (x6+y6)),Z8 (ck ar (x7+y7)),Z8 (It.k Z3),Z8 (It.i Z3),.bool Z4,Z8 (It.k Z5),Z8 (It.i Z5),.bool Z6,Z8 (It.k Z7),Z8 (It.i Z7)])) [aa (dd (53,[Z8 x0,Z8 x1,Z8 x2,Z8 x3,Z8 x4,Z8 x5,Z8 x6,Z8 x7,Z8 x8,Z8 x9,.bool rB,Z8 rE,Z8 rF,.bool rA,Z8 rv,Z8 rD])),aa (dd (53,[Z8 y0,Z8 y1,Z8 y2,Z8 y3,Z8 y4,Z8 y5,Z8 y6,Z8 y7,Z8 y8,Z8 y9,.bool sP,Z8 sU,Z8 sV,.bool sT,Z8 sS,Z8 sW])),aa (dd (53,[Z8 (pt Z1),Z8 (pv Z1),Z8 (pw Z1),Z8 (pt Z2),Z8 (pv Z2),Z8 (pw Z2),Z8 (ck ar (x6+y6)),Z8 (ck ar (x7+y7)),Z8 (It.k Z3),Z8 (It.i Z3),.bool Z4,Z8 (It.k Z5),Z8 (It.i Z5),.bool Z6,Z8 (It.k Z7),Z8 (It.i Z7)]))])) ?_ (by kernel_rfl)
  intro Z8 Z1 Z2 Z3 Z4 Z5 Z6 Z7;subst Z7 Z6 Z5 Z4 Z3 Z2 Z1 Z8;subst hG
  repeat' (first|apply cX|apply Vc.mk|apply fits.mk|intro h|apply aX.mk)
  all_goals (try simp only[sB] at *)
  all_goals first|contradiction|omega|exact jv ‹_›|exact jw ‹_›|exact ju ‹_›|exact⟨rfl,by omega⟩|exact rfl|(simp[*,-au];done)|skip
  exact⟨[],rfl,rfl,trivial,rfl,rfl,rfl,rfl⟩
 ·cases hx
end Wv
namespace G8
open Rx
set_option maxRecDepth 100000
abbrev dD (b:Nat) (i g:Int):Option (SB Rs):=aa (.inl (110,[.pointer (aa ⟨b,0,aj⟩),.int .i64 i,.int .i64 g]))
abbrev oP (m:Pl):Option (SB Rs):=aa (.inr (.inr (.inr (.da m))))
def T' {R:Type}:eJ R:=[(223,bJ zN 2 (a9 Wv.ZV))]
theorem RA {R:Type} {D:fJ R}:cN D Tryz.prog (T':eJ R):=⟨aU _ _ Wv.agG,trivial⟩
def OY {R:Type}:eJ R:=[(1000000000,lP),(229,bJ zN 2 (a9 Wv.TT))]
theorem M4 {R:Type} {D:fJ R}:cN D Tryz.prog (OY:eJ R):=⟨ix,aU _ _ Wv.aek,trivial⟩
def Ag {R:Type}:Prim R:=fun args hh=>match args,hh with
 |[.agg ⟨kE⟩],[]=>aa ⟨kE=du (fR kE)/\(True),.agg ⟨bV (nK Wv.O8 (fR kE))⟩,aj,hh,[],[]⟩
 |_,_=>aj
theorem yy {R:Type} {D:fJ R}:b9 D Tryz.prog 98 (a9 Ag):=by
 refine fu Tryz.f98 fun args hh x hx=>?_
 unfold Ag at hx;split at hx
 ·rename_i kE;cases hx;refine q4 fun _ hv=>?_
  obtain⟨jT,hv⟩:=hv;generalize fR kE=ke at *;subst jT
  generalize hG:cj (R:=R) _ _=G;refine cL (T:=T') RA mixed 200 ?_;refine bK (q:=Vc True/\Vc True/\aX (G (bz (aJ (bV (my 1 (IZ Wv.O8 ke))))) [aa (.inl (49,(du ke))),aa (.inl (134,(bV (my 1 (IZ Wv.O8 ke)))))])) ?_ (by kernel_rfl)
  subst hG
  repeat' (first|apply cX|apply Vc.mk|apply fits.mk|intro h|apply aX.mk)
  all_goals (try simp only[sB] at *)
  all_goals first|contradiction|omega|exact jv ‹_›|exact jw ‹_›|exact ju ‹_›|exact⟨rfl,by omega⟩|exact rfl|(simp[*,-au];done)|skip
  exact⟨[],rfl,rfl,trivial,rfl,rfl,rfl,rfl⟩
 ·cases hx
def ed {R:Type}:Prim R:=fun args hh=>match args,hh with
 |[.agg ⟨pP⟩,.agg ⟨qP⟩],[]=>aa ⟨pP=bV (o_ pP)/\qP=bV (o_ qP)/\(True),.agg ⟨bV (eD Wv.O8 (o_ pP) (o_ qP))⟩,aj,hh,[],[]⟩
 |_,_=>aj
theorem uy {R:Type} {D:fJ R}:b9 D Tryz.prog 148 (a9 ed):=by
 refine fu Tryz.f148 fun args hh x hx=>?_
 unfold ed at hx;split at hx
 ·rename_i pP qP;cases hx;refine q4 fun _ hv=>?_
  obtain⟨jT,sh,hv⟩:=hv;generalize o_ pP=pp at *;subst jT;generalize o_ qP=qp at *;subst sh
  generalize hG:cj (R:=R) _ _=G;refine cL (T:=OY) M4 mixed 200 ?_;refine bK (q:=let Z1:=(bV (my (ck ar (bM pp+bM qp)) (Gv.iO.plus Wv.O8 (bG pp) (bG qp))));((bM pp==(0:Int))=ao->aX (G (bz (aJ (bV qp))) [aa (.inl (134,(bV pp))),aa (.inl (134,(bV qp))),aa (.inl (134,(bV qp)))]))/\((bM pp==(0:Int))=an->((bM qp==(0:Int))=ao->aX (G (bz (aJ (bV pp))) [aa (.inl (134,(bV pp))),aa (.inl (134,(bV qp))),aa (.inl (134,(bV pp)))]))/\((bM qp==(0:Int))=an->Vc True/\Vc True/\Vc True/\aX (G (bz (aJ Z1)) [aa (.inl (134,(bV pp))),aa (.inl (134,(bV qp))),aa (.inl (134,Z1))])))) ?_ (by kernel_rfl)
  intro Z1;subst Z1;have done:∀ (p:HJ Wv.Sw) (hp:Hp R),p=eD Wv.O8 pp qp->G (.agg ⟨bV p⟩) hp:=by
   intro p hp e;subst e;subst hG;exact⟨⟨[],rfl,rfl,trivial,rfl,rfl,rfl,rfl⟩⟩
  clear hG
  repeat' (first|apply cX|apply Vc.mk|apply fits.mk|intro h|apply aX.mk)
  all_goals (try simp only[sB] at *)
  all_goals first|contradiction|omega|exact jv ‹_›|exact jw ‹_›|exact ju ‹_›|exact⟨rfl,by omega⟩|exact rfl|(simp[*,-au];done)|skip
  ·have h:pp.n=0:=by assumption
   exact done qp _ (by rw[eD,if_pos h])
  ·have h:pp.n≠0:=by assumption
   have h2:qp.n=0:=by assumption
   exact done pp _ (by rw[eD,if_neg h,if_pos h2])
  ·have h:pp.n≠0:=by assumption
   have h2:qp.n≠0:=by assumption
   exact done ⟨Gv.W (pp.n+qp.n),Wv.O8.plus pp.sum qp.sum⟩ _ (by rw[eD,if_neg h,if_neg h2])
 ·cases hx
def Ot:eJ Rs:=[(121,bJ zN 2 (a9 NN))]
theorem MT:cN D Tryz.prog Ot:=⟨aU _ _ V3,trivial⟩
def j9:Prim Rs:=fun args hh=>match args,hh with
 |[.pointer (aa ⟨0,0,aj⟩),.agg ⟨[.int .i64 ri,.int .i64 rg]⟩],[aa (.inl (110,[.pointer (aa ⟨1,0,aj⟩),.int .i64 ti,.int .i64 tg])),aa (.inr (.inr (.inr (.da m))))]=>aa ⟨PP m,.agg ⟨bj (br Wv.O8 m ⟨ri,rg⟩)⟩,aj,[aa (.inl (110,[.pointer (aa ⟨1,0,aj⟩),.int .i64 ti,.int .i64 tg])),aa (.inr (.inr (.inr (.da (aK m ⟨ri,rg⟩)))))],[],[(0,0)]⟩
 |_,_=>aj
theorem look_ok:b9 D Tryz.prog 80 (a9 j9):=by
 refine fu Tryz.f80 fun args hh x hx=>?_
 unfold j9 at hx;split at hx
 ·rename_i ri rg ti tg m;cases hx;refine q4 fun _ hv=>?_
  generalize hG:cj (R:=Rs) _ _=G;refine cL (T:=Ot) MT mixed 200 ?_;refine bK (q:=Vc (PP m)/\aX (G (bz (aJ (bj (jQ zd m (aO ri rg))))) [dD 1 ti tg,oP (aK m (aO ri rg)),aa (.inl (108,[.int ar ri,.int ar rg])),aa (.inl (136,(bj (jQ zd m (aO ri rg))))),aa (.inl (136,(bj (jQ zd m (aO ri rg)))))])) ?_ (by kernel_rfl)
  subst hG;exact⟨⟨hv⟩,⟨⟨[0,1],rfl,rfl,⟨.inl rfl,rfl,trivial⟩,rfl,rfl,rfl,rfl⟩⟩⟩
 ·cases hx
def Ve:eJ Rs:=[(1000000000,lP),(98,bJ zN 2 (a9 Ag)),(148,bJ zN 2 (a9 ed)),(173,bJ zN 2 (a9 MB))]
theorem Q5:cN D Tryz.prog Ve:=⟨ix,aU _ _ yy,aU _ _ uy,aU _ _ VZ,trivial⟩
def AO:Prim Rs:=fun args hh=>match args,hh with
 |[.pointer (aa ⟨0,0,aj⟩),.agg ⟨[.int .i64 ri,.int .i64 rg]⟩,.agg ⟨xN⟩,.agg ⟨yN⟩,.agg ⟨zN⟩],[aa (.inl (110,[.pointer (aa ⟨1,0,aj⟩),.int .i64 ti,.int .i64 tg])),aa (.inr (.inr (.inr (.da m))))]=>aa ⟨xN=bj (fU xN)/\yN=bj (fU yN)/\zN=bj (fU zN)/\(PP m),.agg ⟨[.int .i64 ri,.int .i64 rg]⟩,aj,[aa (.inl (110,[.pointer (aa ⟨1,0,aj⟩),.int .i64 ti,.int .i64 tg])),aa (.inr (.inr (.inr (.da (Gv.sn Wv.O8 m ⟨ri,rg⟩ (fU xN) (fU yN) (fU zN))))))],[],[(0,0)]⟩
 |_,_=>aj
theorem xI:b9 D Tryz.prog 155 (a9 AO):=by
 refine fu Tryz.f155 fun args hh x hx=>?_
 unfold AO at hx;split at hx
 ·rename_i ri rg xN yN zN ti tg m;cases hx;refine q4 fun _ hv=>?_
  obtain⟨jT,sh,FP,hv⟩:=hv;generalize fU xN=xn at *;subst jT;generalize fU yN=yn at *;subst sh;generalize fU zN=zn at *;subst FP
  generalize hG:cj (R:=Rs) _ _=G;refine cL (T:=Ve) Q5 mixed 200 ?_;refine bK (q:=let Z3:=bm ar;let Z1:=(eD Wv.O8 (bt yn) (nK Wv.O8 (bY xn)));let Z2:=(fy (bY xn) (Gv.Node.l xn) (Gv.Node.r xn) (eD Wv.O8 Z1 (bt zn)) (ck ar ((1:Int)+if cu zn>cu yn then cu zn else cu yn)));Vc True/\Vc ((du (bY xn))=du (bY xn)/\True)/\Vc ((bV (bt yn))=bV (bt yn)/\(bV (nK Wv.O8 (bY xn)))=bV (nK Wv.O8 (bY xn))/\True)/\Vc ((bV Z1)=bV Z1/\(bV (bt zn))=bV (bt zn)/\True)/\Vc ((bj Z2)=bj Z2/\PP m)/\aX (G (bz (aJ [Z3 ri,Z3 rg])) [dD 1 ti tg,oP (th m (aO ri rg) Z2),aa (.inl (108,[Z3 ri,Z3 rg])),aa (.inl (136,(bj Z2))),aa (.inl (136,(bj yn))),aa (.inl (136,(bj zn))),aa (.inl (108,[Z3 ri,Z3 rg]))])) ?_ (by kernel_rfl)
  intro Z3 Z1 Z2;subst Z2 Z1 Z3;subst hG
  repeat' (first|apply cX|apply Vc.mk|apply fits.mk|intro h|apply aX.mk)
  all_goals (try simp only[sB] at *)
  all_goals first|contradiction|omega|exact jv ‹_›|exact jw ‹_›|exact ju ‹_›|exact⟨rfl,by omega⟩|exact rfl|(simp[*,-au];done)|skip
  all_goals first|assumption|exact⟨[0,1],rfl,rfl,⟨.inl rfl,rfl,trivial⟩,rfl,rfl,rfl,rfl⟩
 ·cases hx
end G8
end Go.Proofs.YtjlomlgdgpoepaaGreat
